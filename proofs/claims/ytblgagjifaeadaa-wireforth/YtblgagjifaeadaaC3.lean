/- Contract of headlandref1.Uint: the document's own bytes of a number are those of wire.Uint. -/
import Derived.Test.YtblgagjifaeadaaM4
import Derived.Deep.AppendLies
namespace Go.Proofs.Ytblgagjifaeadaa
open Go.RowKit

set_option maxRecDepth 100000 in
set_option maxHeartbeats 1000000 in
theorem refUint_neg (n : Int) (w : World) (h : n < 0) :
    Calls Try.prog 14 #[.int .i64 n] w fun e w' => e = .returned (.slice none 0 0) ∧ w' = w := by
  go_enter Try.func14, Try.ntmps14
  go_wp2
  go_ret
  exact ⟨rfl, rfl⟩

theorem pow_bound (n j : Nat) (h : n < 9223372036854775808) (hp : 0 < n / 128 ^ j) : j ≤ 8 := by
  rcases Nat.lt_or_ge 8 j with z | z
  · exfalso
    have hpw : 128 ^ 9 ≤ 128 ^ j := Nat.pow_le_pow_right (by decide) (by omega)
    rw [Nat.div_eq_of_lt (by omega)] at hp
    omega
  · exact z

set_option maxRecDepth 100000 in
set_option maxHeartbeats 1000000 in
theorem refUint_any (n : Nat) (w : World) (h : n < 9223372036854775808) :
    Calls Try.prog 14 #[.int .i64 n] w fun e w' =>
      ∃ g cap, e = .returned (.slice (some ⟨g, 0, none⟩) (grp n) cap) ∧ BS w' (some ⟨g, 0, none⟩) (grp n) cap (enc n) ∧ w'.ownsRow w.heap.size 5 1 (.slice (some ⟨g, 0, none⟩) (grp n) cap) (grp n) (cellsOf (enc n)) ∧ Below w.heap.size w w' := by
  obtain ⟨i0, hi, hz0, hz1, hz2⟩ := info_parts info5
  have h0 : ¬ (n : Int) < 0 := by omega
  go_enter Try.func14, Try.ntmps14
  go_wp2
  go_loopw [0, 3] (fun t v wr => ∃ j g cap : Nat, t = .int .i64 (n / 128 ^ (j + 1) : Nat) ∧ v = .slice (some ⟨g, 0, none⟩) (j + 1) cap ∧ (j = 0 ∨ 0 < n / 128 ^ j) ∧
      wr.ownsRow w.heap.size 5 1 (.slice (some ⟨g, 0, none⟩) (j + 1) cap) (j + 1) (cellsOf (rsf n j)) ∧ Below w.heap.size w wr) (fun t _ _ => (intOf t).toNat)
  case atStart =>
    refine ⟨0, w.heap.size, 1, by simp, rfl, Or.inl rfl, ?_, (Below.refl _ _).alloc (Nat.le_refl _) _⟩
    have := World.ownsRow_lit (base := w.heap.size) (e := 5) (size := 1) w #[.int .u8 ((n : Int) % 128)] 1 (Nat.le_refl _) (by unfold maxLen; omega) rfl
    simpa [rsf, cellsOf] using this
  case round =>
    obtain ⟨j, g, cap, rfl, rfl, hj, hown, hb⟩ := hrel
    have hj8 : j ≤ 8 := by
      rcases hj with z | z
      · omega
      · exact pow_bound n j h z
    have hle : n / 128 ^ (j + 1) ≤ n := Nat.div_le_self _ _
    have HN : Hid (n / 128 ^ (j + 1) / 128 = n / 128 ^ (j + 1 + 1)) := by
      show _ = _
      rw [Nat.div_div_eq_div_mul, ← Nat.pow_succ]
    have HRS : Hid (rsf n (j + 1) = (n / 128 ^ (j + 1) % 128 + 128) :: rsf n j) := rfl
    have HEND := hid_of (rsf_end n j h)
    have HJ := hid_of hj
    have HO := hid_of hown
    have hg := (hown.lt g rfl).2
    have hsz := hb.size
    clear hj hown
    generalize hmm : n / 128 ^ (j + 1) = m at *
    have HMM := hid_of hmm
    clear hmm
    by_cases hm : 0 < m
    · have hx : Hid ((m : Int) % 128 + 128 = ((m % 128 + 128 : Nat) : Int)) := by show _ = _; omega
      have hown1 := World.ownsRow_lit (base := w.heap.size) (e := 5) (size := 1) wr #[.int .u8 ((m : Int) % 128 + 128)] 1 hsz (by unfold maxLen; omega) rfl
      have hnews : Hid (∀ i u, (cellsOf (rsf n j))[i]? = some u → (wr.alloc (.cells #[.int .u8 ((m : Int) % 128 + 128)] 5)).cell? ((⟨g, 0, none⟩ : Addr).add i) = some u) := (HO.out.alloc _).cells rfl
      have hb1 := hb.alloc hsz (.cells #[.int .u8 ((m : Int) % 128 + 128)] 5)
      go_wp2_with (at_builtin; refine wpList_append_lies _ rfl (.tmp 20) (.tmp 21) _ rfl w.heap.size 5 i0 (.int .u8 0) 1 1 Try.underlying22 hi hz0 hz1 hz2 rfl (by omega) _ 1 _ rfl hown1 ⟨g, 0, none⟩ (j + 1) cap (cellsOf (rsf n j)) rfl (by rw [cellsOf_length, rsf_length]; omega) hnews.out (cellsOf_one _) (by omega) (by unfold maxLen; omega) (by omega) (by simp; omega) (wr.heap.size + 1) (by simp) ?_)
      intro g2 c2 w2 hown2 hgrow2 _ _
      have hb2 : Below w.heap.size w w2 := hb1.grown hgrow2 (by simp; omega) (by simp [Value.ownBlock]; omega)
      have HO2 : Hid (w2.ownsRow w.heap.size 5 1 (.slice (some ⟨g2, 0, none⟩) (j + 1 + 1) c2) (j + 1 + 1) (cellsOf (rsf n (j + 1)))) := by
        show World.ownsRow _ _ _ _ _ _ _
        rw [HRS.out]
        have e : cellsOf ((m % 128 + 128) :: rsf n j) = [Value.int .u8 ((m : Int) % 128 + 128)] ++ cellsOf (rsf n j) := by
          simp [cellsOf]
        rw [e, show j + 1 + 1 = 1 + (j + 1) by omega]
        exact hown2
      clear hown2 hgrow2 hown1 hb1
      go_wp2
      go_roundw
      case rel => exact ⟨j + 1, g2, c2, by rw [← HN.out]; simp, by go_num, Or.inr (by rw [HMM.out]; exact hm), HO2.out, hb2⟩
      case measure => simp [intOf]; omega
    · have hm0 : ¬ 0 < (m : Int) := by omega
      have HG : Hid (j + 1 = grp n) := by
        have h1 := HEND.out (by omega) HJ.out
        have h2 := (grp_spec n h).1
        show _ = _
        omega
      have HE : Hid (rsf n j = enc n) := by
        have e := rsf_enc n
        rw [← HG.out, Nat.add_sub_cancel] at e
        exact e
      go_wp2
      go_ret
      refine ⟨g, cap, by rw [← HG.out]; rfl, ?_, ?_, hb⟩
      · rw [← HE.out, ← HG.out]
        exact BS.ofOwns HO.out (by omega) (rsf_byte n j)
      · rw [← HE.out, ← HG.out]
        exact HO.out
end Go.Proofs.Ytblgagjifaeadaa
