/- Contract of the document's own ReadBytes: it tells what 'rbS', 'rbP', 'rbE' tell. -/
import Derived.Test.YtblgagjifaeadaaA9
import Derived.Test.YtblgagjifaeadaaC1
import Derived.Test.YtblgagjifaeadaaC4
namespace Go.Proofs.Ytblgagjifaeadaa
open Go.RowKit

set_option maxRecDepth 100000 in
set_option maxHeartbeats 1000000 in
theorem refReadBytes_no (a : Option Addr) (len cap : Nat) (xs : List Nat) (p most : Int) (w : World) (h : BS w a len cap xs) (he : rbE xs p most ≠ 0) :
    Calls Try.prog 16 #[.slice a len cap, .int .i64 p, .int .i64 most] w fun e w' =>
      e = .returned (.tuple #[.slice none 0 0, .int .i64 0, .int .i64 (rbE xs p most)]) ∧ w' = w := by
  have hl := h.hlen
  have hr := h.hroom
  have hc := refReadUint_any a len cap xs p w h
  have hP := @ruP_le xs p
  have HE : Hid (rbE xs p most = if ruE xs p ≠ 0 then ruE xs p else if most < 0 then 1 else if most < ruN xs p then 3 else if xs.length < ruP xs p + ruN xs p then 10 else 0) := rfl
  generalize ruE xs p = E at *
  generalize ruN xs p = N at *
  generalize ruP xs p = P at *
  generalize rbE xs p most = R at *
  have HC : Hid (Calls Try.prog 11 #[.slice a len cap, .int .i64 p] w fun e w' => e = .returned (.tuple #[.int .i64 N, .int .i64 P, .int .i64 E]) ∧ w' = w) := hc
  clear hc h
  by_cases h1 : E = 0
  · have hP := hP h1
    have t1 : ((E : Int) != 0) = false := by simp; omega
    have HE2 := HE.out
    rw [if_neg (by omega)] at HE2
    have H1 : Hid (E = 0) := h1
    clear h1
    by_cases h2 : most < 0
    · rw [if_pos h2] at HE2
      have HE3 : Hid (R = 1) := HE2
      clear HE2 HE
      go_enter Try.func16, Try.ntmps16
      go_wp2_with (go_at_call 11; refine HC.out.mono ?_; rintro e w' ⟨rfl, rfl⟩)
      go_ret3
      exact ⟨by rw [HE3.out]; rfl, rfl⟩
    rw [if_neg h2] at HE2
    by_cases h3 : most < N
    · rw [if_pos h3] at HE2
      have HE3 : Hid (R = 3) := HE2
      clear HE2 HE
      go_enter Try.func16, Try.ntmps16
      go_wp2_with (go_at_call 11; refine HC.out.mono ?_; rintro e w' ⟨rfl, rfl⟩)
      go_ret3
      exact ⟨by rw [HE3.out]; rfl, rfl⟩
    rw [if_neg h3] at HE2
    by_cases h4 : xs.length < P + N
    · rw [if_pos h4] at HE2
      have HE3 : Hid (R = 10) := HE2
      have h4' : (len : Int) - (P : Int) < (N : Int) := by omega
      clear HE2 HE
      go_enter Try.func16, Try.ntmps16
      go_wp2_with (go_at_call 11; refine HC.out.mono ?_; rintro e w' ⟨rfl, rfl⟩)
      go_ret3
      exact ⟨by rw [HE3.out]; rfl, rfl⟩
    rw [if_neg h4] at HE2
    exact absurd HE2 he
  · have t1 : ((E : Int) != 0) = true := by simp; omega
    have HE2 := HE.out
    rw [if_pos h1] at HE2
    have HE3 : Hid (R = E) := HE2
    clear HE2 HE hP h1
    go_enter Try.func16, Try.ntmps16
    go_wp2_with (go_at_call 11; refine HC.out.mono ?_; rintro e w' ⟨rfl, rfl⟩)
    go_ret3
    exact ⟨by rw [HE3.out]; rfl, rfl⟩


set_option maxRecDepth 100000 in
set_option maxHeartbeats 1000000 in
theorem refReadBytes_ok (a : Option Addr) (len cap : Nat) (xs : List Nat) (p most : Int) (w : World) (h : BS w a len cap xs) (he : rbE xs p most = 0) :
    Calls Try.prog 16 #[.slice a len cap, .int .i64 p, .int .i64 most] w fun e w' =>
      ∃ a' n c, e = .returned (.tuple #[.slice a' n c, .int .i64 (rbP xs p most), .int .i64 0]) ∧ BS w' a' n c (rbS xs p most) ∧ Below w.heap.size w w' := by
  obtain ⟨i0, hi, hz0, hz1, hz2⟩ := info_parts info5
  have hl := h.hlen
  have hr := h.hroom
  have hcp := h.hcap
  have hmx := h.hmax
  have hc := refReadUint_any a len cap xs p w h
  have hP := @ruP_le xs p
  have e1 : rbS xs p most = (xs.drop (ruP xs p)).take (ruN xs p) := by unfold rbS; rw [if_pos he]
  have e2 : rbP xs p most = ruP xs p + ruN xs p := by unfold rbP; rw [if_pos he]
  rw [e1, e2]
  clear e1 e2
  unfold rbE at he
  generalize ruE xs p = E at *
  generalize ruN xs p = N at *
  generalize ruP xs p = P at *
  have h1 : E = 0 := by
    rcases Nat.eq_zero_or_pos E with z | z
    · exact z
    · rw [if_pos (by omega)] at he; omega
  rw [if_neg (by omega)] at he
  have h2 : ¬ most < 0 := fun h => by rw [if_pos h] at he; omega
  rw [if_neg h2] at he
  have h3 : ¬ most < N := fun h => by rw [if_pos h] at he; omega
  rw [if_neg h3] at he
  have h4 : ¬ xs.length < P + N := fun h => by rw [if_pos h] at he; omega
  have hP := hP h1
  have t1 : ((E : Int) != 0) = false := by simp; omega
  have H1 : Hid (E = 0) := h1
  have h4' : ¬ (len : Int) - (P : Int) < (N : Int) := by omega
  have hlenpos : 0 < len := by omega
  obtain ⟨b, o, rfl, hbl, hcell⟩ := h.place hlenpos
  have HC : Hid (Calls Try.prog 11 #[.slice (some ⟨b, o, none⟩) len cap, .int .i64 p] w fun e w' => e = .returned (.tuple #[.int .i64 N, .int .i64 P, .int .i64 E]) ∧ w' = w) := hc
  have HL : Hid (xs.length = len) := hl
  have hPl : P + N ≤ len := by omega
  have HBS := hide_bs h
  have HCELL : Hid (∀ i, i < len → w.cell? ⟨b, o + i, none⟩ = some (.int .u8 (xs.getD i 0 : Nat))) := hcell
  clear hc h he h1 hl h4 hcell
  have hadd : Hid ((P : Int) + (N : Int) = ((P + N : Nat) : Int)) := by show _ = _; omega
  have HY : Hid (((xs.drop P).take N).length = N) := by
    show _ = _
    rw [List.length_take, List.length_drop, HL.out]; omega
  have HYB : Hid (∀ n ∈ (xs.drop P).take N, n < 256) := fun n hn => HBS.out.hbyte n (List.mem_of_mem_drop (List.mem_of_mem_take hn))
  have HYC : Hid (∀ j, j < N → ((xs.drop P).take N).getD j 0 = xs.getD (P + j) 0) := fun j hj => by
    simp only [List.getD_eq_getElem?_getD, List.getElem?_take_of_lt hj, List.getElem?_drop]
  generalize (xs.drop P).take N = ys at *
  by_cases hN : N = 0
  · subst hN
    have hys : ys = [] := List.eq_nil_of_length_eq_zero HY.out
    subst hys
    go_enter Try.func16, Try.ntmps16
    go_wp2_with fail
    refine HC.out.mono ?_
    rintro e w' ⟨rfl, hw⟩
    have hw := hw.symm
    subst hw
    by_cases hPc : P = cap
    · have q1 : cap ≤ P := by omega
      clear hPc
      go_wp2
      go_ret3
      exact ⟨none, 0, 0, rfl, BS.none _ _ _ (by omega) (fun _ => rfl), Below.refl _ _⟩
    · have hPc' : ¬ cap = P := fun h => hPc h.symm
      go_wp2
      go_ret3
      exact ⟨none, 0, 0, rfl, BS.none _ _ _ (by omega) (fun _ => rfl), Below.refl _ _⟩
  · have hN' : 0 < N := by omega
    have hnews : Hid (∀ j v, (cellsOf ys)[j]? = some v → w.cell? ((⟨b, o + P, none⟩ : Addr).add j) = some v) := by
      intro j v hv
      have hj : j < ys.length := by
        rcases Nat.lt_or_ge j ys.length with hj | hj
        · exact hj
        · rw [List.getElem?_eq_none (by simpa [cellsOf_length] using hj)] at hv; simp at hv
      rw [cellsOf_get ys j hj, HYC.out j (by have := HY.out; omega)] at hv
      rw [← hv, add_plain, Nat.add_assoc]
      exact HCELL.out _ (by have := HY.out; omega)
    go_enter Try.func16, Try.ntmps16
    go_wp2_with fail
    refine HC.out.mono ?_
    rintro e w' ⟨rfl, hw⟩
    have hw := hw.symm
    subst hw
    go_wp2_with (at_builtin; refine wpList_append_lies _ rfl (.tmp 38) (.tmp 44) _ rfl w.heap.size 5 i0 (.int .u8 0) 1 1 Try.underlying22 hi hz0 hz1 hz2 rfl (by omega) _ 0 [] rfl (World.ownsRow_nil _ _ _ _) ⟨b, o + P, none⟩ (P + N - P) (cap - P) (cellsOf ys) rfl (by rw [cellsOf_length, HY.out]; omega) hnews.out (cellsOf_one ys) (by omega) (by unfold maxLen; omega) (by omega) (Nat.le_refl _) w.heap.size rfl ?_)
    intro g2 c2 w2 hown2 hgrow2 _ _
    have hown3 : w2.ownsRow w.heap.size 5 1 (.slice (some ⟨g2, 0, none⟩) N c2) N (cellsOf ys) := hown2
    have HB2 := hid_of (BS.ofOwns hown3 (by omega) HYB.out)
    have hb2 : Below w.heap.size w w2 := (Below.refl _ _).grown hgrow2 (Nat.le_refl _) (by simp [Value.ownBlock])
    clear hown2 hown3 hgrow2
    go_wp2
    go_ret3
    exact ⟨some ⟨g2, 0, none⟩, N, c2, by first | rfl | (rw [← hadd.out]; rfl), HB2.out, hb2⟩
end Go.Proofs.Ytblgagjifaeadaa
