/- Contract of the document's own Encode: runes as a text. -/
import Derived.Test.YtcophbkgighepaaB1
import Derived.Test.YtcophbkgighepaaG
set_option linter.unusedVariables false
namespace Go.Proofs.Ytcophbkgighepaa
open Go.RowKit

/-- A row of runes that may be, in a block of the world's. -/
structure RR (w : World) (v : Value) (rs : List Nat) : Prop where
  ok : ∀ r ∈ rs, vr r
  form : (v = .slice none 0 0 ∧ rs = []) ∨ ∃ g cap, v = .slice (some ⟨g, 0, none⟩) rs.length cap ∧ rs.length ≤ cap ∧ cap ≤ maxLen ∧ g < w.heap.size ∧ ∀ i, i < rs.length → w.cell? ⟨g, i, none⟩ = some (.int .i32 (rs.getD i 0 : Nat))

def n8 (l : List UInt8) : List Nat := l.map UInt8.toNat

theorem i32_and_nat (a b : Nat) (ha : a < 2147483648) (hb : b < 2147483648) : bits .and .i32 (a : Int) (b : Int) = ((a &&& b : Nat) : Int) := by
  have hx : a &&& b < 2 ^ 31 := Nat.and_lt_two_pow _ (by omega)
  show IntKind.i32.wrap ((BitVec.ofInt 32 (a : Int) &&& BitVec.ofInt 32 (b : Int)).toNat : Int) = _
  rw [BitVec.toNat_and, ofInt_u32 a (by omega), ofInt_u32 b (by omega)]
  generalize a &&& b = z at hx ⊢
  simp only [IntKind.wrap, IntKind.bits, IntKind.signed]
  simp
  omega
theorem and63 (r : Nat) (h : r < 2147483648) : bits .and .i32 (r : Int) 63 = (r : Int) % 64 := by
  have := i32_and_nat r 63 h (by decide)
  have e : r &&& 63 = r % 64 := Nat.and_two_pow_sub_one_eq_mod r 6
  rw [e] at this
  simpa using this
theorem and63d (r d : Nat) (h : r < 2147483648) : bits .and .i32 ((r : Int) / (d : Int)) 63 = (r : Int) / (d : Int) % 64 := by
  have := and63 (r / d) (Nat.lt_of_le_of_lt (Nat.div_le_self _ _) h)
  simpa using this

theorem newsN2 (wr : World) (x y : Int) (a b : Nat) (t : TypeId) (hx : x = a) (hy : y = b) : ∀ j u, (cellsOf [a, b])[j]? = some u → (wr.alloc (.cells #[.int .u8 x, .int .u8 y] t)).cell? ((⟨wr.heap.size, 0, none⟩ : Addr).add j) = some u := by
  subst hx hy
  intro j u hj
  match j, hj with
  | 0, hj => simp [cellsOf] at hj; subst hj; simp [Addr.add]
  | 1, hj => simp [cellsOf] at hj; subst hj; simp [Addr.add]
theorem newsN3 (wr : World) (x y z : Int) (a b c : Nat) (t : TypeId) (hx : x = a) (hy : y = b) (hz : z = c) : ∀ j u, (cellsOf [a, b, c])[j]? = some u → (wr.alloc (.cells #[.int .u8 x, .int .u8 y, .int .u8 z] t)).cell? ((⟨wr.heap.size, 0, none⟩ : Addr).add j) = some u := by
  subst hx hy hz
  intro j u hj
  match j, hj with
  | 0, hj => simp [cellsOf] at hj; subst hj; simp [Addr.add]
  | 1, hj => simp [cellsOf] at hj; subst hj; simp [Addr.add]
  | 2, hj => simp [cellsOf] at hj; subst hj; simp [Addr.add]
theorem newsN4 (wr : World) (x y z q : Int) (a b c d : Nat) (t : TypeId) (hx : x = a) (hy : y = b) (hz : z = c) (hq : q = d) : ∀ j u, (cellsOf [a, b, c, d])[j]? = some u → (wr.alloc (.cells #[.int .u8 x, .int .u8 y, .int .u8 z, .int .u8 q] t)).cell? ((⟨wr.heap.size, 0, none⟩ : Addr).add j) = some u := by
  subst hx hy hz hq
  intro j u hj
  match j, hj with
  | 0, hj => simp [cellsOf] at hj; subst hj; simp [Addr.add]
  | 1, hj => simp [cellsOf] at hj; subst hj; simp [Addr.add]
  | 2, hj => simp [cellsOf] at hj; subst hj; simp [Addr.add]
  | 3, hj => simp [cellsOf] at hj; subst hj; simp [Addr.add]

theorem n8_append (a b : List UInt8) : n8 (a ++ b) = n8 a ++ n8 b := by simp [n8]
theorem encs_take {rs : List Nat} {k : Nat} (hk : k < rs.length) : n8 (encs (rs.take (k + 1))) = n8 (encs (rs.take k)) ++ n8 (enc (rs.getD k 0)) := by
  rw [← n8_append]
  congr 1
  have e : rs.take (k + 1) = rs.take k ++ [rs.getD k 0] := by rw [List.take_add_one]; simp [List.getD, hk]
  rw [e]
  simp [encs]
theorem n8_1 {r : Nat} (h : r < 128) : n8 (enc r) = [r] := by rw [enc1 (by omega)]; simp only [n8, List.map_cons, List.map_nil, tn (n := r) (by omega)]
theorem n8_2 {r : Nat} (h0 : ¬ r < 128) (h : r < 2048) : n8 (enc r) = [192 + r / 64, 128 + r % 64] := by
  rw [enc2 (by omega) (by omega)]; simp only [n8, List.map_cons, List.map_nil, tn (n := 192 + r / 64) (by omega), tn (n := 128 + r % 64) (by omega)]
theorem n8_3 {r : Nat} (h0 : ¬ r < 2048) (h : r < 65536) (hv : vr r) : n8 (enc r) = [224 + r / 4096, 128 + r / 64 % 64, 128 + r % 64] := by
  rw [enc3 (by omega) (by omega) hv]; simp only [n8, List.map_cons, List.map_nil, tn (n := 224 + r / 4096) (by omega), tn (n := 128 + r / 64 % 64) (by omega), tn (n := 128 + r % 64) (by omega)]
theorem n8_4 {r : Nat} (h0 : ¬ r < 65536) (h : r ≤ 1114111) : n8 (enc r) = [240 + r / 262144, 128 + r / 4096 % 64, 128 + r / 64 % 64, 128 + r % 64] := by
  rw [enc4 (by omega) (by omega)]; simp only [n8, List.map_cons, List.map_nil, tn (n := 240 + r / 262144) (by omega), tn (n := 128 + r / 4096 % 64) (by omega), tn (n := 128 + r / 64 % 64) (by omega), tn (n := 128 + r % 64) (by omega)]
theorem n8_len (rs : List Nat) (k : Nat) (h : rs.length ≤ 1048576) : (n8 (encs (rs.take k))).length + 4 ≤ 140737488355328 := by
  have : (n8 (encs (rs.take k))).length ≤ 4 * (rs.take k).length := by
    rw [n8, List.length_map]
    generalize rs.take k = l
    induction l with
    | nil => simp [encs]
    | cons r l ih =>
      have := enc_len r
      have e : (encs (r :: l)).length = (enc r).length + (encs l).length := by simp [encs]
      simp only [List.length_cons]
      omega
  rw [List.length_take] at this
  omega
theorem str_n8 (l : List UInt8) : str (n8 l) = ⟨l.toArray⟩ := by
  apply ByteArray.ext
  have e : ∀ l : List UInt8, List.map ((fun (n : Int) => UInt8.ofNat n.toNat) ∘ Int.ofNat ∘ UInt8.toNat) l = l := fun l => by
    induction l with
    | nil => rfl
    | cons a l ih => rw [List.map_cons, ih]; simp
  simp [str, strOfNums, n8, e]
theorem n8_lt (l : List UInt8) : ∀ n ∈ n8 l, n < 256 := by
  intro n hn
  simp only [n8, List.mem_map] at hn
  obtain ⟨a, _, rfl⟩ := hn
  exact a.toNat_lt
theorem txt_own {w : World} {B : Nat} {v : Value} {xs : List Nat} (h : w.ownsRow B 5 1 v xs.length (cellsOf xs)) (hr : xs.length ≤ 140737488355328) (hb : ∀ n ∈ xs, n < 256) : (convert 42 9 v).run Try.prog w = .ok (.string (str xs)) w := by
  rcases h.2 with ⟨rfl, h0⟩ | ⟨g, cap, cur, rfl, _⟩
  · have e : xs = [] := List.eq_nil_of_length_eq_zero h0
    subst e
    exact run_text (BS.none w none 0 (by omega) (fun _ => rfl))
  · exact run_text (BS.ofOwns h hr hb)

set_option maxRecDepth 100000 in
set_option maxHeartbeats 1000000 in
theorem encode_some (g cap : Nat) (rs : List Nat) (w : World) (hl : rs.length ≤ 1048576) (hc : rs.length ≤ cap) (hm : cap ≤ maxLen) (hg : g < w.heap.size) (hv : ∀ r ∈ rs, vr r) (hcell : ∀ i, i < rs.length → w.cell? ⟨g, i, none⟩ = some (.int .i32 (rs.getD i 0 : Nat))) :
    Calls Try.prog 78 #[.slice (some ⟨g, 0, none⟩) rs.length cap] w fun e w' => e = .returned (.string ⟨(encs rs).toArray⟩) ∧ Below w.heap.size w w' := by
  unfold maxLen at hm
  have HC := hid_of hcell
  have HV := hid_of hv
  clear hcell hv
  go_enter Try.func78, Try.ntmps78
  go_wp2
  go_loopw [3, 4] (fun b i wr => ∃ k : Nat, k ≤ rs.length ∧ i = .int .i64 k ∧ GR w.heap.size w (.slice none 0 0) wr b (n8 (encs (rs.take k)))) (fun _ i _ => rs.length - (intOf i).toNat)
  case atStart => exact ⟨0, by omega, rfl, GR.start (World.ownsRow_nil _ _ _ _) (Nat.le_refl _)⟩
  case round =>
    obtain ⟨k, hk, rfl, hG⟩ := hrel
    have HG := hG.hid
    clear hG
    by_cases hlt : k < rs.length
    · obtain ⟨r, HR⟩ : ∃ r, Hid (rs.getD k 0 = r) := ⟨_, rfl⟩
      have hcr := (HG.out.below.cell (p := ⟨g, k, none⟩) hg).trans (HC.out k hlt)
      rw [HR.out] at hcr
      have hvr : vr r := by rw [← HR.out]; apply HV.out; simp [List.getD, hlt]
      have HVR := hid_of hvr
      have hr1 : (r : Int) ≤ 1114111 := by unfold vr at hvr; omega
      clear hvr
      have HT := hid_of (encs_take hlt)
      rw [HR.out] at HT
      have HL := hid_of (n8_len rs k hl)
      have a0 := and63 r (by omega)
      have a1 : bits .and .i32 ((r : Int) / 64) 63 = (r : Int) / 64 % 64 := by have := and63d r 64 (by omega); simpa using this
      have a2 : bits .and .i32 ((r : Int) / 4096) 63 = (r : Int) / 4096 % 64 := by have := and63d r 4096 (by omega); simpa using this
      by_cases c1 : (r : Int) < 128
      · have HN := hid_of (n8_1 (r := r) (by omega))
        go_wp2_with (at_builtin; refine wpList_append_g rfl (.tmp 40) (.tmp 43) rfl w.heap.size w (.slice none 0 0) _ _ rfl (HG.out.alloc _) wr.heap.size 1 1 [r] rfl rfl (news1 _ _ _) (by have := HL.out; omega) ?_)
        intro v1 w1 hR1
        have HR1 := hR1.hid
        clear hR1
        go_wp2
        go_roundw
        case rel =>
          refine ⟨k + 1, by omega, by go_num, ?_⟩
          rw [HT.out, HN.out]
          exact HR1.out
        case measure => simp [intOf]; omega
      · by_cases c2 : (r : Int) < 2048
        · have HN := hid_of (n8_2 (r := r) (by omega) (by omega))
          go_wp2_with (at_builtin; refine wpList_append_g rfl (.tmp 48) (.tmp 57) rfl w.heap.size w (.slice none 0 0) _ _ rfl (HG.out.alloc _) wr.heap.size 2 2 [192 + r / 64, 128 + r % 64] rfl rfl (newsN2 _ _ _ _ _ _ (by omega) (by omega)) (by have := HL.out; omega) ?_)
          intro v1 w1 hR1
          have HR1 := hR1.hid
          clear hR1
          go_wp2
          go_roundw
          case rel =>
            refine ⟨k + 1, by omega, by go_num, ?_⟩
            rw [HT.out, HN.out]
            exact HR1.out
          case measure => simp [intOf]; omega
        · by_cases c3 : (r : Int) < 65536
          · have HN := hid_of (n8_3 (r := r) (by omega) (by omega) HVR.out)
            go_wp2_with (at_builtin; refine wpList_append_g rfl (.tmp 62) (.tmp 76) rfl w.heap.size w (.slice none 0 0) _ _ rfl (HG.out.alloc _) wr.heap.size 3 3 [224 + r / 4096, 128 + r / 64 % 64, 128 + r % 64] rfl rfl (newsN3 _ _ _ _ _ _ _ _ (by omega) (by omega) (by omega)) (by have := HL.out; omega) ?_)
            intro v1 w1 hR1
            have HR1 := hR1.hid
            clear hR1
            go_wp2
            go_roundw
            case rel =>
              refine ⟨k + 1, by omega, by go_num, ?_⟩
              rw [HT.out, HN.out]
              exact HR1.out
            case measure => simp [intOf]; omega
          · have HN := hid_of (n8_4 (r := r) (by omega) (by omega))
            go_wp2_with (at_builtin; refine wpList_append_g rfl (.tmp 16) (.tmp 35) rfl w.heap.size w (.slice none 0 0) _ _ rfl (HG.out.alloc _) wr.heap.size 4 4 [240 + r / 262144, 128 + r / 4096 % 64, 128 + r / 64 % 64, 128 + r % 64] rfl rfl (newsN4 _ _ _ _ _ _ _ _ _ _ (by omega) (by omega) (by omega) (by omega)) (by have := HL.out; omega) ?_)
            intro v1 w1 hR1
            have HR1 := hR1.hid
            clear hR1
            go_wp2
            go_roundw
            case rel =>
              refine ⟨k + 1, by omega, by go_num, ?_⟩
              rw [HT.out, HN.out]
              exact HR1.out
            case measure => simp [intOf]; omega
    · have e : k = rs.length := by omega
      have hG := HG.out
      have HL := hid_of (n8_len rs k hl)
      have hcv := txt_own hG.own (by have := HL.out; omega) (n8_lt _)
      rw [str_n8, e, List.take_length] at hcv
      have HB := hid_of hG.below
      clear hG e
      go_wp2
      go_ret
      exact ⟨rfl, HB.out⟩

theorem encode_any (v : Value) (rs : List Nat) (w : World) (hl : rs.length ≤ 1048576) (h : RR w v rs) :
    Calls Try.prog 78 #[v] w fun e w' => e = .returned (.string ⟨(encs rs).toArray⟩) ∧ Below w.heap.size w w' := by
  rcases h.form with ⟨rfl, rfl⟩ | ⟨g, cap, rfl, h1, h2, h3, h4⟩
  · have hn := run_convert_bytes_nil w 42 5 Try.underlying42 Try.underlying5 0 0 9 Try.underlying9
    go_enter Try.func78, Try.ntmps78
    go_wp2
    refine wp_loop_rounds 1 ?_
    rw [rounds_succ]
    go_wp2
    go_ret
    exact ⟨rfl, Below.refl _ _⟩
  · exact encode_some g cap rs w hl h1 h2 h3 h.ok h4
end Go.Proofs.Ytcophbkgighepaa
