/- Contract of keys.Fold: small letters; the empty text for what is no UTF-8. -/
import Derived.Test.YtcophbkgighepaaA1
import Derived.Outline
import Derived.OpenShut
import Derived.Deep.DrawnRows
import Derived.BigRegion
import Derived.Handy
set_option linter.unusedVariables false
namespace Go.Proofs.Ytcophbkgighepaa
open Go.RowKit

theorem hide {p : Prop} (h : p) : Hid p := h

/-- Is it a great letter? -/
def great (r : Nat) : Prop := (65 ≤ r ∧ r ≤ 90) ∨ (192 ≤ r ∧ r ≤ 222 ∧ r ≠ 215) ∨ (913 ≤ r ∧ r ≤ 937 ∧ r ≠ 930) ∨ (1040 ≤ r ∧ r ≤ 1071)
instance (r : Nat) : Decidable (great r) := by unfold great; infer_instance
def foldR (r : Nat) : Nat := if great r then r + 32 else r
theorem foldR_vr {r : Nat} (h : vr r) : vr (foldR r) := by
  unfold foldR
  split
  · rename_i g; unfold great at g; unfold vr; omega
  · exact h
theorem foldR_twice (r : Nat) : foldR (foldR r) = foldR r := by
  by_cases g : great r
  · have e : foldR r = r + 32 := if_pos g
    have n : ¬ great (r + 32) := by unfold great at g ⊢; omega
    rw [e]
    exact if_neg n
  · have e : foldR r = r := if_neg g
    rw [e, e]

set_option maxRecDepth 100000 in
set_option maxHeartbeats 1000000 in
theorem foldRune_any (r : Nat) (w : World) (hr : r ≤ 1114111) : Calls Try.prog 57 #[.int .i32 r] w fun e w' => e = .returned (.int .i32 (foldR r : Nat)) ∧ w' = w := by
  by_cases h1 : r = 215
  · subst h1
    go_enter Try.func57, Try.ntmps57
    go_wp2
    go_ret
    exact ⟨rfl, rfl⟩
  · by_cases h2 : r = 930
    · subst h2
      go_enter Try.func57, Try.ntmps57
      go_wp2
      go_ret
      exact ⟨rfl, rfl⟩
    · have n1 : ((r : Int) == 215) = false := by simp; omega
      have n2 : ((r : Int) == 930) = false := by simp; omega
      have HN := hide (And.intro h1 h2)
      clear h1 h2
      have fin : ∀ {x : Int}, Hid (x = (foldR r : Nat)) → Ending.returned (.int .i32 x) = .returned (.int .i32 (foldR r : Nat)) := fun h => by rw [h.out]
      by_cases a1 : r < 65
      · have hf := hide (show ((r : Nat) : Int) = (foldR r : Nat) by rw [foldR, if_neg (by unfold great; omega)])
        go_enter Try.func57, Try.ntmps57
        go_wp2
        go_ret
        exact ⟨fin hf, rfl⟩
      · by_cases a2 : r ≤ 90
        · have hf := hide (show ((r : Nat) : Int) + 32 = (foldR r : Nat) by rw [foldR, if_pos (by unfold great; omega)]; omega)
          go_enter Try.func57, Try.ntmps57
          go_wp2
          go_ret
          exact ⟨fin hf, rfl⟩
        · by_cases a3 : r < 192
          · have hf := hide (show ((r : Nat) : Int) = (foldR r : Nat) by rw [foldR, if_neg (by unfold great; omega)])
            go_enter Try.func57, Try.ntmps57
            go_wp2
            go_ret
            exact ⟨fin hf, rfl⟩
          · by_cases a4 : r ≤ 222
            · have hf := hide (show ((r : Nat) : Int) + 32 = (foldR r : Nat) by rw [foldR, if_pos (by unfold great; have := HN.out; omega)]; omega)
              go_enter Try.func57, Try.ntmps57
              go_wp2
              go_ret
              exact ⟨fin hf, rfl⟩
            · by_cases a5 : r < 913
              · have hf := hide (show ((r : Nat) : Int) = (foldR r : Nat) by rw [foldR, if_neg (by unfold great; omega)])
                go_enter Try.func57, Try.ntmps57
                go_wp2
                go_ret
                exact ⟨fin hf, rfl⟩
              · by_cases a6 : r ≤ 937
                · have hf := hide (show ((r : Nat) : Int) + 32 = (foldR r : Nat) by rw [foldR, if_pos (by unfold great; have := HN.out; omega)]; omega)
                  go_enter Try.func57, Try.ntmps57
                  go_wp2
                  go_ret
                  exact ⟨fin hf, rfl⟩
                · by_cases a7 : r < 1040
                  · have hf := hide (show ((r : Nat) : Int) = (foldR r : Nat) by rw [foldR, if_neg (by unfold great; omega)])
                    go_enter Try.func57, Try.ntmps57
                    go_wp2
                    go_ret
                    exact ⟨fin hf, rfl⟩
                  · by_cases a8 : r ≤ 1071
                    · have hf := hide (show ((r : Nat) : Int) + 32 = (foldR r : Nat) by rw [foldR, if_pos (by unfold great; omega)]; omega)
                      go_enter Try.func57, Try.ntmps57
                      go_wp2
                      go_ret
                      exact ⟨fin hf, rfl⟩
                    · have hf := hide (show ((r : Nat) : Int) = (foldR r : Nat) by rw [foldR, if_neg (by unfold great; omega)])
                      go_enter Try.func57, Try.ntmps57
                      go_wp2
                      go_ret
                      exact ⟨fin hf, rfl⟩

def foldS (s : ByteArray) : ByteArray := match runes (bl s) with | none => ⟨#[]⟩ | some rs => ⟨(encs (rs.map foldR)).toArray⟩

theorem encs_append (a b : List Nat) : encs (a ++ b) = encs a ++ encs b := by simp [encs]
theorem encs_le (rs : List Nat) : (encs rs).length ≤ 4 * rs.length := by
  induction rs with
  | nil => simp [encs]
  | cons r rs ih =>
    have := enc_len r
    have e : (encs (r :: rs)).length = (enc r).length + (encs rs).length := by simp [encs]
    simp only [List.length_cons]
    omega

set_option maxRecDepth 100000 in
set_option maxHeartbeats 1000000 in
theorem fold_any (s : ByteArray) (w : World) (hs : s.size ≤ 1048576) :
    Calls Try.prog 29 #[.string s] w fun e w' => e = .returned (.string (foldS s)) ∧ Below w.heap.size w w' := by
  cases hr : runes (bl s) with
  | none =>
    have cR : ∀ w : World, Calls Try.prog 55 #[.string s] w fun e w' => e = .returned (.int .i64 (-1)) ∧ Below w.heap.size w w' := fun w => by have := runes_any s w (by omega); rw [hr] at this; exact this
    go_enter Try.func29, Try.ntmps29
    go_wp2_with (go_at_call 55; refine (cR _).mono ?_; rintro e w1 ⟨rfl, hb1⟩)
    go_ret
    exact ⟨by rw [foldS, hr]; rfl, hb1⟩
  | some rs =>
    have cR : ∀ w : World, Calls Try.prog 55 #[.string s] w fun e w' => e = .returned (.int .i64 (rs.length : Nat)) ∧ Below w.heap.size w w' := fun w => by have := runes_any s w (by omega); rw [hr] at this; exact this
    have hl := runes_len hr
    rw [bl_len] at hl
    have hge : ¬ ((rs.length : Int) < 0) := by omega
    go_enter Try.func29, Try.ntmps29
    go_wp2_with fail
    refine (cR _).mono ?_
    rintro e w1 ⟨rfl, hb1⟩
    have HB1 := hide hb1
    have hsz1 := hb1.size
    clear hb1
    go_wp2
    go_loopw [] (fun wr => ∃ (pos : Nat) (pre : List Nat), Lib.IsBuilderF 85 5 w1.heap.size w1.heap.size (Lib.byteCells (encs (pre.map foldR))) wr ∧ wr.heap[w1.heap.size + 1]? = some (.stringIter s pos) ∧ Below w1.heap.size w1 wr ∧ Met s pos pre ∧ pos ≤ s.size) (fun wr => s.size - wr.iterPos (w1.heap.size + 1))
    case atStart =>
      refine ⟨0, [], (Lib.IsBuilderF.of (Lib.fresh_isBuilder 85 5 w1)).alloc _, ?_, ((Below.refl _ w1).alloc (Nat.le_refl _) _).alloc (by simp) _, Met.start s, by omega⟩
      have := World.iter_heap (w1.alloc (.cells #[.pointer none, .slice none 0 0] 85)) s 0
      simpa using this
    case round =>
      obtain ⟨pos, pre, hI, hit, hbw, hm, hps⟩ := hrel
      have hpl := hm.2
      have HM := hide hm
      clear hm
      have hsz : w1.heap.size + 1 < wr.heap.size := (Array.getElem?_eq_some_iff.1 hit).1
      by_cases hp : pos < s.size
      · obtain ⟨R, W, hd⟩ : ∃ R W, dl ((bl s).drop pos) = (R, W) := ⟨_, _, rfl⟩
        have hw := dl_width (drop_ne hp)
        rw [hd, List.length_drop, bl_len] at hw
        have hnx : ∀ ty, (Instr.next (.pointer (some ⟨w1.heap.size + 1, 0, none⟩)) true ty).run Try.prog wr = .ok (.tuple #[.bool true, .int .i64 pos, .int .i32 R]) (wr.iterAt (w1.heap.size + 1) s (pos + W)) := fun ty => by
          rw [Lib.run_next_any_at wr (w1.heap.size + 1) s pos ty hit hp, dec_at, hd]
        have hgood : (R, W) ≠ (65533, 1) := by
          intro e
          rw [e] at hd
          rw [HM.out.bad hp hd] at hr
          cases hr
        have hR : R ≤ 1114111 := by
          obtain ⟨r, rest, g1, g2, _⟩ := dl_ok (drop_ne hp) (by rw [hd]; exact hgood)
          rw [hd] at g1
          simp only [Prod.mk.injEq] at g1
          unfold vr at g2
          omega
        have hF : foldR R ≤ 1114143 := by unfold foldR; split <;> omega
        have HD := hide hd
        have HG := hide hgood
        clear hd hgood
        have HI2 := hide (hI.iterAt hit (pos + W))
        have HIT := hide hit
        have HIT2 := hide (Lib.iterAt_heap wr (w1.heap.size + 1) s pos (pos + W) hit)
        have HBW2 := hide (Lib.below_iterAt hbw (k := w1.heap.size + 1) (by omega) s (pos + W))
        have hsz2 : w1.heap.size ≤ (wr.iterAt (w1.heap.size + 1) s (pos + W)).heap.size := by rw [Lib.iterAt_size]; omega
        have HSZ2 := hide hsz2
        have hlen : (Lib.byteCells (encs (pre.map foldR))).length + 4 ≤ 140737488355328 := by
          have := encs_le (pre.map foldR)
          rw [List.length_map] at this
          rw [Lib.byteCells_length]
          omega
        have HL := hide hlen
        clear hI hit hbw hsz2 hlen
        go_wp2_with (first
          | (go_at_call 57; refine (foldRune_any R _ hR).mono ?_; rintro e w2 ⟨rfl, hw2⟩; have hw2 := hw2.symm; subst hw2)
          | (go_at_call 56; refine (Try.Builder_WriteRune_k w1.heap.size w1.heap.size _ _ (by omega) (by omega) _ HI2.out HL.out HSZ2.out).mono ?_; rintro e W1 ⟨rfl, h1, b1, k1⟩; have H1 := hide h1; have HK1 := hide (k1.iter HIT2.out (by omega)); have HB2 := hide (HBW2.out.trans b1); clear h1 b1 k1))
        go_roundw
        case rel =>
          refine ⟨pos + W, pre ++ [R], ?_, HK1.out, HB2.out, HM.out.step hp HD.out HG.out, by omega⟩
          have e : encs ((pre ++ [R]).map foldR) = encs (pre.map foldR) ++ Lib.encodeRune (foldR R : Nat) := by simp [encs, enc]
          rw [e, Lib.byteCells_append, Lib.byteCells_encodeRune]
          exact Or.inr H1.out
        case measure =>
          simp only [World.iterPos, HK1.out, HIT.out]
          omega
      · have hnx : ∀ ty, (Instr.next (.pointer (some ⟨w1.heap.size + 1, 0, none⟩)) true ty).run Try.prog wr = _ := fun ty => Lib.run_next_end_at wr (w1.heap.size + 1) s pos ty hit hp
        have HBW := hide hbw
        clear hbw
        go_wp2_with (go_at_call 58; refine (Try.Builder_String_any_k w1.heap.size w1.heap.size _ _ hI (by omega)).mono ?_; rintro e W1 ⟨rfl, _, b1, _⟩)
        go_ret
        have e := HM.out.fin hp
        refine ⟨by rw [foldS, e]; rfl, ?_⟩
        exact HB1.out.trans ((HBW.out.trans b1).mono hsz1)
end Go.Proofs.Ytcophbkgighepaa
