/- Contract of keys.compareHeld: any two held values. -/
import Derived.Test.YtadkmnckjennoaaDoorX2
set_option linter.unusedVariables false
namespace Go.Proofs.YtadkmnckjennoaaDoor
open Go.RowKit

def H.kind : H → Int
  | .nothing => 0
  | .number _ => 1
  | .text _ => 2
  | .truth _ => 3
  | .none => 0
def H.utf : H → Prop
  | .text s => ∃ r, runes (bl s) = some r
  | _ => True
def cmpH : H → H → Int
  | .number a, .number b => Lib.compareInt a b
  | .text s, .text t => cmpL ((runes (bl s)).getD []) ((runes (bl t)).getD [])
  | .truth a, .truth b => Lib.compareInt (bi a) (bi b)
  | a, b => Lib.compareInt a.kind b.kind
theorem field_k (a b c : Value) (w : World) : (Instr.field 23 (.agg #[a, b, c]) 0).run Tryd.prog w = .ok a w := by kernel_rfl

set_option maxRecDepth 100000 in
theorem cmpNum_any (x y : Int) (w : World) : Calls Tryd.prog 46 #[.int .i64 x, .int .i64 y] w fun e w' => e = .returned (.int .i64 (Lib.compareInt x y)) ∧ w' = w := by
  unfold Lib.compareInt
  by_cases h1 : x < y
  · rw [if_pos h1]
    go_enter Tryd.func46, Tryd.ntmps46
    go_wp2
    go_ret
    exact ⟨rfl, rfl⟩
  · rw [if_neg h1]
    by_cases h2 : y < x
    · rw [if_pos h2]
      go_enter Tryd.func46, Tryd.ntmps46
      go_wp2
      go_ret
      exact ⟨rfl, rfl⟩
    · rw [if_neg h2]
      go_enter Tryd.func46, Tryd.ntmps46
      go_wp2
      go_ret
      exact ⟨rfl, rfl⟩

set_option maxRecDepth 100000 in
theorem ch_nothing_nothing (w : World) : Calls Tryd.prog 32 #[H.nothing.val, H.nothing.val] w fun e w' => e = .returned (.int .i64 (cmpH H.nothing H.nothing)) ∧ Below w.heap.size w w' := by
  have a0 := fun w => as_nothing_number w
  have b0 := fun w => as_nothing_number w
  have a1 := fun w => as_nothing_text w
  have b1 := fun w => as_nothing_text w
  have a2 := fun w => as_nothing_truth w
  have b2 := fun w => as_nothing_truth w
  have af := field_k
  have c0 := release_any H.nothing
  have c1 := release_any H.nothing
  unfold H.val H.out av at c0 c1
  have ek : cmpH H.nothing H.nothing = Lib.compareInt 0 0 := rfl
  rw [ek]
  unfold H.val
  go_enter Tryd.func32, Tryd.ntmps32
  go_wp2_with fail
  refine (c0 _).mono ?_
  rintro e w1 ⟨rfl, hb1⟩
  have HB1 := hidx hb1
  clear hb1
  go_wp2_with fail
  refine (c1 _).mono ?_
  rintro e w2 ⟨rfl, hb2⟩
  have HB2 := hidx (HB1.out.trans (hb2.mono HB1.out.size))
  clear hb2
  go_wp2_with (go_at_call 34; refine (Tryd.cmp_Compare_int _ _ _).mono ?_; rintro e w3 ⟨rfl, hw3⟩; have hw3 := hw3.symm; subst hw3)
  go_ret
  exact ⟨rfl, HB2.out⟩
set_option maxRecDepth 100000 in
theorem ch_nothing_number (m : Int) (w : World) : Calls Tryd.prog 32 #[H.nothing.val, (H.number m).val] w fun e w' => e = .returned (.int .i64 (cmpH H.nothing (H.number m))) ∧ Below w.heap.size w w' := by
  have a0 := fun w => as_nothing_number w
  have b0 := fun w => as_number_number m w
  have a1 := fun w => as_nothing_text w
  have b1 := fun w => as_number_text m w
  have a2 := fun w => as_nothing_truth w
  have b2 := fun w => as_number_truth m w
  have af := field_k
  have c0 := release_any H.nothing
  have c1 := release_any (H.number m)
  unfold H.val H.out av at c0 c1
  have ek : cmpH H.nothing (H.number m) = Lib.compareInt 0 1 := rfl
  rw [ek]
  unfold H.val
  go_enter Tryd.func32, Tryd.ntmps32
  go_wp2_with fail
  refine (c0 _).mono ?_
  rintro e w1 ⟨rfl, hb1⟩
  have HB1 := hidx hb1
  clear hb1
  go_wp2_with fail
  refine (c1 _).mono ?_
  rintro e w2 ⟨rfl, hb2⟩
  have HB2 := hidx (HB1.out.trans (hb2.mono HB1.out.size))
  clear hb2
  go_wp2_with (go_at_call 34; refine (Tryd.cmp_Compare_int _ _ _).mono ?_; rintro e w3 ⟨rfl, hw3⟩; have hw3 := hw3.symm; subst hw3)
  go_ret
  exact ⟨rfl, HB2.out⟩
set_option maxRecDepth 100000 in
theorem ch_nothing_text (t : ByteArray) (w : World) : Calls Tryd.prog 32 #[H.nothing.val, (H.text t).val] w fun e w' => e = .returned (.int .i64 (cmpH H.nothing (H.text t))) ∧ Below w.heap.size w w' := by
  have a0 := fun w => as_nothing_number w
  have b0 := fun w => as_text_number t w
  have a1 := fun w => as_nothing_text w
  have b1 := fun w => as_text_text t w
  have a2 := fun w => as_nothing_truth w
  have b2 := fun w => as_text_truth t w
  have af := field_k
  have c0 := release_any H.nothing
  have c1 := release_any (H.text t)
  unfold H.val H.out av at c0 c1
  have ek : cmpH H.nothing (H.text t) = Lib.compareInt 0 2 := rfl
  rw [ek]
  unfold H.val
  go_enter Tryd.func32, Tryd.ntmps32
  go_wp2_with fail
  refine (c0 _).mono ?_
  rintro e w1 ⟨rfl, hb1⟩
  have HB1 := hidx hb1
  clear hb1
  go_wp2_with fail
  refine (c1 _).mono ?_
  rintro e w2 ⟨rfl, hb2⟩
  have HB2 := hidx (HB1.out.trans (hb2.mono HB1.out.size))
  clear hb2
  go_wp2_with (go_at_call 34; refine (Tryd.cmp_Compare_int _ _ _).mono ?_; rintro e w3 ⟨rfl, hw3⟩; have hw3 := hw3.symm; subst hw3)
  go_ret
  exact ⟨rfl, HB2.out⟩
set_option maxRecDepth 100000 in
theorem ch_nothing_truth (c : Bool) (w : World) : Calls Tryd.prog 32 #[H.nothing.val, (H.truth c).val] w fun e w' => e = .returned (.int .i64 (cmpH H.nothing (H.truth c))) ∧ Below w.heap.size w w' := by
  have a0 := fun w => as_nothing_number w
  have b0 := fun w => as_truth_number c w
  have a1 := fun w => as_nothing_text w
  have b1 := fun w => as_truth_text c w
  have a2 := fun w => as_nothing_truth w
  have b2 := fun w => as_truth_truth c w
  have af := field_k
  have c0 := release_any H.nothing
  have c1 := release_any (H.truth c)
  unfold H.val H.out av at c0 c1
  have ek : cmpH H.nothing (H.truth c) = Lib.compareInt 0 3 := rfl
  rw [ek]
  unfold H.val
  go_enter Tryd.func32, Tryd.ntmps32
  go_wp2_with fail
  refine (c0 _).mono ?_
  rintro e w1 ⟨rfl, hb1⟩
  have HB1 := hidx hb1
  clear hb1
  go_wp2_with fail
  refine (c1 _).mono ?_
  rintro e w2 ⟨rfl, hb2⟩
  have HB2 := hidx (HB1.out.trans (hb2.mono HB1.out.size))
  clear hb2
  go_wp2_with (go_at_call 34; refine (Tryd.cmp_Compare_int _ _ _).mono ?_; rintro e w3 ⟨rfl, hw3⟩; have hw3 := hw3.symm; subst hw3)
  go_ret
  exact ⟨rfl, HB2.out⟩
set_option maxRecDepth 100000 in
theorem ch_nothing_none (w : World) : Calls Tryd.prog 32 #[H.nothing.val, H.none.val] w fun e w' => e = .returned (.int .i64 (cmpH H.nothing H.none)) ∧ Below w.heap.size w w' := by
  have a0 := fun w => as_nothing_number w
  have b0 := fun w => as_none_number w
  have a1 := fun w => as_nothing_text w
  have b1 := fun w => as_none_text w
  have a2 := fun w => as_nothing_truth w
  have b2 := fun w => as_none_truth w
  have af := field_k
  have c0 := release_any H.nothing
  have c1 := release_any H.none
  unfold H.val H.out av at c0 c1
  have ek : cmpH H.nothing H.none = Lib.compareInt 0 0 := rfl
  rw [ek]
  unfold H.val
  go_enter Tryd.func32, Tryd.ntmps32
  go_wp2_with fail
  refine (c0 _).mono ?_
  rintro e w1 ⟨rfl, hb1⟩
  have HB1 := hidx hb1
  clear hb1
  go_wp2_with fail
  refine (c1 _).mono ?_
  rintro e w2 ⟨rfl, hb2⟩
  have HB2 := hidx (HB1.out.trans (hb2.mono HB1.out.size))
  clear hb2
  go_wp2_with (go_at_call 34; refine (Tryd.cmp_Compare_int _ _ _).mono ?_; rintro e w3 ⟨rfl, hw3⟩; have hw3 := hw3.symm; subst hw3)
  go_ret
  exact ⟨rfl, HB2.out⟩
set_option maxRecDepth 100000 in
theorem ch_number_nothing (n : Int) (w : World) : Calls Tryd.prog 32 #[(H.number n).val, H.nothing.val] w fun e w' => e = .returned (.int .i64 (cmpH (H.number n) H.nothing)) ∧ Below w.heap.size w w' := by
  have a0 := fun w => as_number_number n w
  have b0 := fun w => as_nothing_number w
  have a1 := fun w => as_number_text n w
  have b1 := fun w => as_nothing_text w
  have a2 := fun w => as_number_truth n w
  have b2 := fun w => as_nothing_truth w
  have af := field_k
  have c0 := release_any (H.number n)
  have c1 := release_any H.nothing
  unfold H.val H.out av at c0 c1
  have ek : cmpH (H.number n) H.nothing = Lib.compareInt 1 0 := rfl
  rw [ek]
  unfold H.val
  go_enter Tryd.func32, Tryd.ntmps32
  go_wp2_with fail
  refine (c0 _).mono ?_
  rintro e w1 ⟨rfl, hb1⟩
  have HB1 := hidx hb1
  clear hb1
  go_wp2_with fail
  refine (c1 _).mono ?_
  rintro e w2 ⟨rfl, hb2⟩
  have HB2 := hidx (HB1.out.trans (hb2.mono HB1.out.size))
  clear hb2
  go_wp2_with (go_at_call 34; refine (Tryd.cmp_Compare_int _ _ _).mono ?_; rintro e w3 ⟨rfl, hw3⟩; have hw3 := hw3.symm; subst hw3)
  go_ret
  exact ⟨rfl, HB2.out⟩
set_option maxRecDepth 100000 in
theorem ch_number_number (n : Int) (m : Int) (w : World) : Calls Tryd.prog 32 #[(H.number n).val, (H.number m).val] w fun e w' => e = .returned (.int .i64 (cmpH (H.number n) (H.number m))) ∧ Below w.heap.size w w' := by
  have a0 := fun w => as_number_number n w
  have b0 := fun w => as_number_number m w
  have a1 := fun w => as_number_text n w
  have b1 := fun w => as_number_text m w
  have a2 := fun w => as_number_truth n w
  have b2 := fun w => as_number_truth m w
  have af := field_k
  unfold H.val cmpH
  go_enter Tryd.func32, Tryd.ntmps32
  go_wp2_with (go_at_call 46; refine (cmpNum_any _ _ _).mono ?_; rintro e w3 ⟨rfl, hw3⟩; have hw3 := hw3.symm; subst hw3)
  go_ret
  exact ⟨rfl, Below.refl _ _⟩
set_option maxRecDepth 100000 in
theorem ch_number_text (n : Int) (t : ByteArray) (w : World) : Calls Tryd.prog 32 #[(H.number n).val, (H.text t).val] w fun e w' => e = .returned (.int .i64 (cmpH (H.number n) (H.text t))) ∧ Below w.heap.size w w' := by
  have a0 := fun w => as_number_number n w
  have b0 := fun w => as_text_number t w
  have a1 := fun w => as_number_text n w
  have b1 := fun w => as_text_text t w
  have a2 := fun w => as_number_truth n w
  have b2 := fun w => as_text_truth t w
  have af := field_k
  have c0 := release_any (H.number n)
  have c1 := release_any (H.text t)
  unfold H.val H.out av at c0 c1
  have ek : cmpH (H.number n) (H.text t) = Lib.compareInt 1 2 := rfl
  rw [ek]
  unfold H.val
  go_enter Tryd.func32, Tryd.ntmps32
  go_wp2_with fail
  refine (c0 _).mono ?_
  rintro e w1 ⟨rfl, hb1⟩
  have HB1 := hidx hb1
  clear hb1
  go_wp2_with fail
  refine (c1 _).mono ?_
  rintro e w2 ⟨rfl, hb2⟩
  have HB2 := hidx (HB1.out.trans (hb2.mono HB1.out.size))
  clear hb2
  go_wp2_with (go_at_call 34; refine (Tryd.cmp_Compare_int _ _ _).mono ?_; rintro e w3 ⟨rfl, hw3⟩; have hw3 := hw3.symm; subst hw3)
  go_ret
  exact ⟨rfl, HB2.out⟩
set_option maxRecDepth 100000 in
theorem ch_number_truth (n : Int) (c : Bool) (w : World) : Calls Tryd.prog 32 #[(H.number n).val, (H.truth c).val] w fun e w' => e = .returned (.int .i64 (cmpH (H.number n) (H.truth c))) ∧ Below w.heap.size w w' := by
  have a0 := fun w => as_number_number n w
  have b0 := fun w => as_truth_number c w
  have a1 := fun w => as_number_text n w
  have b1 := fun w => as_truth_text c w
  have a2 := fun w => as_number_truth n w
  have b2 := fun w => as_truth_truth c w
  have af := field_k
  have c0 := release_any (H.number n)
  have c1 := release_any (H.truth c)
  unfold H.val H.out av at c0 c1
  have ek : cmpH (H.number n) (H.truth c) = Lib.compareInt 1 3 := rfl
  rw [ek]
  unfold H.val
  go_enter Tryd.func32, Tryd.ntmps32
  go_wp2_with fail
  refine (c0 _).mono ?_
  rintro e w1 ⟨rfl, hb1⟩
  have HB1 := hidx hb1
  clear hb1
  go_wp2_with fail
  refine (c1 _).mono ?_
  rintro e w2 ⟨rfl, hb2⟩
  have HB2 := hidx (HB1.out.trans (hb2.mono HB1.out.size))
  clear hb2
  go_wp2_with (go_at_call 34; refine (Tryd.cmp_Compare_int _ _ _).mono ?_; rintro e w3 ⟨rfl, hw3⟩; have hw3 := hw3.symm; subst hw3)
  go_ret
  exact ⟨rfl, HB2.out⟩
set_option maxRecDepth 100000 in
theorem ch_number_none (n : Int) (w : World) : Calls Tryd.prog 32 #[(H.number n).val, H.none.val] w fun e w' => e = .returned (.int .i64 (cmpH (H.number n) H.none)) ∧ Below w.heap.size w w' := by
  have a0 := fun w => as_number_number n w
  have b0 := fun w => as_none_number w
  have a1 := fun w => as_number_text n w
  have b1 := fun w => as_none_text w
  have a2 := fun w => as_number_truth n w
  have b2 := fun w => as_none_truth w
  have af := field_k
  have c0 := release_any (H.number n)
  have c1 := release_any H.none
  unfold H.val H.out av at c0 c1
  have ek : cmpH (H.number n) H.none = Lib.compareInt 1 0 := rfl
  rw [ek]
  unfold H.val
  go_enter Tryd.func32, Tryd.ntmps32
  go_wp2_with fail
  refine (c0 _).mono ?_
  rintro e w1 ⟨rfl, hb1⟩
  have HB1 := hidx hb1
  clear hb1
  go_wp2_with fail
  refine (c1 _).mono ?_
  rintro e w2 ⟨rfl, hb2⟩
  have HB2 := hidx (HB1.out.trans (hb2.mono HB1.out.size))
  clear hb2
  go_wp2_with (go_at_call 34; refine (Tryd.cmp_Compare_int _ _ _).mono ?_; rintro e w3 ⟨rfl, hw3⟩; have hw3 := hw3.symm; subst hw3)
  go_ret
  exact ⟨rfl, HB2.out⟩
set_option maxRecDepth 100000 in
theorem ch_text_nothing (s : ByteArray) (w : World) : Calls Tryd.prog 32 #[(H.text s).val, H.nothing.val] w fun e w' => e = .returned (.int .i64 (cmpH (H.text s) H.nothing)) ∧ Below w.heap.size w w' := by
  have a0 := fun w => as_text_number s w
  have b0 := fun w => as_nothing_number w
  have a1 := fun w => as_text_text s w
  have b1 := fun w => as_nothing_text w
  have a2 := fun w => as_text_truth s w
  have b2 := fun w => as_nothing_truth w
  have af := field_k
  have c0 := release_any (H.text s)
  have c1 := release_any H.nothing
  unfold H.val H.out av at c0 c1
  have ek : cmpH (H.text s) H.nothing = Lib.compareInt 2 0 := rfl
  rw [ek]
  unfold H.val
  go_enter Tryd.func32, Tryd.ntmps32
  go_wp2_with fail
  refine (c0 _).mono ?_
  rintro e w1 ⟨rfl, hb1⟩
  have HB1 := hidx hb1
  clear hb1
  go_wp2_with fail
  refine (c1 _).mono ?_
  rintro e w2 ⟨rfl, hb2⟩
  have HB2 := hidx (HB1.out.trans (hb2.mono HB1.out.size))
  clear hb2
  go_wp2_with (go_at_call 34; refine (Tryd.cmp_Compare_int _ _ _).mono ?_; rintro e w3 ⟨rfl, hw3⟩; have hw3 := hw3.symm; subst hw3)
  go_ret
  exact ⟨rfl, HB2.out⟩
set_option maxRecDepth 100000 in
theorem ch_text_number (s : ByteArray) (m : Int) (w : World) : Calls Tryd.prog 32 #[(H.text s).val, (H.number m).val] w fun e w' => e = .returned (.int .i64 (cmpH (H.text s) (H.number m))) ∧ Below w.heap.size w w' := by
  have a0 := fun w => as_text_number s w
  have b0 := fun w => as_number_number m w
  have a1 := fun w => as_text_text s w
  have b1 := fun w => as_number_text m w
  have a2 := fun w => as_text_truth s w
  have b2 := fun w => as_number_truth m w
  have af := field_k
  have c0 := release_any (H.text s)
  have c1 := release_any (H.number m)
  unfold H.val H.out av at c0 c1
  have ek : cmpH (H.text s) (H.number m) = Lib.compareInt 2 1 := rfl
  rw [ek]
  unfold H.val
  go_enter Tryd.func32, Tryd.ntmps32
  go_wp2_with fail
  refine (c0 _).mono ?_
  rintro e w1 ⟨rfl, hb1⟩
  have HB1 := hidx hb1
  clear hb1
  go_wp2_with fail
  refine (c1 _).mono ?_
  rintro e w2 ⟨rfl, hb2⟩
  have HB2 := hidx (HB1.out.trans (hb2.mono HB1.out.size))
  clear hb2
  go_wp2_with (go_at_call 34; refine (Tryd.cmp_Compare_int _ _ _).mono ?_; rintro e w3 ⟨rfl, hw3⟩; have hw3 := hw3.symm; subst hw3)
  go_ret
  exact ⟨rfl, HB2.out⟩
set_option maxRecDepth 100000 in
theorem ch_text_truth (s : ByteArray) (c : Bool) (w : World) : Calls Tryd.prog 32 #[(H.text s).val, (H.truth c).val] w fun e w' => e = .returned (.int .i64 (cmpH (H.text s) (H.truth c))) ∧ Below w.heap.size w w' := by
  have a0 := fun w => as_text_number s w
  have b0 := fun w => as_truth_number c w
  have a1 := fun w => as_text_text s w
  have b1 := fun w => as_truth_text c w
  have a2 := fun w => as_text_truth s w
  have b2 := fun w => as_truth_truth c w
  have af := field_k
  have c0 := release_any (H.text s)
  have c1 := release_any (H.truth c)
  unfold H.val H.out av at c0 c1
  have ek : cmpH (H.text s) (H.truth c) = Lib.compareInt 2 3 := rfl
  rw [ek]
  unfold H.val
  go_enter Tryd.func32, Tryd.ntmps32
  go_wp2_with fail
  refine (c0 _).mono ?_
  rintro e w1 ⟨rfl, hb1⟩
  have HB1 := hidx hb1
  clear hb1
  go_wp2_with fail
  refine (c1 _).mono ?_
  rintro e w2 ⟨rfl, hb2⟩
  have HB2 := hidx (HB1.out.trans (hb2.mono HB1.out.size))
  clear hb2
  go_wp2_with (go_at_call 34; refine (Tryd.cmp_Compare_int _ _ _).mono ?_; rintro e w3 ⟨rfl, hw3⟩; have hw3 := hw3.symm; subst hw3)
  go_ret
  exact ⟨rfl, HB2.out⟩
set_option maxRecDepth 100000 in
theorem ch_text_none (s : ByteArray) (w : World) : Calls Tryd.prog 32 #[(H.text s).val, H.none.val] w fun e w' => e = .returned (.int .i64 (cmpH (H.text s) H.none)) ∧ Below w.heap.size w w' := by
  have a0 := fun w => as_text_number s w
  have b0 := fun w => as_none_number w
  have a1 := fun w => as_text_text s w
  have b1 := fun w => as_none_text w
  have a2 := fun w => as_text_truth s w
  have b2 := fun w => as_none_truth w
  have af := field_k
  have c0 := release_any (H.text s)
  have c1 := release_any H.none
  unfold H.val H.out av at c0 c1
  have ek : cmpH (H.text s) H.none = Lib.compareInt 2 0 := rfl
  rw [ek]
  unfold H.val
  go_enter Tryd.func32, Tryd.ntmps32
  go_wp2_with fail
  refine (c0 _).mono ?_
  rintro e w1 ⟨rfl, hb1⟩
  have HB1 := hidx hb1
  clear hb1
  go_wp2_with fail
  refine (c1 _).mono ?_
  rintro e w2 ⟨rfl, hb2⟩
  have HB2 := hidx (HB1.out.trans (hb2.mono HB1.out.size))
  clear hb2
  go_wp2_with (go_at_call 34; refine (Tryd.cmp_Compare_int _ _ _).mono ?_; rintro e w3 ⟨rfl, hw3⟩; have hw3 := hw3.symm; subst hw3)
  go_ret
  exact ⟨rfl, HB2.out⟩
set_option maxRecDepth 100000 in
theorem ch_truth_nothing (b : Bool) (w : World) : Calls Tryd.prog 32 #[(H.truth b).val, H.nothing.val] w fun e w' => e = .returned (.int .i64 (cmpH (H.truth b) H.nothing)) ∧ Below w.heap.size w w' := by
  have a0 := fun w => as_truth_number b w
  have b0 := fun w => as_nothing_number w
  have a1 := fun w => as_truth_text b w
  have b1 := fun w => as_nothing_text w
  have a2 := fun w => as_truth_truth b w
  have b2 := fun w => as_nothing_truth w
  have af := field_k
  have c0 := release_any (H.truth b)
  have c1 := release_any H.nothing
  unfold H.val H.out av at c0 c1
  have ek : cmpH (H.truth b) H.nothing = Lib.compareInt 3 0 := rfl
  rw [ek]
  unfold H.val
  go_enter Tryd.func32, Tryd.ntmps32
  go_wp2_with fail
  refine (c0 _).mono ?_
  rintro e w1 ⟨rfl, hb1⟩
  have HB1 := hidx hb1
  clear hb1
  go_wp2_with fail
  refine (c1 _).mono ?_
  rintro e w2 ⟨rfl, hb2⟩
  have HB2 := hidx (HB1.out.trans (hb2.mono HB1.out.size))
  clear hb2
  go_wp2_with (go_at_call 34; refine (Tryd.cmp_Compare_int _ _ _).mono ?_; rintro e w3 ⟨rfl, hw3⟩; have hw3 := hw3.symm; subst hw3)
  go_ret
  exact ⟨rfl, HB2.out⟩
set_option maxRecDepth 100000 in
theorem ch_truth_number (b : Bool) (m : Int) (w : World) : Calls Tryd.prog 32 #[(H.truth b).val, (H.number m).val] w fun e w' => e = .returned (.int .i64 (cmpH (H.truth b) (H.number m))) ∧ Below w.heap.size w w' := by
  have a0 := fun w => as_truth_number b w
  have b0 := fun w => as_number_number m w
  have a1 := fun w => as_truth_text b w
  have b1 := fun w => as_number_text m w
  have a2 := fun w => as_truth_truth b w
  have b2 := fun w => as_number_truth m w
  have af := field_k
  have c0 := release_any (H.truth b)
  have c1 := release_any (H.number m)
  unfold H.val H.out av at c0 c1
  have ek : cmpH (H.truth b) (H.number m) = Lib.compareInt 3 1 := rfl
  rw [ek]
  unfold H.val
  go_enter Tryd.func32, Tryd.ntmps32
  go_wp2_with fail
  refine (c0 _).mono ?_
  rintro e w1 ⟨rfl, hb1⟩
  have HB1 := hidx hb1
  clear hb1
  go_wp2_with fail
  refine (c1 _).mono ?_
  rintro e w2 ⟨rfl, hb2⟩
  have HB2 := hidx (HB1.out.trans (hb2.mono HB1.out.size))
  clear hb2
  go_wp2_with (go_at_call 34; refine (Tryd.cmp_Compare_int _ _ _).mono ?_; rintro e w3 ⟨rfl, hw3⟩; have hw3 := hw3.symm; subst hw3)
  go_ret
  exact ⟨rfl, HB2.out⟩
set_option maxRecDepth 100000 in
theorem ch_truth_text (b : Bool) (t : ByteArray) (w : World) : Calls Tryd.prog 32 #[(H.truth b).val, (H.text t).val] w fun e w' => e = .returned (.int .i64 (cmpH (H.truth b) (H.text t))) ∧ Below w.heap.size w w' := by
  have a0 := fun w => as_truth_number b w
  have b0 := fun w => as_text_number t w
  have a1 := fun w => as_truth_text b w
  have b1 := fun w => as_text_text t w
  have a2 := fun w => as_truth_truth b w
  have b2 := fun w => as_text_truth t w
  have af := field_k
  have c0 := release_any (H.truth b)
  have c1 := release_any (H.text t)
  unfold H.val H.out av at c0 c1
  have ek : cmpH (H.truth b) (H.text t) = Lib.compareInt 3 2 := rfl
  rw [ek]
  unfold H.val
  go_enter Tryd.func32, Tryd.ntmps32
  go_wp2_with fail
  refine (c0 _).mono ?_
  rintro e w1 ⟨rfl, hb1⟩
  have HB1 := hidx hb1
  clear hb1
  go_wp2_with fail
  refine (c1 _).mono ?_
  rintro e w2 ⟨rfl, hb2⟩
  have HB2 := hidx (HB1.out.trans (hb2.mono HB1.out.size))
  clear hb2
  go_wp2_with (go_at_call 34; refine (Tryd.cmp_Compare_int _ _ _).mono ?_; rintro e w3 ⟨rfl, hw3⟩; have hw3 := hw3.symm; subst hw3)
  go_ret
  exact ⟨rfl, HB2.out⟩
set_option maxRecDepth 100000 in
theorem ch_truth_truth (b : Bool) (c : Bool) (w : World) : Calls Tryd.prog 32 #[(H.truth b).val, (H.truth c).val] w fun e w' => e = .returned (.int .i64 (cmpH (H.truth b) (H.truth c))) ∧ Below w.heap.size w w' := by
  have a0 := fun w => as_truth_number b w
  have b0 := fun w => as_truth_number c w
  have a1 := fun w => as_truth_text b w
  have b1 := fun w => as_truth_text c w
  have a2 := fun w => as_truth_truth b w
  have b2 := fun w => as_truth_truth c w
  have af := field_k
  unfold H.val cmpH
  go_enter Tryd.func32, Tryd.ntmps32
  go_wp2_with (first | (go_at_call 43; refine (number_any _ _).mono ?_; rintro e w3 ⟨rfl, hw3⟩; have hw3 := hw3.symm; subst hw3) | (go_at_call 34; refine (Tryd.cmp_Compare_int _ _ _).mono ?_; rintro e w3 ⟨rfl, hw3⟩; have hw3 := hw3.symm; subst hw3))
  go_ret
  exact ⟨rfl, Below.refl _ _⟩
set_option maxRecDepth 100000 in
theorem ch_truth_none (b : Bool) (w : World) : Calls Tryd.prog 32 #[(H.truth b).val, H.none.val] w fun e w' => e = .returned (.int .i64 (cmpH (H.truth b) H.none)) ∧ Below w.heap.size w w' := by
  have a0 := fun w => as_truth_number b w
  have b0 := fun w => as_none_number w
  have a1 := fun w => as_truth_text b w
  have b1 := fun w => as_none_text w
  have a2 := fun w => as_truth_truth b w
  have b2 := fun w => as_none_truth w
  have af := field_k
  have c0 := release_any (H.truth b)
  have c1 := release_any H.none
  unfold H.val H.out av at c0 c1
  have ek : cmpH (H.truth b) H.none = Lib.compareInt 3 0 := rfl
  rw [ek]
  unfold H.val
  go_enter Tryd.func32, Tryd.ntmps32
  go_wp2_with fail
  refine (c0 _).mono ?_
  rintro e w1 ⟨rfl, hb1⟩
  have HB1 := hidx hb1
  clear hb1
  go_wp2_with fail
  refine (c1 _).mono ?_
  rintro e w2 ⟨rfl, hb2⟩
  have HB2 := hidx (HB1.out.trans (hb2.mono HB1.out.size))
  clear hb2
  go_wp2_with (go_at_call 34; refine (Tryd.cmp_Compare_int _ _ _).mono ?_; rintro e w3 ⟨rfl, hw3⟩; have hw3 := hw3.symm; subst hw3)
  go_ret
  exact ⟨rfl, HB2.out⟩
set_option maxRecDepth 100000 in
theorem ch_none_nothing (w : World) : Calls Tryd.prog 32 #[H.none.val, H.nothing.val] w fun e w' => e = .returned (.int .i64 (cmpH H.none H.nothing)) ∧ Below w.heap.size w w' := by
  have a0 := fun w => as_none_number w
  have b0 := fun w => as_nothing_number w
  have a1 := fun w => as_none_text w
  have b1 := fun w => as_nothing_text w
  have a2 := fun w => as_none_truth w
  have b2 := fun w => as_nothing_truth w
  have af := field_k
  have c0 := release_any H.none
  have c1 := release_any H.nothing
  unfold H.val H.out av at c0 c1
  have ek : cmpH H.none H.nothing = Lib.compareInt 0 0 := rfl
  rw [ek]
  unfold H.val
  go_enter Tryd.func32, Tryd.ntmps32
  go_wp2_with fail
  refine (c0 _).mono ?_
  rintro e w1 ⟨rfl, hb1⟩
  have HB1 := hidx hb1
  clear hb1
  go_wp2_with fail
  refine (c1 _).mono ?_
  rintro e w2 ⟨rfl, hb2⟩
  have HB2 := hidx (HB1.out.trans (hb2.mono HB1.out.size))
  clear hb2
  go_wp2_with (go_at_call 34; refine (Tryd.cmp_Compare_int _ _ _).mono ?_; rintro e w3 ⟨rfl, hw3⟩; have hw3 := hw3.symm; subst hw3)
  go_ret
  exact ⟨rfl, HB2.out⟩
set_option maxRecDepth 100000 in
theorem ch_none_number (m : Int) (w : World) : Calls Tryd.prog 32 #[H.none.val, (H.number m).val] w fun e w' => e = .returned (.int .i64 (cmpH H.none (H.number m))) ∧ Below w.heap.size w w' := by
  have a0 := fun w => as_none_number w
  have b0 := fun w => as_number_number m w
  have a1 := fun w => as_none_text w
  have b1 := fun w => as_number_text m w
  have a2 := fun w => as_none_truth w
  have b2 := fun w => as_number_truth m w
  have af := field_k
  have c0 := release_any H.none
  have c1 := release_any (H.number m)
  unfold H.val H.out av at c0 c1
  have ek : cmpH H.none (H.number m) = Lib.compareInt 0 1 := rfl
  rw [ek]
  unfold H.val
  go_enter Tryd.func32, Tryd.ntmps32
  go_wp2_with fail
  refine (c0 _).mono ?_
  rintro e w1 ⟨rfl, hb1⟩
  have HB1 := hidx hb1
  clear hb1
  go_wp2_with fail
  refine (c1 _).mono ?_
  rintro e w2 ⟨rfl, hb2⟩
  have HB2 := hidx (HB1.out.trans (hb2.mono HB1.out.size))
  clear hb2
  go_wp2_with (go_at_call 34; refine (Tryd.cmp_Compare_int _ _ _).mono ?_; rintro e w3 ⟨rfl, hw3⟩; have hw3 := hw3.symm; subst hw3)
  go_ret
  exact ⟨rfl, HB2.out⟩
set_option maxRecDepth 100000 in
theorem ch_none_text (t : ByteArray) (w : World) : Calls Tryd.prog 32 #[H.none.val, (H.text t).val] w fun e w' => e = .returned (.int .i64 (cmpH H.none (H.text t))) ∧ Below w.heap.size w w' := by
  have a0 := fun w => as_none_number w
  have b0 := fun w => as_text_number t w
  have a1 := fun w => as_none_text w
  have b1 := fun w => as_text_text t w
  have a2 := fun w => as_none_truth w
  have b2 := fun w => as_text_truth t w
  have af := field_k
  have c0 := release_any H.none
  have c1 := release_any (H.text t)
  unfold H.val H.out av at c0 c1
  have ek : cmpH H.none (H.text t) = Lib.compareInt 0 2 := rfl
  rw [ek]
  unfold H.val
  go_enter Tryd.func32, Tryd.ntmps32
  go_wp2_with fail
  refine (c0 _).mono ?_
  rintro e w1 ⟨rfl, hb1⟩
  have HB1 := hidx hb1
  clear hb1
  go_wp2_with fail
  refine (c1 _).mono ?_
  rintro e w2 ⟨rfl, hb2⟩
  have HB2 := hidx (HB1.out.trans (hb2.mono HB1.out.size))
  clear hb2
  go_wp2_with (go_at_call 34; refine (Tryd.cmp_Compare_int _ _ _).mono ?_; rintro e w3 ⟨rfl, hw3⟩; have hw3 := hw3.symm; subst hw3)
  go_ret
  exact ⟨rfl, HB2.out⟩
set_option maxRecDepth 100000 in
theorem ch_none_truth (c : Bool) (w : World) : Calls Tryd.prog 32 #[H.none.val, (H.truth c).val] w fun e w' => e = .returned (.int .i64 (cmpH H.none (H.truth c))) ∧ Below w.heap.size w w' := by
  have a0 := fun w => as_none_number w
  have b0 := fun w => as_truth_number c w
  have a1 := fun w => as_none_text w
  have b1 := fun w => as_truth_text c w
  have a2 := fun w => as_none_truth w
  have b2 := fun w => as_truth_truth c w
  have af := field_k
  have c0 := release_any H.none
  have c1 := release_any (H.truth c)
  unfold H.val H.out av at c0 c1
  have ek : cmpH H.none (H.truth c) = Lib.compareInt 0 3 := rfl
  rw [ek]
  unfold H.val
  go_enter Tryd.func32, Tryd.ntmps32
  go_wp2_with fail
  refine (c0 _).mono ?_
  rintro e w1 ⟨rfl, hb1⟩
  have HB1 := hidx hb1
  clear hb1
  go_wp2_with fail
  refine (c1 _).mono ?_
  rintro e w2 ⟨rfl, hb2⟩
  have HB2 := hidx (HB1.out.trans (hb2.mono HB1.out.size))
  clear hb2
  go_wp2_with (go_at_call 34; refine (Tryd.cmp_Compare_int _ _ _).mono ?_; rintro e w3 ⟨rfl, hw3⟩; have hw3 := hw3.symm; subst hw3)
  go_ret
  exact ⟨rfl, HB2.out⟩
set_option maxRecDepth 100000 in
theorem ch_none_none (w : World) : Calls Tryd.prog 32 #[H.none.val, H.none.val] w fun e w' => e = .returned (.int .i64 (cmpH H.none H.none)) ∧ Below w.heap.size w w' := by
  have a0 := fun w => as_none_number w
  have b0 := fun w => as_none_number w
  have a1 := fun w => as_none_text w
  have b1 := fun w => as_none_text w
  have a2 := fun w => as_none_truth w
  have b2 := fun w => as_none_truth w
  have af := field_k
  have c0 := release_any H.none
  have c1 := release_any H.none
  unfold H.val H.out av at c0 c1
  have ek : cmpH H.none H.none = Lib.compareInt 0 0 := rfl
  rw [ek]
  unfold H.val
  go_enter Tryd.func32, Tryd.ntmps32
  go_wp2_with fail
  refine (c0 _).mono ?_
  rintro e w1 ⟨rfl, hb1⟩
  have HB1 := hidx hb1
  clear hb1
  go_wp2_with fail
  refine (c1 _).mono ?_
  rintro e w2 ⟨rfl, hb2⟩
  have HB2 := hidx (HB1.out.trans (hb2.mono HB1.out.size))
  clear hb2
  go_wp2_with (go_at_call 34; refine (Tryd.cmp_Compare_int _ _ _).mono ?_; rintro e w3 ⟨rfl, hw3⟩; have hw3 := hw3.symm; subst hw3)
  go_ret
  exact ⟨rfl, HB2.out⟩

theorem compareHeld_any (h1 h2 : H) (w : World) (u1 : h1.utf) (u2 : h2.utf) (z1 : ∀ s, h1 = .text s → s.size ≤ 16777216) (hT : Lib.Utf8Tabs 0 1 w) :
    Calls Tryd.prog 32 #[h1.val, h2.val] w fun e w' => e = .returned (.int .i64 (cmpH h1 h2)) ∧ Below w.heap.size w w' := by
  cases h1 with
  | nothing =>
    cases h2 with
    | nothing => exact ch_nothing_nothing w
    | number m => exact ch_nothing_number m w
    | text t => exact ch_nothing_text t w
    | truth c => exact ch_nothing_truth c w
    | none => exact ch_nothing_none w
  | number n =>
    cases h2 with
    | nothing => exact ch_number_nothing n w
    | number m => exact ch_number_number n m w
    | text t => exact ch_number_text n t w
    | truth c => exact ch_number_truth n c w
    | none => exact ch_number_none n w
  | text s =>
    cases h2 with
    | nothing => exact ch_text_nothing s w
    | number m => exact ch_text_number s m w
    | text t =>
      obtain ⟨ra, hA⟩ := u1
      obtain ⟨rb, hB⟩ := u2
      have e : cmpH (H.text s) (H.text t) = cmpL ra rb := by simp only [cmpH]; rw [hA, hB]; rfl
      rw [e]
      exact compareHeld_text s t ra rb w (z1 s rfl) hA hB hT
    | truth c => exact ch_text_truth s c w
    | none => exact ch_text_none s w
  | truth b =>
    cases h2 with
    | nothing => exact ch_truth_nothing b w
    | number m => exact ch_truth_number b m w
    | text t => exact ch_truth_text b t w
    | truth c => exact ch_truth_truth b c w
    | none => exact ch_truth_none b w
  | none =>
    cases h2 with
    | nothing => exact ch_none_nothing w
    | number m => exact ch_none_number m w
    | text t => exact ch_none_text t w
    | truth c => exact ch_none_truth c w
    | none => exact ch_none_none w
end Go.Proofs.YtadkmnckjennoaaDoor
