/- What a law's first look asks of keys: Read of a byte 9, Compare of a truth and a number. -/
import Derived.Test.YtadkmnckjennoaaDoorC2
set_option linter.unusedVariables false
namespace Go.Proofs.YtadkmnckjennoaaDoor
open Go.RowKit
attribute [local go_sem ↓] Go.wp_at_zero Go.wp_at_succ

set_option maxRecDepth 100000 in
set_option maxHeartbeats 1000000 in
theorem read_nine (g : Nat) (w : World) (hc : w.cell? ⟨g, 0, none⟩ = some (.int .u8 9)) :
    Calls Tryd.prog 17 #[.slice (some ⟨g, 0, none⟩) 1 1] w fun e w' => e = .returned (.tuple #[.slice none 0 0, .int .i64 11]) ∧ w' = w := by
  go_enter Tryd.func17, Tryd.ntmps17
  go_wp2
  refine wp_loop_rounds 1 ?_
  rw [rounds_succ]
  go_wp2
  go_ret2
  exact ⟨rfl, rfl⟩

set_option maxRecDepth 100000 in
set_option maxHeartbeats 1000000 in
theorem compareHeld_told (w : World) :
    Calls Tryd.prog 32 #[(H.truth false).val, (H.number 9).val] w fun e w' => e = .returned (.int .i64 1) ∧ Below w.heap.size w w' := by
  have a0 := fun w => as_truth_number false w
  have a1 := fun w => as_truth_text false w
  have a2 := fun w => as_truth_truth false w
  have b0 := fun w => as_number_number 9 w
  have b1 := fun w => as_number_text 9 w
  have b2 := fun w => as_number_truth 9 w
  have af : ∀ (a b c : Value) (w : World), (Instr.field 23 (.agg #[a, b, c]) 0).run Tryd.prog w = .ok a w := fun a b c w => by kernel_rfl
  have c0 := release_any (.truth false)
  have c1 := release_any (.number 9)
  unfold H.val H.out av at c0 c1
  unfold H.val
  go_enter Tryd.func32, Tryd.ntmps32
  go_wp2_with fail
  refine (c0 _).mono ?_
  rintro e w1 ⟨rfl, hb1⟩
  have HB1 := hidc hb1
  clear hb1
  go_wp2_with fail
  refine (c1 _).mono ?_
  rintro e w2 ⟨rfl, hb2⟩
  have HB2 := hidc (HB1.out.trans (hb2.mono HB1.out.size))
  clear hb2
  go_wp2_with (go_at_call 34; refine (Tryd.cmp_Compare_int _ _ _).mono ?_; rintro e w3 ⟨rfl, hw3⟩; have hw3 := hw3.symm; subst hw3)
  go_ret
  exact ⟨rfl, HB2.out⟩

/-- The two lists lie in their blocks. -/
def S6 (g1 g2 : Nat) (w : World) : Prop := (w.cell? ⟨g1, 0, none⟩ = some (.int .i64 3) ∧ w.cell? ⟨g1, 1, none⟩ = some (.int .i64 0) ∧ w.cell? ⟨g1, 2, none⟩ = some (.string ⟨#[]⟩)) ∧ (w.cell? ⟨g2, 0, none⟩ = some (.int .i64 1) ∧ w.cell? ⟨g2, 1, none⟩ = some (.int .i64 9) ∧ w.cell? ⟨g2, 2, none⟩ = some (.string ⟨#[]⟩))
theorem S6.later {g1 g2 : Nat} {w w1 : World} (h : S6 g1 g2 w) (hb : Below w.heap.size w w1) (h1 : g1 < w.heap.size) (h2 : g2 < w.heap.size) : S6 g1 g2 w1 :=
  ⟨Box.later h.1 hb h1, Box.later h.2 hb h2⟩

structure CW (w : World) (g1 g2 : Nat) (wx : World) : Prop where
  s : S6 g1 g2 wx
  bel : Below w.heap.size w wx
  l1 : g1 < wx.heap.size
  l2 : g2 < wx.heap.size
theorem CW.next {w w1 w2 : World} {g1 g2 : Nat} (h : Hid (CW w g1 g2 w1)) (hb : Below w1.heap.size w1 w2) : Hid (CW w g1 g2 w2) :=
  ⟨h.out.s.later hb h.out.l1 h.out.l2, h.out.bel.trans (hb.mono h.out.bel.size), Nat.lt_of_lt_of_le h.out.l1 hb.size, Nat.lt_of_lt_of_le h.out.l2 hb.size⟩

set_option maxRecDepth 100000 in
set_option maxHeartbeats 1000000 in
theorem compare_told (g1 g2 : Nat) (w : World) (hS : S6 g1 g2 w) (h1 : g1 < w.heap.size) (h2 : g2 < w.heap.size) :
    Calls Tryd.prog 21 #[.slice (some ⟨g1, 0, none⟩) 1 1, .slice (some ⟨g2, 0, none⟩) 1 1] w fun e w' => e = .returned (.int .i64 1) ∧ Below w.heap.size w w' := by
  have HS := hidc hS
  clear hS
  have kh := hold_any
  unfold av at kh
  have ct := compareHeld_told
  have e1 : holdOf 3 0 ⟨#[]⟩ = H.truth false := by simp [holdOf]
  have e2 : holdOf 1 9 ⟨#[]⟩ = H.number 9 := by simp [holdOf]
  go_enter Tryd.func21, Tryd.ntmps21
  go_wp2
  refine wp_loop_rounds 1 ?_
  rw [rounds_succ]
  go_wp2_with fail
  have HC : Hid (CW w g1 g2 w.drew) := ⟨HS.out, (Below.refl _ w).drew, h1, h2⟩
  go_region_held3 (fun wx => (wx.cell? ⟨g1, 0, none⟩ = some (.int .i64 3) ∧ wx.cell? ⟨g1, 1, none⟩ = some (.int .i64 0) ∧ wx.cell? ⟨g1, 2, none⟩ = some (.string ⟨#[]⟩)) ∧ (wx.cell? ⟨g2, 0, none⟩ = some (.int .i64 1) ∧ wx.cell? ⟨g2, 1, none⟩ = some (.int .i64 9) ∧ wx.cell? ⟨g2, 2, none⟩ = some (.string ⟨#[]⟩)))
    (exact HC.out.s)
    (first
    | (go_at_call 33; refine (kh _ _ _ _).mono ?_; rintro e wn ⟨rfl, hbn⟩; simp only [e1, e2]; have HC := CW.next HC hbn; clear hbn)
    | (go_at_call 32; refine (ct _).mono ?_; rintro e wn ⟨rfl, hbn⟩; have HC := CW.next HC hbn; clear hbn))
  go_wp2
  go_ret
  exact ⟨rfl, HC.out.bel⟩
end Go.Proofs.YtadkmnckjennoaaDoor
