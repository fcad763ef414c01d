/- The walk of the law KeysRight: whatever value and text of the bulk, it returns true and writes nothing that was there. -/
import Derived.Test.YtnmejnkdgeljeaaDoorF2
import Derived.Test.YtnmejnkdgeljeaaDoorC3
set_option linter.unusedVariables false
namespace Go.Proofs.YtnmejnkdgeljeaaDoor
open Go.RowKit
attribute [local go_sem ↓] Go.wp_at_zero Go.wp_at_succ

structure RWx (w : World) (g : Nat) (k n : Int) (s : ByteArray) (wx : World) : Prop where
  box : Box g k n s wx
  bel : Below w.heap.size w wx
  lt : g < wx.heap.size
theorem RWx.next {w w1 w2 : World} {g : Nat} {k n : Int} {s : ByteArray} (h : Hid (RWx w g k n s w1)) (hb : Below w1.heap.size w1 w2) : Hid (RWx w g k n s w2) :=
  ⟨h.out.box.later hb h.out.lt, h.out.bel.trans (hb.mono h.out.bel.size), Nat.lt_of_lt_of_le h.out.lt hb.size⟩

set_option maxRecDepth 100000 in
set_option maxHeartbeats 2000000 in
theorem keysRight_walk (k n : Int) (s t : ByteArray) (w : World) (hs : s.size ≤ 1048576) (ht : t.size ≤ 1048576) :
    Calls Tryd.prog 3 #[.agg #[.int .i64 k, .int .i64 n, .string s], .string t] w fun e w' => e = .returned (.bool true) ∧ Below w.heap.size w w' := by
  have c1 := fun w => right_any k n s w hs
  have c2 := fun w => refRight_any k n s w hs
  have c3 := fun w => runes_any t w (by omega)
  have c4 := fun w => refRunes_any t w ht
  unfold av at c1 c2
  generalize rightOf k n s = r at c1 c2
  generalize countOf (runes (bl t)) = c at c3 c4
  go_enter Tryd.func3, Tryd.ntmps3
  go_wp2_with fail
  have HC : Hid (RWx w w.heap.size k n s (w.alloc (.cells #[.int .i64 k, .int .i64 n, .string s] 23)).drew) := ⟨Box.new w k n s _, ((Below.refl _ w).alloc (Nat.le_refl _) _).drew, by simp⟩
  go_region_held3 (fun wx => wx.cell? ⟨w.heap.size, 0, none⟩ = some (.int .i64 k) ∧ wx.cell? ⟨w.heap.size, 1, none⟩ = some (.int .i64 n) ∧ wx.cell? ⟨w.heap.size, 2, none⟩ = some (.string s))
    (exact HC.out.box)
    (first
    | (go_at_call 9; refine (told_any _).mono ?_; rintro e wn ⟨rfl, hbn⟩; have HC := RWx.next HC hbn; clear hbn)
    | (go_at_call 10; refine (c1 _).mono ?_; rintro e wn ⟨rfl, hbn⟩; have HC := RWx.next HC hbn; clear hbn)
    | (go_at_call 11; refine (c2 _).mono ?_; rintro e wn ⟨rfl, hbn⟩; have HC := RWx.next HC hbn; clear hbn)
    | (go_at_call 12; refine (c3 _).mono ?_; rintro e wn ⟨rfl, hbn⟩; have HC := RWx.next HC hbn; clear hbn)
    | (go_at_call 13; refine (c4 _).mono ?_; rintro e wn ⟨rfl, hbn⟩; have HC := RWx.next HC hbn; clear hbn))
  all_goals go_wp2
  all_goals go_ret
  all_goals exact ⟨rfl, HC.out.bel⟩
end Go.Proofs.YtnmejnkdgeljeaaDoor
