/- keys.Compare of two lists of one text each. -/
import Derived.Test.YtadkmnckjennoaaDoorX1
import Derived.Test.YtadkmnckjennoaaDoorC2
set_option linter.unusedVariables false
namespace Go.Proofs.YtadkmnckjennoaaDoor
open Go.RowKit
attribute [local go_sem ↓] Go.wp_at_zero Go.wp_at_succ

set_option maxRecDepth 100000 in
set_option maxHeartbeats 1000000 in
theorem compareHeld_text (s t : ByteArray) (ra rb : List Nat) (w : World) (hs : s.size ≤ 16777216) (hA : runes (bl s) = some ra) (hB : runes (bl t) = some rb) (hT : Lib.Utf8Tabs 0 1 w) :
    Calls Tryd.prog 32 #[(H.text s).val, (H.text t).val] w fun e w' => e = .returned (.int .i64 (cmpL ra rb)) ∧ Below w.heap.size w w' := by
  have a0 := fun w => as_text_number s w
  have a1 := fun w => as_text_text s w
  have a2 := fun w => as_text_truth s w
  have b0 := fun w => as_text_number t w
  have b1 := fun w => as_text_text t w
  have b2 := fun w => as_text_truth t w
  have cT := compareTexts_any s t ra rb w hs hA hB hT
  generalize cmpL ra rb = c at cT ⊢
  unfold H.val
  go_enter Tryd.func32, Tryd.ntmps32
  go_wp2_with fail
  refine cT.mono ?_
  rintro e w1 ⟨rfl, hb1⟩
  have HB1 := hidx hb1
  clear hb1
  go_wp2
  go_ret
  exact ⟨rfl, HB1.out⟩

structure CY (w : World) (g1 g2 : Nat) (s t : ByteArray) (wx : World) : Prop where
  s1 : Box g1 2 0 s wx
  s2 : Box g2 2 0 t wx
  bel : Below w.heap.size w wx
  l1 : g1 < wx.heap.size
  l2 : g2 < wx.heap.size
  tab : Lib.Utf8Tabs 0 1 wx
theorem CY.next {w w1 w2 : World} {g1 g2 : Nat} {s t : ByteArray} (h : Hid (CY w g1 g2 s t w1)) (hb : Below w1.heap.size w1 w2) : Hid (CY w g1 g2 s t w2) :=
  ⟨h.out.s1.later hb h.out.l1, h.out.s2.later hb h.out.l2, h.out.bel.trans (hb.mono h.out.bel.size), Nat.lt_of_lt_of_le h.out.l1 hb.size, Nat.lt_of_lt_of_le h.out.l2 hb.size, Utf8Tabs_below h.out.tab hb⟩
theorem CY.drew {w w1 : World} {g1 g2 : Nat} {s t : ByteArray} (h : Hid (CY w g1 g2 s t w1)) : Hid (CY w g1 g2 s t w1.drew) := CY.next h (Below.refl _ _).drew

set_option maxRecDepth 100000 in
set_option maxHeartbeats 2000000 in
theorem compare_texts (g1 g2 : Nat) (s t : ByteArray) (ra rb : List Nat) (w : World) (hs : s.size ≤ 16777216) (hA : runes (bl s) = some ra) (hB : runes (bl t) = some rb) (h1 : Box g1 2 0 s w) (h2 : Box g2 2 0 t w) (hT : Lib.Utf8Tabs 0 1 w) (l1 : g1 < w.heap.size) (l2 : g2 < w.heap.size) :
    Calls Tryd.prog 21 #[.slice (some ⟨g1, 0, none⟩) 1 1, .slice (some ⟨g2, 0, none⟩) 1 1] w fun e w' => e = .returned (.int .i64 (cmpL ra rb)) ∧ Below w.heap.size w w' := by
  have HC0 : Hid (CY w g1 g2 s t w) := ⟨h1, h2, Below.refl _ _, l1, l2, hT⟩
  have HC : Hid (CY w g1 g2 s t w.drew) := CY.drew HC0
  have kh := hold_any
  unfold av at kh
  have ct := fun ww (hh : Lib.Utf8Tabs 0 1 ww) => compareHeld_text s t ra rb ww hs hA hB hh
  have e1 : holdOf 2 0 s = H.text s := by simp [holdOf]
  have e2 : holdOf 2 0 t = H.text t := by simp [holdOf]
  clear h1 h2 hT hA hB hs HC0
  generalize cmpL ra rb = c at ct ⊢
  by_cases hc : c = 0
  · subst hc
    go_enter Tryd.func21, Tryd.ntmps21
    go_wp2
    refine wp_loop_rounds 2 ?_
    rw [rounds_succ]
    go_wp2_with fail
    go_region_held3 (fun wx => (wx.cell? ⟨g1, 0, none⟩ = some (.int .i64 2) ∧ wx.cell? ⟨g1, 1, none⟩ = some (.int .i64 0) ∧ wx.cell? ⟨g1, 2, none⟩ = some (.string s)) ∧ (wx.cell? ⟨g2, 0, none⟩ = some (.int .i64 2) ∧ wx.cell? ⟨g2, 1, none⟩ = some (.int .i64 0) ∧ wx.cell? ⟨g2, 2, none⟩ = some (.string t)))
      (exact ⟨HC.out.s1, HC.out.s2⟩)
      (first
      | (go_at_call 33; refine (kh _ _ _ _).mono ?_; rintro e wn ⟨rfl, hbn⟩; simp only [e1, e2]; have HC := CY.next HC hbn; clear hbn)
      | (go_at_call 32; refine (ct _ HC.out.tab).mono ?_; rintro e wn ⟨rfl, hbn⟩; have HC := CY.next HC hbn; clear hbn))
    go_wp2
    rw [rounds_succ]
    go_wp2_with (go_at_call 34; refine (Tryd.cmp_Compare_int _ _ _).mono ?_; rintro e w3 ⟨rfl, hw3⟩; have hw3 := hw3.symm; subst hw3)
    go_ret
    exact ⟨rfl, HC.out.bel⟩
  · have hne : (c != 0) = true := by simp [hc]
    go_enter Tryd.func21, Tryd.ntmps21
    go_wp2
    refine wp_loop_rounds 1 ?_
    rw [rounds_succ]
    go_wp2_with fail
    go_region_held3 (fun wx => (wx.cell? ⟨g1, 0, none⟩ = some (.int .i64 2) ∧ wx.cell? ⟨g1, 1, none⟩ = some (.int .i64 0) ∧ wx.cell? ⟨g1, 2, none⟩ = some (.string s)) ∧ (wx.cell? ⟨g2, 0, none⟩ = some (.int .i64 2) ∧ wx.cell? ⟨g2, 1, none⟩ = some (.int .i64 0) ∧ wx.cell? ⟨g2, 2, none⟩ = some (.string t)))
      (exact ⟨HC.out.s1, HC.out.s2⟩)
      (first
      | (go_at_call 33; refine (kh _ _ _ _).mono ?_; rintro e wn ⟨rfl, hbn⟩; simp only [e1, e2]; have HC := CY.next HC hbn; clear hbn)
      | (go_at_call 32; refine (ct _ HC.out.tab).mono ?_; rintro e wn ⟨rfl, hbn⟩; have HC := CY.next HC hbn; clear hbn))
    go_wp2
    go_ret
    exact ⟨rfl, HC.out.bel⟩
end Go.Proofs.YtadkmnckjennoaaDoor
