/- schema.fits and Fits. -/
import Derived.Test.YtcophbkgighepaaH9
import Derived.Test.YtcophbkgighepaaRG
set_option linter.unusedVariables false
namespace Go.Proofs.Ytcophbkgighepaa
open Go.RowKit

/-- Does a value fit a column? -/
def fitsB (c : Col) (v : Val) : Bool := decide (v.err = 0) && (decide (v.1 = c.2.1) || decide (v.1 = 0)) && decide ((rcn v.2.2 : Int) ≤ c.2.2)
set_option maxRecDepth 100000 in
set_option maxHeartbeats 4000000 in
theorem fits_any (c : Col) (v : Val) (w : World) (hs : v.2.2.size ≤ 1048576) :
    Calls Try.prog 32 #[.agg #[.string c.1, .int .i64 c.2.1, .int .i64 c.2.2], .agg #[.int .i64 v.1, .int .i64 v.2.1, .string v.2.2]] w fun e w' => e = .returned (.bool (fitsB c v)) ∧ Below w.heap.size w w' := by
  obtain ⟨w1, hw1⟩ : ∃ w1, w1 = (w.alloc (.cells #[.string c.1, .int .i64 c.2.1, .int .i64 c.2.2] 59)).alloc (.cells #[.int .i64 v.1, .int .i64 v.2.1, .string v.2.2] 39) := ⟨_, rfl⟩
  obtain ⟨L, hL⟩ : ∃ L, w.heap.size = L := ⟨_, rfl⟩
  have HR1 : Hid (w1.heap[L]? = some (.cells #[.string c.1, .int .i64 c.2.1, .int .i64 c.2.2] 59 (0, 0))) := by show _ = _; rw [hw1, ← hL]; exact heap_alloc2_old w _ _
  have HA1 : Hid (w1.heap[L + 1]? = some (.cells #[.int .i64 v.1, .int .i64 v.2.1, .string v.2.2] 39 (0, 0))) := by show _ = _; rw [hw1, ← hL]; exact heap_alloc2_new w _ _
  have hb1 : Below w.heap.size w w1 := by rw [hw1]; exact (below_box w _).trans ((below_box _ _).mono (below_box w _).size)
  have HW1 : Hid (Below L w w1) := by show Below L w w1; rw [← hL]; exact hb1
  have HE1 := hide hw1
  have HRT := hide (right_any v.1 v.2.1 v.2.2 w1 hs)
  rw [hL]
  clear hb1 hw1
  go_enter Try.func32, Try.ntmps32
  go_upto_region 1 with fail
  rw [← HE1.out]
  try simp only [hL]
  have y0 : w1.cell? ⟨L + 1, 0, none⟩ = some (.int .i64 v.1) := cell_blk HA1.out
  have y1 : w1.cell? ⟨L + 1, 1, none⟩ = some (.int .i64 v.2.1) := cell_blk HA1.out
  have y2 : w1.cell? ⟨L + 1, 2, none⟩ = some (.string v.2.2) := cell_blk HA1.out
  have HER : Hid (v.err = rightOf v.1 v.2.1 v.2.2) := rfl
  by_cases he : v.err = 0
  · rw [← HER.out, he] at HRT
    obtain ⟨rs, hrs⟩ := right_runes (HER.out.symm.trans he)
    have HRC : Hid (rcn v.2.2 = rs.length) := by show _ = _; unfold rcn; rw [hrs]; rfl
    have HRS := hide hrs
    have HE := hide he
    clear he hrs
    go_wp2_with fail
    refine HRT.out.mono ?_
    rintro e w2 ⟨rfl, hb2⟩
    have HW2 : Hid (Below L w w2) := HW1.out.trans (hb2.mono (by have := blk_lt HR1.out; omega))
    have HR2 := hide ((hb2.block L (blk_lt HR1.out)).trans HR1.out)
    have HA2 := hide ((hb2.block (L + 1) (blk_lt HA1.out)).trans HA1.out)
    have z0 : w2.cell? ⟨L + 1, 0, none⟩ = some (.int .i64 v.1) := cell_blk HA2.out
    have z1 : w2.cell? ⟨L, 1, none⟩ = some (.int .i64 c.2.1) := cell_blk HR2.out
    have HRU := hide (sruns_ok v.2.2 rs w2.drew (by omega) HRS.out)
    have HX : Hid ((fun wx => wx.cell? ⟨L + 1, 2, none⟩ = some (.string v.2.2) ∧ wx.cell? ⟨L, 2, none⟩ = some (.int .i64 c.2.2)) w2.drew) := ⟨cell_blk (show w2.drew.heap[L + 1]? = _ from HA2.out), cell_blk (show w2.drew.heap[L]? = _ from HR2.out)⟩
    clear hb2 y0 y1 y2 HRT
    have hx : v.1 = c.2.1 ∨ (v.1 ≠ c.2.1 ∧ v.1 = 0) ∨ (v.1 ≠ c.2.1 ∧ v.1 ≠ 0) := by
      by_cases h1 : v.1 = c.2.1
      · exact Or.inl h1
      · by_cases h2 : v.1 = 0
        · exact Or.inr (Or.inl ⟨h1, h2⟩)
        · exact Or.inr (Or.inr ⟨h1, h2⟩)
    have fin : ∀ b : Bool, b = decide ((rs.length : Int) ≤ c.2.2) → (decide (v.1 = c.2.1) || decide (v.1 = 0)) = true → fitsB c v = b := by
      intro b hb ho
      unfold fitsB
      rw [decide_eq_true HE.out, ho, HRC.out, hb]
      rfl
    have HFIN := hide fin
    clear fin
    rcases hx with h1 | ⟨h1, h2⟩ | ⟨h1, h2⟩
    · have q1 : (v.1 != c.2.1) = false := by rw [h1]; simp
      have HOR : Hid ((decide (v.1 = c.2.1) || decide (v.1 = 0)) = true) := by show _ = _; rw [decide_eq_true h1]; rfl
      clear h1
      generalize rs.length = m at *
      go_upto_region 3 with fail
      refine wp_region_noPanic ?_
      refine wp_region_held_drew (S := fun wx => wx.cell? ⟨L + 1, 2, none⟩ = some (.string v.2.2) ∧ wx.cell? ⟨L, 2, none⟩ = some (.int .i64 c.2.2)) (by kernel_rfl) HX.out (fun hHeld => ?_)
      refine wpAnyH_takeAt (i := 0) (d := 20) (v := ?va0) (by kernel_rfl) (by kernel_rfl) (by kernel_rfl) (by kernel_rfl) (fun _ _ _ h => h) ?hya0 (by assumption) ?resta0
      case hya0 =>
        intro oi ho
        simp only [List.getElem?_toArray, List.getElem?_cons_zero, Option.some.injEq] at ho
        subst ho
        refine Or.inl ⟨by rfl, ?_⟩
        intro wx hSw
        try dsimp only at hSw
        obtain ⟨hs1, hs2⟩ := hSw
        go_simp
        try rfl
      try simp only [Act.put, List.setIfInBounds_toArray, List.set_cons_zero, List.set_cons_succ]
      refine wpAnyH_takeAt (i := 1) (d := 21) (v := ?va1) (by kernel_rfl) (by kernel_rfl) (by kernel_rfl) (by kernel_rfl) (fun _ _ _ h => h) ?hya1 (by assumption) ?resta1
      case hya1 =>
        intro oi ho
        simp only [List.getElem?_toArray, List.getElem?_cons_succ, List.getElem?_cons_zero, Option.some.injEq] at ho
        subst ho
        refine Or.inl ⟨by rfl, ?_⟩
        intro wx hSw
        try dsimp only at hSw
        obtain ⟨hs1, hs2⟩ := hSw
        go_simp
        try rfl
      try simp only [Act.put, List.setIfInBounds_toArray, List.set_cons_zero, List.set_cons_succ]
      refine wpAnyH_takeAt (i := 3) (d := 23) (v := ?va3) (by kernel_rfl) (by kernel_rfl) (by kernel_rfl) (by kernel_rfl) (fun _ _ _ h => h) ?hya3 (by assumption) ?resta3
      case hya3 =>
        intro oi ho
        simp only [List.getElem?_toArray, List.getElem?_cons_succ, List.getElem?_cons_zero, Option.some.injEq] at ho
        subst ho
        refine Or.inl ⟨by rfl, ?_⟩
        intro wx hSw
        try dsimp only at hSw
        obtain ⟨hs1, hs2⟩ := hSw
        go_simp
        try rfl
      try simp only [Act.put, List.setIfInBounds_toArray, List.set_cons_zero, List.set_cons_succ]
      refine wpAnyH_takeAt (i := 4) (d := 24) (v := ?va4) (by kernel_rfl) (by kernel_rfl) (by kernel_rfl) (by kernel_rfl) (fun _ _ _ h => h) ?hya4 (by assumption) ?resta4
      case hya4 =>
        intro oi ho
        simp only [List.getElem?_toArray, List.getElem?_cons_succ, List.getElem?_cons_zero, Option.some.injEq] at ho
        subst ho
        refine Or.inl ⟨by rfl, ?_⟩
        intro wx hSw
        try dsimp only at hSw
        obtain ⟨hs1, hs2⟩ := hSw
        go_simp
        try rfl
      try simp only [Act.put, List.setIfInBounds_toArray, List.set_cons_zero, List.set_cons_succ]
      refine wpAnyH_comesAt (i := 2) (by kernel_rfl) (by kernel_rfl) ?_
      intro o ho K hK
      simp only [List.getElem?_toArray, List.getElem?_cons_succ, List.getElem?_cons_zero, Option.some.injEq] at ho
      subst ho
      go_simp
      refine HRU.out.mono ?_
      rintro e w3 ⟨rfl, hb3⟩
      have HW3 : Hid (Below L w w3) := HW2.out.trans ⟨hb3.os, hb3.tape, hb3.output, hb3.size, fun i hi => hb3.block i (by show i < w2.heap.size; have := blk_lt HR2.out; omega)⟩
      have hX3 : w3.cell? ⟨L + 1, 2, none⟩ = some (.string v.2.2) ∧ w3.cell? ⟨L, 2, none⟩ = some (.int .i64 c.2.2) := ⟨(hb3.cell (blk_lt HA2.out)).trans (cell_blk HA2.out), (hb3.cell (blk_lt HR2.out)).trans (cell_blk HR2.out)⟩
      clear hb3 hHeld
      refine hK.out _ _ hX3 (fun hHeld => ?_)
      clear hX3
      clear hK K
      try simp only [Act.put, List.setIfInBounds_toArray, List.set_cons_zero, List.set_cons_succ]
      refine wpAnyH_takeAt (i := 5) (d := 25) (v := ?vb5) (by kernel_rfl) (by kernel_rfl) (by kernel_rfl) (by kernel_rfl) (fun _ _ _ h => h) ?hyb5 (by assumption) ?restb5
      case hyb5 =>
        intro oi ho
        simp only [List.getElem?_toArray, List.getElem?_cons_succ, List.getElem?_cons_zero, Option.some.injEq] at ho
        subst ho
        refine Or.inl ⟨by rfl, ?_⟩
        intro wx hSw
        try dsimp only at hSw
        go_simp
        try rfl
      try simp only [Act.put, List.setIfInBounds_toArray, List.set_cons_zero, List.set_cons_succ]
      refine wpAnyH_takeAt (i := 6) (d := 4) (v := ?vb6) (by kernel_rfl) (by kernel_rfl) (by kernel_rfl) (by kernel_rfl) (fun _ _ _ h => h) ?hyb6 (by assumption) ?restb6
      case hyb6 =>
        intro oi ho
        simp only [List.getElem?_toArray, List.getElem?_cons_succ, List.getElem?_cons_zero, Option.some.injEq] at ho
        subst ho
        refine Or.inl ⟨by rfl, ?_⟩
        intro wx hSw
        try dsimp only at hSw
        go_simp
        try rfl
      try simp only [Act.put, List.setIfInBounds_toArray, List.set_cons_zero, List.set_cons_succ]
      refine wpAnyH_done (by kernel_rfl) ?_ _
      refine NoPanic.normal ?_
      go_wp2
      go_ret
      exact ⟨by rw [HFIN.out _ rfl HOR.out]; rfl, HW3.out⟩
    · have q1 : (v.1 != c.2.1) = true := by simp [h1]
      have q2 : (v.1 != 0) = false := by rw [h2]; rfl
      have HOR : Hid ((decide (v.1 = c.2.1) || decide (v.1 = 0)) = true) := by show _ = _; rw [decide_eq_true h2, Bool.or_true]
      clear h1 h2
      generalize rs.length = m at *
      go_upto_region 3 with fail
      refine wp_region_noPanic ?_
      refine wp_region_held_drew (S := fun wx => wx.cell? ⟨L + 1, 2, none⟩ = some (.string v.2.2) ∧ wx.cell? ⟨L, 2, none⟩ = some (.int .i64 c.2.2)) (by kernel_rfl) HX.out (fun hHeld => ?_)
      refine wpAnyH_takeAt (i := 0) (d := 20) (v := ?vc0) (by kernel_rfl) (by kernel_rfl) (by kernel_rfl) (by kernel_rfl) (fun _ _ _ h => h) ?hyc0 (by assumption) ?restc0
      case hyc0 =>
        intro oi ho
        simp only [List.getElem?_toArray, List.getElem?_cons_zero, Option.some.injEq] at ho
        subst ho
        refine Or.inl ⟨by rfl, ?_⟩
        intro wx hSw
        try dsimp only at hSw
        obtain ⟨hs1, hs2⟩ := hSw
        go_simp
        try rfl
      try simp only [Act.put, List.setIfInBounds_toArray, List.set_cons_zero, List.set_cons_succ]
      refine wpAnyH_takeAt (i := 1) (d := 21) (v := ?vc1) (by kernel_rfl) (by kernel_rfl) (by kernel_rfl) (by kernel_rfl) (fun _ _ _ h => h) ?hyc1 (by assumption) ?restc1
      case hyc1 =>
        intro oi ho
        simp only [List.getElem?_toArray, List.getElem?_cons_succ, List.getElem?_cons_zero, Option.some.injEq] at ho
        subst ho
        refine Or.inl ⟨by rfl, ?_⟩
        intro wx hSw
        try dsimp only at hSw
        obtain ⟨hs1, hs2⟩ := hSw
        go_simp
        try rfl
      try simp only [Act.put, List.setIfInBounds_toArray, List.set_cons_zero, List.set_cons_succ]
      refine wpAnyH_takeAt (i := 3) (d := 23) (v := ?vc3) (by kernel_rfl) (by kernel_rfl) (by kernel_rfl) (by kernel_rfl) (fun _ _ _ h => h) ?hyc3 (by assumption) ?restc3
      case hyc3 =>
        intro oi ho
        simp only [List.getElem?_toArray, List.getElem?_cons_succ, List.getElem?_cons_zero, Option.some.injEq] at ho
        subst ho
        refine Or.inl ⟨by rfl, ?_⟩
        intro wx hSw
        try dsimp only at hSw
        obtain ⟨hs1, hs2⟩ := hSw
        go_simp
        try rfl
      try simp only [Act.put, List.setIfInBounds_toArray, List.set_cons_zero, List.set_cons_succ]
      refine wpAnyH_takeAt (i := 4) (d := 24) (v := ?vc4) (by kernel_rfl) (by kernel_rfl) (by kernel_rfl) (by kernel_rfl) (fun _ _ _ h => h) ?hyc4 (by assumption) ?restc4
      case hyc4 =>
        intro oi ho
        simp only [List.getElem?_toArray, List.getElem?_cons_succ, List.getElem?_cons_zero, Option.some.injEq] at ho
        subst ho
        refine Or.inl ⟨by rfl, ?_⟩
        intro wx hSw
        try dsimp only at hSw
        obtain ⟨hs1, hs2⟩ := hSw
        go_simp
        try rfl
      try simp only [Act.put, List.setIfInBounds_toArray, List.set_cons_zero, List.set_cons_succ]
      refine wpAnyH_comesAt (i := 2) (by kernel_rfl) (by kernel_rfl) ?_
      intro o ho K hK
      simp only [List.getElem?_toArray, List.getElem?_cons_succ, List.getElem?_cons_zero, Option.some.injEq] at ho
      subst ho
      go_simp
      refine HRU.out.mono ?_
      rintro e w3 ⟨rfl, hb3⟩
      have HW3 : Hid (Below L w w3) := HW2.out.trans ⟨hb3.os, hb3.tape, hb3.output, hb3.size, fun i hi => hb3.block i (by show i < w2.heap.size; have := blk_lt HR2.out; omega)⟩
      have hX3 : w3.cell? ⟨L + 1, 2, none⟩ = some (.string v.2.2) ∧ w3.cell? ⟨L, 2, none⟩ = some (.int .i64 c.2.2) := ⟨(hb3.cell (blk_lt HA2.out)).trans (cell_blk HA2.out), (hb3.cell (blk_lt HR2.out)).trans (cell_blk HR2.out)⟩
      clear hb3 hHeld
      refine hK.out _ _ hX3 (fun hHeld => ?_)
      clear hX3
      clear hK K
      try simp only [Act.put, List.setIfInBounds_toArray, List.set_cons_zero, List.set_cons_succ]
      refine wpAnyH_takeAt (i := 5) (d := 25) (v := ?vd5) (by kernel_rfl) (by kernel_rfl) (by kernel_rfl) (by kernel_rfl) (fun _ _ _ h => h) ?hyd5 (by assumption) ?restd5
      case hyd5 =>
        intro oi ho
        simp only [List.getElem?_toArray, List.getElem?_cons_succ, List.getElem?_cons_zero, Option.some.injEq] at ho
        subst ho
        refine Or.inl ⟨by rfl, ?_⟩
        intro wx hSw
        try dsimp only at hSw
        go_simp
        try rfl
      try simp only [Act.put, List.setIfInBounds_toArray, List.set_cons_zero, List.set_cons_succ]
      refine wpAnyH_takeAt (i := 6) (d := 4) (v := ?vd6) (by kernel_rfl) (by kernel_rfl) (by kernel_rfl) (by kernel_rfl) (fun _ _ _ h => h) ?hyd6 (by assumption) ?restd6
      case hyd6 =>
        intro oi ho
        simp only [List.getElem?_toArray, List.getElem?_cons_succ, List.getElem?_cons_zero, Option.some.injEq] at ho
        subst ho
        refine Or.inl ⟨by rfl, ?_⟩
        intro wx hSw
        try dsimp only at hSw
        go_simp
        try rfl
      try simp only [Act.put, List.setIfInBounds_toArray, List.set_cons_zero, List.set_cons_succ]
      refine wpAnyH_done (by kernel_rfl) ?_ _
      refine NoPanic.normal ?_
      go_wp2
      go_ret
      exact ⟨by rw [HFIN.out _ rfl HOR.out]; rfl, HW3.out⟩
    · have q1 : (v.1 != c.2.1) = true := by simp [h1]
      have q2 : (v.1 != 0) = true := by simp [h2]
      have HF : Hid (fitsB c v = false) := by
        show _ = _
        unfold fitsB
        rw [decide_eq_false h1, decide_eq_false h2]
        simp
      clear h1 h2
      go_wp2
      go_ret
      exact ⟨by rw [HF.out]; rfl, HW2.out⟩
  · have HF : Hid (fitsB c v = false) := by
      show _ = _
      unfold fitsB
      rw [decide_eq_false he]
      rfl
    rw [← HER.out] at HRT
    have q0 : (v.err != 0) = true := by simp [he]
    clear he
    generalize v.err = er at *
    go_wp2_with fail
    refine HRT.out.mono ?_
    rintro e w2 ⟨rfl, hb2⟩
    have HW2 : Hid (Below L w w2) := HW1.out.trans (hb2.mono (by have := blk_lt HR1.out; omega))
    clear hb2 HRT
    go_wp2
    go_ret
    exact ⟨by rw [HF.out]; rfl, HW2.out⟩
end Go.Proofs.Ytcophbkgighepaa
