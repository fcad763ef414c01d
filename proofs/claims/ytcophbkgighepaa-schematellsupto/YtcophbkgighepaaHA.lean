/- schema.fits and Fits. -/
import Derived.Test.YtcophbkgighepaaH9
import Derived.Test.YtcophbkgighepaaRG
set_option linter.unusedVariables false
namespace Go.Proofs.Ytcophbkgighepaa
open Go.RowKit

/-- Does a value fit a column? -/
def fitsB (c : Col) (v : Val) : Bool := decide (v.err = 0) && (decide (v.1 = c.2.1) || decide (v.1 = 0)) && decide ((rcn v.2.2 : Int) ≤ c.2.2)
set_option maxRecDepth 100000 in
set_option maxHeartbeats 4000000 in
theorem fits_any (c : Col) (v : Val) (w : World) (hs : v.2.2.size ≤ 1048576) :
    Calls Try.prog 32 #[.agg #[.string c.1, .int .i64 c.2.1, .int .i64 c.2.2], .agg #[.int .i64 v.1, .int .i64 v.2.1, .string v.2.2]] w fun e w' => e = .returned (.bool (fitsB c v)) ∧ Below w.heap.size w w' := by
  obtain ⟨w1, hw1⟩ : ∃ w1, w1 = (w.alloc (.cells #[.string c.1, .int .i64 c.2.1, .int .i64 c.2.2] 59)).alloc (.cells #[.int .i64 v.1, .int .i64 v.2.1, .string v.2.2] 39) := ⟨_, rfl⟩
  obtain ⟨L, hL⟩ : ∃ L, w.heap.size = L := ⟨_, rfl⟩
  have HR1 : Hid (w1.heap[L]? = some (.cells #[.string c.1, .int .i64 c.2.1, .int .i64 c.2.2] 59 (0, 0))) := by show _ = _; rw [hw1, ← hL]; exact heap_alloc2_old w _ _
  have HA1 : Hid (w1.heap[L + 1]? = some (.cells #[.int .i64 v.1, .int .i64 v.2.1, .string v.2.2] 39 (0, 0))) := by show _ = _; rw [hw1, ← hL]; exact heap_alloc2_new w _ _
  have hb1 : Below w.heap.size w w1 := by rw [hw1]; exact (below_box w _).trans ((below_box _ _).mono (below_box w _).size)
  have HW1 : Hid (Below L w w1) := by show Below L w w1; rw [← hL]; exact hb1
  have HE1 := hide hw1
  have HRT := hide (right_any v.1 v.2.1 v.2.2 w1 hs)
  rw [hL]
  clear hb1 hw1
  go_enter Try.func32, Try.ntmps32
  go_upto_region 1 with fail
  rw [← HE1.out]
  try simp only [hL]
  have y0 : w1.cell? ⟨L + 1, 0, none⟩ = some (.int .i64 v.1) := cell_blk HA1.out
  have y1 : w1.cell? ⟨L + 1, 1, none⟩ = some (.int .i64 v.2.1) := cell_blk HA1.out
  have y2 : w1.cell? ⟨L + 1, 2, none⟩ = some (.string v.2.2) := cell_blk HA1.out
  have HER : Hid (v.err = rightOf v.1 v.2.1 v.2.2) := rfl
  by_cases he : v.err = 0
  · rw [← HER.out, he] at HRT
    obtain ⟨rs, hrs⟩ := right_runes (HER.out.symm.trans he)
    have HRC : Hid (rcn v.2.2 = rs.length) := by show _ = _; unfold rcn; rw [hrs]; rfl
    have HRS := hide hrs
    have HE := hide he
    clear he hrs
    go_wp2_with fail
    refine HRT.out.mono ?_
    rintro e w2 ⟨rfl, hb2⟩
    have HW2 : Hid (Below L w w2) := HW1.out.trans (hb2.mono (by have := blk_lt HR1.out; omega))
    have HR2 := hide ((hb2.block L (blk_lt HR1.out)).trans HR1.out)
    have HA2 := hide ((hb2.block (L + 1) (blk_lt HA1.out)).trans HA1.out)
    have z0 : w2.cell? ⟨L + 1, 0, none⟩ = some (.int .i64 v.1) := cell_blk HA2.out
    have z1 : w2.cell? ⟨L, 1, none⟩ = some (.int .i64 c.2.1) := cell_blk HR2.out
    have HRU := hide (sruns_ok v.2.2 rs w2.drew (by omega) HRS.out)
    have HX : Hid ((fun wx => wx.cell? ⟨L + 1, 2, none⟩ = some (.string v.2.2) ∧ wx.cell? ⟨L, 2, none⟩ = some (.int .i64 c.2.2)) w2.drew) := ⟨cell_blk (show w2.drew.heap[L + 1]? = _ from HA2.out), cell_blk (show w2.drew.heap[L]? = _ from HR2.out)⟩
    clear hb2 y0 y1 y2 HRT
    have hx : v.1 = c.2.1 ∨ (v.1 ≠ c.2.1 ∧ v.1 = 0) ∨ (v.1 ≠ c.2.1 ∧ v.1 ≠ 0) := by
      by_cases h1 : v.1 = c.2.1
      · exact Or.inl h1
      · by_cases h2 : v.1 = 0
        · exact Or.inr (Or.inl ⟨h1, h2⟩)
        · exact Or.inr (Or.inr ⟨h1, h2⟩)
    have fin : ∀ b : Bool, b = decide ((rs.length : Int) ≤ c.2.2) → (decide (v.1 = c.2.1) || decide (v.1 = 0)) = true → fitsB c v = b := by
      intro b hb ho
      unfold fitsB
      rw [decide_eq_true HE.out, ho, HRC.out, hb]
      rfl
    have HFIN := hide fin
    clear fin
    rcases hx with h1 | ⟨h1, h2⟩ | ⟨h1, h2⟩
    · have q1 : (v.1 != c.2.1) = false := by rw [h1]; simp
      have HOR : Hid ((decide (v.1 = c.2.1) || decide (v.1 = 0)) = true) := by show _ = _; rw [decide_eq_true h1]; rfl
      clear h1
      generalize rs.length = m at *
      go_upto_region 3 with fail
      refine wp_region_noPanic ?_
      refine wp_region_held_drew (S := fun wx => wx.cell? ⟨L + 1, 2, none⟩ = some (.string v.2.2) ∧ wx.cell? ⟨L, 2, none⟩ = some (.int .i64 c.2.2)) (by kernel_rfl) HX.out (fun hHeld => ?_)
      refine wpAnyH_takeAt (i := 0) (d := 20) (v := ?va0) (by kernel_rfl) (by kernel_rfl) (by kernel_rfl) (by kernel_rfl) (fun _ _ _ h => h) ?hya0 (by assumption) ?resta0
      case hya0 =>
        intro oi ho
        simp only [List.getElem?_toArray, List.getElem?_cons_zero, Option.some.injEq] at ho
        subst ho
        refine Or.inl ⟨by rfl, ?_⟩
        intro wx hSw
        try dsimp only at hSw
        obtain ⟨hs1, hs2⟩ := hSw
        go_simp
        try rfl
      try simp only [Act.put, List.setIfInBounds_toArray, List.set_cons_zero, List.set_cons_succ]
      refine wpAnyH_takeAt (i := 1) (d := 21) (v := ?va1) (by kernel_rfl) (by kernel_rfl) (by kernel_rfl) (by kernel_rfl) (fun _ _ _ h => h) ?hya1 (by assumption) ?resta1
      case hya1 =>
        intro oi ho
        simp only [List.getElem?_toArray, List.getElem?_cons_succ, List.getElem?_cons_zero, Option.some.injEq] at ho
        subst ho
        refine Or.inl ⟨by rfl, ?_⟩
        intro wx hSw
        try dsimp only at hSw
        obtain ⟨hs1, hs2⟩ := hSw
        go_simp
        try rfl
      try simp only [Act.put, List.setIfInBounds_toArray, List.set_cons_zero, List.set_cons_succ]
      refine wpAnyH_takeAt (i := 3) (d := 23) (v := ?va3) (by kernel_rfl) (by kernel_rfl) (by kernel_rfl) (by kernel_rfl) (fun _ _ _ h => h) ?hya3 (by assumption) ?resta3
      case hya3 =>
        intro oi ho
        simp only [List.getElem?_toArray, List.getElem?_cons_succ, List.getElem?_cons_zero, Option.some.injEq] at ho
        subst ho
        refine Or.inl ⟨by rfl, ?_⟩
        intro wx hSw
        try dsimp only at hSw
        obtain ⟨hs1, hs2⟩ := hSw
        go_simp
        try rfl
      try simp only [Act.put, List.setIfInBounds_toArray, List.set_cons_zero, List.set_cons_succ]
      refine wpAnyH_takeAt (i := 4) (d := 24) (v := ?va4) (by kernel_rfl) (by kernel_rfl) (by kernel_rfl) (by kernel_rfl) (fun _ _ _ h => h) ?hya4 (by assumption) ?resta4
      case hya4 =>
        intro oi ho
        simp only [List.getElem?_toArray, List.getElem?_cons_succ, List.getElem?_cons_zero, Option.some.injEq] at ho
        subst ho
        refine Or.inl ⟨by rfl, ?_⟩
        intro wx hSw
        try dsimp only at hSw
        obtain ⟨hs1, hs2⟩ := hSw
        go_simp
        try rfl
      try simp only [Act.put, List.setIfInBounds_toArray, List.set_cons_zero, List.set_cons_succ]
      refine wpAnyH_comesAt (i := 2) (by kernel_rfl) (by kernel_rfl) ?_
      intro o ho K hK
      simp only [List.getElem?_toArray, List.getElem?_cons_succ, List.getElem?_cons_zero, Option.some.injEq] at ho
      subst ho
      go_simp
      refine HRU.out.mono ?_
      rintro e w3 ⟨rfl, hb3⟩
      have HW3 : Hid (Below L w w3) := HW2.out.trans ⟨hb3.os, hb3.tape, hb3.output, hb3.size, fun i hi => hb3.block i (by show i < w2.heap.size; have := blk_lt HR2.out; omega)⟩
      have hX3 : w3.cell? ⟨L + 1, 2, none⟩ = some (.string v.2.2) ∧ w3.cell? ⟨L, 2, none⟩ = some (.int .i64 c.2.2) := ⟨(hb3.cell (blk_lt HA2.out)).trans (cell_blk HA2.out), (hb3.cell (blk_lt HR2.out)).trans (cell_blk HR2.out)⟩
      clear hb3 hHeld
      refine hK.out _ _ hX3 (fun hHeld => ?_)
      clear hX3
      clear hK K
      try simp only [Act.put, List.setIfInBounds_toArray, List.set_cons_zero, List.set_cons_succ]
      refine wpAnyH_takeAt (i := 5) (d := 25) (v := ?vb5) (by kernel_rfl) (by kernel_rfl) (by kernel_rfl) (by kernel_rfl) (fun _ _ _ h => h) ?hyb5 (by assumption) ?restb5
      case hyb5 =>
        intro oi ho
        simp only [List.getElem?_toArray, List.getElem?_cons_succ, List.getElem?_cons_zero, Option.some.injEq] at ho
        subst ho
        refine Or.inl ⟨by rfl, ?_⟩
        intro wx hSw
        try dsimp only at hSw
        go_simp
        try rfl
      try simp only [Act.put, List.setIfInBounds_toArray, List.set_cons_zero, List.set_cons_succ]
      refine wpAnyH_takeAt (i := 6) (d := 4) (v := ?vb6) (by kernel_rfl) (by kernel_rfl) (by kernel_rfl) (by kernel_rfl) (fun _ _ _ h => h) ?hyb6 (by assumption) ?restb6
      case hyb6 =>
        intro oi ho
        simp only [List.getElem?_toArray, List.getElem?_cons_succ, List.getElem?_cons_zero, Option.some.injEq] at ho
        subst ho
        refine Or.inl ⟨by rfl, ?_⟩
        intro wx hSw
        try dsimp only at hSw
        go_simp
        try rfl
      try simp only [Act.put, List.setIfInBounds_toArray, List.set_cons_zero, List.set_cons_succ]
      refine wpAnyH_done (by kernel_rfl) ?_ _
      refine NoPanic.normal ?_
      go_wp2
      go_ret
      exact ⟨by rw [HFIN.out _ rfl HOR.out]; rfl, HW3.out⟩
    · have q1 : (v.1 != c.2.1) = true := by simp [h1]
      have q2 : (v.1 != 0) = false := by rw [h2]; rfl
      have HOR : Hid ((decide (v.1 = c.2.1) || decide (v.1 = 0)) = true) := by show _ = _; rw [decide_eq_true h2, Bool.or_true]
      clear h1 h2
      generalize rs.length = m at *
      go_upto_region 3 with fail
      refine wp_region_noPanic ?_
      refine wp_region_held_drew (S := fun wx => wx.cell? ⟨L + 1, 2, none⟩ = some (.string v.2.2) ∧ wx.cell? ⟨L, 2, none⟩ = some (.int .i64 c.2.2)) (by kernel_rfl) HX.out (fun hHeld => ?_)
      refine wpAnyH_takeAt (i := 0) (d := 20) (v := ?vc0) (by kernel_rfl) (by kernel_rfl) (by kernel_rfl) (by kernel_rfl) (fun _ _ _ h => h) ?hyc0 (by assumption) ?restc0
      case hyc0 =>
        intro oi ho
        simp only [List.getElem?_toArray, List.getElem?_cons_zero, Option.some.injEq] at ho
        subst ho
        refine Or.inl ⟨by rfl, ?_⟩
        intro wx hSw
        try dsimp only at hSw
        obtain ⟨hs1, hs2⟩ := hSw
        go_simp
        try rfl
      try simp only [Act.put, List.setIfInBounds_toArray, List.set_cons_zero, List.set_cons_succ]
      refine wpAnyH_takeAt (i := 1) (d := 21) (v := ?vc1) (by kernel_rfl) (by kernel_rfl) (by kernel_rfl) (by kernel_rfl) (fun _ _ _ h => h) ?hyc1 (by assumption) ?restc1
      case hyc1 =>
        intro oi ho
        simp only [List.getElem?_toArray, List.getElem?_cons_succ, List.getElem?_cons_zero, Option.some.injEq] at ho
        subst ho
        refine Or.inl ⟨by rfl, ?_⟩
        intro wx hSw
        try dsimp only at hSw
        obtain ⟨hs1, hs2⟩ := hSw
        go_simp
        try rfl
      try simp only [Act.put, List.setIfInBounds_toArray, List.set_cons_zero, List.set_cons_succ]
      refine wpAnyH_takeAt (i := 3) (d := 23) (v := ?vc3) (by kernel_rfl) (by kernel_rfl) (by kernel_rfl) (by kernel_rfl) (fun _ _ _ h => h) ?hyc3 (by assumption) ?restc3
      case hyc3 =>
        intro oi ho
        simp only [List.getElem?_toArray, List.getElem?_cons_succ, List.getElem?_cons_zero, Option.some.injEq] at ho
        subst ho
        refine Or.inl ⟨by rfl, ?_⟩
        intro wx hSw
        try dsimp only at hSw
        obtain ⟨hs1, hs2⟩ := hSw
        go_simp
        try rfl
      try simp only [Act.put, List.setIfInBounds_toArray, List.set_cons_zero, List.set_cons_succ]
      refine wpAnyH_takeAt (i := 4) (d := 24) (v := ?vc4) (by kernel_rfl) (by kernel_rfl) (by kernel_rfl) (by kernel_rfl) (fun _ _ _ h => h) ?hyc4 (by assumption) ?restc4
      case hyc4 =>
        intro oi ho
        simp only [List.getElem?_toArray, List.getElem?_cons_succ, List.getElem?_cons_zero, Option.some.injEq] at ho
        subst ho
        refine Or.inl ⟨by rfl, ?_⟩
        intro wx hSw
        try dsimp only at hSw
        obtain ⟨hs1, hs2⟩ := hSw
        go_simp
        try rfl
      try simp only [Act.put, List.setIfInBounds_toArray, List.set_cons_zero, List.set_cons_succ]
      refine wpAnyH_comesAt (i := 2) (by kernel_rfl) (by kernel_rfl) ?_
      intro o ho K hK
      simp only [List.getElem?_toArray, List.getElem?_cons_succ, List.getElem?_cons_zero, Option.some.injEq] at ho
      subst ho
      go_simp
      refine HRU.out.mono ?_
      rintro e w3 ⟨rfl, hb3⟩
      have HW3 : Hid (Below L w w3) := HW2.out.trans ⟨hb3.os, hb3.tape, hb3.output, hb3.size, fun i hi => hb3.block i (by show i < w2.heap.size; have := blk_lt HR2.out; omega)⟩
      have hX3 : w3.cell? ⟨L + 1, 2, none⟩ = some (.string v.2.2) ∧ w3.cell? ⟨L, 2, none⟩ = some (.int .i64 c.2.2) := ⟨(hb3.cell (blk_lt HA2.out)).trans (cell_blk HA2.out), (hb3.cell (blk_lt HR2.out)).trans (cell_blk HR2.out)⟩
      clear hb3 hHeld
      refine hK.out _ _ hX3 (fun hHeld => ?_)
      clear hX3
      clear hK K
      try simp only [Act.put, List.setIfInBounds_toArray, List.set_cons_zero, List.set_cons_succ]
      refine wpAnyH_takeAt (i := 5) (d := 25) (v := ?vd5) (by kernel_rfl) (by kernel_rfl) (by kernel_rfl) (by kernel_rfl) (fun _ _ _ h => h) ?hyd5 (by assumption) ?restd5
      case hyd5 =>
        intro oi ho
        simp only [List.getElem?_toArray, List.getElem?_cons_succ, List.getElem?_cons_zero, Option.some.injEq] at ho
        subst ho
        refine Or.inl ⟨by rfl, ?_⟩
        intro wx hSw
        try dsimp only at hSw
        go_simp
        try rfl
      try simp only [Act.put, List.setIfInBounds_toArray, List.set_cons_zero, List.set_cons_succ]
      refine wpAnyH_takeAt (i := 6) (d := 4) (v := ?vd6) (by kernel_rfl) (by kernel_rfl) (by kernel_rfl) (by kernel_rfl) (fun _ _ _ h => h) ?hyd6 (by assumption) ?restd6
      case hyd6 =>
        intro oi ho
        simp only [List.getElem?_toArray, List.getElem?_cons_succ, List.getElem?_cons_zero, Option.some.injEq] at ho
        subst ho
        refine Or.inl ⟨by rfl, ?_⟩
        intro wx hSw
        try dsimp only at hSw
        go_simp
        try rfl
      try simp only [Act.put, List.setIfInBounds_toArray, List.set_cons_zero, List.set_cons_succ]
      refine wpAnyH_done (by kernel_rfl) ?_ _
      refine NoPanic.normal ?_
      go_wp2
      go_ret
      exact ⟨by rw [HFIN.out _ rfl HOR.out]; rfl, HW3.out⟩
    · have q1 : (v.1 != c.2.1) = true := by simp [h1]
      have q2 : (v.1 != 0) = true := by simp [h2]
      have HF : Hid (fitsB c v = false) := by
        show _ = _
        unfold fitsB
        rw [decide_eq_false h1, decide_eq_false h2]
        simp
      clear h1 h2
      go_wp2
      go_ret
      exact ⟨by rw [HF.out]; rfl, HW2.out⟩
  · have HF : Hid (fitsB c v = false) := by
      show _ = _
      unfold fitsB
      rw [decide_eq_false he]
      rfl
    rw [← HER.out] at HRT
    have q0 : (v.err != 0) = true := by simp [he]
    clear he
    generalize v.err = er at *
    go_wp2_with fail
    refine HRT.out.mono ?_
    rintro e w2 ⟨rfl, hb2⟩
    have HW2 : Hid (Below L w w2) := HW1.out.trans (hb2.mono (by have := blk_lt HR1.out; omega))
    clear hb2 HRT
    go_wp2
    go_ret
    exact ⟨by rw [HF.out]; rfl, HW2.out⟩
end Go.Proofs.Ytcophbkgighepaa
set_option linter.unusedVariables false
namespace Go.Proofs.Ytcophbkgighepaa
open Go.RowKit

def fitsN (s : Sch) (row : List Val) : Nat → Bool
  | 0 => true
  | j + 1 => fitsN s row j && (match s.cs[j]?, row[j]? with | some c, some v => fitsB c v | _, _ => true)
theorem fitsN_no {s : Sch} {row : List Val} {j : Nat} (h : fitsN s row j = false) : ∀ {n : Nat}, j ≤ n → fitsN s row n = false
  | 0, hn => by rw [← show j = 0 by omega]; exact h
  | n + 1, hn => by
    by_cases e : j = n + 1
    · rw [← e]; exact h
    · show (fitsN s row n && _) = false
      rw [fitsN_no h (show j ≤ n by omega), Bool.false_and]
/-- What Fits tells. -/
def Sch.fits (s : Sch) (row : List Val) : Int := if s.ok = false then 61 else if row.length ≠ s.cs.length then 62 else if (row.getD 0 (0, 0, ⟨#[]⟩)).1 = 0 then 62 else if fitsN s row row.length = true then 0 else 62
set_option maxRecDepth 100000 in
set_option maxHeartbeats 4000000 in
theorem sfits_any {w : World} {ca xa : Option Addr} {cl cc xl xc : Nat} {s : Sch} {a : Option Addr} {n cp : Nat} {l : List Val} (h : SC w ca cl cc xa xl xc s) (hv : SV fV 3 w a n cp l) (hs : ∀ x ∈ l, x.2.2.size ≤ 1048576) :
    Calls Try.prog 12 #[.agg #[.string s.nm, .slice ca cl cc, .slice xa xl xc], .slice a n cp] w fun e w' => e = .returned (.int .i64 (s.fits l)) ∧ Below w.heap.size w w' := by
  have hbx := below_box w (.cells #[.string s.nm, .slice ca cl cc, .slice xa xl xc] 25)
  have HR1 : Hid ((w.alloc (.cells #[.string s.nm, .slice ca cl cc, .slice xa xl xc] 25)).heap[w.heap.size]? = some (.cells #[.string s.nm, .slice ca cl cc, .slice xa xl xc] 25 (0, 0))) := boxed w _
  have H1 := hide (h.later hbx)
  have HV1 := hide (hv.later hbx)
  have HW1 := hide hbx
  have HCL := hide h.c.hl
  have HNL := hide hv.hl
  have HS := hide hs
  have HRT := hide (sright_any (h.later hbx))
  clear h hv hs hbx
  go_enter Try.func12, Try.ntmps12
  go_upto_region 1 with fail
  generalize w.alloc (.cells #[.string s.nm, .slice ca cl cc, .slice xa xl xc] 25) = w1 at *
  generalize hL : w.heap.size = L at *
  have y0 : w1.cell? ⟨L, 0, none⟩ = some (.string s.nm) := cell_blk HR1.out
  have y1 : w1.cell? ⟨L, 1, none⟩ = some (.slice ca cl cc) := cell_blk HR1.out
  have y2 : w1.cell? ⟨L, 2, none⟩ = some (.slice xa xl xc) := cell_blk HR1.out
  cases hok : s.ok with
  | false =>
    have HE : Hid (s.fits l = 61) := if_pos hok
    have he : s.err = 61 := if_neg (by rw [hok]; decide)
    rw [he] at HRT
    clear hok he
    go_wp2_with fail
    refine HRT.out.mono ?_
    rintro e w2 ⟨rfl, hb2⟩
    have HW2 : Hid (Below L w w2) := HW1.out.trans (hb2.mono (by have := blk_lt HR1.out; omega))
    clear hb2 HRT
    go_wp2
    go_ret
    exact ⟨by rw [HE.out]; rfl, by first | exact HW2.out | (rw [hL]; exact HW2.out)⟩
  | true =>
    have he : s.err = 0 := if_pos hok
    have HE0 : Hid (s.fits l = if l.length ≠ s.cs.length then 62 else if (l.getD 0 (0, 0, ⟨#[]⟩)).1 = 0 then 62 else if fitsN s l l.length = true then 0 else 62) := if_neg (by rw [hok]; decide)
    have HC1 : Hid (1 ≤ cl ∧ cl ≤ 3) := by
      show 1 ≤ cl ∧ cl ≤ 3
      rw [← HCL.out]
      unfold Sch.ok colsOk at hok
      simp only [Bool.and_eq_true, decide_eq_true_eq] at hok
      exact ⟨hok.1.2.1.1, hok.1.2.1.2⟩
    rw [HNL.out, HCL.out] at HE0
    rw [he] at HRT
    clear hok he
    go_wp2_with fail
    refine HRT.out.mono ?_
    rintro e w2 ⟨rfl, hb2⟩
    have HW2 : Hid (Below L w w2) := HW1.out.trans (hb2.mono (by have := blk_lt HR1.out; omega))
    have HR2 := hide ((hb2.block L (blk_lt HR1.out)).trans HR1.out)
    have H2 := hide (H1.out.later hb2)
    have HV2 := hide (HV1.out.later hb2)
    have z1 : w2.cell? ⟨L, 1, none⟩ = some (.slice ca cl cc) := cell_blk HR2.out
    clear hb2 HRT y0 y1 y2 H1 HV1 HR1
    by_cases hln : n = cl
    · subst hln
      obtain ⟨b0, o0, e0, hb0, hcs0⟩ := HV2.out.pl (by have := HC1.out; omega)
      obtain ⟨v0, hv0⟩ : ∃ v, l[0]? = some v := ⟨_, List.getElem?_eq_getElem (by rw [HNL.out]; exact HC1.out.1)⟩
      have hc0 : w2.cell? ⟨b0, o0, none⟩ = some (.int .i64 v0.1) := by have := hcs0 0 v0 hv0 0 (by omega); simpa [fV] using this
      have hg0 : l.getD 0 (0, 0, ⟨#[]⟩) = v0 := by rw [List.getD_eq_getElem?_getD, hv0]; rfl
      rw [hg0, if_neg (by simp)] at HE0
      have hn0 : (0 : Int) < (n : Int) := by have := HC1.out; omega
      subst e0
      by_cases hz : v0.1 = 0
      · rw [if_pos hz] at HE0
        have hz' : (v0.1 == 0) = true := by rw [hz]; rfl
        clear hz hcs0 hv0 hg0
        go_wp2
        go_ret
        exact ⟨by rw [HE0.out]; rfl, by first | exact HW2.out | (rw [hL]; exact HW2.out)⟩
      · rw [if_neg hz] at HE0
        have hz' : (v0.1 == 0) = false := by simp [hz]
        clear hz hv0 hg0 hcs0
        go_wp2_with fail
        clear hc0 z1
        go_loopg [28] n (fun gh s28 wx => ∃ j : Nat, j + gh = n ∧ s28 = .int .i64 (j : Int) ∧ fitsN s l j = true ∧ Below w2.heap.size w2 wx)
        case atStart => exact ⟨0, by omega, rfl, rfl, Below.refl _ _⟩
        case round =>
          obtain ⟨j, hj, rfl, hyes, hbr⟩ := hrel
          have HY := hide hyes
          have HBR := hide hbr
          clear hyes hbr
          by_cases hjn : j < n
          · have xj : (j : Int) < (n : Int) := by omega
            have xj3 : (j : Int) < 4 := by have := HC1.out.2; omega
            obtain ⟨v, hvj⟩ : ∃ v, l[j]? = some v := ⟨_, List.getElem?_eq_getElem (by rw [HNL.out]; exact hjn)⟩
            obtain ⟨c, hcj⟩ : ∃ c, s.cs[j]? = some c := ⟨_, List.getElem?_eq_getElem (by rw [HCL.out]; exact hjn)⟩
            have HNX : Hid (fitsN s l (j + 1) = fitsB c v) := by
              show (fitsN s l j && (match s.cs[j]?, l[j]? with | some c, some v => fitsB c v | _, _ => true)) = _
              rw [HY.out, hvj, hcj, Bool.true_and]
            have HVS : Hid (v.2.2.size ≤ 1048576) := HS.out v (List.mem_of_getElem? hvj)
            obtain ⟨bv, ov, ev, hbv, hcv⟩ := HV2.out.pl (by omega)
            simp only [Option.some.injEq, Addr.mk.injEq] at ev
            obtain ⟨rfl, rfl, _⟩ := ev
            obtain ⟨b, o, ec, hb, hcc⟩ := H2.out.c.pl (by omega)
            have y0 : wr.cell? ⟨b0, o0 + j * 3, none⟩ = some (.int .i64 v.1) := (HBR.out.cell hbv).trans (hcv j v hvj 0 (by omega))
            have y1 : wr.cell? ⟨b0, o0 + j * 3 + 1, none⟩ = some (.int .i64 v.2.1) := (HBR.out.cell hbv).trans (hcv j v hvj 1 (by omega))
            have y2 : wr.cell? ⟨b0, o0 + j * 3 + 2, none⟩ = some (.string v.2.2) := (HBR.out.cell hbv).trans (hcv j v hvj 2 (by omega))
            have hbk := below_box wr (.cells #[.int .i64 v.1, .int .i64 v.2.1, .string v.2.2] 39)
            have HRV : Hid ((wr.alloc (.cells #[.int .i64 v.1, .int .i64 v.2.1, .string v.2.2] 39)).heap[wr.heap.size]? = some (.cells #[.int .i64 v.1, .int .i64 v.2.1, .string v.2.2] 39 (0, 0))) := boxed wr _
            have hb23 := HBR.out.trans (hbk.mono HBR.out.size)
            have HXA : Hid ((fun wx => wx.cell? ⟨L, 1, none⟩ = some (.slice (some ⟨b, o, none⟩) n cc) ∧ wx.cell? ⟨b, o + j * 3, none⟩ = some (.string c.1) ∧ wx.cell? ⟨b, o + j * 3 + 1, none⟩ = some (.int .i64 c.2.1) ∧ wx.cell? ⟨b, o + j * 3 + 2, none⟩ = some (.int .i64 c.2.2) ∧ wx.cell? ⟨wr.heap.size, 0, none⟩ = some (.int .i64 v.1) ∧ wx.cell? ⟨wr.heap.size, 1, none⟩ = some (.int .i64 v.2.1) ∧ wx.cell? ⟨wr.heap.size, 2, none⟩ = some (.string v.2.2)) (wr.alloc (.cells #[.int .i64 v.1, .int .i64 v.2.1, .string v.2.2] 39))) := by
              subst ec
              exact ⟨(hb23.cell (blk_lt HR2.out)).trans (cell_blk HR2.out), (hb23.cell hb).trans (hcc j c hcj 0 (by omega)), (hb23.cell hb).trans (hcc j c hcj 1 (by omega)), (hb23.cell hb).trans (hcc j c hcj 2 (by omega)), cell_blk HRV.out, cell_blk HRV.out, cell_blk HRV.out⟩
            have HLV : Hid (L < wr.heap.size ∧ b < wr.heap.size) := ⟨Nat.lt_of_lt_of_le (blk_lt HR2.out) HBR.out.size, Nat.lt_of_lt_of_le hb HBR.out.size⟩
            have HW2x : Hid (Below L w (wr.alloc (.cells #[.int .i64 v.1, .int .i64 v.2.1, .string v.2.2] 39))) := HW2.out.trans (hb23.mono (by have := blk_lt HR2.out; omega))
            have HB23 := hide hb23
            subst ec
            clear hcv hcc hvj hcj hbk hb23
            go_upto_region 9 with fail
            clear y0 y1 y2
            have HW2 := HW2x
            clear HW2x
            generalize wr.alloc (.cells #[.int .i64 v.1, .int .i64 v.2.1, .string v.2.2] 39) = wq at *
            generalize wr.heap.size = V at *
            have HXL : Hid (∀ w3, Below wq.heap.size wq w3 → (fun wx => wx.cell? ⟨L, 1, none⟩ = some (.slice (some ⟨b, o, none⟩) n cc) ∧ wx.cell? ⟨b, o + j * 3, none⟩ = some (.string c.1) ∧ wx.cell? ⟨b, o + j * 3 + 1, none⟩ = some (.int .i64 c.2.1) ∧ wx.cell? ⟨b, o + j * 3 + 2, none⟩ = some (.int .i64 c.2.2) ∧ wx.cell? ⟨V, 0, none⟩ = some (.int .i64 v.1) ∧ wx.cell? ⟨V, 1, none⟩ = some (.int .i64 v.2.1) ∧ wx.cell? ⟨V, 2, none⟩ = some (.string v.2.2)) w3) := fun w3 hb3 => by
              obtain ⟨q1, q2, q3, q4, q5, q6, q7⟩ := HXA.out
              have hv := blk_lt HRV.out
              have hl := HLV.out
              exact ⟨(hb3.cell (by show L < _; omega)).trans q1, (hb3.cell (by show b < _; omega)).trans q2, (hb3.cell (by show b < _; omega)).trans q3, (hb3.cell (by show b < _; omega)).trans q4, (hb3.cell hv).trans q5, (hb3.cell hv).trans q6, (hb3.cell hv).trans q7⟩
            have HX : Hid ((fun wx => wx.cell? ⟨L, 1, none⟩ = some (.slice (some ⟨b, o, none⟩) n cc) ∧ wx.cell? ⟨b, o + j * 3, none⟩ = some (.string c.1) ∧ wx.cell? ⟨b, o + j * 3 + 1, none⟩ = some (.int .i64 c.2.1) ∧ wx.cell? ⟨b, o + j * 3 + 2, none⟩ = some (.int .i64 c.2.2) ∧ wx.cell? ⟨V, 0, none⟩ = some (.int .i64 v.1) ∧ wx.cell? ⟨V, 1, none⟩ = some (.int .i64 v.2.1) ∧ wx.cell? ⟨V, 2, none⟩ = some (.string v.2.2)) wq.drew) := HXL.out _ (Below.refl _ _).drew
            have HFI := hide (fits_any c v wq.drew HVS.out)
            cases hf : fitsB c v with
            | false =>
              have HF : Hid (s.fits l = 62) := by
                show _ = _
                rw [HE0.out, if_neg (by rw [fitsN_no (HNX.out.trans hf) (show j + 1 ≤ n by omega)]; decide)]
              rw [hf] at HFI
              clear hf
              refine wp_region_noPanic ?_
              refine wp_region_held_drew (S := fun wx => wx.cell? ⟨L, 1, none⟩ = some (.slice (some ⟨b, o, none⟩) n cc) ∧ wx.cell? ⟨b, o + j * 3, none⟩ = some (.string c.1) ∧ wx.cell? ⟨b, o + j * 3 + 1, none⟩ = some (.int .i64 c.2.1) ∧ wx.cell? ⟨b, o + j * 3 + 2, none⟩ = some (.int .i64 c.2.2) ∧ wx.cell? ⟨V, 0, none⟩ = some (.int .i64 v.1) ∧ wx.cell? ⟨V, 1, none⟩ = some (.int .i64 v.2.1) ∧ wx.cell? ⟨V, 2, none⟩ = some (.string v.2.2)) (by kernel_rfl) HX.out (fun hHeld => ?_)
              refine wpAnyH_takeAt (i := 0) (d := 33) (v := ?vax0) (by kernel_rfl) (by kernel_rfl) (by kernel_rfl) (by kernel_rfl) (fun _ _ _ h => h) ?hyax0 (by assumption) ?restax0
              case hyax0 =>
                intro oi ho
                simp only [List.getElem?_toArray, List.getElem?_cons_zero, Option.some.injEq] at ho
                subst ho
                refine Or.inl ⟨by rfl, ?_⟩
                intro wx hSw
                try dsimp only at hSw
                obtain ⟨hs1, hs2, hs3, hs4, hs5, hs6, hs7⟩ := hSw
                go_simp
                try rfl
              try simp only [Act.put, List.setIfInBounds_toArray, List.set_cons_zero, List.set_cons_succ]
              refine wpAnyH_takeAt (i := 1) (d := 34) (v := ?vax1) (by kernel_rfl) (by kernel_rfl) (by kernel_rfl) (by kernel_rfl) (fun _ _ _ h => h) ?hyax1 (by assumption) ?restax1
              case hyax1 =>
                intro oi ho
                simp only [List.getElem?_toArray, List.getElem?_cons_succ, List.getElem?_cons_zero, Option.some.injEq] at ho
                subst ho
                refine Or.inl ⟨by rfl, ?_⟩
                intro wx hSw
                try dsimp only at hSw
                obtain ⟨hs1, hs2, hs3, hs4, hs5, hs6, hs7⟩ := hSw
                go_simp
                try rfl
              try simp only [Act.put, List.setIfInBounds_toArray, List.set_cons_zero, List.set_cons_succ]
              refine wpAnyH_takeAt (i := 2) (d := 35) (v := ?vax2) (by kernel_rfl) (by kernel_rfl) (by kernel_rfl) (by kernel_rfl) (fun _ _ _ h => h) ?hyax2 (by assumption) ?restax2
              case hyax2 =>
                intro oi ho
                simp only [List.getElem?_toArray, List.getElem?_cons_succ, List.getElem?_cons_zero, Option.some.injEq] at ho
                subst ho
                refine Or.inl ⟨by rfl, ?_⟩
                intro wx hSw
                try dsimp only at hSw
                obtain ⟨hs1, hs2, hs3, hs4, hs5, hs6, hs7⟩ := hSw
                go_simp
                try rfl
              try simp only [Act.put, List.setIfInBounds_toArray, List.set_cons_zero, List.set_cons_succ]
              refine wpAnyH_takeAt (i := 3) (d := 36) (v := ?vax3) (by kernel_rfl) (by kernel_rfl) (by kernel_rfl) (by kernel_rfl) (fun _ _ _ h => h) ?hyax3 (by assumption) ?restax3
              case hyax3 =>
                intro oi ho
                simp only [List.getElem?_toArray, List.getElem?_cons_succ, List.getElem?_cons_zero, Option.some.injEq] at ho
                subst ho
                refine Or.inl ⟨by rfl, ?_⟩
                intro wx hSw
                try dsimp only at hSw
                obtain ⟨hs1, hs2, hs3, hs4, hs5, hs6, hs7⟩ := hSw
                go_simp
                try rfl
              try simp only [Act.put, List.setIfInBounds_toArray, List.set_cons_zero, List.set_cons_succ]
              refine wpAnyH_takeAt (i := 4) (d := 37) (v := ?vax4) (by kernel_rfl) (by kernel_rfl) (by kernel_rfl) (by kernel_rfl) (fun _ _ _ h => h) ?hyax4 (by assumption) ?restax4
              case hyax4 =>
                intro oi ho
                simp only [List.getElem?_toArray, List.getElem?_cons_succ, List.getElem?_cons_zero, Option.some.injEq] at ho
                subst ho
                refine Or.inl ⟨by rfl, ?_⟩
                intro wx hSw
                try dsimp only at hSw
                obtain ⟨hs1, hs2, hs3, hs4, hs5, hs6, hs7⟩ := hSw
                go_simp
                try rfl
              try simp only [Act.put, List.setIfInBounds_toArray, List.set_cons_zero, List.set_cons_succ]
              refine wpAnyH_takeAt (i := 5) (d := 38) (v := ?vax5) (by kernel_rfl) (by kernel_rfl) (by kernel_rfl) (by kernel_rfl) (fun _ _ _ h => h) ?hyax5 (by assumption) ?restax5
              case hyax5 =>
                intro oi ho
                simp only [List.getElem?_toArray, List.getElem?_cons_succ, List.getElem?_cons_zero, Option.some.injEq] at ho
                subst ho
                refine Or.inl ⟨by rfl, ?_⟩
                intro wx hSw
                try dsimp only at hSw
                obtain ⟨hs1, hs2, hs3, hs4, hs5, hs6, hs7⟩ := hSw
                go_simp
                try rfl
              try simp only [Act.put, List.setIfInBounds_toArray, List.set_cons_zero, List.set_cons_succ]
              refine wpAnyH_comesAt (i := 6) (by kernel_rfl) (by kernel_rfl) ?_
              intro o ho K hK
              simp only [List.getElem?_toArray, List.getElem?_cons_succ, List.getElem?_cons_zero, Option.some.injEq] at ho
              subst ho
              go_simp
              refine HFI.out.mono ?_
              rintro e w3 ⟨rfl, hb3⟩
              have HW3 : Hid (Below L w w3) := HW2.out.trans ⟨hb3.os, hb3.tape, hb3.output, hb3.size, fun i hi => hb3.block i (by show i < wq.heap.size; have := HLV.out; have := blk_lt HRV.out; omega)⟩
              have hX3 := HXL.out w3 ⟨hb3.os, hb3.tape, hb3.output, hb3.size, hb3.block⟩
              clear hb3 hHeld
              refine hK.out _ _ hX3 (fun hHeld => ?_)
              clear hX3
              clear hK K
              try simp only [Act.put, List.setIfInBounds_toArray, List.set_cons_zero, List.set_cons_succ]
              refine wpAnyH_takeAt (i := 7) (d := 40) (v := ?vbx7) (by kernel_rfl) (by kernel_rfl) (by kernel_rfl) (by kernel_rfl) (fun _ _ _ h => h) ?hybx7 (by assumption) ?restbx7
              case hybx7 =>
                intro oi ho
                simp only [List.getElem?_toArray, List.getElem?_cons_succ, List.getElem?_cons_zero, Option.some.injEq] at ho
                subst ho
                refine Or.inl ⟨by rfl, ?_⟩
                intro wx hSw
                try dsimp only at hSw
                obtain ⟨hs1, hs2, hs3, hs4, hs5, hs6, hs7⟩ := hSw
                go_simp
                try rfl
              try simp only [Act.put, List.setIfInBounds_toArray, List.set_cons_zero, List.set_cons_succ]
              refine wpAnyH_done (by kernel_rfl) ?_ _
              refine NoPanic.normal ?_
              go_wp2
              go_ret
              exact ⟨by rw [HF.out]; rfl, by first | exact HW3.out | (rw [hL]; exact HW3.out)⟩
            | true =>
              have HF : Hid (fitsN s l (j + 1) = true) := HNX.out.trans hf
              rw [hf] at HFI
              clear hf
              refine wp_region_noPanic ?_
              refine wp_region_held_drew (S := fun wx => wx.cell? ⟨L, 1, none⟩ = some (.slice (some ⟨b, o, none⟩) n cc) ∧ wx.cell? ⟨b, o + j * 3, none⟩ = some (.string c.1) ∧ wx.cell? ⟨b, o + j * 3 + 1, none⟩ = some (.int .i64 c.2.1) ∧ wx.cell? ⟨b, o + j * 3 + 2, none⟩ = some (.int .i64 c.2.2) ∧ wx.cell? ⟨V, 0, none⟩ = some (.int .i64 v.1) ∧ wx.cell? ⟨V, 1, none⟩ = some (.int .i64 v.2.1) ∧ wx.cell? ⟨V, 2, none⟩ = some (.string v.2.2)) (by kernel_rfl) HX.out (fun hHeld => ?_)
              refine wpAnyH_takeAt (i := 0) (d := 33) (v := ?vay0) (by kernel_rfl) (by kernel_rfl) (by kernel_rfl) (by kernel_rfl) (fun _ _ _ h => h) ?hyay0 (by assumption) ?restay0
              case hyay0 =>
                intro oi ho
                simp only [List.getElem?_toArray, List.getElem?_cons_zero, Option.some.injEq] at ho
                subst ho
                refine Or.inl ⟨by rfl, ?_⟩
                intro wx hSw
                try dsimp only at hSw
                obtain ⟨hs1, hs2, hs3, hs4, hs5, hs6, hs7⟩ := hSw
                go_simp
                try rfl
              try simp only [Act.put, List.setIfInBounds_toArray, List.set_cons_zero, List.set_cons_succ]
              refine wpAnyH_takeAt (i := 1) (d := 34) (v := ?vay1) (by kernel_rfl) (by kernel_rfl) (by kernel_rfl) (by kernel_rfl) (fun _ _ _ h => h) ?hyay1 (by assumption) ?restay1
              case hyay1 =>
                intro oi ho
                simp only [List.getElem?_toArray, List.getElem?_cons_succ, List.getElem?_cons_zero, Option.some.injEq] at ho
                subst ho
                refine Or.inl ⟨by rfl, ?_⟩
                intro wx hSw
                try dsimp only at hSw
                obtain ⟨hs1, hs2, hs3, hs4, hs5, hs6, hs7⟩ := hSw
                go_simp
                try rfl
              try simp only [Act.put, List.setIfInBounds_toArray, List.set_cons_zero, List.set_cons_succ]
              refine wpAnyH_takeAt (i := 2) (d := 35) (v := ?vay2) (by kernel_rfl) (by kernel_rfl) (by kernel_rfl) (by kernel_rfl) (fun _ _ _ h => h) ?hyay2 (by assumption) ?restay2
              case hyay2 =>
                intro oi ho
                simp only [List.getElem?_toArray, List.getElem?_cons_succ, List.getElem?_cons_zero, Option.some.injEq] at ho
                subst ho
                refine Or.inl ⟨by rfl, ?_⟩
                intro wx hSw
                try dsimp only at hSw
                obtain ⟨hs1, hs2, hs3, hs4, hs5, hs6, hs7⟩ := hSw
                go_simp
                try rfl
              try simp only [Act.put, List.setIfInBounds_toArray, List.set_cons_zero, List.set_cons_succ]
              refine wpAnyH_takeAt (i := 3) (d := 36) (v := ?vay3) (by kernel_rfl) (by kernel_rfl) (by kernel_rfl) (by kernel_rfl) (fun _ _ _ h => h) ?hyay3 (by assumption) ?restay3
              case hyay3 =>
                intro oi ho
                simp only [List.getElem?_toArray, List.getElem?_cons_succ, List.getElem?_cons_zero, Option.some.injEq] at ho
                subst ho
                refine Or.inl ⟨by rfl, ?_⟩
                intro wx hSw
                try dsimp only at hSw
                obtain ⟨hs1, hs2, hs3, hs4, hs5, hs6, hs7⟩ := hSw
                go_simp
                try rfl
              try simp only [Act.put, List.setIfInBounds_toArray, List.set_cons_zero, List.set_cons_succ]
              refine wpAnyH_takeAt (i := 4) (d := 37) (v := ?vay4) (by kernel_rfl) (by kernel_rfl) (by kernel_rfl) (by kernel_rfl) (fun _ _ _ h => h) ?hyay4 (by assumption) ?restay4
              case hyay4 =>
                intro oi ho
                simp only [List.getElem?_toArray, List.getElem?_cons_succ, List.getElem?_cons_zero, Option.some.injEq] at ho
                subst ho
                refine Or.inl ⟨by rfl, ?_⟩
                intro wx hSw
                try dsimp only at hSw
                obtain ⟨hs1, hs2, hs3, hs4, hs5, hs6, hs7⟩ := hSw
                go_simp
                try rfl
              try simp only [Act.put, List.setIfInBounds_toArray, List.set_cons_zero, List.set_cons_succ]
              refine wpAnyH_takeAt (i := 5) (d := 38) (v := ?vay5) (by kernel_rfl) (by kernel_rfl) (by kernel_rfl) (by kernel_rfl) (fun _ _ _ h => h) ?hyay5 (by assumption) ?restay5
              case hyay5 =>
                intro oi ho
                simp only [List.getElem?_toArray, List.getElem?_cons_succ, List.getElem?_cons_zero, Option.some.injEq] at ho
                subst ho
                refine Or.inl ⟨by rfl, ?_⟩
                intro wx hSw
                try dsimp only at hSw
                obtain ⟨hs1, hs2, hs3, hs4, hs5, hs6, hs7⟩ := hSw
                go_simp
                try rfl
              try simp only [Act.put, List.setIfInBounds_toArray, List.set_cons_zero, List.set_cons_succ]
              refine wpAnyH_comesAt (i := 6) (by kernel_rfl) (by kernel_rfl) ?_
              intro o ho K hK
              simp only [List.getElem?_toArray, List.getElem?_cons_succ, List.getElem?_cons_zero, Option.some.injEq] at ho
              subst ho
              go_simp
              refine HFI.out.mono ?_
              rintro e w3 ⟨rfl, hb3⟩
              have HW3 : Hid (Below L w w3) := HW2.out.trans ⟨hb3.os, hb3.tape, hb3.output, hb3.size, fun i hi => hb3.block i (by show i < wq.heap.size; have := HLV.out; have := blk_lt HRV.out; omega)⟩
              have HBZ : Hid (Below w2.heap.size w2 w3) := HB23.out.trans ((show Below wq.heap.size wq w3 from ⟨hb3.os, hb3.tape, hb3.output, hb3.size, hb3.block⟩).mono HB23.out.size)
              have hX3 := HXL.out w3 ⟨hb3.os, hb3.tape, hb3.output, hb3.size, hb3.block⟩
              clear hb3 hHeld
              refine hK.out _ _ hX3 (fun hHeld => ?_)
              clear hX3
              clear hK K
              try simp only [Act.put, List.setIfInBounds_toArray, List.set_cons_zero, List.set_cons_succ]
              refine wpAnyH_takeAt (i := 7) (d := 40) (v := ?vby7) (by kernel_rfl) (by kernel_rfl) (by kernel_rfl) (by kernel_rfl) (fun _ _ _ h => h) ?hyby7 (by assumption) ?restby7
              case hyby7 =>
                intro oi ho
                simp only [List.getElem?_toArray, List.getElem?_cons_succ, List.getElem?_cons_zero, Option.some.injEq] at ho
                subst ho
                refine Or.inl ⟨by rfl, ?_⟩
                intro wx hSw
                try dsimp only at hSw
                obtain ⟨hs1, hs2, hs3, hs4, hs5, hs6, hs7⟩ := hSw
                go_simp
                try rfl
              try simp only [Act.put, List.setIfInBounds_toArray, List.set_cons_zero, List.set_cons_succ]
              refine wpAnyH_done (by kernel_rfl) ?_ _
              refine NoPanic.normal ?_
              go_wp2
              go_roundg (gk - 1)
              case measure => omega
              case rel => exact ⟨j + 1, by omega, rfl, HF.out, HBZ.out⟩
          · have xj : ¬ (j : Int) < (n : Int) := by omega
            have HF : Hid (s.fits l = 0) := by
              show _ = _
              rw [HE0.out, if_pos (by rw [← show j = n by omega]; exact HY.out)]
            have HW3 : Hid (Below L w wr) := HW2.out.trans (HBR.out.mono (by have := blk_lt HR2.out; omega))
            go_wp2
            go_ret
            exact ⟨by rw [HF.out]; rfl, by first | exact HW3.out | (rw [hL]; exact HW3.out)⟩
    · rw [if_pos hln] at HE0
      have hq : ((n : Int) != (cl : Int)) = true := by simp; omega
      go_wp2
      go_ret
      exact ⟨by rw [HE0.out]; rfl, by first | exact HW2.out | (rw [hL]; exact HW2.out)⟩
end Go.Proofs.Ytcophbkgighepaa
