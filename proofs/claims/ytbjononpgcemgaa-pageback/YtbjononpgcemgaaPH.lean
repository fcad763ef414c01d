/- Contract of Open. -/
import Derived.Test.YtbjononpgcemgaaPG
set_option linter.unusedVariables false
namespace Go.Proofs.Ytbjononpgcemgaa
open Go.RowKit

theorem newSt_len (n : Nat) : (newSt n).length = n := by simp [newSt]
theorem newSt_ok {n num root : Nat} {l : Int} (hn : n ≤ 4096) (h1 : num ≤ 4611686018427387904) (h2 : root ≤ 4096) : (PS.mk (newSt n) l num root).Ok where
  sl := by show (newSt n).length ≤ 4096; rw [newSt_len]; exact hn
  sb := by
    intro c hc
    simp only [newSt, List.mem_map] at hc
    obtain ⟨i, _, rfl⟩ := hc
    split <;> omega
  nm := h1
  rt := h2
theorem open_nil (w : World) : Calls Try.prog 8 #[.pointer none] w fun e w' => e = .returned (.tuple #[.pointer none, .int .i64 1]) ∧ w' = w := by
  go_enter Try.func8, Try.ntmps8
  go_wp2
  go_ret2
  exact ⟨rfl, rfl⟩
set_option maxRecDepth 100000 in
theorem open_down [Gd] (B p : Nat) (s : DS) (w : World) (h : DI B p s w) (h3 : 3 ≤ s.n) (hd : s.down = true) :
    Calls Try.prog 8 #[.pointer (some ⟨p, 0, none⟩)] w fun e w' => e = .returned (.tuple #[.pointer none, .int .i64 20]) ∧ Below w.heap.size w w' := by
  have hz : ∀ ww, (zeroValue 63).run Try.prog ww = .ok (.agg #[.int .i64 0, .int .i64 0]) ww := fun ww => by kernel_rfl
  have HBl := hide (blocks_any B p s w h)
  have HL := hide (lastHead_down B p s w h hd)
  have d1 : ¬ ((s.n : Nat) : Int) < 3 := by omega
  clear h
  generalize s.n = n at *
  go_enter Try.func8, Try.ntmps8
  go_wp2_with fail
  refine HBl.out.mono ?_
  rintro e w1 ⟨rfl, rfl⟩
  go_wp2_with fail
  refine HL.out.mono ?_
  rintro e w2 ⟨rfl, hb2⟩
  have HB2 := hide (hb2.alloc hb2.size (.cells #[.int .i64 0, .int .i64 0] 63))
  clear hb2
  go_wp2
  go_ret2
  exact ⟨rfl, HB2.out⟩
set_option maxRecDepth 100000 in
set_option maxHeartbeats 4000000 in
theorem open_ok [Gd] (B p : Nat) (s : DS) (num root : Nat) (w : World) (h : DI B p s w) (hB : B ≤ w.heap.size) (hd : s.down = false) (h3 : 3 ≤ s.n) (hl : lastH (rdH (pad (s.show 0)) s.n) (rdH (pad (s.show 1)) s.n) = some (num, root)) (h1 : num ≤ 4611686018427387904) (h2 : root ≤ 4096) :
    Calls Try.prog 8 #[.pointer (some ⟨p, 0, none⟩)] w fun e w' => ∃ q, e = .returned (.tuple #[.pointer (some ⟨q, 0, none⟩), .int .i64 0]) ∧ ST B p q s ⟨newSt s.n, s.life, num, root⟩ w' ∧ Below w.heap.size w w' := by
  have hz : ∀ ww, (zeroValue 63).run Try.prog ww = .ok (.agg #[.int .i64 0, .int .i64 0]) ww := fun ww => by kernel_rfl
  have HBl := hide (blocks_any B p s w h)
  have HL := hide (lastHead_ok B p s w h hB hd h3)
  rw [hl] at HL
  have HN2 := hide h.ok.n2
  have HPO := hide (newSt_ok (l := s.life) h.ok.n2 h1 h2)
  have HNL := hide (newSt_len s.n)
  have d1 : ¬ ((s.n : Nat) : Int) < 3 := by omega
  have HD := hide h
  clear h hl
  go_enter Try.func8, Try.ntmps8
  go_wp2_with fail
  refine HBl.out.mono ?_
  rintro e w1 ⟨rfl, rfl⟩
  go_wp2_with fail
  refine HL.out.mono ?_
  rintro e w2 ⟨rfl, hb2⟩
  obtain ⟨w3, HW3⟩ : ∃ w3, w3 = w2.alloc (.cells #[.int .i64 (num : Int), .int .i64 (root : Int)] 63) := ⟨_, rfl⟩
  have HB3 : Hid (Below w1.heap.size w1 w3) := by rw [HW3]; exact hb2.alloc hb2.size _
  have HD3 := hide (HD.out.later HB3.out)
  obtain ⟨h4, HH4⟩ : ∃ h4, h4 = w2.heap.size := ⟨_, rfl⟩
  have HX : Hid ((fun wx => wx.cell? ⟨h4, 0, none⟩ = some (.int .i64 (num : Int)) ∧ wx.cell? ⟨h4, 1, none⟩ = some (.int .i64 (root : Int))) w3) := by rw [HW3, HH4]; exact ⟨cell_blk (heap_alloc_new w2 _), cell_blk (heap_alloc_new w2 _)⟩
  have HHW := hide HW3
  have HHH := hide HH4
  clear hb2 HW3 HH4
  go_wp2_with fail
  rw [← HHH.out, ← HHW.out]
  refine wp_region_noPanic ?_
  refine wp_region_held_drew (S := fun wx => wx.cell? ⟨h4, 0, none⟩ = some (.int .i64 (num : Int)) ∧ wx.cell? ⟨h4, 1, none⟩ = some (.int .i64 (root : Int))) (by kernel_rfl) HX.out (fun hHeld => ?_)
  refine wpAnyH_takeAt (i := 0) (d := 21) (v := ?vz1y0) (by kernel_rfl) (by kernel_rfl) (by kernel_rfl) (by kernel_rfl) (fun _ _ _ h => h) ?hyz1y0 (by assumption) ?restz1y0
  case hyz1y0 =>
    intro oi ho
    simp only [List.getElem?_toArray, List.getElem?_cons_zero, Option.some.injEq] at ho
    subst ho
    refine Or.inl ⟨by rfl, ?_⟩
    intro wx hSw
    try dsimp only at hSw
    go_simp
    try rfl
  try simp only [Act.put, List.setIfInBounds_toArray, List.set_cons_zero, List.set_cons_succ]
  refine wpAnyH_takeAt (i := 3) (d := 24) (v := ?vz2y3) (by kernel_rfl) (by kernel_rfl) (by kernel_rfl) (by kernel_rfl) (fun _ _ _ h => h) ?hyz2y3 (by assumption) ?restz2y3
  case hyz2y3 =>
    intro oi ho
    simp only [List.getElem?_toArray, List.getElem?_cons_succ, List.getElem?_cons_zero, Option.some.injEq] at ho
    subst ho
    refine Or.inl ⟨by rfl, ?_⟩
    intro wx hSw
    try dsimp only at hSw
    go_simp
    try rfl
  try simp only [Act.put, List.setIfInBounds_toArray, List.set_cons_zero, List.set_cons_succ]
  refine wpAnyH_takeAt (i := 4) (d := 25) (v := ?vz3y4) (by kernel_rfl) (by kernel_rfl) (by kernel_rfl) (by kernel_rfl) (fun _ _ _ h => h) ?hyz3y4 (by assumption) ?restz3y4
  case hyz3y4 =>
    intro oi ho
    simp only [List.getElem?_toArray, List.getElem?_cons_succ, List.getElem?_cons_zero, Option.some.injEq] at ho
    subst ho
    refine Or.inl ⟨by rfl, ?_⟩
    intro wx hSw
    try dsimp only at hSw
    go_simp
    try rfl
  try simp only [Act.put, List.setIfInBounds_toArray, List.set_cons_zero, List.set_cons_succ]
  refine wpAnyH_takeAt (i := 6) (d := 27) (v := ?vz4y6) (by kernel_rfl) (by kernel_rfl) (by kernel_rfl) (by kernel_rfl) (fun _ _ _ h => h) ?hyz4y6 (by assumption) ?restz4y6
  case hyz4y6 =>
    intro oi ho
    simp only [List.getElem?_toArray, List.getElem?_cons_succ, List.getElem?_cons_zero, Option.some.injEq] at ho
    subst ho
    refine Or.inl ⟨by rfl, ?_⟩
    intro wx hSw
    try dsimp only at hSw
    go_simp
    try rfl
  try simp only [Act.put, List.setIfInBounds_toArray, List.set_cons_zero, List.set_cons_succ]
  refine wpAnyH_comesAt (i := 1) (by kernel_rfl) (by kernel_rfl) ?_
  intro o ho K hK
  simp only [List.getElem?_toArray, List.getElem?_cons_succ, List.getElem?_cons_zero, Option.some.injEq] at ho
  subst ho
  go_simp
  refine (blocks_any B p s _ (HD3.out.later ((Below.refl _ _).drew))).mono ?_
  rintro e wq ⟨rfl, hq⟩
  have hq := hq.symm
  subst hq
  refine hK.out _ _ hHeld (fun hHeld => ?_)
  clear hK K
  try simp only [Act.put, List.setIfInBounds_toArray, List.set_cons_zero, List.set_cons_succ]
  refine wpAnyH_comesAt (i := 2) (by kernel_rfl) (by kernel_rfl) ?_
  intro o ho K hK
  simp only [List.getElem?_toArray, List.getElem?_cons_succ, List.getElem?_cons_zero, Option.some.injEq] at ho
  subst ho
  go_simp
  refine (newPages_any s.n _ h3 HN2.out).mono ?_
  rintro e w5 ⟨g5, rfl, hr5, hg5, hb5⟩
  have HB5 := hide (((Below.refl _ w3).drew).trans hb5)
  have HR5 := hide hr5
  have HG5 := hide hg5
  have HX5 : Hid ((fun wx => wx.cell? ⟨h4, 0, none⟩ = some (.int .i64 (num : Int)) ∧ wx.cell? ⟨h4, 1, none⟩ = some (.int .i64 (root : Int))) w5) := ⟨(HB5.out.cell (cell_lt HX.out.1)).trans HX.out.1, (HB5.out.cell (cell_lt HX.out.2)).trans HX.out.2⟩
  have HD5 := hide (HD3.out.later HB5.out)
  clear hr5 hg5 hb5 hHeld
  refine hK.out _ _ HX5.out (fun hHeld => ?_)
  clear hK K
  try simp only [Act.put, List.setIfInBounds_toArray, List.set_cons_zero, List.set_cons_succ]
  refine wpAnyH_comesAt (i := 5) (by kernel_rfl) (by kernel_rfl) ?_
  intro o ho K hK
  simp only [List.getElem?_toArray, List.getElem?_cons_succ, List.getElem?_cons_zero, Option.some.injEq] at ho
  subst ho
  go_simp
  refine (life_any B p s _ HD5.out).mono ?_
  rintro e wq ⟨rfl, hq⟩
  have hq := hq.symm
  subst hq
  refine hK.out _ _ hHeld (fun hHeld => ?_)
  clear hK K
  try simp only [Act.put, List.setIfInBounds_toArray, List.set_cons_zero, List.set_cons_succ]
  refine wpAnyH_takeAt (i := 7) (d := 28) (v := ?vz5y7) (by kernel_rfl) (by kernel_rfl) (by kernel_rfl) (by kernel_rfl) (fun _ _ _ h => h) ?hyz5y7 (by assumption) ?restz5y7
  case hyz5y7 =>
    intro oi ho
    simp only [List.getElem?_toArray, List.getElem?_cons_succ, List.getElem?_cons_zero, Option.some.injEq] at ho
    subst ho
    refine Or.inl ⟨by rfl, ?_⟩
    intro wx hSw
    try dsimp only at hSw
    go_simp
    try rfl
  try simp only [Act.put, List.setIfInBounds_toArray, List.set_cons_zero, List.set_cons_succ]
  refine wpAnyH_comesAt (i := 8) (by kernel_rfl) (by kernel_rfl) ?_
  intro o ho K hK
  simp only [List.getElem?_toArray, List.getElem?_cons_succ, List.getElem?_cons_zero, Option.some.injEq] at ho
  subst ho
  have HXX : Hid ((fun wx => wx.cell? ⟨h4, 0, none⟩ = some (.int .i64 (num : Int)) ∧ wx.cell? ⟨h4, 1, none⟩ = some (.int .i64 (root : Int))) (w5.alloc (.cells #[.slice (some ⟨g5, 0, none⟩) s.n s.n, .pointer (some ⟨p, 0, none⟩), .int .i64 s.life, .int .i64 (num : Int), .int .i64 (root : Int)] 71))) := ⟨((below_box w5 _).cell (cell_lt HX5.out.1)).trans HX5.out.1, ((below_box w5 _).cell (cell_lt HX5.out.2)).trans HX5.out.2⟩
  go_simp
  clear hHeld
  refine hK.out _ _ HXX.out (fun hHeld => ?_)
  clear hK K
  try simp only [Act.put, List.setIfInBounds_toArray, List.set_cons_zero, List.set_cons_succ]
  refine wpAnyH_takeAt (i := 9) (d := 2) (v := ?vz6y9) (by kernel_rfl) (by kernel_rfl) (by kernel_rfl) (by kernel_rfl) (fun _ _ _ h => h) ?hyz6y9 (by assumption) ?restz6y9
  case hyz6y9 =>
    intro oi ho
    simp only [List.getElem?_toArray, List.getElem?_cons_succ, List.getElem?_cons_zero, Option.some.injEq] at ho
    subst ho
    refine Or.inl ⟨by rfl, ?_⟩
    intro wx hSw
    try dsimp only at hSw
    go_simp
    try rfl
  try simp only [Act.put, List.setIfInBounds_toArray, List.set_cons_zero, List.set_cons_succ]
  refine wpAnyH_takeAt (i := 10) (d := 3) (v := ?vz7y10) (by kernel_rfl) (by kernel_rfl) (by kernel_rfl) (by kernel_rfl) (fun _ _ _ h => h) ?hyz7y10 (by assumption) ?restz7y10
  case hyz7y10 =>
    intro oi ho
    simp only [List.getElem?_toArray, List.getElem?_cons_succ, List.getElem?_cons_zero, Option.some.injEq] at ho
    subst ho
    refine Or.inl ⟨by rfl, ?_⟩
    intro wx hSw
    try dsimp only at hSw
    go_simp
    try rfl
  try simp only [Act.put, List.setIfInBounds_toArray, List.set_cons_zero, List.set_cons_succ]
  refine wpAnyH_done (by kernel_rfl) ?_ _
  refine NoPanic.normal ?_
  go_wp2
  go_ret2
  have HBX := hide (HB5.out.trans ((below_box w5 (.cells #[.slice (some ⟨g5, 0, none⟩) s.n s.n, .pointer (some ⟨p, 0, none⟩), .int .i64 s.life, .int .i64 (num : Int), .int .i64 (root : Int)] 71)).mono HB5.out.size))
  refine ⟨w5.heap.size, rfl, ⟨HD5.out.later (below_box w5 _), g5, ?_, ?_, ?_, ?_, HPO.out⟩, HB3.out.trans (HBX.out.mono HB3.out.size)⟩
  · have e := heap_alloc_new w5 (.cells #[.slice (some ⟨g5, 0, none⟩) s.n s.n, .pointer (some ⟨p, 0, none⟩), .int .i64 s.life, .int .i64 (num : Int), .int .i64 (root : Int)] 71)
    rw [e]
    show _ = some (Obj.cells (storeV g5 p ⟨newSt s.n, s.life, num, root⟩) _ _)
    unfold storeV
    rw [HNL.out]
  · rw [Below.heap_alloc _ _ _ (Array.getElem?_eq_some_iff.1 HR5.out).1]
    exact HR5.out
  · exact Nat.le_trans (Nat.le_trans hB HB3.out.size) HB5.out.size
  · exact Nat.le_trans (Nat.le_trans hB HB3.out.size) (Nat.le_trans (by simp) HG5.out)
end Go.Proofs.Ytbjononpgcemgaa
