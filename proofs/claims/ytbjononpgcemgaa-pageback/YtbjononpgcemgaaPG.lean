/- Contract of lastHead. -/
import Derived.Test.YtbjononpgcemgaaPD
import Derived.Test.YtbjononpgcemgaaPF
import Derived.Test.YtbjononpgcemgaaRG
import Derived.Deep.MidRow
set_option linter.unusedVariables false
namespace Go.Proofs.Ytbjononpgcemgaa
open Go.RowKit

/-- The head that counts of two. -/
def lastH (a b : Int × Nat) : Option (Nat × Nat) :=
  if (if a.1 < b.1 then b else a).1 = -1 then none
  else if 0 < (if a.1 < b.1 then b else a).1 ∧ (if (if a.1 < b.1 then b else a).1 % 2 = 0 then a.1 else b.1) ≠ (if a.1 < b.1 then b else a).1 then none
  else some ((if a.1 < b.1 then b else a).1.toNat, (if a.1 < b.1 then b else a).2)
theorem rdH_form (xs : List Nat) (n : Nat) (hn : 1 ≤ n) : rdH xs n = (-1, 0) ∨ ∃ num root : Nat, rdH xs n = ((num : Int), root) ∧ num ≤ 4611686018427387904 ∧ root < n := by
  unfold rdH
  split
  · exact Or.inr ⟨0, 0, rfl, by omega, by omega⟩
  · split
    · exact Or.inl rfl
    · rename_i h
      split
      · refine Or.inr ⟨_, _, rfl, ?_, ?_⟩
        · simp only [badH, Bool.or_eq_true, decide_eq_true_eq, not_or] at h
          omega
        · simp only [badH, Bool.or_eq_true, decide_eq_true_eq, not_or] at h
          omega
      · exact Or.inl rfl
def fnd (a b : Int × Nat) (k : Nat) : Array Value := if k = 0 then #[.int .i64 0, .int .i64 0, .int .i64 0, .int .i64 0] else if k = 1 then #[.int .i64 a.1, .int .i64 (a.2 : Nat), .int .i64 0, .int .i64 0] else #[.int .i64 a.1, .int .i64 (a.2 : Nat), .int .i64 b.1, .int .i64 (b.2 : Nat)]
theorem results_head_err {fn : Func} {p u : Tmp} (h : fn.results = #[.cell p 63, .tmp u]) (tmps : Array Value) (w : World) (g : Nat) (t : TypeId) (x y : Value) (fr : Nat × Nat)
    (hp : tmps.getD p undef = .pointer (some ⟨g, 0, none⟩)) (hg : w.heap[g]? = some (.cells #[x, y] t fr)) :
    (results fn tmps).run Try.prog w = .ok (.tuple #[.agg #[x, y], tmps.getD u undef]) w := by
  rw [results_cell_tmp h, hp]
  simp only [asAddr, Sem.run_pure, Result.andThen_ok, run_loadVar_row w g t 63 #[x, y] fr _ hg Try.underlying63 rfl info_head]

set_option maxRecDepth 100000 in
theorem lastHead_down [Gd] (B p : Nat) (s : DS) (w : World) (h : DI B p s w) (hd : s.down = true) :
    Calls Try.prog 25 #[.pointer (some ⟨p, 0, none⟩)] w fun e w' => e = .returned (.tuple #[.agg #[.int .i64 0, .int .i64 0], .int .i64 20]) ∧ Below w.heap.size w w' := by
  have hz : ∀ ww, (zeroValue 63).run Try.prog ww = .ok (.agg #[.int .i64 0, .int .i64 0]) ww := fun ww => by kernel_rfl
  have hz2 : ∀ ww, (zeroValue 89).run Try.prog ww = .ok (.agg #[.int .i64 0, .int .i64 0, .int .i64 0, .int .i64 0]) ww := fun ww => by kernel_rfl
  have HB1 := hide ((below_box w (.cells #[.int .i64 0, .int .i64 0] 63)).alloc (by simp) (.cells #[.int .i64 0, .int .i64 0, .int .i64 0, .int .i64 0] 89))
  have HD := hide (h.later HB1.out)
  have r0 : ((w.alloc (.cells #[.int .i64 0, .int .i64 0] 63)).alloc (.cells #[.int .i64 0, .int .i64 0, .int .i64 0, .int .i64 0] 89)).heap[w.heap.size]? = some (.cells #[.int .i64 0, .int .i64 0] 63 (0, 0)) := heap_alloc2_old _ _ _
  have HR0 := hide r0
  clear h r0
  go_enter Try.func25, Try.ntmps25
  go_wp2
  go_loopw [10] (fun i wr => i = .int .i64 0 ∧ wr = ((w.alloc (.cells #[.int .i64 0, .int .i64 0] 63)).alloc (.cells #[.int .i64 0, .int .i64 0, .int .i64 0, .int .i64 0] 89))) (fun _ _ => 0)
  case atStart => exact ⟨rfl, rfl⟩
  case round =>
    obtain ⟨rfl, hw⟩ := hrel
    rw [← hw] at HD HB1 HR0
    clear hw
    have c40 : wr.cell? ⟨w.heap.size, 0, none⟩ = some (.int .i64 0) := cell_blk HR0.out
    have c41 : wr.cell? ⟨w.heap.size, 1, none⟩ = some (.int .i64 0) := cell_blk HR0.out
    have f40 : wr.frozen? ⟨w.heap.size, 0, none⟩ = false := frz_blk HR0.out
    have f41 : wr.frozen? ⟨w.heap.size, 1, none⟩ = false := frz_blk HR0.out
    go_wp2_with fail
    refine (read_down B p s 0 wr HD.out hd).mono ?_
    rintro e w2 ⟨rfl, rfl⟩
    go_wp2
    (try simp only [Exit.inBlock, Exit.then])
    exact bodyPost_ret (results_head_err Try.results25 _ _ w.heap.size _ _ _ _ rfl (set2 HR0.out)) rfl ⟨rfl, (HB1.out.setCell (Nat.le_refl _) _).setCell (Nat.le_refl _) _⟩

set_option maxRecDepth 100000 in
set_option maxHeartbeats 4000000 in
theorem lastHead_ok [Gd] (B p : Nat) (s : DS) (w : World) (h : DI B p s w) (hB : B ≤ w.heap.size) (hd : s.down = false) (h3 : 3 ≤ s.n) :
    Calls Try.prog 25 #[.pointer (some ⟨p, 0, none⟩)] w fun e w' => e = .returned (match lastH (rdH (pad (s.show 0)) s.n) (rdH (pad (s.show 1)) s.n) with | none => .tuple #[.agg #[.int .i64 0, .int .i64 0], .int .i64 22] | some (num, root) => .tuple #[.agg #[.int .i64 (num : Int), .int .i64 (root : Int)], .int .i64 0]) ∧ Below w.heap.size w w' := by
  have hz : ∀ ww, (zeroValue 63).run Try.prog ww = .ok (.agg #[.int .i64 0, .int .i64 0]) ww := fun ww => by kernel_rfl
  have hz2 : ∀ ww, (zeroValue 89).run Try.prog ww = .ok (.agg #[.int .i64 0, .int .i64 0, .int .i64 0, .int .i64 0]) ww := fun ww => by kernel_rfl
  have HB1 := hide ((below_box w (.cells #[.int .i64 0, .int .i64 0] 63)).alloc (by simp) (.cells #[.int .i64 0, .int .i64 0, .int .i64 0, .int .i64 0] 89))
  have HD := hide h
  have HN2 := hide h.ok.n2
  have HSB := hide (fun i => pad_lt (show_lt h.ok i))
  have HSL := hide (fun i => pad_len (show_len h.ok i))
  obtain ⟨a, ha⟩ : ∃ a, a = rdH (pad (s.show 0)) s.n := ⟨_, rfl⟩
  obtain ⟨b, hb⟩ : ∃ b, b = rdH (pad (s.show 1)) s.n := ⟨_, rfl⟩
  have FA := hide (rdH_form (pad (s.show 0)) s.n (by omega))
  have FB := hide (rdH_form (pad (s.show 1)) s.n (by omega))
  rw [← ha] at FA
  rw [← hb] at FB
  rw [← ha, ← hb]
  have HA := hide ha
  have HBb := hide hb
  generalize hLH : lastH a b = L
  have HLH := hide hLH
  clear h ha hb hLH
  go_enter Try.func25, Try.ntmps25
  go_wp2
  go_loopw [10] (fun i wr => ∃ k : Nat, k ≤ 2 ∧ i = .int .i64 k ∧ wr.heap[w.heap.size]? = some (.cells #[.int .i64 0, .int .i64 0] 63 (0, 0)) ∧ wr.heap[w.heap.size + 1]? = some (.cells (fnd a b k) 89 (0, 0)) ∧ Below w.heap.size w wr) (fun i _ => 2 - (intOf i).toNat)
  case atStart => exact ⟨0, by omega, rfl, heap_alloc2_old _ _ _, heap_alloc2_new _ _ _, HB1.out⟩
  case round =>
    clear HB1
    obtain ⟨k, hk, rfl, hR, hF, hB2⟩ := hrel
    have HR := hide hR
    have HF := hide hF
    have HBW := hide hB2
    have HBZ := hide (Nat.le_trans hB hB2.size)
    have HDW := hide (HD.out.later hB2)
    clear hR hF hB2
    have hk3 : k = 0 ∨ k = 1 ∨ k = 2 := by omega
    rcases hk3 with rfl | rfl | rfl
    · have RO := hide (read_ok B p s 0 wr HDW.out HBZ.out hd (by omega))
      have BO := hide (fun ww h => blocks_any B p s ww h)
      go_wp2_with fail
      refine RO.out.mono ?_
      rintro e w2 ⟨g, rfl, ho2, hb2⟩
      have HX2 := hide (BS.ofOwns ho2 (by unfold blk; omega) (HSB.out 0))
      have HB2 := hide hb2
      have HD2 := hide (HDW.out.later hb2)
      clear ho2 hb2
      go_wp2_with fail
      refine (BO.out _ HD2.out).mono ?_
      rintro e w3 ⟨rfl, rfl⟩
      go_wp2_with fail
      refine (readHead_any g s.n (pad (s.show 0)) w3 HX2.out HN2.out (by omega)).mono ?_
      rintro e w4 ⟨rfl, hb4⟩
      rw [← HA.out]
      have HB4 := hide (HB2.out.trans (hb4.mono HB2.out.size))
      have r4 := (HB4.out.block _ (Array.getElem?_eq_some_iff.1 HF.out).1).trans HF.out
      have HR4 := hide ((HB4.out.block _ (Array.getElem?_eq_some_iff.1 HR.out).1).trans HR.out)
      have c0 : ∃ v, w4.cell? ⟨w.heap.size + 1, 0, none⟩ = some v := ⟨_, (cell_blk r4).trans rfl⟩
      have c1 : ∃ v, w4.cell? ⟨w.heap.size + 1, 1, none⟩ = some v := ⟨_, (cell_blk r4).trans rfl⟩
      obtain ⟨v0, c0⟩ := c0
      obtain ⟨v1, c1⟩ := c1
      have f0 := frz_blk (i := 0) r4
      have f1 := frz_blk (i := 1) r4
      have HF4 := hide r4
      clear hb4 r4
      go_wp2
      refine ⟨⟨1, by omega, by go_num, ?_, ?_, ((HBW.out.trans (HB4.out.mono HBW.out.size)).setCell (Nat.le_succ _) _).setCell (Nat.le_succ _) _⟩, by simp [intOf]⟩
      · rw [heap_setCell_other _ _ _ _ (Nat.ne_of_lt (Nat.lt_succ_self _)), heap_setCell_other _ _ _ _ (Nat.ne_of_lt (Nat.lt_succ_self _))]
        exact HR4.out
      · rw [heap_setCell_same _ _ 1 _ _ _ (heap_setCell_same w4 _ 0 _ _ _ HF4.out)]
        rfl
    · have RO := hide (read_ok B p s 1 wr HDW.out HBZ.out hd (by omega))
      have BO := hide (fun ww h => blocks_any B p s ww h)
      go_wp2_with fail
      refine RO.out.mono ?_
      rintro e w2 ⟨g, rfl, ho2, hb2⟩
      have HX2 := hide (BS.ofOwns ho2 (by unfold blk; omega) (HSB.out 1))
      have HB2 := hide hb2
      have HD2 := hide (HDW.out.later hb2)
      clear ho2 hb2
      go_wp2_with fail
      refine (BO.out _ HD2.out).mono ?_
      rintro e w3 ⟨rfl, rfl⟩
      go_wp2_with fail
      refine (readHead_any g s.n (pad (s.show 1)) w3 HX2.out HN2.out (by omega)).mono ?_
      rintro e w4 ⟨rfl, hb4⟩
      rw [← HBb.out]
      have HB4 := hide (HB2.out.trans (hb4.mono HB2.out.size))
      have r4 := (HB4.out.block _ (Array.getElem?_eq_some_iff.1 HF.out).1).trans HF.out
      have HR4 := hide ((HB4.out.block _ (Array.getElem?_eq_some_iff.1 HR.out).1).trans HR.out)
      have c0 : ∃ v, w4.cell? ⟨w.heap.size + 1, 2, none⟩ = some v := ⟨_, (cell_blk r4).trans rfl⟩
      have c1 : ∃ v, w4.cell? ⟨w.heap.size + 1, 3, none⟩ = some v := ⟨_, (cell_blk r4).trans rfl⟩
      obtain ⟨v0, c0⟩ := c0
      obtain ⟨v1, c1⟩ := c1
      have f0 := frz_blk (i := 2) r4
      have f1 := frz_blk (i := 3) r4
      have HF4 := hide r4
      clear hb4 r4
      go_wp2
      refine ⟨⟨2, by omega, by go_num, ?_, ?_, ((HBW.out.trans (HB4.out.mono HBW.out.size)).setCell (Nat.le_succ _) _).setCell (Nat.le_succ _) _⟩, by simp [intOf]⟩
      · rw [heap_setCell_other _ _ _ _ (Nat.ne_of_lt (Nat.lt_succ_self _)), heap_setCell_other _ _ _ _ (Nat.ne_of_lt (Nat.lt_succ_self _))]
        exact HR4.out
      · rw [heap_setCell_same _ _ 3 _ _ _ (heap_setCell_same w4 _ 2 _ _ _ HF4.out)]
        rfl
    · clear HDW HBZ HD HN2 HSB HSL
      have c0 : wr.cell? ⟨w.heap.size + 1, 0, none⟩ = some (.int .i64 a.1) := cell_blk HF.out
      have c1 : wr.cell? ⟨w.heap.size + 1, 1, none⟩ = some (.int .i64 (a.2 : Nat)) := cell_blk HF.out
      have c2 : wr.cell? ⟨w.heap.size + 1, 2, none⟩ = some (.int .i64 b.1) := cell_blk HF.out
      have c3 : wr.cell? ⟨w.heap.size + 1, 3, none⟩ = some (.int .i64 (b.2 : Nat)) := cell_blk HF.out
      have d0 : wr.cell? ⟨w.heap.size, 0, none⟩ = some (.int .i64 0) := cell_blk HR.out
      have d1 : wr.cell? ⟨w.heap.size, 1, none⟩ = some (.int .i64 0) := cell_blk HR.out
      have f0 : wr.frozen? ⟨w.heap.size, 0, none⟩ = false := frz_blk HR.out
      have f1 : wr.frozen? ⟨w.heap.size, 1, none⟩ = false := frz_blk HR.out
      have hlt0 := (Array.getElem?_eq_some_iff.1 HR.out).1
      have hlt1 := (Array.getElem?_eq_some_iff.1 HF.out).1
      have HW0 := hide hlt0
      have HW1 := hide hlt1
      have HFz := hide HF.out
      obtain ⟨a1, a2⟩ := a
      obtain ⟨b1, b2⟩ := b
      simp only at c0 c1 c2 c3 FA FB
      clear HF HA HBb hlt0 hlt1
      have la : -1 ≤ a1 := by rcases FA.out with e | ⟨m, r, e, _⟩ <;> (simp only [Prod.mk.injEq] at e; omega)
      have lb : -1 ≤ b1 := by rcases FB.out with e | ⟨m, r, e, _⟩ <;> (simp only [Prod.mk.injEq] at e; omega)
      have BX0 := hide (below_box wr (.cells #[.int .i64 a1, .int .i64 (a2 : Nat)] 63))
      have g2 := (BX0.out.cell HW1.out).trans c2
      have g3 := (BX0.out.cell HW1.out).trans c3
      by_cases hlt : a1 < b1
      · rcases FB.out with e | ⟨m, r, e, hm, hr⟩
        · simp only [Prod.mk.injEq] at e
          omega
        · simp only [Prod.mk.injEq] at e
          obtain ⟨rfl, rfl⟩ := e
          by_cases hm0 : m = 0
          · subst hm0
            have hL : lastH (a1, a2) (((0 : Nat) : Int), b2) = some (0, b2) := by
              unfold lastH
              rw [if_pos hlt]
              rfl
            obtain rfl : L = some (0, b2) := HLH.out.symm.trans hL
            have HB8 := hide (HBW.out.alloc HBW.out.size (.cells #[.int .i64 0, .int .i64 (b2 : Nat)] 63))
            have HRY := hide (((below_box wr (.cells #[.int .i64 0, .int .i64 (b2 : Nat)] 63)).block _ HW0.out).trans HR.out)
            have z0 := cell_blk (i := 0) HRY.out
            have z1 := cell_blk (i := 1) HRY.out
            have z2 := frz_blk (i := 0) HRY.out
            have z3 := frz_blk (i := 1) HRY.out
            have q8 : decide ((0 : Int) < 0) = false := rfl
            clear HLH hL FA FB
            go_wp2_with fail
            go_quiet (fail)
            have HRX := HRY
            have HBX := hide (below_drewN HB8.out nq)
            go_wp2
            (try simp only [Exit.inBlock, Exit.then])
            exact bodyPost_ret (results_head_err Try.results25 _ _ w.heap.size _ _ _ _ rfl (set2 HRX.out)) rfl ⟨rfl, (HBX.out.setCell (Nat.le_refl _) _).setCell (Nat.le_refl _) _⟩
          · by_cases hev : m % 2 = 0
            · have hL : lastH (a1, a2) ((m : Int), b2) = none := by
                unfold lastH
                rw [if_pos hlt, if_neg (by simp only; omega), if_pos (by simp only; rw [if_pos (by omega)]; omega)]
              obtain rfl : L = none := HLH.out.symm.trans hL
              have HB8 := hide (HBW.out.alloc HBW.out.size (.cells #[.int .i64 (m : Int), .int .i64 (b2 : Nat)] 63))
              have HX : Hid ((fun wx => wx.cell? ⟨wr.heap.size, 0, none⟩ = some (.int .i64 (m : Int)) ∧ wx.cell? ⟨wr.heap.size, 1, none⟩ = some (.int .i64 (b2 : Nat)) ∧ wx.cell? ⟨w.heap.size + 1, 0, none⟩ = some (.int .i64 a1)) (wr.alloc (.cells #[.int .i64 (m : Int), .int .i64 (b2 : Nat)] 63))) := ⟨cell_blk (heap_alloc_new wr _), cell_blk (heap_alloc_new wr _), ((below_box wr _).cell HW1.out).trans c0⟩
              have HR8 := hide (((below_box wr (.cells #[.int .i64 (m : Int), .int .i64 (b2 : Nat)] 63)).block _ HW0.out).trans HR.out)
              have HMM : Hid (((m % 2 : Nat) : Int) = 0) := by show _ = _; omega
              have q8 : decide ((0 : Int) < (m : Int)) = true := decide_eq_true (by omega)
              have q8n : decide (0 < m) = true := decide_eq_true (by omega)
              have q9 : (a1 != (m : Int)) = true := by simp; omega
              have HMZ := hide hm
              have HMX := hide hm0
              clear HLH hL FA FB hm0 hev hm hr la lb
              go_wp2_with fail
              refine wp_region_noPanic ?_
              refine wp_region_held_drew (S := fun wx => wx.cell? ⟨wr.heap.size, 0, none⟩ = some (.int .i64 (m : Int)) ∧ wx.cell? ⟨wr.heap.size, 1, none⟩ = some (.int .i64 (b2 : Nat)) ∧ wx.cell? ⟨w.heap.size + 1, 0, none⟩ = some (.int .i64 a1)) (by kernel_rfl) HX.out (fun hHeld => ?_)
              refine wpAnyH_takeAt (i := 0) (d := 40) (v := ?vx2y0) (by kernel_rfl) (by kernel_rfl) (by kernel_rfl) (by kernel_rfl) (fun _ _ _ h => h) ?hyx2y0 (by assumption) ?restx2y0
              case hyx2y0 =>
                intro oi ho
                simp only [List.getElem?_toArray, List.getElem?_cons_zero, Option.some.injEq] at ho
                subst ho
                refine Or.inl ⟨by rfl, ?_⟩
                intro wx hSw
                try dsimp only at hSw
                go_simp
                try rfl
              try simp only [Act.put, List.setIfInBounds_toArray, List.set_cons_zero, List.set_cons_succ]
              refine wpAnyH_takeAt (i := 1) (d := 41) (v := ?vx2y1) (by kernel_rfl) (by kernel_rfl) (by kernel_rfl) (by kernel_rfl) (fun _ _ _ h => h) ?hyx2y1 (by assumption) ?restx2y1
              case hyx2y1 =>
                intro oi ho
                simp only [List.getElem?_toArray, List.getElem?_cons_succ, List.getElem?_cons_zero, Option.some.injEq] at ho
                subst ho
                refine Or.inl ⟨by rfl, ?_⟩
                intro wx hSw
                try dsimp only at hSw
                go_simp
                try rfl
              try simp only [Act.put, List.setIfInBounds_toArray, List.set_cons_zero, List.set_cons_succ]
              refine wpAnyH_takeAt (i := 2) (d := 42) (v := ?vx2y2) (by kernel_rfl) (by kernel_rfl) (by kernel_rfl) (by kernel_rfl) (fun _ _ _ h => h) ?hyx2y2 (by assumption) ?restx2y2
              case hyx2y2 =>
                intro oi ho
                simp only [List.getElem?_toArray, List.getElem?_cons_succ, List.getElem?_cons_zero, Option.some.injEq] at ho
                subst ho
                refine Or.inl ⟨by rfl, ?_⟩
                intro wx hSw
                try dsimp only at hSw
                go_simp
                try rfl
              try simp only [Act.put, List.setIfInBounds_toArray, List.set_cons_zero, List.set_cons_succ]
              refine wpAnyH_takeAt (i := 3) (d := 43) (v := ?vx2y3) (by kernel_rfl) (by kernel_rfl) (by kernel_rfl) (by kernel_rfl) (fun _ _ _ h => h) ?hyx2y3 (by assumption) ?restx2y3
              case hyx2y3 =>
                intro oi ho
                simp only [List.getElem?_toArray, List.getElem?_cons_succ, List.getElem?_cons_zero, Option.some.injEq] at ho
                subst ho
                refine Or.inl ⟨by rfl, ?_⟩
                intro wx hSw
                try dsimp only at hSw
                go_simp
                try rfl
              try simp only [Act.put, List.setIfInBounds_toArray, List.set_cons_zero, List.set_cons_succ]
              refine wpAnyH_takeAt (i := 4) (d := 44) (v := ?vx2y4) (by kernel_rfl) (by kernel_rfl) (by kernel_rfl) (by kernel_rfl) (fun _ _ _ h => h) ?hyx2y4 (by assumption) ?restx2y4
              case hyx2y4 =>
                intro oi ho
                simp only [List.getElem?_toArray, List.getElem?_cons_succ, List.getElem?_cons_zero, Option.some.injEq] at ho
                subst ho
                refine Or.inl ⟨by rfl, ?_⟩
                intro wx hSw
                try dsimp only at hSw
                go_simp
                try rfl
              try simp only [Act.put, List.setIfInBounds_toArray, List.set_cons_zero, List.set_cons_succ]
              refine wpAnyH_takeAt (i := 9) (d := 49) (v := ?vx2y9) (by kernel_rfl) (by kernel_rfl) (by kernel_rfl) (by kernel_rfl) (fun _ _ _ h => h) ?hyx2y9 (by assumption) ?restx2y9
              case hyx2y9 =>
                intro oi ho
                simp only [List.getElem?_toArray, List.getElem?_cons_succ, List.getElem?_cons_zero, Option.some.injEq] at ho
                subst ho
                refine Or.inl ⟨by rfl, ?_⟩
                intro wx hSw
                try dsimp only at hSw
                go_simp
                try rfl
              try simp only [Act.put, List.setIfInBounds_toArray, List.set_cons_zero, List.set_cons_succ]
              refine wpAnyH_takeAt (i := 10) (d := 50) (v := ?vx2y10) (by kernel_rfl) (by kernel_rfl) (by kernel_rfl) (by kernel_rfl) (fun _ _ _ h => h) ?hyx2y10 (by assumption) ?restx2y10
              case hyx2y10 =>
                intro oi ho
                simp only [List.getElem?_toArray, List.getElem?_cons_succ, List.getElem?_cons_zero, Option.some.injEq] at ho
                subst ho
                refine Or.inl ⟨by rfl, ?_⟩
                intro wx hSw
                try dsimp only at hSw
                go_simp
                try rfl
              try simp only [Act.put, List.setIfInBounds_toArray, List.set_cons_zero, List.set_cons_succ]
              refine wpAnyH_comesAt (i := 5) (by kernel_rfl) (by kernel_rfl) ?_
              intro o ho K hK
              simp only [List.getElem?_toArray, List.getElem?_cons_succ, List.getElem?_cons_zero, Option.some.injEq] at ho
              subst ho
              go_simp
              refine (headBlock_any m b2 _ HMZ.out).mono ?_
              rintro e w9 ⟨rfl, hb9⟩
              rw [HMM.out]
              have HB9 := hide ((HB8.out.drew).trans (hb9.mono (by have := HB8.out.size; simpa using this)))
              have HX9 : Hid ((fun wx => wx.cell? ⟨wr.heap.size, 0, none⟩ = some (.int .i64 (m : Int)) ∧ wx.cell? ⟨wr.heap.size, 1, none⟩ = some (.int .i64 (b2 : Nat)) ∧ wx.cell? ⟨w.heap.size + 1, 0, none⟩ = some (.int .i64 a1)) w9) := ⟨(hb9.cell (by simp)).trans HX.out.1, (hb9.cell (by simp)).trans HX.out.2.1, (hb9.cell (by have := HW1.out; simp; omega)).trans HX.out.2.2⟩
              have HRX := hide ((hb9.block _ (by have := HW0.out; simp; omega)).trans HR8.out)
              clear hb9 hHeld
              refine hK.out _ _ HX9.out (fun hHeld => ?_)
              clear hK K
              try simp only [Act.put, List.setIfInBounds_toArray, List.set_cons_zero, List.set_cons_succ]
              refine wpAnyH_takeAt (i := 6) (d := 46) (v := ?vx2y6) (by kernel_rfl) (by kernel_rfl) (by kernel_rfl) (by kernel_rfl) (fun _ _ _ h => h) ?hyx2y6 (by assumption) ?restx2y6
              case hyx2y6 =>
                intro oi ho
                simp only [List.getElem?_toArray, List.getElem?_cons_succ, List.getElem?_cons_zero, Option.some.injEq] at ho
                subst ho
                refine Or.inl ⟨by rfl, ?_⟩
                intro wx hSw
                try dsimp only at hSw
                go_simp
                try rfl
              try simp only [Act.put, List.setIfInBounds_toArray, List.set_cons_zero, List.set_cons_succ]
              refine wpAnyH_takeAt (i := 7) (d := 47) (v := ?vx2y7) (by kernel_rfl) (by kernel_rfl) (by kernel_rfl) (by kernel_rfl) (fun _ _ _ h => h) ?hyx2y7 (by assumption) ?restx2y7
              case hyx2y7 =>
                intro oi ho
                simp only [List.getElem?_toArray, List.getElem?_cons_succ, List.getElem?_cons_zero, Option.some.injEq] at ho
                subst ho
                refine Or.inl ⟨by rfl, ?_⟩
                intro wx hSw
                try dsimp only at hSw
                go_simp
                try rfl
              try simp only [Act.put, List.setIfInBounds_toArray, List.set_cons_zero, List.set_cons_succ]
              refine wpAnyH_takeAt (i := 8) (d := 48) (v := ?vx2y8) (by kernel_rfl) (by kernel_rfl) (by kernel_rfl) (by kernel_rfl) (fun _ _ _ h => h) ?hyx2y8 (by assumption) ?restx2y8
              case hyx2y8 =>
                intro oi ho
                simp only [List.getElem?_toArray, List.getElem?_cons_succ, List.getElem?_cons_zero, Option.some.injEq] at ho
                subst ho
                refine Or.inl ⟨by rfl, ?_⟩
                intro wx hSw
                try dsimp only at hSw
                go_simp
                try rfl
              try simp only [Act.put, List.setIfInBounds_toArray, List.set_cons_zero, List.set_cons_succ]
              refine wpAnyH_takeAt (i := 11) (d := 51) (v := ?vx2y11) (by kernel_rfl) (by kernel_rfl) (by kernel_rfl) (by kernel_rfl) (fun _ _ _ h => h) ?hyx2y11 (by assumption) ?restx2y11
              case hyx2y11 =>
                intro oi ho
                simp only [List.getElem?_toArray, List.getElem?_cons_succ, List.getElem?_cons_zero, Option.some.injEq] at ho
                subst ho
                refine Or.inl ⟨by rfl, ?_⟩
                intro wx hSw
                try dsimp only at hSw
                go_simp
                try rfl
              try simp only [Act.put, List.setIfInBounds_toArray, List.set_cons_zero, List.set_cons_succ]
              refine wpAnyH_takeAt (i := 12) (d := 52) (v := ?vx2y12) (by kernel_rfl) (by kernel_rfl) (by kernel_rfl) (by kernel_rfl) (fun _ _ _ h => h) ?hyx2y12 (by assumption) ?restx2y12
              case hyx2y12 =>
                intro oi ho
                simp only [List.getElem?_toArray, List.getElem?_cons_succ, List.getElem?_cons_zero, Option.some.injEq] at ho
                subst ho
                refine Or.inl ⟨by rfl, ?_⟩
                intro wx hSw
                try dsimp only at hSw
                go_simp
                try rfl
              try simp only [Act.put, List.setIfInBounds_toArray, List.set_cons_zero, List.set_cons_succ]
              refine wpAnyH_takeAt (i := 13) (d := 9) (v := ?vx2y13) (by kernel_rfl) (by kernel_rfl) (by kernel_rfl) (by kernel_rfl) (fun _ _ _ h => h) ?hyx2y13 (by assumption) ?restx2y13
              case hyx2y13 =>
                intro oi ho
                simp only [List.getElem?_toArray, List.getElem?_cons_succ, List.getElem?_cons_zero, Option.some.injEq] at ho
                subst ho
                refine Or.inl ⟨by rfl, ?_⟩
                intro wx hSw
                try dsimp only at hSw
                go_simp
                try rfl
              try simp only [Act.put, List.setIfInBounds_toArray, List.set_cons_zero, List.set_cons_succ]
              refine wpAnyH_done (by kernel_rfl) ?_ _
              refine NoPanic.normal ?_
              have HBX := HB9
              have y0 := HX9.out.1
              have y1 := HX9.out.2.1
              have z0 : w9.cell? ⟨w.heap.size, 0, none⟩ = some (.int .i64 0) := cell_blk HRX.out
              have z1 : w9.cell? ⟨w.heap.size, 1, none⟩ = some (.int .i64 0) := cell_blk HRX.out
              have z2 : w9.frozen? ⟨w.heap.size, 0, none⟩ = false := frz_blk HRX.out
              have z3 : w9.frozen? ⟨w.heap.size, 1, none⟩ = false := frz_blk HRX.out
              go_wp2
              (try simp only [Exit.inBlock, Exit.then])
              exact bodyPost_ret (results_head_err Try.results25 _ _ w.heap.size _ _ _ _ rfl (set2 HRX.out)) rfl ⟨rfl, (HBX.out.setCell (Nat.le_refl _) _).setCell (Nat.le_refl _) _⟩
            · have hL : lastH (a1, a2) ((m : Int), b2) = some (m, b2) := by
                unfold lastH
                rw [if_pos hlt, if_neg (by simp only; omega), if_neg (by simp only; rw [if_neg (by omega)]; omega)]
                rfl
              obtain rfl : L = some (m, b2) := HLH.out.symm.trans hL
              have HB8 := hide (HBW.out.alloc HBW.out.size (.cells #[.int .i64 (m : Int), .int .i64 (b2 : Nat)] 63))
              have HX : Hid ((fun wx => wx.cell? ⟨wr.heap.size, 0, none⟩ = some (.int .i64 (m : Int)) ∧ wx.cell? ⟨wr.heap.size, 1, none⟩ = some (.int .i64 (b2 : Nat)) ∧ wx.cell? ⟨w.heap.size + 1, 2, none⟩ = some (.int .i64 (m : Int))) (wr.alloc (.cells #[.int .i64 (m : Int), .int .i64 (b2 : Nat)] 63))) := ⟨cell_blk (heap_alloc_new wr _), cell_blk (heap_alloc_new wr _), ((below_box wr _).cell HW1.out).trans c2⟩
              have HR8 := hide (((below_box wr (.cells #[.int .i64 (m : Int), .int .i64 (b2 : Nat)] 63)).block _ HW0.out).trans HR.out)
              have HMM : Hid (((m % 2 : Nat) : Int) = 1) := by show _ = _; omega
              have q8 : decide ((0 : Int) < (m : Int)) = true := decide_eq_true (by omega)
              have q8n : decide (0 < m) = true := decide_eq_true (by omega)
              have HMZ := hide hm
              have HMX := hide hm0
              clear HLH hL FA FB hm0 hev hm hr la lb
              go_wp2_with fail
              refine wp_region_noPanic ?_
              refine wp_region_held_drew (S := fun wx => wx.cell? ⟨wr.heap.size, 0, none⟩ = some (.int .i64 (m : Int)) ∧ wx.cell? ⟨wr.heap.size, 1, none⟩ = some (.int .i64 (b2 : Nat)) ∧ wx.cell? ⟨w.heap.size + 1, 2, none⟩ = some (.int .i64 (m : Int))) (by kernel_rfl) HX.out (fun hHeld => ?_)
              refine wpAnyH_takeAt (i := 0) (d := 40) (v := ?vx3y0) (by kernel_rfl) (by kernel_rfl) (by kernel_rfl) (by kernel_rfl) (fun _ _ _ h => h) ?hyx3y0 (by assumption) ?restx3y0
              case hyx3y0 =>
                intro oi ho
                simp only [List.getElem?_toArray, List.getElem?_cons_zero, Option.some.injEq] at ho
                subst ho
                refine Or.inl ⟨by rfl, ?_⟩
                intro wx hSw
                try dsimp only at hSw
                go_simp
                try rfl
              try simp only [Act.put, List.setIfInBounds_toArray, List.set_cons_zero, List.set_cons_succ]
              refine wpAnyH_takeAt (i := 1) (d := 41) (v := ?vx3y1) (by kernel_rfl) (by kernel_rfl) (by kernel_rfl) (by kernel_rfl) (fun _ _ _ h => h) ?hyx3y1 (by assumption) ?restx3y1
              case hyx3y1 =>
                intro oi ho
                simp only [List.getElem?_toArray, List.getElem?_cons_succ, List.getElem?_cons_zero, Option.some.injEq] at ho
                subst ho
                refine Or.inl ⟨by rfl, ?_⟩
                intro wx hSw
                try dsimp only at hSw
                go_simp
                try rfl
              try simp only [Act.put, List.setIfInBounds_toArray, List.set_cons_zero, List.set_cons_succ]
              refine wpAnyH_takeAt (i := 2) (d := 42) (v := ?vx3y2) (by kernel_rfl) (by kernel_rfl) (by kernel_rfl) (by kernel_rfl) (fun _ _ _ h => h) ?hyx3y2 (by assumption) ?restx3y2
              case hyx3y2 =>
                intro oi ho
                simp only [List.getElem?_toArray, List.getElem?_cons_succ, List.getElem?_cons_zero, Option.some.injEq] at ho
                subst ho
                refine Or.inl ⟨by rfl, ?_⟩
                intro wx hSw
                try dsimp only at hSw
                go_simp
                try rfl
              try simp only [Act.put, List.setIfInBounds_toArray, List.set_cons_zero, List.set_cons_succ]
              refine wpAnyH_takeAt (i := 3) (d := 43) (v := ?vx3y3) (by kernel_rfl) (by kernel_rfl) (by kernel_rfl) (by kernel_rfl) (fun _ _ _ h => h) ?hyx3y3 (by assumption) ?restx3y3
              case hyx3y3 =>
                intro oi ho
                simp only [List.getElem?_toArray, List.getElem?_cons_succ, List.getElem?_cons_zero, Option.some.injEq] at ho
                subst ho
                refine Or.inl ⟨by rfl, ?_⟩
                intro wx hSw
                try dsimp only at hSw
                go_simp
                try rfl
              try simp only [Act.put, List.setIfInBounds_toArray, List.set_cons_zero, List.set_cons_succ]
              refine wpAnyH_takeAt (i := 4) (d := 44) (v := ?vx3y4) (by kernel_rfl) (by kernel_rfl) (by kernel_rfl) (by kernel_rfl) (fun _ _ _ h => h) ?hyx3y4 (by assumption) ?restx3y4
              case hyx3y4 =>
                intro oi ho
                simp only [List.getElem?_toArray, List.getElem?_cons_succ, List.getElem?_cons_zero, Option.some.injEq] at ho
                subst ho
                refine Or.inl ⟨by rfl, ?_⟩
                intro wx hSw
                try dsimp only at hSw
                go_simp
                try rfl
              try simp only [Act.put, List.setIfInBounds_toArray, List.set_cons_zero, List.set_cons_succ]
              refine wpAnyH_takeAt (i := 9) (d := 49) (v := ?vx3y9) (by kernel_rfl) (by kernel_rfl) (by kernel_rfl) (by kernel_rfl) (fun _ _ _ h => h) ?hyx3y9 (by assumption) ?restx3y9
              case hyx3y9 =>
                intro oi ho
                simp only [List.getElem?_toArray, List.getElem?_cons_succ, List.getElem?_cons_zero, Option.some.injEq] at ho
                subst ho
                refine Or.inl ⟨by rfl, ?_⟩
                intro wx hSw
                try dsimp only at hSw
                go_simp
                try rfl
              try simp only [Act.put, List.setIfInBounds_toArray, List.set_cons_zero, List.set_cons_succ]
              refine wpAnyH_takeAt (i := 10) (d := 50) (v := ?vx3y10) (by kernel_rfl) (by kernel_rfl) (by kernel_rfl) (by kernel_rfl) (fun _ _ _ h => h) ?hyx3y10 (by assumption) ?restx3y10
              case hyx3y10 =>
                intro oi ho
                simp only [List.getElem?_toArray, List.getElem?_cons_succ, List.getElem?_cons_zero, Option.some.injEq] at ho
                subst ho
                refine Or.inl ⟨by rfl, ?_⟩
                intro wx hSw
                try dsimp only at hSw
                go_simp
                try rfl
              try simp only [Act.put, List.setIfInBounds_toArray, List.set_cons_zero, List.set_cons_succ]
              refine wpAnyH_comesAt (i := 5) (by kernel_rfl) (by kernel_rfl) ?_
              intro o ho K hK
              simp only [List.getElem?_toArray, List.getElem?_cons_succ, List.getElem?_cons_zero, Option.some.injEq] at ho
              subst ho
              go_simp
              refine (headBlock_any m b2 _ HMZ.out).mono ?_
              rintro e w9 ⟨rfl, hb9⟩
              rw [HMM.out]
              have HB9 := hide ((HB8.out.drew).trans (hb9.mono (by have := HB8.out.size; simpa using this)))
              have HX9 : Hid ((fun wx => wx.cell? ⟨wr.heap.size, 0, none⟩ = some (.int .i64 (m : Int)) ∧ wx.cell? ⟨wr.heap.size, 1, none⟩ = some (.int .i64 (b2 : Nat)) ∧ wx.cell? ⟨w.heap.size + 1, 2, none⟩ = some (.int .i64 (m : Int))) w9) := ⟨(hb9.cell (by simp)).trans HX.out.1, (hb9.cell (by simp)).trans HX.out.2.1, (hb9.cell (by have := HW1.out; simp; omega)).trans HX.out.2.2⟩
              have HRX := hide ((hb9.block _ (by have := HW0.out; simp; omega)).trans HR8.out)
              clear hb9 hHeld
              refine hK.out _ _ HX9.out (fun hHeld => ?_)
              clear hK K
              try simp only [Act.put, List.setIfInBounds_toArray, List.set_cons_zero, List.set_cons_succ]
              refine wpAnyH_takeAt (i := 6) (d := 46) (v := ?vx3y6) (by kernel_rfl) (by kernel_rfl) (by kernel_rfl) (by kernel_rfl) (fun _ _ _ h => h) ?hyx3y6 (by assumption) ?restx3y6
              case hyx3y6 =>
                intro oi ho
                simp only [List.getElem?_toArray, List.getElem?_cons_succ, List.getElem?_cons_zero, Option.some.injEq] at ho
                subst ho
                refine Or.inl ⟨by rfl, ?_⟩
                intro wx hSw
                try dsimp only at hSw
                go_simp
                try rfl
              try simp only [Act.put, List.setIfInBounds_toArray, List.set_cons_zero, List.set_cons_succ]
              refine wpAnyH_takeAt (i := 7) (d := 47) (v := ?vx3y7) (by kernel_rfl) (by kernel_rfl) (by kernel_rfl) (by kernel_rfl) (fun _ _ _ h => h) ?hyx3y7 (by assumption) ?restx3y7
              case hyx3y7 =>
                intro oi ho
                simp only [List.getElem?_toArray, List.getElem?_cons_succ, List.getElem?_cons_zero, Option.some.injEq] at ho
                subst ho
                refine Or.inl ⟨by rfl, ?_⟩
                intro wx hSw
                try dsimp only at hSw
                go_simp
                try rfl
              try simp only [Act.put, List.setIfInBounds_toArray, List.set_cons_zero, List.set_cons_succ]
              refine wpAnyH_takeAt (i := 8) (d := 48) (v := ?vx3y8) (by kernel_rfl) (by kernel_rfl) (by kernel_rfl) (by kernel_rfl) (fun _ _ _ h => h) ?hyx3y8 (by assumption) ?restx3y8
              case hyx3y8 =>
                intro oi ho
                simp only [List.getElem?_toArray, List.getElem?_cons_succ, List.getElem?_cons_zero, Option.some.injEq] at ho
                subst ho
                refine Or.inl ⟨by rfl, ?_⟩
                intro wx hSw
                try dsimp only at hSw
                go_simp
                try rfl
              try simp only [Act.put, List.setIfInBounds_toArray, List.set_cons_zero, List.set_cons_succ]
              refine wpAnyH_takeAt (i := 11) (d := 51) (v := ?vx3y11) (by kernel_rfl) (by kernel_rfl) (by kernel_rfl) (by kernel_rfl) (fun _ _ _ h => h) ?hyx3y11 (by assumption) ?restx3y11
              case hyx3y11 =>
                intro oi ho
                simp only [List.getElem?_toArray, List.getElem?_cons_succ, List.getElem?_cons_zero, Option.some.injEq] at ho
                subst ho
                refine Or.inl ⟨by rfl, ?_⟩
                intro wx hSw
                try dsimp only at hSw
                go_simp
                try rfl
              try simp only [Act.put, List.setIfInBounds_toArray, List.set_cons_zero, List.set_cons_succ]
              refine wpAnyH_takeAt (i := 12) (d := 52) (v := ?vx3y12) (by kernel_rfl) (by kernel_rfl) (by kernel_rfl) (by kernel_rfl) (fun _ _ _ h => h) ?hyx3y12 (by assumption) ?restx3y12
              case hyx3y12 =>
                intro oi ho
                simp only [List.getElem?_toArray, List.getElem?_cons_succ, List.getElem?_cons_zero, Option.some.injEq] at ho
                subst ho
                refine Or.inl ⟨by rfl, ?_⟩
                intro wx hSw
                try dsimp only at hSw
                go_simp
                try rfl
              try simp only [Act.put, List.setIfInBounds_toArray, List.set_cons_zero, List.set_cons_succ]
              refine wpAnyH_takeAt (i := 13) (d := 9) (v := ?vx3y13) (by kernel_rfl) (by kernel_rfl) (by kernel_rfl) (by kernel_rfl) (fun _ _ _ h => h) ?hyx3y13 (by assumption) ?restx3y13
              case hyx3y13 =>
                intro oi ho
                simp only [List.getElem?_toArray, List.getElem?_cons_succ, List.getElem?_cons_zero, Option.some.injEq] at ho
                subst ho
                refine Or.inl ⟨by rfl, ?_⟩
                intro wx hSw
                try dsimp only at hSw
                go_simp
                try rfl
              try simp only [Act.put, List.setIfInBounds_toArray, List.set_cons_zero, List.set_cons_succ]
              refine wpAnyH_done (by kernel_rfl) ?_ _
              refine NoPanic.normal ?_
              have HBX := HB9
              have y0 := HX9.out.1
              have y1 := HX9.out.2.1
              have z0 : w9.cell? ⟨w.heap.size, 0, none⟩ = some (.int .i64 0) := cell_blk HRX.out
              have z1 : w9.cell? ⟨w.heap.size, 1, none⟩ = some (.int .i64 0) := cell_blk HRX.out
              have z2 : w9.frozen? ⟨w.heap.size, 0, none⟩ = false := frz_blk HRX.out
              have z3 : w9.frozen? ⟨w.heap.size, 1, none⟩ = false := frz_blk HRX.out
              go_wp2
              (try simp only [Exit.inBlock, Exit.then])
              exact bodyPost_ret (results_head_err Try.results25 _ _ w.heap.size _ _ _ _ rfl (set2 HRX.out)) rfl ⟨rfl, (HBX.out.setCell (Nat.le_refl _) _).setCell (Nat.le_refl _) _⟩
      · rcases FA.out with e | ⟨m, r, e, hm, hr⟩
        · simp only [Prod.mk.injEq] at e
          obtain ⟨rfl, rfl⟩ := e
          have hL : lastH (-1, 0) (b1, b2) = none := by
            unfold lastH
            rw [if_neg hlt, if_pos rfl]
          obtain rfl : L = none := HLH.out.symm.trans hL
          have HB8 := hide (HBW.out.alloc HBW.out.size (.cells #[.int .i64 (-1), .int .i64 0] 63))
          have HRY := hide (((below_box wr (.cells #[.int .i64 (-1), .int .i64 0] 63)).block _ HW0.out).trans HR.out)
          have z0 := cell_blk (i := 0) HRY.out
          have z1 := cell_blk (i := 1) HRY.out
          have z2 := frz_blk (i := 0) HRY.out
          have z3 := frz_blk (i := 1) HRY.out
          have q8 : decide ((0 : Int) < (-1)) = false := rfl
          have g2 : (wr.alloc (.cells #[.int .i64 (-1), .int .i64 0] 63)).cell? ⟨w.heap.size + 1, 2, none⟩ = some (.int .i64 b1) := g2
          have g3 : (wr.alloc (.cells #[.int .i64 (-1), .int .i64 0] 63)).cell? ⟨w.heap.size + 1, 3, none⟩ = some (.int .i64 (b2 : Nat)) := g3
          clear HLH hL FA FB
          go_wp2_with fail
          go_quiet (fail)
          have HRX := HRY
          have HBX := hide (below_drewN HB8.out nq)
          go_wp2
          (try simp only [Exit.inBlock, Exit.then])
          exact bodyPost_ret (results_head_err Try.results25 _ _ w.heap.size _ _ _ _ rfl (set2 HRX.out)) rfl ⟨rfl, (HBX.out.setCell (Nat.le_refl _) _).setCell (Nat.le_refl _) _⟩
        · simp only [Prod.mk.injEq] at e
          obtain ⟨rfl, rfl⟩ := e
          by_cases hm0 : m = 0
          · subst hm0
            have hL : lastH (((0 : Nat) : Int), a2) (b1, b2) = some (0, a2) := by
              unfold lastH
              rw [if_neg hlt]
              rfl
            obtain rfl : L = some (0, a2) := HLH.out.symm.trans hL
            have HB8 := hide (HBW.out.alloc HBW.out.size (.cells #[.int .i64 0, .int .i64 (a2 : Nat)] 63))
            have HRY := hide (((below_box wr (.cells #[.int .i64 0, .int .i64 (a2 : Nat)] 63)).block _ HW0.out).trans HR.out)
            have z0 := cell_blk (i := 0) HRY.out
            have z1 := cell_blk (i := 1) HRY.out
            have z2 := frz_blk (i := 0) HRY.out
            have z3 := frz_blk (i := 1) HRY.out
            have q8 : decide ((0 : Int) < 0) = false := rfl
            have g2 : (wr.alloc (.cells #[.int .i64 0, .int .i64 (a2 : Nat)] 63)).cell? ⟨w.heap.size + 1, 2, none⟩ = some (.int .i64 b1) := g2
            have g3 : (wr.alloc (.cells #[.int .i64 0, .int .i64 (a2 : Nat)] 63)).cell? ⟨w.heap.size + 1, 3, none⟩ = some (.int .i64 (b2 : Nat)) := g3
            clear HLH hL FA FB
            go_wp2_with fail
            go_quiet (fail)
            have HRX := HRY
            have HBX := hide (below_drewN HB8.out nq)
            go_wp2
            (try simp only [Exit.inBlock, Exit.then])
            exact bodyPost_ret (results_head_err Try.results25 _ _ w.heap.size _ _ _ _ rfl (set2 HRX.out)) rfl ⟨rfl, (HBX.out.setCell (Nat.le_refl _) _).setCell (Nat.le_refl _) _⟩
          · by_cases hev : m % 2 = 0
            · have hL : lastH ((m : Int), a2) (b1, b2) = some (m, a2) := by
                unfold lastH
                rw [if_neg hlt, if_neg (by simp only; omega), if_neg (by simp only; rw [if_pos (by omega)]; omega)]
                rfl
              obtain rfl : L = some (m, a2) := HLH.out.symm.trans hL
              have HB8 := hide (HBW.out.alloc HBW.out.size (.cells #[.int .i64 (m : Int), .int .i64 (a2 : Nat)] 63))
              have HX : Hid ((fun wx => wx.cell? ⟨wr.heap.size, 0, none⟩ = some (.int .i64 (m : Int)) ∧ wx.cell? ⟨wr.heap.size, 1, none⟩ = some (.int .i64 (a2 : Nat)) ∧ wx.cell? ⟨w.heap.size + 1, 0, none⟩ = some (.int .i64 (m : Int))) (wr.alloc (.cells #[.int .i64 (m : Int), .int .i64 (a2 : Nat)] 63))) := ⟨cell_blk (heap_alloc_new wr _), cell_blk (heap_alloc_new wr _), ((below_box wr _).cell HW1.out).trans c0⟩
              have HR8 := hide (((below_box wr (.cells #[.int .i64 (m : Int), .int .i64 (a2 : Nat)] 63)).block _ HW0.out).trans HR.out)
              have HMM : Hid (((m % 2 : Nat) : Int) = 0) := by show _ = _; omega
              have q8 : decide ((0 : Int) < (m : Int)) = true := decide_eq_true (by omega)
              have q8n : decide (0 < m) = true := decide_eq_true (by omega)
              have HMZ := hide hm
              have HMX := hide hm0
              clear HLH hL FA FB hm0 hev hm hr la lb
              go_wp2_with fail
              refine wp_region_noPanic ?_
              refine wp_region_held_drew (S := fun wx => wx.cell? ⟨wr.heap.size, 0, none⟩ = some (.int .i64 (m : Int)) ∧ wx.cell? ⟨wr.heap.size, 1, none⟩ = some (.int .i64 (a2 : Nat)) ∧ wx.cell? ⟨w.heap.size + 1, 0, none⟩ = some (.int .i64 (m : Int))) (by kernel_rfl) HX.out (fun hHeld => ?_)
              refine wpAnyH_takeAt (i := 0) (d := 40) (v := ?vx6y0) (by kernel_rfl) (by kernel_rfl) (by kernel_rfl) (by kernel_rfl) (fun _ _ _ h => h) ?hyx6y0 (by assumption) ?restx6y0
              case hyx6y0 =>
                intro oi ho
                simp only [List.getElem?_toArray, List.getElem?_cons_zero, Option.some.injEq] at ho
                subst ho
                refine Or.inl ⟨by rfl, ?_⟩
                intro wx hSw
                try dsimp only at hSw
                go_simp
                try rfl
              try simp only [Act.put, List.setIfInBounds_toArray, List.set_cons_zero, List.set_cons_succ]
              refine wpAnyH_takeAt (i := 1) (d := 41) (v := ?vx6y1) (by kernel_rfl) (by kernel_rfl) (by kernel_rfl) (by kernel_rfl) (fun _ _ _ h => h) ?hyx6y1 (by assumption) ?restx6y1
              case hyx6y1 =>
                intro oi ho
                simp only [List.getElem?_toArray, List.getElem?_cons_succ, List.getElem?_cons_zero, Option.some.injEq] at ho
                subst ho
                refine Or.inl ⟨by rfl, ?_⟩
                intro wx hSw
                try dsimp only at hSw
                go_simp
                try rfl
              try simp only [Act.put, List.setIfInBounds_toArray, List.set_cons_zero, List.set_cons_succ]
              refine wpAnyH_takeAt (i := 2) (d := 42) (v := ?vx6y2) (by kernel_rfl) (by kernel_rfl) (by kernel_rfl) (by kernel_rfl) (fun _ _ _ h => h) ?hyx6y2 (by assumption) ?restx6y2
              case hyx6y2 =>
                intro oi ho
                simp only [List.getElem?_toArray, List.getElem?_cons_succ, List.getElem?_cons_zero, Option.some.injEq] at ho
                subst ho
                refine Or.inl ⟨by rfl, ?_⟩
                intro wx hSw
                try dsimp only at hSw
                go_simp
                try rfl
              try simp only [Act.put, List.setIfInBounds_toArray, List.set_cons_zero, List.set_cons_succ]
              refine wpAnyH_takeAt (i := 3) (d := 43) (v := ?vx6y3) (by kernel_rfl) (by kernel_rfl) (by kernel_rfl) (by kernel_rfl) (fun _ _ _ h => h) ?hyx6y3 (by assumption) ?restx6y3
              case hyx6y3 =>
                intro oi ho
                simp only [List.getElem?_toArray, List.getElem?_cons_succ, List.getElem?_cons_zero, Option.some.injEq] at ho
                subst ho
                refine Or.inl ⟨by rfl, ?_⟩
                intro wx hSw
                try dsimp only at hSw
                go_simp
                try rfl
              try simp only [Act.put, List.setIfInBounds_toArray, List.set_cons_zero, List.set_cons_succ]
              refine wpAnyH_takeAt (i := 4) (d := 44) (v := ?vx6y4) (by kernel_rfl) (by kernel_rfl) (by kernel_rfl) (by kernel_rfl) (fun _ _ _ h => h) ?hyx6y4 (by assumption) ?restx6y4
              case hyx6y4 =>
                intro oi ho
                simp only [List.getElem?_toArray, List.getElem?_cons_succ, List.getElem?_cons_zero, Option.some.injEq] at ho
                subst ho
                refine Or.inl ⟨by rfl, ?_⟩
                intro wx hSw
                try dsimp only at hSw
                go_simp
                try rfl
              try simp only [Act.put, List.setIfInBounds_toArray, List.set_cons_zero, List.set_cons_succ]
              refine wpAnyH_takeAt (i := 9) (d := 49) (v := ?vx6y9) (by kernel_rfl) (by kernel_rfl) (by kernel_rfl) (by kernel_rfl) (fun _ _ _ h => h) ?hyx6y9 (by assumption) ?restx6y9
              case hyx6y9 =>
                intro oi ho
                simp only [List.getElem?_toArray, List.getElem?_cons_succ, List.getElem?_cons_zero, Option.some.injEq] at ho
                subst ho
                refine Or.inl ⟨by rfl, ?_⟩
                intro wx hSw
                try dsimp only at hSw
                go_simp
                try rfl
              try simp only [Act.put, List.setIfInBounds_toArray, List.set_cons_zero, List.set_cons_succ]
              refine wpAnyH_takeAt (i := 10) (d := 50) (v := ?vx6y10) (by kernel_rfl) (by kernel_rfl) (by kernel_rfl) (by kernel_rfl) (fun _ _ _ h => h) ?hyx6y10 (by assumption) ?restx6y10
              case hyx6y10 =>
                intro oi ho
                simp only [List.getElem?_toArray, List.getElem?_cons_succ, List.getElem?_cons_zero, Option.some.injEq] at ho
                subst ho
                refine Or.inl ⟨by rfl, ?_⟩
                intro wx hSw
                try dsimp only at hSw
                go_simp
                try rfl
              try simp only [Act.put, List.setIfInBounds_toArray, List.set_cons_zero, List.set_cons_succ]
              refine wpAnyH_comesAt (i := 5) (by kernel_rfl) (by kernel_rfl) ?_
              intro o ho K hK
              simp only [List.getElem?_toArray, List.getElem?_cons_succ, List.getElem?_cons_zero, Option.some.injEq] at ho
              subst ho
              go_simp
              refine (headBlock_any m a2 _ HMZ.out).mono ?_
              rintro e w9 ⟨rfl, hb9⟩
              rw [HMM.out]
              have HB9 := hide ((HB8.out.drew).trans (hb9.mono (by have := HB8.out.size; simpa using this)))
              have HX9 : Hid ((fun wx => wx.cell? ⟨wr.heap.size, 0, none⟩ = some (.int .i64 (m : Int)) ∧ wx.cell? ⟨wr.heap.size, 1, none⟩ = some (.int .i64 (a2 : Nat)) ∧ wx.cell? ⟨w.heap.size + 1, 0, none⟩ = some (.int .i64 (m : Int))) w9) := ⟨(hb9.cell (by simp)).trans HX.out.1, (hb9.cell (by simp)).trans HX.out.2.1, (hb9.cell (by have := HW1.out; simp; omega)).trans HX.out.2.2⟩
              have HRX := hide ((hb9.block _ (by have := HW0.out; simp; omega)).trans HR8.out)
              clear hb9 hHeld
              refine hK.out _ _ HX9.out (fun hHeld => ?_)
              clear hK K
              try simp only [Act.put, List.setIfInBounds_toArray, List.set_cons_zero, List.set_cons_succ]
              refine wpAnyH_takeAt (i := 6) (d := 46) (v := ?vx6y6) (by kernel_rfl) (by kernel_rfl) (by kernel_rfl) (by kernel_rfl) (fun _ _ _ h => h) ?hyx6y6 (by assumption) ?restx6y6
              case hyx6y6 =>
                intro oi ho
                simp only [List.getElem?_toArray, List.getElem?_cons_succ, List.getElem?_cons_zero, Option.some.injEq] at ho
                subst ho
                refine Or.inl ⟨by rfl, ?_⟩
                intro wx hSw
                try dsimp only at hSw
                go_simp
                try rfl
              try simp only [Act.put, List.setIfInBounds_toArray, List.set_cons_zero, List.set_cons_succ]
              refine wpAnyH_takeAt (i := 7) (d := 47) (v := ?vx6y7) (by kernel_rfl) (by kernel_rfl) (by kernel_rfl) (by kernel_rfl) (fun _ _ _ h => h) ?hyx6y7 (by assumption) ?restx6y7
              case hyx6y7 =>
                intro oi ho
                simp only [List.getElem?_toArray, List.getElem?_cons_succ, List.getElem?_cons_zero, Option.some.injEq] at ho
                subst ho
                refine Or.inl ⟨by rfl, ?_⟩
                intro wx hSw
                try dsimp only at hSw
                go_simp
                try rfl
              try simp only [Act.put, List.setIfInBounds_toArray, List.set_cons_zero, List.set_cons_succ]
              refine wpAnyH_takeAt (i := 8) (d := 48) (v := ?vx6y8) (by kernel_rfl) (by kernel_rfl) (by kernel_rfl) (by kernel_rfl) (fun _ _ _ h => h) ?hyx6y8 (by assumption) ?restx6y8
              case hyx6y8 =>
                intro oi ho
                simp only [List.getElem?_toArray, List.getElem?_cons_succ, List.getElem?_cons_zero, Option.some.injEq] at ho
                subst ho
                refine Or.inl ⟨by rfl, ?_⟩
                intro wx hSw
                try dsimp only at hSw
                go_simp
                try rfl
              try simp only [Act.put, List.setIfInBounds_toArray, List.set_cons_zero, List.set_cons_succ]
              refine wpAnyH_takeAt (i := 11) (d := 51) (v := ?vx6y11) (by kernel_rfl) (by kernel_rfl) (by kernel_rfl) (by kernel_rfl) (fun _ _ _ h => h) ?hyx6y11 (by assumption) ?restx6y11
              case hyx6y11 =>
                intro oi ho
                simp only [List.getElem?_toArray, List.getElem?_cons_succ, List.getElem?_cons_zero, Option.some.injEq] at ho
                subst ho
                refine Or.inl ⟨by rfl, ?_⟩
                intro wx hSw
                try dsimp only at hSw
                go_simp
                try rfl
              try simp only [Act.put, List.setIfInBounds_toArray, List.set_cons_zero, List.set_cons_succ]
              refine wpAnyH_takeAt (i := 12) (d := 52) (v := ?vx6y12) (by kernel_rfl) (by kernel_rfl) (by kernel_rfl) (by kernel_rfl) (fun _ _ _ h => h) ?hyx6y12 (by assumption) ?restx6y12
              case hyx6y12 =>
                intro oi ho
                simp only [List.getElem?_toArray, List.getElem?_cons_succ, List.getElem?_cons_zero, Option.some.injEq] at ho
                subst ho
                refine Or.inl ⟨by rfl, ?_⟩
                intro wx hSw
                try dsimp only at hSw
                go_simp
                try rfl
              try simp only [Act.put, List.setIfInBounds_toArray, List.set_cons_zero, List.set_cons_succ]
              refine wpAnyH_takeAt (i := 13) (d := 9) (v := ?vx6y13) (by kernel_rfl) (by kernel_rfl) (by kernel_rfl) (by kernel_rfl) (fun _ _ _ h => h) ?hyx6y13 (by assumption) ?restx6y13
              case hyx6y13 =>
                intro oi ho
                simp only [List.getElem?_toArray, List.getElem?_cons_succ, List.getElem?_cons_zero, Option.some.injEq] at ho
                subst ho
                refine Or.inl ⟨by rfl, ?_⟩
                intro wx hSw
                try dsimp only at hSw
                go_simp
                try rfl
              try simp only [Act.put, List.setIfInBounds_toArray, List.set_cons_zero, List.set_cons_succ]
              refine wpAnyH_done (by kernel_rfl) ?_ _
              refine NoPanic.normal ?_
              have HBX := HB9
              have y0 := HX9.out.1
              have y1 := HX9.out.2.1
              have z0 : w9.cell? ⟨w.heap.size, 0, none⟩ = some (.int .i64 0) := cell_blk HRX.out
              have z1 : w9.cell? ⟨w.heap.size, 1, none⟩ = some (.int .i64 0) := cell_blk HRX.out
              have z2 : w9.frozen? ⟨w.heap.size, 0, none⟩ = false := frz_blk HRX.out
              have z3 : w9.frozen? ⟨w.heap.size, 1, none⟩ = false := frz_blk HRX.out
              go_wp2
              (try simp only [Exit.inBlock, Exit.then])
              exact bodyPost_ret (results_head_err Try.results25 _ _ w.heap.size _ _ _ _ rfl (set2 HRX.out)) rfl ⟨rfl, (HBX.out.setCell (Nat.le_refl _) _).setCell (Nat.le_refl _) _⟩
            · by_cases hbm : b1 = (m : Int)
              · have hL : lastH ((m : Int), a2) (b1, b2) = some (m, a2) := by
                  unfold lastH
                  rw [if_neg hlt, if_neg (by simp only; omega), if_neg (by simp only; rw [if_neg (by omega)]; omega)]
                  rfl
                obtain rfl : L = some (m, a2) := HLH.out.symm.trans hL
                subst hbm
                have HB8 := hide (HBW.out.alloc HBW.out.size (.cells #[.int .i64 (m : Int), .int .i64 (a2 : Nat)] 63))
                have HX : Hid ((fun wx => wx.cell? ⟨wr.heap.size, 0, none⟩ = some (.int .i64 (m : Int)) ∧ wx.cell? ⟨wr.heap.size, 1, none⟩ = some (.int .i64 (a2 : Nat)) ∧ wx.cell? ⟨w.heap.size + 1, 2, none⟩ = some (.int .i64 (m : Int))) (wr.alloc (.cells #[.int .i64 (m : Int), .int .i64 (a2 : Nat)] 63))) := ⟨cell_blk (heap_alloc_new wr _), cell_blk (heap_alloc_new wr _), ((below_box wr _).cell HW1.out).trans c2⟩
                have HR8 := hide (((below_box wr (.cells #[.int .i64 (m : Int), .int .i64 (a2 : Nat)] 63)).block _ HW0.out).trans HR.out)
                have HMM : Hid (((m % 2 : Nat) : Int) = 1) := by show _ = _; omega
                have q8 : decide ((0 : Int) < (m : Int)) = true := decide_eq_true (by omega)
                have q8n : decide (0 < m) = true := decide_eq_true (by omega)
                have HMZ := hide hm
                have HMX := hide hm0
                clear HLH hL FA FB hm0 hev hm hr la lb
                go_wp2_with fail
                refine wp_region_noPanic ?_
                refine wp_region_held_drew (S := fun wx => wx.cell? ⟨wr.heap.size, 0, none⟩ = some (.int .i64 (m : Int)) ∧ wx.cell? ⟨wr.heap.size, 1, none⟩ = some (.int .i64 (a2 : Nat)) ∧ wx.cell? ⟨w.heap.size + 1, 2, none⟩ = some (.int .i64 (m : Int))) (by kernel_rfl) HX.out (fun hHeld => ?_)
                refine wpAnyH_takeAt (i := 0) (d := 40) (v := ?vx7y0) (by kernel_rfl) (by kernel_rfl) (by kernel_rfl) (by kernel_rfl) (fun _ _ _ h => h) ?hyx7y0 (by assumption) ?restx7y0
                case hyx7y0 =>
                  intro oi ho
                  simp only [List.getElem?_toArray, List.getElem?_cons_zero, Option.some.injEq] at ho
                  subst ho
                  refine Or.inl ⟨by rfl, ?_⟩
                  intro wx hSw
                  try dsimp only at hSw
                  go_simp
                  try rfl
                try simp only [Act.put, List.setIfInBounds_toArray, List.set_cons_zero, List.set_cons_succ]
                refine wpAnyH_takeAt (i := 1) (d := 41) (v := ?vx7y1) (by kernel_rfl) (by kernel_rfl) (by kernel_rfl) (by kernel_rfl) (fun _ _ _ h => h) ?hyx7y1 (by assumption) ?restx7y1
                case hyx7y1 =>
                  intro oi ho
                  simp only [List.getElem?_toArray, List.getElem?_cons_succ, List.getElem?_cons_zero, Option.some.injEq] at ho
                  subst ho
                  refine Or.inl ⟨by rfl, ?_⟩
                  intro wx hSw
                  try dsimp only at hSw
                  go_simp
                  try rfl
                try simp only [Act.put, List.setIfInBounds_toArray, List.set_cons_zero, List.set_cons_succ]
                refine wpAnyH_takeAt (i := 2) (d := 42) (v := ?vx7y2) (by kernel_rfl) (by kernel_rfl) (by kernel_rfl) (by kernel_rfl) (fun _ _ _ h => h) ?hyx7y2 (by assumption) ?restx7y2
                case hyx7y2 =>
                  intro oi ho
                  simp only [List.getElem?_toArray, List.getElem?_cons_succ, List.getElem?_cons_zero, Option.some.injEq] at ho
                  subst ho
                  refine Or.inl ⟨by rfl, ?_⟩
                  intro wx hSw
                  try dsimp only at hSw
                  go_simp
                  try rfl
                try simp only [Act.put, List.setIfInBounds_toArray, List.set_cons_zero, List.set_cons_succ]
                refine wpAnyH_takeAt (i := 3) (d := 43) (v := ?vx7y3) (by kernel_rfl) (by kernel_rfl) (by kernel_rfl) (by kernel_rfl) (fun _ _ _ h => h) ?hyx7y3 (by assumption) ?restx7y3
                case hyx7y3 =>
                  intro oi ho
                  simp only [List.getElem?_toArray, List.getElem?_cons_succ, List.getElem?_cons_zero, Option.some.injEq] at ho
                  subst ho
                  refine Or.inl ⟨by rfl, ?_⟩
                  intro wx hSw
                  try dsimp only at hSw
                  go_simp
                  try rfl
                try simp only [Act.put, List.setIfInBounds_toArray, List.set_cons_zero, List.set_cons_succ]
                refine wpAnyH_takeAt (i := 4) (d := 44) (v := ?vx7y4) (by kernel_rfl) (by kernel_rfl) (by kernel_rfl) (by kernel_rfl) (fun _ _ _ h => h) ?hyx7y4 (by assumption) ?restx7y4
                case hyx7y4 =>
                  intro oi ho
                  simp only [List.getElem?_toArray, List.getElem?_cons_succ, List.getElem?_cons_zero, Option.some.injEq] at ho
                  subst ho
                  refine Or.inl ⟨by rfl, ?_⟩
                  intro wx hSw
                  try dsimp only at hSw
                  go_simp
                  try rfl
                try simp only [Act.put, List.setIfInBounds_toArray, List.set_cons_zero, List.set_cons_succ]
                refine wpAnyH_takeAt (i := 9) (d := 49) (v := ?vx7y9) (by kernel_rfl) (by kernel_rfl) (by kernel_rfl) (by kernel_rfl) (fun _ _ _ h => h) ?hyx7y9 (by assumption) ?restx7y9
                case hyx7y9 =>
                  intro oi ho
                  simp only [List.getElem?_toArray, List.getElem?_cons_succ, List.getElem?_cons_zero, Option.some.injEq] at ho
                  subst ho
                  refine Or.inl ⟨by rfl, ?_⟩
                  intro wx hSw
                  try dsimp only at hSw
                  go_simp
                  try rfl
                try simp only [Act.put, List.setIfInBounds_toArray, List.set_cons_zero, List.set_cons_succ]
                refine wpAnyH_takeAt (i := 10) (d := 50) (v := ?vx7y10) (by kernel_rfl) (by kernel_rfl) (by kernel_rfl) (by kernel_rfl) (fun _ _ _ h => h) ?hyx7y10 (by assumption) ?restx7y10
                case hyx7y10 =>
                  intro oi ho
                  simp only [List.getElem?_toArray, List.getElem?_cons_succ, List.getElem?_cons_zero, Option.some.injEq] at ho
                  subst ho
                  refine Or.inl ⟨by rfl, ?_⟩
                  intro wx hSw
                  try dsimp only at hSw
                  go_simp
                  try rfl
                try simp only [Act.put, List.setIfInBounds_toArray, List.set_cons_zero, List.set_cons_succ]
                refine wpAnyH_comesAt (i := 5) (by kernel_rfl) (by kernel_rfl) ?_
                intro o ho K hK
                simp only [List.getElem?_toArray, List.getElem?_cons_succ, List.getElem?_cons_zero, Option.some.injEq] at ho
                subst ho
                go_simp
                refine (headBlock_any m a2 _ HMZ.out).mono ?_
                rintro e w9 ⟨rfl, hb9⟩
                rw [HMM.out]
                have HB9 := hide ((HB8.out.drew).trans (hb9.mono (by have := HB8.out.size; simpa using this)))
                have HX9 : Hid ((fun wx => wx.cell? ⟨wr.heap.size, 0, none⟩ = some (.int .i64 (m : Int)) ∧ wx.cell? ⟨wr.heap.size, 1, none⟩ = some (.int .i64 (a2 : Nat)) ∧ wx.cell? ⟨w.heap.size + 1, 2, none⟩ = some (.int .i64 (m : Int))) w9) := ⟨(hb9.cell (by simp)).trans HX.out.1, (hb9.cell (by simp)).trans HX.out.2.1, (hb9.cell (by have := HW1.out; simp; omega)).trans HX.out.2.2⟩
                have HRX := hide ((hb9.block _ (by have := HW0.out; simp; omega)).trans HR8.out)
                clear hb9 hHeld
                refine hK.out _ _ HX9.out (fun hHeld => ?_)
                clear hK K
                try simp only [Act.put, List.setIfInBounds_toArray, List.set_cons_zero, List.set_cons_succ]
                refine wpAnyH_takeAt (i := 6) (d := 46) (v := ?vx7y6) (by kernel_rfl) (by kernel_rfl) (by kernel_rfl) (by kernel_rfl) (fun _ _ _ h => h) ?hyx7y6 (by assumption) ?restx7y6
                case hyx7y6 =>
                  intro oi ho
                  simp only [List.getElem?_toArray, List.getElem?_cons_succ, List.getElem?_cons_zero, Option.some.injEq] at ho
                  subst ho
                  refine Or.inl ⟨by rfl, ?_⟩
                  intro wx hSw
                  try dsimp only at hSw
                  go_simp
                  try rfl
                try simp only [Act.put, List.setIfInBounds_toArray, List.set_cons_zero, List.set_cons_succ]
                refine wpAnyH_takeAt (i := 7) (d := 47) (v := ?vx7y7) (by kernel_rfl) (by kernel_rfl) (by kernel_rfl) (by kernel_rfl) (fun _ _ _ h => h) ?hyx7y7 (by assumption) ?restx7y7
                case hyx7y7 =>
                  intro oi ho
                  simp only [List.getElem?_toArray, List.getElem?_cons_succ, List.getElem?_cons_zero, Option.some.injEq] at ho
                  subst ho
                  refine Or.inl ⟨by rfl, ?_⟩
                  intro wx hSw
                  try dsimp only at hSw
                  go_simp
                  try rfl
                try simp only [Act.put, List.setIfInBounds_toArray, List.set_cons_zero, List.set_cons_succ]
                refine wpAnyH_takeAt (i := 8) (d := 48) (v := ?vx7y8) (by kernel_rfl) (by kernel_rfl) (by kernel_rfl) (by kernel_rfl) (fun _ _ _ h => h) ?hyx7y8 (by assumption) ?restx7y8
                case hyx7y8 =>
                  intro oi ho
                  simp only [List.getElem?_toArray, List.getElem?_cons_succ, List.getElem?_cons_zero, Option.some.injEq] at ho
                  subst ho
                  refine Or.inl ⟨by rfl, ?_⟩
                  intro wx hSw
                  try dsimp only at hSw
                  go_simp
                  try rfl
                try simp only [Act.put, List.setIfInBounds_toArray, List.set_cons_zero, List.set_cons_succ]
                refine wpAnyH_takeAt (i := 11) (d := 51) (v := ?vx7y11) (by kernel_rfl) (by kernel_rfl) (by kernel_rfl) (by kernel_rfl) (fun _ _ _ h => h) ?hyx7y11 (by assumption) ?restx7y11
                case hyx7y11 =>
                  intro oi ho
                  simp only [List.getElem?_toArray, List.getElem?_cons_succ, List.getElem?_cons_zero, Option.some.injEq] at ho
                  subst ho
                  refine Or.inl ⟨by rfl, ?_⟩
                  intro wx hSw
                  try dsimp only at hSw
                  go_simp
                  try rfl
                try simp only [Act.put, List.setIfInBounds_toArray, List.set_cons_zero, List.set_cons_succ]
                refine wpAnyH_takeAt (i := 12) (d := 52) (v := ?vx7y12) (by kernel_rfl) (by kernel_rfl) (by kernel_rfl) (by kernel_rfl) (fun _ _ _ h => h) ?hyx7y12 (by assumption) ?restx7y12
                case hyx7y12 =>
                  intro oi ho
                  simp only [List.getElem?_toArray, List.getElem?_cons_succ, List.getElem?_cons_zero, Option.some.injEq] at ho
                  subst ho
                  refine Or.inl ⟨by rfl, ?_⟩
                  intro wx hSw
                  try dsimp only at hSw
                  go_simp
                  try rfl
                try simp only [Act.put, List.setIfInBounds_toArray, List.set_cons_zero, List.set_cons_succ]
                refine wpAnyH_takeAt (i := 13) (d := 9) (v := ?vx7y13) (by kernel_rfl) (by kernel_rfl) (by kernel_rfl) (by kernel_rfl) (fun _ _ _ h => h) ?hyx7y13 (by assumption) ?restx7y13
                case hyx7y13 =>
                  intro oi ho
                  simp only [List.getElem?_toArray, List.getElem?_cons_succ, List.getElem?_cons_zero, Option.some.injEq] at ho
                  subst ho
                  refine Or.inl ⟨by rfl, ?_⟩
                  intro wx hSw
                  try dsimp only at hSw
                  go_simp
                  try rfl
                try simp only [Act.put, List.setIfInBounds_toArray, List.set_cons_zero, List.set_cons_succ]
                refine wpAnyH_done (by kernel_rfl) ?_ _
                refine NoPanic.normal ?_
                have HBX := HB9
                have y0 := HX9.out.1
                have y1 := HX9.out.2.1
                have z0 : w9.cell? ⟨w.heap.size, 0, none⟩ = some (.int .i64 0) := cell_blk HRX.out
                have z1 : w9.cell? ⟨w.heap.size, 1, none⟩ = some (.int .i64 0) := cell_blk HRX.out
                have z2 : w9.frozen? ⟨w.heap.size, 0, none⟩ = false := frz_blk HRX.out
                have z3 : w9.frozen? ⟨w.heap.size, 1, none⟩ = false := frz_blk HRX.out
                go_wp2
                (try simp only [Exit.inBlock, Exit.then])
                exact bodyPost_ret (results_head_err Try.results25 _ _ w.heap.size _ _ _ _ rfl (set2 HRX.out)) rfl ⟨rfl, (HBX.out.setCell (Nat.le_refl _) _).setCell (Nat.le_refl _) _⟩
              · have hL : lastH ((m : Int), a2) (b1, b2) = none := by
                  unfold lastH
                  rw [if_neg hlt, if_neg (by simp only; omega), if_pos (by simp only; rw [if_neg (by omega)]; omega)]
                obtain rfl : L = none := HLH.out.symm.trans hL
                have HB8 := hide (HBW.out.alloc HBW.out.size (.cells #[.int .i64 (m : Int), .int .i64 (a2 : Nat)] 63))
                have HX : Hid ((fun wx => wx.cell? ⟨wr.heap.size, 0, none⟩ = some (.int .i64 (m : Int)) ∧ wx.cell? ⟨wr.heap.size, 1, none⟩ = some (.int .i64 (a2 : Nat)) ∧ wx.cell? ⟨w.heap.size + 1, 2, none⟩ = some (.int .i64 b1)) (wr.alloc (.cells #[.int .i64 (m : Int), .int .i64 (a2 : Nat)] 63))) := ⟨cell_blk (heap_alloc_new wr _), cell_blk (heap_alloc_new wr _), ((below_box wr _).cell HW1.out).trans c2⟩
                have HR8 := hide (((below_box wr (.cells #[.int .i64 (m : Int), .int .i64 (a2 : Nat)] 63)).block _ HW0.out).trans HR.out)
                have HMM : Hid (((m % 2 : Nat) : Int) = 1) := by show _ = _; omega
                have q8 : decide ((0 : Int) < (m : Int)) = true := decide_eq_true (by omega)
                have q8n : decide (0 < m) = true := decide_eq_true (by omega)
                have q9 : (b1 != (m : Int)) = true := by simp; omega
                have HMZ := hide hm
                have HMX := hide hm0
                clear HLH hL FA FB hm0 hev hm hr la lb
                go_wp2_with fail
                refine wp_region_noPanic ?_
                refine wp_region_held_drew (S := fun wx => wx.cell? ⟨wr.heap.size, 0, none⟩ = some (.int .i64 (m : Int)) ∧ wx.cell? ⟨wr.heap.size, 1, none⟩ = some (.int .i64 (a2 : Nat)) ∧ wx.cell? ⟨w.heap.size + 1, 2, none⟩ = some (.int .i64 b1)) (by kernel_rfl) HX.out (fun hHeld => ?_)
                refine wpAnyH_takeAt (i := 0) (d := 40) (v := ?vx8y0) (by kernel_rfl) (by kernel_rfl) (by kernel_rfl) (by kernel_rfl) (fun _ _ _ h => h) ?hyx8y0 (by assumption) ?restx8y0
                case hyx8y0 =>
                  intro oi ho
                  simp only [List.getElem?_toArray, List.getElem?_cons_zero, Option.some.injEq] at ho
                  subst ho
                  refine Or.inl ⟨by rfl, ?_⟩
                  intro wx hSw
                  try dsimp only at hSw
                  go_simp
                  try rfl
                try simp only [Act.put, List.setIfInBounds_toArray, List.set_cons_zero, List.set_cons_succ]
                refine wpAnyH_takeAt (i := 1) (d := 41) (v := ?vx8y1) (by kernel_rfl) (by kernel_rfl) (by kernel_rfl) (by kernel_rfl) (fun _ _ _ h => h) ?hyx8y1 (by assumption) ?restx8y1
                case hyx8y1 =>
                  intro oi ho
                  simp only [List.getElem?_toArray, List.getElem?_cons_succ, List.getElem?_cons_zero, Option.some.injEq] at ho
                  subst ho
                  refine Or.inl ⟨by rfl, ?_⟩
                  intro wx hSw
                  try dsimp only at hSw
                  go_simp
                  try rfl
                try simp only [Act.put, List.setIfInBounds_toArray, List.set_cons_zero, List.set_cons_succ]
                refine wpAnyH_takeAt (i := 2) (d := 42) (v := ?vx8y2) (by kernel_rfl) (by kernel_rfl) (by kernel_rfl) (by kernel_rfl) (fun _ _ _ h => h) ?hyx8y2 (by assumption) ?restx8y2
                case hyx8y2 =>
                  intro oi ho
                  simp only [List.getElem?_toArray, List.getElem?_cons_succ, List.getElem?_cons_zero, Option.some.injEq] at ho
                  subst ho
                  refine Or.inl ⟨by rfl, ?_⟩
                  intro wx hSw
                  try dsimp only at hSw
                  go_simp
                  try rfl
                try simp only [Act.put, List.setIfInBounds_toArray, List.set_cons_zero, List.set_cons_succ]
                refine wpAnyH_takeAt (i := 3) (d := 43) (v := ?vx8y3) (by kernel_rfl) (by kernel_rfl) (by kernel_rfl) (by kernel_rfl) (fun _ _ _ h => h) ?hyx8y3 (by assumption) ?restx8y3
                case hyx8y3 =>
                  intro oi ho
                  simp only [List.getElem?_toArray, List.getElem?_cons_succ, List.getElem?_cons_zero, Option.some.injEq] at ho
                  subst ho
                  refine Or.inl ⟨by rfl, ?_⟩
                  intro wx hSw
                  try dsimp only at hSw
                  go_simp
                  try rfl
                try simp only [Act.put, List.setIfInBounds_toArray, List.set_cons_zero, List.set_cons_succ]
                refine wpAnyH_takeAt (i := 4) (d := 44) (v := ?vx8y4) (by kernel_rfl) (by kernel_rfl) (by kernel_rfl) (by kernel_rfl) (fun _ _ _ h => h) ?hyx8y4 (by assumption) ?restx8y4
                case hyx8y4 =>
                  intro oi ho
                  simp only [List.getElem?_toArray, List.getElem?_cons_succ, List.getElem?_cons_zero, Option.some.injEq] at ho
                  subst ho
                  refine Or.inl ⟨by rfl, ?_⟩
                  intro wx hSw
                  try dsimp only at hSw
                  go_simp
                  try rfl
                try simp only [Act.put, List.setIfInBounds_toArray, List.set_cons_zero, List.set_cons_succ]
                refine wpAnyH_takeAt (i := 9) (d := 49) (v := ?vx8y9) (by kernel_rfl) (by kernel_rfl) (by kernel_rfl) (by kernel_rfl) (fun _ _ _ h => h) ?hyx8y9 (by assumption) ?restx8y9
                case hyx8y9 =>
                  intro oi ho
                  simp only [List.getElem?_toArray, List.getElem?_cons_succ, List.getElem?_cons_zero, Option.some.injEq] at ho
                  subst ho
                  refine Or.inl ⟨by rfl, ?_⟩
                  intro wx hSw
                  try dsimp only at hSw
                  go_simp
                  try rfl
                try simp only [Act.put, List.setIfInBounds_toArray, List.set_cons_zero, List.set_cons_succ]
                refine wpAnyH_takeAt (i := 10) (d := 50) (v := ?vx8y10) (by kernel_rfl) (by kernel_rfl) (by kernel_rfl) (by kernel_rfl) (fun _ _ _ h => h) ?hyx8y10 (by assumption) ?restx8y10
                case hyx8y10 =>
                  intro oi ho
                  simp only [List.getElem?_toArray, List.getElem?_cons_succ, List.getElem?_cons_zero, Option.some.injEq] at ho
                  subst ho
                  refine Or.inl ⟨by rfl, ?_⟩
                  intro wx hSw
                  try dsimp only at hSw
                  go_simp
                  try rfl
                try simp only [Act.put, List.setIfInBounds_toArray, List.set_cons_zero, List.set_cons_succ]
                refine wpAnyH_comesAt (i := 5) (by kernel_rfl) (by kernel_rfl) ?_
                intro o ho K hK
                simp only [List.getElem?_toArray, List.getElem?_cons_succ, List.getElem?_cons_zero, Option.some.injEq] at ho
                subst ho
                go_simp
                refine (headBlock_any m a2 _ HMZ.out).mono ?_
                rintro e w9 ⟨rfl, hb9⟩
                rw [HMM.out]
                have HB9 := hide ((HB8.out.drew).trans (hb9.mono (by have := HB8.out.size; simpa using this)))
                have HX9 : Hid ((fun wx => wx.cell? ⟨wr.heap.size, 0, none⟩ = some (.int .i64 (m : Int)) ∧ wx.cell? ⟨wr.heap.size, 1, none⟩ = some (.int .i64 (a2 : Nat)) ∧ wx.cell? ⟨w.heap.size + 1, 2, none⟩ = some (.int .i64 b1)) w9) := ⟨(hb9.cell (by simp)).trans HX.out.1, (hb9.cell (by simp)).trans HX.out.2.1, (hb9.cell (by have := HW1.out; simp; omega)).trans HX.out.2.2⟩
                have HRX := hide ((hb9.block _ (by have := HW0.out; simp; omega)).trans HR8.out)
                clear hb9 hHeld
                refine hK.out _ _ HX9.out (fun hHeld => ?_)
                clear hK K
                try simp only [Act.put, List.setIfInBounds_toArray, List.set_cons_zero, List.set_cons_succ]
                refine wpAnyH_takeAt (i := 6) (d := 46) (v := ?vx8y6) (by kernel_rfl) (by kernel_rfl) (by kernel_rfl) (by kernel_rfl) (fun _ _ _ h => h) ?hyx8y6 (by assumption) ?restx8y6
                case hyx8y6 =>
                  intro oi ho
                  simp only [List.getElem?_toArray, List.getElem?_cons_succ, List.getElem?_cons_zero, Option.some.injEq] at ho
                  subst ho
                  refine Or.inl ⟨by rfl, ?_⟩
                  intro wx hSw
                  try dsimp only at hSw
                  go_simp
                  try rfl
                try simp only [Act.put, List.setIfInBounds_toArray, List.set_cons_zero, List.set_cons_succ]
                refine wpAnyH_takeAt (i := 7) (d := 47) (v := ?vx8y7) (by kernel_rfl) (by kernel_rfl) (by kernel_rfl) (by kernel_rfl) (fun _ _ _ h => h) ?hyx8y7 (by assumption) ?restx8y7
                case hyx8y7 =>
                  intro oi ho
                  simp only [List.getElem?_toArray, List.getElem?_cons_succ, List.getElem?_cons_zero, Option.some.injEq] at ho
                  subst ho
                  refine Or.inl ⟨by rfl, ?_⟩
                  intro wx hSw
                  try dsimp only at hSw
                  go_simp
                  try rfl
                try simp only [Act.put, List.setIfInBounds_toArray, List.set_cons_zero, List.set_cons_succ]
                refine wpAnyH_takeAt (i := 8) (d := 48) (v := ?vx8y8) (by kernel_rfl) (by kernel_rfl) (by kernel_rfl) (by kernel_rfl) (fun _ _ _ h => h) ?hyx8y8 (by assumption) ?restx8y8
                case hyx8y8 =>
                  intro oi ho
                  simp only [List.getElem?_toArray, List.getElem?_cons_succ, List.getElem?_cons_zero, Option.some.injEq] at ho
                  subst ho
                  refine Or.inl ⟨by rfl, ?_⟩
                  intro wx hSw
                  try dsimp only at hSw
                  go_simp
                  try rfl
                try simp only [Act.put, List.setIfInBounds_toArray, List.set_cons_zero, List.set_cons_succ]
                refine wpAnyH_takeAt (i := 11) (d := 51) (v := ?vx8y11) (by kernel_rfl) (by kernel_rfl) (by kernel_rfl) (by kernel_rfl) (fun _ _ _ h => h) ?hyx8y11 (by assumption) ?restx8y11
                case hyx8y11 =>
                  intro oi ho
                  simp only [List.getElem?_toArray, List.getElem?_cons_succ, List.getElem?_cons_zero, Option.some.injEq] at ho
                  subst ho
                  refine Or.inl ⟨by rfl, ?_⟩
                  intro wx hSw
                  try dsimp only at hSw
                  go_simp
                  try rfl
                try simp only [Act.put, List.setIfInBounds_toArray, List.set_cons_zero, List.set_cons_succ]
                refine wpAnyH_takeAt (i := 12) (d := 52) (v := ?vx8y12) (by kernel_rfl) (by kernel_rfl) (by kernel_rfl) (by kernel_rfl) (fun _ _ _ h => h) ?hyx8y12 (by assumption) ?restx8y12
                case hyx8y12 =>
                  intro oi ho
                  simp only [List.getElem?_toArray, List.getElem?_cons_succ, List.getElem?_cons_zero, Option.some.injEq] at ho
                  subst ho
                  refine Or.inl ⟨by rfl, ?_⟩
                  intro wx hSw
                  try dsimp only at hSw
                  go_simp
                  try rfl
                try simp only [Act.put, List.setIfInBounds_toArray, List.set_cons_zero, List.set_cons_succ]
                refine wpAnyH_takeAt (i := 13) (d := 9) (v := ?vx8y13) (by kernel_rfl) (by kernel_rfl) (by kernel_rfl) (by kernel_rfl) (fun _ _ _ h => h) ?hyx8y13 (by assumption) ?restx8y13
                case hyx8y13 =>
                  intro oi ho
                  simp only [List.getElem?_toArray, List.getElem?_cons_succ, List.getElem?_cons_zero, Option.some.injEq] at ho
                  subst ho
                  refine Or.inl ⟨by rfl, ?_⟩
                  intro wx hSw
                  try dsimp only at hSw
                  go_simp
                  try rfl
                try simp only [Act.put, List.setIfInBounds_toArray, List.set_cons_zero, List.set_cons_succ]
                refine wpAnyH_done (by kernel_rfl) ?_ _
                refine NoPanic.normal ?_
                have HBX := HB9
                have y0 := HX9.out.1
                have y1 := HX9.out.2.1
                have z0 : w9.cell? ⟨w.heap.size, 0, none⟩ = some (.int .i64 0) := cell_blk HRX.out
                have z1 : w9.cell? ⟨w.heap.size, 1, none⟩ = some (.int .i64 0) := cell_blk HRX.out
                have z2 : w9.frozen? ⟨w.heap.size, 0, none⟩ = false := frz_blk HRX.out
                have z3 : w9.frozen? ⟨w.heap.size, 1, none⟩ = false := frz_blk HRX.out
                go_wp2
                (try simp only [Exit.inBlock, Exit.then])
                exact bodyPost_ret (results_head_err Try.results25 _ _ w.heap.size _ _ _ _ rfl (set2 HRX.out)) rfl ⟨rfl, (HBX.out.setCell (Nat.le_refl _) _).setCell (Nat.le_refl _) _⟩
end Go.Proofs.Ytbjononpgcemgaa
