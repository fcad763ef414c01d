import Derived.Test.YtnfponcadkmfjabGreatZ28
import Derived.Test.YtnfponcadkmfjabGreatZ15
import Derived.Test.YtnfponcadkmfjabGreatZ2
import Derived.Deep.MidRow
set_option linter.unusedVariables false
namespace Go.Proofs.YtnfponcadkmfjabGreat
open Go.RowKit
def lastH (a b : Int × Nat) : Option (Nat × Nat) :=
  if (if a.1 < b.1 then b else a).1 = -1 then none
  else if 0 < (if a.1 < b.1 then b else a).1 ∧ (if (if a.1 < b.1 then b else a).1 % 2 = 0 then a.1 else b.1) ≠ (if a.1 < b.1 then b else a).1 then none
  else some ((if a.1 < b.1 then b else a).1.toNat, (if a.1 < b.1 then b else a).2)
theorem rdH_form (xs : List Nat) (n : Nat) (hn : 1 ≤ n) : rdH xs n = (-1, 0) ∨ ∃ num root : Nat, rdH xs n = ((num : Int), root) ∧ num ≤ 4611686018427387904 ∧ root < n := by
  unfold rdH
  split
  · exact Or.inr ⟨0, 0, rfl, by omega, by omega⟩
  · split
    · exact Or.inl rfl
    · rename_i h
      split
      · refine Or.inr ⟨_, _, rfl, ?_, ?_⟩
        · simp only [badH, Bool.or_eq_true, decide_eq_true_eq, not_or] at h
          omega
        · simp only [badH, Bool.or_eq_true, decide_eq_true_eq, not_or] at h
          omega
      · exact Or.inl rfl
def fnd (a b : Int × Nat) (k : Nat) : Array Value := if k = 0 then #[.int .i64 0, .int .i64 0, .int .i64 0, .int .i64 0] else if k = 1 then #[.int .i64 a.1, .int .i64 (a.2 : Nat), .int .i64 0, .int .i64 0] else #[.int .i64 a.1, .int .i64 (a.2 : Nat), .int .i64 b.1, .int .i64 (b.2 : Nat)]
theorem results_head_err {fn : Func} {p u : Tmp} (h : fn.results = #[.cell p 128, .tmp u]) (tmps : Array Value) (w : World) (g : Nat) (t : TypeId) (x y : Value) (fr : Nat × Nat)
    (hp : tmps.getD p undef = .pointer (some ⟨g, 0, none⟩)) (hg : w.heap[g]? = some (.cells #[x, y] t fr)) :
    (results fn tmps).run Tryz.prog w = .ok (.tuple #[.agg #[x, y], tmps.getD u undef]) w := by
  rw [results_cell_tmp h, hp]
  simp only [asAddr, Sem.run_pure, Result.andThen_ok, run_loadVar_row w g t 128 #[x, y] fr _ hg Tryz.underlying128 rfl info_head]
set_option maxRecDepth 100000 in
set_option maxHeartbeats 4000000 in
theorem lastHead_ok [Gd] (B p : Nat) (s : DS) (w : World) (h : DI B p s w) (hB : B ≤ w.heap.size) (hd : s.down = false) (h3 : 3 ≤ s.n) :
    Calls Tryz.prog 82 #[.pointer (some ⟨p, 0, none⟩)] w fun e w' => e = .returned (match lastH (rdH (pad (s.show 0)) s.n) (rdH (pad (s.show 1)) s.n) with | none => .tuple #[.agg #[.int .i64 0, .int .i64 0], .int .i64 22] | some (num, root) => .tuple #[.agg #[.int .i64 (num : Int), .int .i64 (root : Int)], .int .i64 0]) ∧ Below w.heap.size w w' := by
  have hz : ∀ ww, (zeroValue 128).run Tryz.prog ww = .ok (.agg #[.int .i64 0, .int .i64 0]) ww := fun ww => by kernel_rfl
  have hz2 : ∀ ww, (zeroValue 175).run Tryz.prog ww = .ok (.agg #[.int .i64 0, .int .i64 0, .int .i64 0, .int .i64 0]) ww := fun ww => by kernel_rfl
  have HB1 := hide ((below_box w (.cells #[.int .i64 0, .int .i64 0] 128)).alloc (by simp) (.cells #[.int .i64 0, .int .i64 0, .int .i64 0, .int .i64 0] 175))
  have HD := hide h
  have HN2 := hide h.ok.n2
  have HSB := hide (fun i => pad_lt (show_lt h.ok i))
  have HSL := hide (fun i => pad_len (show_len h.ok i))
  obtain ⟨a, ha⟩ : ∃ a, a = rdH (pad (s.show 0)) s.n := ⟨_, rfl⟩
  obtain ⟨b, hb⟩ : ∃ b, b = rdH (pad (s.show 1)) s.n := ⟨_, rfl⟩
  have FA := hide (rdH_form (pad (s.show 0)) s.n (by omega))
  have FB := hide (rdH_form (pad (s.show 1)) s.n (by omega))
  rw [← ha] at FA
  rw [← hb] at FB
  rw [← ha, ← hb]
  have HA := hide ha
  have HBb := hide hb
  generalize hLH : lastH a b = L
  have HLH := hide hLH
  clear h ha hb hLH
  go_enter Tryz.func82, Tryz.ntmps82
  go_wp2
  go_loopw [10] (fun i wr => ∃ k : Nat, k ≤ 2 ∧ i = .int .i64 k ∧ wr.heap[w.heap.size]? = some (.cells #[.int .i64 0, .int .i64 0] 128 (0, 0)) ∧ wr.heap[w.heap.size + 1]? = some (.cells (fnd a b k) 175 (0, 0)) ∧ Below w.heap.size w wr) (fun i _ => 2 - (intOf i).toNat)
  case atStart => exact ⟨0, by omega, rfl, heap_alloc2_old _ _ _, heap_alloc2_new _ _ _, HB1.out⟩
  case round =>
    clear HB1
    obtain ⟨k, hk, rfl, hR, hF, hB2⟩ := hrel
    have HR := hide hR
    have HF := hide hF
    have HBW := hide hB2
    have HBZ := hide (Nat.le_trans hB hB2.size)
    have HDW := hide (HD.out.later hB2)
    clear hR hF hB2
    have hk3 : k = 0 ∨ k = 1 ∨ k = 2 := by omega
    rcases hk3 with rfl | rfl | rfl
    · have RO := hide (read_ok B p s 0 wr HDW.out HBZ.out hd (by omega))
      have BO := hide (fun ww h => blocks_any B p s ww h)
      go_wp2_with fail
      refine RO.out.mono ?_
      rintro e w2 ⟨g, rfl, ho2, hb2⟩
      have HX2 := hide (BS.ofOwns ho2 (by unfold blk; omega) (HSB.out 0))
      have HB2 := hide hb2
      have HD2 := hide (HDW.out.later hb2)
      clear ho2 hb2
      go_wp2_with fail
      refine (BO.out _ HD2.out).mono ?_
      rintro e w3 ⟨rfl, rfl⟩
      go_wp2_with fail
      refine (readHead_any g s.n (pad (s.show 0)) w3 HX2.out HN2.out (by omega)).mono ?_
      rintro e w4 ⟨rfl, hb4⟩
      rw [← HA.out]
      have HB4 := hide (HB2.out.trans (hb4.mono HB2.out.size))
      have r4 := (HB4.out.block _ (Array.getElem?_eq_some_iff.1 HF.out).1).trans HF.out
      have HR4 := hide ((HB4.out.block _ (Array.getElem?_eq_some_iff.1 HR.out).1).trans HR.out)
      have c0 : ∃ v, w4.cell? ⟨w.heap.size + 1, 0, none⟩ = some v := ⟨_, (cell_blk r4).trans rfl⟩
      have c1 : ∃ v, w4.cell? ⟨w.heap.size + 1, 1, none⟩ = some v := ⟨_, (cell_blk r4).trans rfl⟩
      obtain ⟨v0, c0⟩ := c0
      obtain ⟨v1, c1⟩ := c1
      have f0 := frz_blk (i := 0) r4
      have f1 := frz_blk (i := 1) r4
      have HF4 := hide r4
      clear hb4 r4
      go_wp2
      refine ⟨⟨1, by omega, by go_num, ?_, ?_, ((HBW.out.trans (HB4.out.mono HBW.out.size)).setCell (Nat.le_succ _) _).setCell (Nat.le_succ _) _⟩, by simp [intOf]⟩
      · rw [heap_setCell_other _ _ _ _ (Nat.ne_of_lt (Nat.lt_succ_self _)), heap_setCell_other _ _ _ _ (Nat.ne_of_lt (Nat.lt_succ_self _))]
        exact HR4.out
      · rw [heap_setCell_same _ _ 1 _ _ _ (heap_setCell_same w4 _ 0 _ _ _ HF4.out)]
        rfl
    · have RO := hide (read_ok B p s 1 wr HDW.out HBZ.out hd (by omega))
      have BO := hide (fun ww h => blocks_any B p s ww h)
      go_wp2_with fail
      refine RO.out.mono ?_
      rintro e w2 ⟨g, rfl, ho2, hb2⟩
      have HX2 := hide (BS.ofOwns ho2 (by unfold blk; omega) (HSB.out 1))
      have HB2 := hide hb2
      have HD2 := hide (HDW.out.later hb2)
      clear ho2 hb2
      go_wp2_with fail
      refine (BO.out _ HD2.out).mono ?_
      rintro e w3 ⟨rfl, rfl⟩
      go_wp2_with fail
      refine (readHead_any g s.n (pad (s.show 1)) w3 HX2.out HN2.out (by omega)).mono ?_
      rintro e w4 ⟨rfl, hb4⟩
      rw [← HBb.out]
      have HB4 := hide (HB2.out.trans (hb4.mono HB2.out.size))
      have r4 := (HB4.out.block _ (Array.getElem?_eq_some_iff.1 HF.out).1).trans HF.out
      have HR4 := hide ((HB4.out.block _ (Array.getElem?_eq_some_iff.1 HR.out).1).trans HR.out)
      have c0 : ∃ v, w4.cell? ⟨w.heap.size + 1, 2, none⟩ = some v := ⟨_, (cell_blk r4).trans rfl⟩
      have c1 : ∃ v, w4.cell? ⟨w.heap.size + 1, 3, none⟩ = some v := ⟨_, (cell_blk r4).trans rfl⟩
      obtain ⟨v0, c0⟩ := c0
      obtain ⟨v1, c1⟩ := c1
      have f0 := frz_blk (i := 2) r4
      have f1 := frz_blk (i := 3) r4
      have HF4 := hide r4
      clear hb4 r4
      go_wp2
      refine ⟨⟨2, by omega, by go_num, ?_, ?_, ((HBW.out.trans (HB4.out.mono HBW.out.size)).setCell (Nat.le_succ _) _).setCell (Nat.le_succ _) _⟩, by simp [intOf]⟩
      · rw [heap_setCell_other _ _ _ _ (Nat.ne_of_lt (Nat.lt_succ_self _)), heap_setCell_other _ _ _ _ (Nat.ne_of_lt (Nat.lt_succ_self _))]
        exact HR4.out
      · rw [heap_setCell_same _ _ 3 _ _ _ (heap_setCell_same w4 _ 2 _ _ _ HF4.out)]
        rfl
    · clear HDW HBZ HD HN2 HSB HSL
      have c0 : wr.cell? ⟨w.heap.size + 1, 0, none⟩ = some (.int .i64 a.1) := cell_blk HF.out
      have c1 : wr.cell? ⟨w.heap.size + 1, 1, none⟩ = some (.int .i64 (a.2 : Nat)) := cell_blk HF.out
      have c2 : wr.cell? ⟨w.heap.size + 1, 2, none⟩ = some (.int .i64 b.1) := cell_blk HF.out
      have c3 : wr.cell? ⟨w.heap.size + 1, 3, none⟩ = some (.int .i64 (b.2 : Nat)) := cell_blk HF.out
      have d0 : wr.cell? ⟨w.heap.size, 0, none⟩ = some (.int .i64 0) := cell_blk HR.out
      have d1 : wr.cell? ⟨w.heap.size, 1, none⟩ = some (.int .i64 0) := cell_blk HR.out
      have f0 : wr.frozen? ⟨w.heap.size, 0, none⟩ = false := frz_blk HR.out
      have f1 : wr.frozen? ⟨w.heap.size, 1, none⟩ = false := frz_blk HR.out
      have hlt0 := (Array.getElem?_eq_some_iff.1 HR.out).1
      have hlt1 := (Array.getElem?_eq_some_iff.1 HF.out).1
      have HW0 := hide hlt0
      have HW1 := hide hlt1
      have HFz := hide HF.out
      obtain ⟨a1, a2⟩ := a
      obtain ⟨b1, b2⟩ := b
      simp only at c0 c1 c2 c3 FA FB
      clear HF HA HBb hlt0 hlt1
      have la : -1 ≤ a1 := by rcases FA.out with e | ⟨m, r, e, _⟩ <;> (simp only [Prod.mk.injEq] at e; omega)
      have lb : -1 ≤ b1 := by rcases FB.out with e | ⟨m, r, e, _⟩ <;> (simp only [Prod.mk.injEq] at e; omega)
      have BX0 := hide (below_box wr (.cells #[.int .i64 a1, .int .i64 (a2 : Nat)] 128))
      have g2 := (BX0.out.cell HW1.out).trans c2
      have g3 := (BX0.out.cell HW1.out).trans c3
      by_cases hlt : a1 < b1
      · rcases FB.out with e | ⟨m, r, e, hm, hr⟩
        · simp only [Prod.mk.injEq] at e
          omega
        · simp only [Prod.mk.injEq] at e
          obtain ⟨rfl, rfl⟩ := e
          by_cases hm0 : m = 0
          · subst hm0
            have hL : lastH (a1, a2) (((0 : Nat) : Int), b2) = some (0, b2) := by
              unfold lastH
              rw [if_pos hlt]
              rfl
            obtain rfl : L = some (0, b2) := HLH.out.symm.trans hL
            have HB8 := hide (HBW.out.alloc HBW.out.size (.cells #[.int .i64 0, .int .i64 (b2 : Nat)] 128))
            have HRY := hide (((below_box wr (.cells #[.int .i64 0, .int .i64 (b2 : Nat)] 128)).block _ HW0.out).trans HR.out)
            have z0 := cell_blk (i := 0) HRY.out
            have z1 := cell_blk (i := 1) HRY.out
            have z2 := frz_blk (i := 0) HRY.out
            have z3 := frz_blk (i := 1) HRY.out
            have q8 : decide ((0 : Int) < 0) = false := rfl
            clear HLH hL FA FB
            go_wp2_with fail
            go_quiet (fail)
            have HRX := HRY
            have HBX := hide (below_drewN HB8.out nq)
            go_wp2
            (try simp only [Exit.inBlock, Exit.then])
            exact bodyPost_ret (results_head_err Tryz.results82 _ _ w.heap.size _ _ _ _ rfl (set2 HRX.out)) rfl ⟨rfl, (HBX.out.setCell (Nat.le_refl _) _).setCell (Nat.le_refl _) _⟩
          · by_cases hev : m % 2 = 0
            · have hL : lastH (a1, a2) ((m : Int), b2) = none := by
                unfold lastH
                rw [if_pos hlt, if_neg (by simp only; omega), if_pos (by simp only; rw [if_pos (by omega)]; omega)]
              obtain rfl : L = none := HLH.out.symm.trans hL
              have HB8 := hide (HBW.out.alloc HBW.out.size (.cells #[.int .i64 (m : Int), .int .i64 (b2 : Nat)] 128))
              have HX : Hid ((fun wx => wx.cell? ⟨wr.heap.size, 0, none⟩ = some (.int .i64 (m : Int)) ∧ wx.cell? ⟨wr.heap.size, 1, none⟩ = some (.int .i64 (b2 : Nat)) ∧ wx.cell? ⟨w.heap.size + 1, 0, none⟩ = some (.int .i64 a1)) (wr.alloc (.cells #[.int .i64 (m : Int), .int .i64 (b2 : Nat)] 128))) := ⟨cell_blk (heap_alloc_new wr _), cell_blk (heap_alloc_new wr _), ((below_box wr _).cell HW1.out).trans c0⟩
              have HR8 := hide (((below_box wr (.cells #[.int .i64 (m : Int), .int .i64 (b2 : Nat)] 128)).block _ HW0.out).trans HR.out)
              have HMM : Hid (((m % 2 : Nat) : Int) = 0) := by show _ = _; omega
              have q8 : decide ((0 : Int) < (m : Int)) = true := decide_eq_true (by omega)
              have q8n : decide (0 < m) = true := decide_eq_true (by omega)
              have q9 : (a1 != (m : Int)) = true := by simp; omega
              have HMZ := hide hm
              have HMX := hide hm0
              clear HLH hL FA FB hm0 hev hm hr la lb
              go_wp2_with fail
              refine wp_region_noPanic ?_
              refine wp_region_held_drew (S := fun wx => wx.cell? ⟨wr.heap.size, 0, none⟩ = some (.int .i64 (m : Int)) ∧ wx.cell? ⟨wr.heap.size, 1, none⟩ = some (.int .i64 (b2 : Nat)) ∧ wx.cell? ⟨w.heap.size + 1, 0, none⟩ = some (.int .i64 a1)) (by kernel_rfl) HX.out (fun hHeld => ?_)
              refine wpAnyH_tk 0 40 (v := ?vx2y0) ?hyx2y0 ?_
              case hyx2y0 => intro oi ho; simp only [List.getElem?_toArray, List.getElem?_cons_zero, Option.some.injEq] at ho; subst ho; refine Or.inl ⟨by rfl, ?_⟩; intro wx hSw; (try dsimp only at hSw); go_simp; try rfl
              try simp only [Act.put, List.setIfInBounds_toArray, List.set_cons_zero, List.set_cons_succ]
              refine wpAnyH_tk 1 41 (v := ?vx2y1) ?hyx2y1 ?_
              case hyx2y1 => intro oi ho; simp only [List.getElem?_toArray, List.getElem?_cons_succ, List.getElem?_cons_zero, Option.some.injEq] at ho; subst ho; refine Or.inl ⟨by rfl, ?_⟩; intro wx hSw; (try dsimp only at hSw); go_simp; try rfl
              try simp only [Act.put, List.setIfInBounds_toArray, List.set_cons_zero, List.set_cons_succ]
              refine wpAnyH_tk 2 42 (v := ?vx2y2) ?hyx2y2 ?_
              case hyx2y2 => intro oi ho; simp only [List.getElem?_toArray, List.getElem?_cons_succ, List.getElem?_cons_zero, Option.some.injEq] at ho; subst ho; refine Or.inl ⟨by rfl, ?_⟩; intro wx hSw; (try dsimp only at hSw); go_simp; try rfl
              try simp only [Act.put, List.setIfInBounds_toArray, List.set_cons_zero, List.set_cons_succ]
              refine wpAnyH_tk 3 43 (v := ?vx2y3) ?hyx2y3 ?_
              case hyx2y3 => intro oi ho; simp only [List.getElem?_toArray, List.getElem?_cons_succ, List.getElem?_cons_zero, Option.some.injEq] at ho; subst ho; refine Or.inl ⟨by rfl, ?_⟩; intro wx hSw; (try dsimp only at hSw); go_simp; try rfl
              try simp only [Act.put, List.setIfInBounds_toArray, List.set_cons_zero, List.set_cons_succ]
              refine wpAnyH_tk 4 44 (v := ?vx2y4) ?hyx2y4 ?_
              case hyx2y4 => intro oi ho; simp only [List.getElem?_toArray, List.getElem?_cons_succ, List.getElem?_cons_zero, Option.some.injEq] at ho; subst ho; refine Or.inl ⟨by rfl, ?_⟩; intro wx hSw; (try dsimp only at hSw); go_simp; try rfl
              try simp only [Act.put, List.setIfInBounds_toArray, List.set_cons_zero, List.set_cons_succ]
              refine wpAnyH_tk 9 49 (v := ?vx2y9) ?hyx2y9 ?_
              case hyx2y9 => intro oi ho; simp only [List.getElem?_toArray, List.getElem?_cons_succ, List.getElem?_cons_zero, Option.some.injEq] at ho; subst ho; refine Or.inl ⟨by rfl, ?_⟩; intro wx hSw; (try dsimp only at hSw); go_simp; try rfl
              try simp only [Act.put, List.setIfInBounds_toArray, List.set_cons_zero, List.set_cons_succ]
              refine wpAnyH_tk 10 50 (v := ?vx2y10) ?hyx2y10 ?_
              case hyx2y10 => intro oi ho; simp only [List.getElem?_toArray, List.getElem?_cons_succ, List.getElem?_cons_zero, Option.some.injEq] at ho; subst ho; refine Or.inl ⟨by rfl, ?_⟩; intro wx hSw; (try dsimp only at hSw); go_simp; try rfl
              try simp only [Act.put, List.setIfInBounds_toArray, List.set_cons_zero, List.set_cons_succ]
              refine wpAnyH_cm 5 ?_; intro o ho K hK; simp only [List.getElem?_toArray, List.getElem?_cons_succ, List.getElem?_cons_zero, Option.some.injEq] at ho; subst ho
              go_simp
              refine (headBlock_any m b2 _ HMZ.out).mono ?_
              rintro e w9 ⟨rfl, hb9⟩
              rw [HMM.out]
              have HB9 := hide ((HB8.out.drew).trans (hb9.mono (by have := HB8.out.size; simpa using this)))
              have HX9 : Hid ((fun wx => wx.cell? ⟨wr.heap.size, 0, none⟩ = some (.int .i64 (m : Int)) ∧ wx.cell? ⟨wr.heap.size, 1, none⟩ = some (.int .i64 (b2 : Nat)) ∧ wx.cell? ⟨w.heap.size + 1, 0, none⟩ = some (.int .i64 a1)) w9) := ⟨(hb9.cell (by simp)).trans HX.out.1, (hb9.cell (by simp)).trans HX.out.2.1, (hb9.cell (by have := HW1.out; simp; omega)).trans HX.out.2.2⟩
              have HRX := hide ((hb9.block _ (by have := HW0.out; simp; omega)).trans HR8.out)
              clear hb9 hHeld
              refine hK.out _ _ HX9.out (fun hHeld => ?_)
              clear hK K
              try simp only [Act.put, List.setIfInBounds_toArray, List.set_cons_zero, List.set_cons_succ]
              refine wpAnyH_tk 6 46 (v := ?vx2y6) ?hyx2y6 ?_
              case hyx2y6 => intro oi ho; simp only [List.getElem?_toArray, List.getElem?_cons_succ, List.getElem?_cons_zero, Option.some.injEq] at ho; subst ho; refine Or.inl ⟨by rfl, ?_⟩; intro wx hSw; (try dsimp only at hSw); go_simp; try rfl
              try simp only [Act.put, List.setIfInBounds_toArray, List.set_cons_zero, List.set_cons_succ]
              refine wpAnyH_tk 7 47 (v := ?vx2y7) ?hyx2y7 ?_
              case hyx2y7 => intro oi ho; simp only [List.getElem?_toArray, List.getElem?_cons_succ, List.getElem?_cons_zero, Option.some.injEq] at ho; subst ho; refine Or.inl ⟨by rfl, ?_⟩; intro wx hSw; (try dsimp only at hSw); go_simp; try rfl
              try simp only [Act.put, List.setIfInBounds_toArray, List.set_cons_zero, List.set_cons_succ]
              refine wpAnyH_tk 8 48 (v := ?vx2y8) ?hyx2y8 ?_
              case hyx2y8 => intro oi ho; simp only [List.getElem?_toArray, List.getElem?_cons_succ, List.getElem?_cons_zero, Option.some.injEq] at ho; subst ho; refine Or.inl ⟨by rfl, ?_⟩; intro wx hSw; (try dsimp only at hSw); go_simp; try rfl
              try simp only [Act.put, List.setIfInBounds_toArray, List.set_cons_zero, List.set_cons_succ]
              refine wpAnyH_tk 11 51 (v := ?vx2y11) ?hyx2y11 ?_
              case hyx2y11 => intro oi ho; simp only [List.getElem?_toArray, List.getElem?_cons_succ, List.getElem?_cons_zero, Option.some.injEq] at ho; subst ho; refine Or.inl ⟨by rfl, ?_⟩; intro wx hSw; (try dsimp only at hSw); go_simp; try rfl
              try simp only [Act.put, List.setIfInBounds_toArray, List.set_cons_zero, List.set_cons_succ]
              refine wpAnyH_tk 12 52 (v := ?vx2y12) ?hyx2y12 ?_
              case hyx2y12 => intro oi ho; simp only [List.getElem?_toArray, List.getElem?_cons_succ, List.getElem?_cons_zero, Option.some.injEq] at ho; subst ho; refine Or.inl ⟨by rfl, ?_⟩; intro wx hSw; (try dsimp only at hSw); go_simp; try rfl
              try simp only [Act.put, List.setIfInBounds_toArray, List.set_cons_zero, List.set_cons_succ]
              refine wpAnyH_tk 13 9 (v := ?vx2y13) ?hyx2y13 ?_
              case hyx2y13 => intro oi ho; simp only [List.getElem?_toArray, List.getElem?_cons_succ, List.getElem?_cons_zero, Option.some.injEq] at ho; subst ho; refine Or.inl ⟨by rfl, ?_⟩; intro wx hSw; (try dsimp only at hSw); go_simp; try rfl
              try simp only [Act.put, List.setIfInBounds_toArray, List.set_cons_zero, List.set_cons_succ]
              refine wpAnyH_done (by kernel_rfl) ?_ _
              refine NoPanic.normal ?_
              have HBX := HB9
              have y0 := HX9.out.1
              have y1 := HX9.out.2.1
              have z0 : w9.cell? ⟨w.heap.size, 0, none⟩ = some (.int .i64 0) := cell_blk HRX.out
              have z1 : w9.cell? ⟨w.heap.size, 1, none⟩ = some (.int .i64 0) := cell_blk HRX.out
              have z2 : w9.frozen? ⟨w.heap.size, 0, none⟩ = false := frz_blk HRX.out
              have z3 : w9.frozen? ⟨w.heap.size, 1, none⟩ = false := frz_blk HRX.out
              go_wp2
              (try simp only [Exit.inBlock, Exit.then])
              exact bodyPost_ret (results_head_err Tryz.results82 _ _ w.heap.size _ _ _ _ rfl (set2 HRX.out)) rfl ⟨rfl, (HBX.out.setCell (Nat.le_refl _) _).setCell (Nat.le_refl _) _⟩
            · have hL : lastH (a1, a2) ((m : Int), b2) = some (m, b2) := by
                unfold lastH
                rw [if_pos hlt, if_neg (by simp only; omega), if_neg (by simp only; rw [if_neg (by omega)]; omega)]
                rfl
              obtain rfl : L = some (m, b2) := HLH.out.symm.trans hL
              have HB8 := hide (HBW.out.alloc HBW.out.size (.cells #[.int .i64 (m : Int), .int .i64 (b2 : Nat)] 128))
              have HX : Hid ((fun wx => wx.cell? ⟨wr.heap.size, 0, none⟩ = some (.int .i64 (m : Int)) ∧ wx.cell? ⟨wr.heap.size, 1, none⟩ = some (.int .i64 (b2 : Nat)) ∧ wx.cell? ⟨w.heap.size + 1, 2, none⟩ = some (.int .i64 (m : Int))) (wr.alloc (.cells #[.int .i64 (m : Int), .int .i64 (b2 : Nat)] 128))) := ⟨cell_blk (heap_alloc_new wr _), cell_blk (heap_alloc_new wr _), ((below_box wr _).cell HW1.out).trans c2⟩
              have HR8 := hide (((below_box wr (.cells #[.int .i64 (m : Int), .int .i64 (b2 : Nat)] 128)).block _ HW0.out).trans HR.out)
              have HMM : Hid (((m % 2 : Nat) : Int) = 1) := by show _ = _; omega
              have q8 : decide ((0 : Int) < (m : Int)) = true := decide_eq_true (by omega)
              have q8n : decide (0 < m) = true := decide_eq_true (by omega)
              have HMZ := hide hm
              have HMX := hide hm0
              clear HLH hL FA FB hm0 hev hm hr la lb
              go_wp2_with fail
              refine wp_region_noPanic ?_
              refine wp_region_held_drew (S := fun wx => wx.cell? ⟨wr.heap.size, 0, none⟩ = some (.int .i64 (m : Int)) ∧ wx.cell? ⟨wr.heap.size, 1, none⟩ = some (.int .i64 (b2 : Nat)) ∧ wx.cell? ⟨w.heap.size + 1, 2, none⟩ = some (.int .i64 (m : Int))) (by kernel_rfl) HX.out (fun hHeld => ?_)
              refine wpAnyH_tk 0 40 (v := ?vx3y0) ?hyx3y0 ?_
              case hyx3y0 => intro oi ho; simp only [List.getElem?_toArray, List.getElem?_cons_zero, Option.some.injEq] at ho; subst ho; refine Or.inl ⟨by rfl, ?_⟩; intro wx hSw; (try dsimp only at hSw); go_simp; try rfl
              try simp only [Act.put, List.setIfInBounds_toArray, List.set_cons_zero, List.set_cons_succ]
              refine wpAnyH_tk 1 41 (v := ?vx3y1) ?hyx3y1 ?_
              case hyx3y1 => intro oi ho; simp only [List.getElem?_toArray, List.getElem?_cons_succ, List.getElem?_cons_zero, Option.some.injEq] at ho; subst ho; refine Or.inl ⟨by rfl, ?_⟩; intro wx hSw; (try dsimp only at hSw); go_simp; try rfl
              try simp only [Act.put, List.setIfInBounds_toArray, List.set_cons_zero, List.set_cons_succ]
              refine wpAnyH_tk 2 42 (v := ?vx3y2) ?hyx3y2 ?_
              case hyx3y2 => intro oi ho; simp only [List.getElem?_toArray, List.getElem?_cons_succ, List.getElem?_cons_zero, Option.some.injEq] at ho; subst ho; refine Or.inl ⟨by rfl, ?_⟩; intro wx hSw; (try dsimp only at hSw); go_simp; try rfl
              try simp only [Act.put, List.setIfInBounds_toArray, List.set_cons_zero, List.set_cons_succ]
              refine wpAnyH_tk 3 43 (v := ?vx3y3) ?hyx3y3 ?_
              case hyx3y3 => intro oi ho; simp only [List.getElem?_toArray, List.getElem?_cons_succ, List.getElem?_cons_zero, Option.some.injEq] at ho; subst ho; refine Or.inl ⟨by rfl, ?_⟩; intro wx hSw; (try dsimp only at hSw); go_simp; try rfl
              try simp only [Act.put, List.setIfInBounds_toArray, List.set_cons_zero, List.set_cons_succ]
              refine wpAnyH_tk 4 44 (v := ?vx3y4) ?hyx3y4 ?_
              case hyx3y4 => intro oi ho; simp only [List.getElem?_toArray, List.getElem?_cons_succ, List.getElem?_cons_zero, Option.some.injEq] at ho; subst ho; refine Or.inl ⟨by rfl, ?_⟩; intro wx hSw; (try dsimp only at hSw); go_simp; try rfl
              try simp only [Act.put, List.setIfInBounds_toArray, List.set_cons_zero, List.set_cons_succ]
              refine wpAnyH_tk 9 49 (v := ?vx3y9) ?hyx3y9 ?_
              case hyx3y9 => intro oi ho; simp only [List.getElem?_toArray, List.getElem?_cons_succ, List.getElem?_cons_zero, Option.some.injEq] at ho; subst ho; refine Or.inl ⟨by rfl, ?_⟩; intro wx hSw; (try dsimp only at hSw); go_simp; try rfl
              try simp only [Act.put, List.setIfInBounds_toArray, List.set_cons_zero, List.set_cons_succ]
              refine wpAnyH_tk 10 50 (v := ?vx3y10) ?hyx3y10 ?_
              case hyx3y10 => intro oi ho; simp only [List.getElem?_toArray, List.getElem?_cons_succ, List.getElem?_cons_zero, Option.some.injEq] at ho; subst ho; refine Or.inl ⟨by rfl, ?_⟩; intro wx hSw; (try dsimp only at hSw); go_simp; try rfl
              try simp only [Act.put, List.setIfInBounds_toArray, List.set_cons_zero, List.set_cons_succ]
              refine wpAnyH_cm 5 ?_; intro o ho K hK; simp only [List.getElem?_toArray, List.getElem?_cons_succ, List.getElem?_cons_zero, Option.some.injEq] at ho; subst ho
              go_simp
              refine (headBlock_any m b2 _ HMZ.out).mono ?_
              rintro e w9 ⟨rfl, hb9⟩
              rw [HMM.out]
              have HB9 := hide ((HB8.out.drew).trans (hb9.mono (by have := HB8.out.size; simpa using this)))
              have HX9 : Hid ((fun wx => wx.cell? ⟨wr.heap.size, 0, none⟩ = some (.int .i64 (m : Int)) ∧ wx.cell? ⟨wr.heap.size, 1, none⟩ = some (.int .i64 (b2 : Nat)) ∧ wx.cell? ⟨w.heap.size + 1, 2, none⟩ = some (.int .i64 (m : Int))) w9) := ⟨(hb9.cell (by simp)).trans HX.out.1, (hb9.cell (by simp)).trans HX.out.2.1, (hb9.cell (by have := HW1.out; simp; omega)).trans HX.out.2.2⟩
              have HRX := hide ((hb9.block _ (by have := HW0.out; simp; omega)).trans HR8.out)
              clear hb9 hHeld
              refine hK.out _ _ HX9.out (fun hHeld => ?_)
              clear hK K
              try simp only [Act.put, List.setIfInBounds_toArray, List.set_cons_zero, List.set_cons_succ]
              refine wpAnyH_tk 6 46 (v := ?vx3y6) ?hyx3y6 ?_
              case hyx3y6 => intro oi ho; simp only [List.getElem?_toArray, List.getElem?_cons_succ, List.getElem?_cons_zero, Option.some.injEq] at ho; subst ho; refine Or.inl ⟨by rfl, ?_⟩; intro wx hSw; (try dsimp only at hSw); go_simp; try rfl
              try simp only [Act.put, List.setIfInBounds_toArray, List.set_cons_zero, List.set_cons_succ]
              refine wpAnyH_tk 7 47 (v := ?vx3y7) ?hyx3y7 ?_
              case hyx3y7 => intro oi ho; simp only [List.getElem?_toArray, List.getElem?_cons_succ, List.getElem?_cons_zero, Option.some.injEq] at ho; subst ho; refine Or.inl ⟨by rfl, ?_⟩; intro wx hSw; (try dsimp only at hSw); go_simp; try rfl
              try simp only [Act.put, List.setIfInBounds_toArray, List.set_cons_zero, List.set_cons_succ]
              refine wpAnyH_tk 8 48 (v := ?vx3y8) ?hyx3y8 ?_
              case hyx3y8 => intro oi ho; simp only [List.getElem?_toArray, List.getElem?_cons_succ, List.getElem?_cons_zero, Option.some.injEq] at ho; subst ho; refine Or.inl ⟨by rfl, ?_⟩; intro wx hSw; (try dsimp only at hSw); go_simp; try rfl
              try simp only [Act.put, List.setIfInBounds_toArray, List.set_cons_zero, List.set_cons_succ]
              refine wpAnyH_tk 11 51 (v := ?vx3y11) ?hyx3y11 ?_
              case hyx3y11 => intro oi ho; simp only [List.getElem?_toArray, List.getElem?_cons_succ, List.getElem?_cons_zero, Option.some.injEq] at ho; subst ho; refine Or.inl ⟨by rfl, ?_⟩; intro wx hSw; (try dsimp only at hSw); go_simp; try rfl
              try simp only [Act.put, List.setIfInBounds_toArray, List.set_cons_zero, List.set_cons_succ]
              refine wpAnyH_tk 12 52 (v := ?vx3y12) ?hyx3y12 ?_
              case hyx3y12 => intro oi ho; simp only [List.getElem?_toArray, List.getElem?_cons_succ, List.getElem?_cons_zero, Option.some.injEq] at ho; subst ho; refine Or.inl ⟨by rfl, ?_⟩; intro wx hSw; (try dsimp only at hSw); go_simp; try rfl
              try simp only [Act.put, List.setIfInBounds_toArray, List.set_cons_zero, List.set_cons_succ]
              refine wpAnyH_tk 13 9 (v := ?vx3y13) ?hyx3y13 ?_
              case hyx3y13 => intro oi ho; simp only [List.getElem?_toArray, List.getElem?_cons_succ, List.getElem?_cons_zero, Option.some.injEq] at ho; subst ho; refine Or.inl ⟨by rfl, ?_⟩; intro wx hSw; (try dsimp only at hSw); go_simp; try rfl
              try simp only [Act.put, List.setIfInBounds_toArray, List.set_cons_zero, List.set_cons_succ]
              refine wpAnyH_done (by kernel_rfl) ?_ _
              refine NoPanic.normal ?_
              have HBX := HB9
              have y0 := HX9.out.1
              have y1 := HX9.out.2.1
              have z0 : w9.cell? ⟨w.heap.size, 0, none⟩ = some (.int .i64 0) := cell_blk HRX.out
              have z1 : w9.cell? ⟨w.heap.size, 1, none⟩ = some (.int .i64 0) := cell_blk HRX.out
              have z2 : w9.frozen? ⟨w.heap.size, 0, none⟩ = false := frz_blk HRX.out
              have z3 : w9.frozen? ⟨w.heap.size, 1, none⟩ = false := frz_blk HRX.out
              go_wp2
              (try simp only [Exit.inBlock, Exit.then])
              exact bodyPost_ret (results_head_err Tryz.results82 _ _ w.heap.size _ _ _ _ rfl (set2 HRX.out)) rfl ⟨rfl, (HBX.out.setCell (Nat.le_refl _) _).setCell (Nat.le_refl _) _⟩
      · rcases FA.out with e | ⟨m, r, e, hm, hr⟩
        · simp only [Prod.mk.injEq] at e
          obtain ⟨rfl, rfl⟩ := e
          have hL : lastH (-1, 0) (b1, b2) = none := by
            unfold lastH
            rw [if_neg hlt, if_pos rfl]
          obtain rfl : L = none := HLH.out.symm.trans hL
          have HB8 := hide (HBW.out.alloc HBW.out.size (.cells #[.int .i64 (-1), .int .i64 0] 128))
          have HRY := hide (((below_box wr (.cells #[.int .i64 (-1), .int .i64 0] 128)).block _ HW0.out).trans HR.out)
          have z0 := cell_blk (i := 0) HRY.out
          have z1 := cell_blk (i := 1) HRY.out
          have z2 := frz_blk (i := 0) HRY.out
          have z3 := frz_blk (i := 1) HRY.out
          have q8 : decide ((0 : Int) < (-1)) = false := rfl
          have g2 : (wr.alloc (.cells #[.int .i64 (-1), .int .i64 0] 128)).cell? ⟨w.heap.size + 1, 2, none⟩ = some (.int .i64 b1) := g2
          have g3 : (wr.alloc (.cells #[.int .i64 (-1), .int .i64 0] 128)).cell? ⟨w.heap.size + 1, 3, none⟩ = some (.int .i64 (b2 : Nat)) := g3
          clear HLH hL FA FB
          go_wp2_with fail
          go_quiet (fail)
          have HRX := HRY
          have HBX := hide (below_drewN HB8.out nq)
          go_wp2
          (try simp only [Exit.inBlock, Exit.then])
          exact bodyPost_ret (results_head_err Tryz.results82 _ _ w.heap.size _ _ _ _ rfl (set2 HRX.out)) rfl ⟨rfl, (HBX.out.setCell (Nat.le_refl _) _).setCell (Nat.le_refl _) _⟩
        · simp only [Prod.mk.injEq] at e
          obtain ⟨rfl, rfl⟩ := e
          by_cases hm0 : m = 0
          · subst hm0
            have hL : lastH (((0 : Nat) : Int), a2) (b1, b2) = some (0, a2) := by
              unfold lastH
              rw [if_neg hlt]
              rfl
            obtain rfl : L = some (0, a2) := HLH.out.symm.trans hL
            have HB8 := hide (HBW.out.alloc HBW.out.size (.cells #[.int .i64 0, .int .i64 (a2 : Nat)] 128))
            have HRY := hide (((below_box wr (.cells #[.int .i64 0, .int .i64 (a2 : Nat)] 128)).block _ HW0.out).trans HR.out)
            have z0 := cell_blk (i := 0) HRY.out
            have z1 := cell_blk (i := 1) HRY.out
            have z2 := frz_blk (i := 0) HRY.out
            have z3 := frz_blk (i := 1) HRY.out
            have q8 : decide ((0 : Int) < 0) = false := rfl
            have g2 : (wr.alloc (.cells #[.int .i64 0, .int .i64 (a2 : Nat)] 128)).cell? ⟨w.heap.size + 1, 2, none⟩ = some (.int .i64 b1) := g2
            have g3 : (wr.alloc (.cells #[.int .i64 0, .int .i64 (a2 : Nat)] 128)).cell? ⟨w.heap.size + 1, 3, none⟩ = some (.int .i64 (b2 : Nat)) := g3
            clear HLH hL FA FB
            go_wp2_with fail
            go_quiet (fail)
            have HRX := HRY
            have HBX := hide (below_drewN HB8.out nq)
            go_wp2
            (try simp only [Exit.inBlock, Exit.then])
            exact bodyPost_ret (results_head_err Tryz.results82 _ _ w.heap.size _ _ _ _ rfl (set2 HRX.out)) rfl ⟨rfl, (HBX.out.setCell (Nat.le_refl _) _).setCell (Nat.le_refl _) _⟩
          · by_cases hev : m % 2 = 0
            · have hL : lastH ((m : Int), a2) (b1, b2) = some (m, a2) := by
                unfold lastH
                rw [if_neg hlt, if_neg (by simp only; omega), if_neg (by simp only; rw [if_pos (by omega)]; omega)]
                rfl
              obtain rfl : L = some (m, a2) := HLH.out.symm.trans hL
              have HB8 := hide (HBW.out.alloc HBW.out.size (.cells #[.int .i64 (m : Int), .int .i64 (a2 : Nat)] 128))
              have HX : Hid ((fun wx => wx.cell? ⟨wr.heap.size, 0, none⟩ = some (.int .i64 (m : Int)) ∧ wx.cell? ⟨wr.heap.size, 1, none⟩ = some (.int .i64 (a2 : Nat)) ∧ wx.cell? ⟨w.heap.size + 1, 0, none⟩ = some (.int .i64 (m : Int))) (wr.alloc (.cells #[.int .i64 (m : Int), .int .i64 (a2 : Nat)] 128))) := ⟨cell_blk (heap_alloc_new wr _), cell_blk (heap_alloc_new wr _), ((below_box wr _).cell HW1.out).trans c0⟩
              have HR8 := hide (((below_box wr (.cells #[.int .i64 (m : Int), .int .i64 (a2 : Nat)] 128)).block _ HW0.out).trans HR.out)
              have HMM : Hid (((m % 2 : Nat) : Int) = 0) := by show _ = _; omega
              have q8 : decide ((0 : Int) < (m : Int)) = true := decide_eq_true (by omega)
              have q8n : decide (0 < m) = true := decide_eq_true (by omega)
              have HMZ := hide hm
              have HMX := hide hm0
              clear HLH hL FA FB hm0 hev hm hr la lb
              go_wp2_with fail
              refine wp_region_noPanic ?_
              refine wp_region_held_drew (S := fun wx => wx.cell? ⟨wr.heap.size, 0, none⟩ = some (.int .i64 (m : Int)) ∧ wx.cell? ⟨wr.heap.size, 1, none⟩ = some (.int .i64 (a2 : Nat)) ∧ wx.cell? ⟨w.heap.size + 1, 0, none⟩ = some (.int .i64 (m : Int))) (by kernel_rfl) HX.out (fun hHeld => ?_)
              refine wpAnyH_tk 0 40 (v := ?vx6y0) ?hyx6y0 ?_
              case hyx6y0 => intro oi ho; simp only [List.getElem?_toArray, List.getElem?_cons_zero, Option.some.injEq] at ho; subst ho; refine Or.inl ⟨by rfl, ?_⟩; intro wx hSw; (try dsimp only at hSw); go_simp; try rfl
              try simp only [Act.put, List.setIfInBounds_toArray, List.set_cons_zero, List.set_cons_succ]
              refine wpAnyH_tk 1 41 (v := ?vx6y1) ?hyx6y1 ?_
              case hyx6y1 => intro oi ho; simp only [List.getElem?_toArray, List.getElem?_cons_succ, List.getElem?_cons_zero, Option.some.injEq] at ho; subst ho; refine Or.inl ⟨by rfl, ?_⟩; intro wx hSw; (try dsimp only at hSw); go_simp; try rfl
              try simp only [Act.put, List.setIfInBounds_toArray, List.set_cons_zero, List.set_cons_succ]
              refine wpAnyH_tk 2 42 (v := ?vx6y2) ?hyx6y2 ?_
              case hyx6y2 => intro oi ho; simp only [List.getElem?_toArray, List.getElem?_cons_succ, List.getElem?_cons_zero, Option.some.injEq] at ho; subst ho; refine Or.inl ⟨by rfl, ?_⟩; intro wx hSw; (try dsimp only at hSw); go_simp; try rfl
              try simp only [Act.put, List.setIfInBounds_toArray, List.set_cons_zero, List.set_cons_succ]
              refine wpAnyH_tk 3 43 (v := ?vx6y3) ?hyx6y3 ?_
              case hyx6y3 => intro oi ho; simp only [List.getElem?_toArray, List.getElem?_cons_succ, List.getElem?_cons_zero, Option.some.injEq] at ho; subst ho; refine Or.inl ⟨by rfl, ?_⟩; intro wx hSw; (try dsimp only at hSw); go_simp; try rfl
              try simp only [Act.put, List.setIfInBounds_toArray, List.set_cons_zero, List.set_cons_succ]
              refine wpAnyH_tk 4 44 (v := ?vx6y4) ?hyx6y4 ?_
              case hyx6y4 => intro oi ho; simp only [List.getElem?_toArray, List.getElem?_cons_succ, List.getElem?_cons_zero, Option.some.injEq] at ho; subst ho; refine Or.inl ⟨by rfl, ?_⟩; intro wx hSw; (try dsimp only at hSw); go_simp; try rfl
              try simp only [Act.put, List.setIfInBounds_toArray, List.set_cons_zero, List.set_cons_succ]
              refine wpAnyH_tk 9 49 (v := ?vx6y9) ?hyx6y9 ?_
              case hyx6y9 => intro oi ho; simp only [List.getElem?_toArray, List.getElem?_cons_succ, List.getElem?_cons_zero, Option.some.injEq] at ho; subst ho; refine Or.inl ⟨by rfl, ?_⟩; intro wx hSw; (try dsimp only at hSw); go_simp; try rfl
              try simp only [Act.put, List.setIfInBounds_toArray, List.set_cons_zero, List.set_cons_succ]
              refine wpAnyH_tk 10 50 (v := ?vx6y10) ?hyx6y10 ?_
              case hyx6y10 => intro oi ho; simp only [List.getElem?_toArray, List.getElem?_cons_succ, List.getElem?_cons_zero, Option.some.injEq] at ho; subst ho; refine Or.inl ⟨by rfl, ?_⟩; intro wx hSw; (try dsimp only at hSw); go_simp; try rfl
              try simp only [Act.put, List.setIfInBounds_toArray, List.set_cons_zero, List.set_cons_succ]
              refine wpAnyH_cm 5 ?_; intro o ho K hK; simp only [List.getElem?_toArray, List.getElem?_cons_succ, List.getElem?_cons_zero, Option.some.injEq] at ho; subst ho
              go_simp
              refine (headBlock_any m a2 _ HMZ.out).mono ?_
              rintro e w9 ⟨rfl, hb9⟩
              rw [HMM.out]
              have HB9 := hide ((HB8.out.drew).trans (hb9.mono (by have := HB8.out.size; simpa using this)))
              have HX9 : Hid ((fun wx => wx.cell? ⟨wr.heap.size, 0, none⟩ = some (.int .i64 (m : Int)) ∧ wx.cell? ⟨wr.heap.size, 1, none⟩ = some (.int .i64 (a2 : Nat)) ∧ wx.cell? ⟨w.heap.size + 1, 0, none⟩ = some (.int .i64 (m : Int))) w9) := ⟨(hb9.cell (by simp)).trans HX.out.1, (hb9.cell (by simp)).trans HX.out.2.1, (hb9.cell (by have := HW1.out; simp; omega)).trans HX.out.2.2⟩
              have HRX := hide ((hb9.block _ (by have := HW0.out; simp; omega)).trans HR8.out)
              clear hb9 hHeld
              refine hK.out _ _ HX9.out (fun hHeld => ?_)
              clear hK K
              try simp only [Act.put, List.setIfInBounds_toArray, List.set_cons_zero, List.set_cons_succ]
              refine wpAnyH_tk 6 46 (v := ?vx6y6) ?hyx6y6 ?_
              case hyx6y6 => intro oi ho; simp only [List.getElem?_toArray, List.getElem?_cons_succ, List.getElem?_cons_zero, Option.some.injEq] at ho; subst ho; refine Or.inl ⟨by rfl, ?_⟩; intro wx hSw; (try dsimp only at hSw); go_simp; try rfl
              try simp only [Act.put, List.setIfInBounds_toArray, List.set_cons_zero, List.set_cons_succ]
              refine wpAnyH_tk 7 47 (v := ?vx6y7) ?hyx6y7 ?_
              case hyx6y7 => intro oi ho; simp only [List.getElem?_toArray, List.getElem?_cons_succ, List.getElem?_cons_zero, Option.some.injEq] at ho; subst ho; refine Or.inl ⟨by rfl, ?_⟩; intro wx hSw; (try dsimp only at hSw); go_simp; try rfl
              try simp only [Act.put, List.setIfInBounds_toArray, List.set_cons_zero, List.set_cons_succ]
              refine wpAnyH_tk 8 48 (v := ?vx6y8) ?hyx6y8 ?_
              case hyx6y8 => intro oi ho; simp only [List.getElem?_toArray, List.getElem?_cons_succ, List.getElem?_cons_zero, Option.some.injEq] at ho; subst ho; refine Or.inl ⟨by rfl, ?_⟩; intro wx hSw; (try dsimp only at hSw); go_simp; try rfl
              try simp only [Act.put, List.setIfInBounds_toArray, List.set_cons_zero, List.set_cons_succ]
              refine wpAnyH_tk 11 51 (v := ?vx6y11) ?hyx6y11 ?_
              case hyx6y11 => intro oi ho; simp only [List.getElem?_toArray, List.getElem?_cons_succ, List.getElem?_cons_zero, Option.some.injEq] at ho; subst ho; refine Or.inl ⟨by rfl, ?_⟩; intro wx hSw; (try dsimp only at hSw); go_simp; try rfl
              try simp only [Act.put, List.setIfInBounds_toArray, List.set_cons_zero, List.set_cons_succ]
              refine wpAnyH_tk 12 52 (v := ?vx6y12) ?hyx6y12 ?_
              case hyx6y12 => intro oi ho; simp only [List.getElem?_toArray, List.getElem?_cons_succ, List.getElem?_cons_zero, Option.some.injEq] at ho; subst ho; refine Or.inl ⟨by rfl, ?_⟩; intro wx hSw; (try dsimp only at hSw); go_simp; try rfl
              try simp only [Act.put, List.setIfInBounds_toArray, List.set_cons_zero, List.set_cons_succ]
              refine wpAnyH_tk 13 9 (v := ?vx6y13) ?hyx6y13 ?_
              case hyx6y13 => intro oi ho; simp only [List.getElem?_toArray, List.getElem?_cons_succ, List.getElem?_cons_zero, Option.some.injEq] at ho; subst ho; refine Or.inl ⟨by rfl, ?_⟩; intro wx hSw; (try dsimp only at hSw); go_simp; try rfl
              try simp only [Act.put, List.setIfInBounds_toArray, List.set_cons_zero, List.set_cons_succ]
              refine wpAnyH_done (by kernel_rfl) ?_ _
              refine NoPanic.normal ?_
              have HBX := HB9
              have y0 := HX9.out.1
              have y1 := HX9.out.2.1
              have z0 : w9.cell? ⟨w.heap.size, 0, none⟩ = some (.int .i64 0) := cell_blk HRX.out
              have z1 : w9.cell? ⟨w.heap.size, 1, none⟩ = some (.int .i64 0) := cell_blk HRX.out
              have z2 : w9.frozen? ⟨w.heap.size, 0, none⟩ = false := frz_blk HRX.out
              have z3 : w9.frozen? ⟨w.heap.size, 1, none⟩ = false := frz_blk HRX.out
              go_wp2
              (try simp only [Exit.inBlock, Exit.then])
              exact bodyPost_ret (results_head_err Tryz.results82 _ _ w.heap.size _ _ _ _ rfl (set2 HRX.out)) rfl ⟨rfl, (HBX.out.setCell (Nat.le_refl _) _).setCell (Nat.le_refl _) _⟩
            · by_cases hbm : b1 = (m : Int)
              · have hL : lastH ((m : Int), a2) (b1, b2) = some (m, a2) := by
                  unfold lastH
                  rw [if_neg hlt, if_neg (by simp only; omega), if_neg (by simp only; rw [if_neg (by omega)]; omega)]
                  rfl
                obtain rfl : L = some (m, a2) := HLH.out.symm.trans hL
                subst hbm
                have HB8 := hide (HBW.out.alloc HBW.out.size (.cells #[.int .i64 (m : Int), .int .i64 (a2 : Nat)] 128))
                have HX : Hid ((fun wx => wx.cell? ⟨wr.heap.size, 0, none⟩ = some (.int .i64 (m : Int)) ∧ wx.cell? ⟨wr.heap.size, 1, none⟩ = some (.int .i64 (a2 : Nat)) ∧ wx.cell? ⟨w.heap.size + 1, 2, none⟩ = some (.int .i64 (m : Int))) (wr.alloc (.cells #[.int .i64 (m : Int), .int .i64 (a2 : Nat)] 128))) := ⟨cell_blk (heap_alloc_new wr _), cell_blk (heap_alloc_new wr _), ((below_box wr _).cell HW1.out).trans c2⟩
                have HR8 := hide (((below_box wr (.cells #[.int .i64 (m : Int), .int .i64 (a2 : Nat)] 128)).block _ HW0.out).trans HR.out)
                have HMM : Hid (((m % 2 : Nat) : Int) = 1) := by show _ = _; omega
                have q8 : decide ((0 : Int) < (m : Int)) = true := decide_eq_true (by omega)
                have q8n : decide (0 < m) = true := decide_eq_true (by omega)
                have HMZ := hide hm
                have HMX := hide hm0
                clear HLH hL FA FB hm0 hev hm hr la lb
                go_wp2_with fail
                refine wp_region_noPanic ?_
                refine wp_region_held_drew (S := fun wx => wx.cell? ⟨wr.heap.size, 0, none⟩ = some (.int .i64 (m : Int)) ∧ wx.cell? ⟨wr.heap.size, 1, none⟩ = some (.int .i64 (a2 : Nat)) ∧ wx.cell? ⟨w.heap.size + 1, 2, none⟩ = some (.int .i64 (m : Int))) (by kernel_rfl) HX.out (fun hHeld => ?_)
                refine wpAnyH_tk 0 40 (v := ?vx7y0) ?hyx7y0 ?_
                case hyx7y0 => intro oi ho; simp only [List.getElem?_toArray, List.getElem?_cons_zero, Option.some.injEq] at ho; subst ho; refine Or.inl ⟨by rfl, ?_⟩; intro wx hSw; (try dsimp only at hSw); go_simp; try rfl
                try simp only [Act.put, List.setIfInBounds_toArray, List.set_cons_zero, List.set_cons_succ]
                refine wpAnyH_tk 1 41 (v := ?vx7y1) ?hyx7y1 ?_
                case hyx7y1 => intro oi ho; simp only [List.getElem?_toArray, List.getElem?_cons_succ, List.getElem?_cons_zero, Option.some.injEq] at ho; subst ho; refine Or.inl ⟨by rfl, ?_⟩; intro wx hSw; (try dsimp only at hSw); go_simp; try rfl
                try simp only [Act.put, List.setIfInBounds_toArray, List.set_cons_zero, List.set_cons_succ]
                refine wpAnyH_tk 2 42 (v := ?vx7y2) ?hyx7y2 ?_
                case hyx7y2 => intro oi ho; simp only [List.getElem?_toArray, List.getElem?_cons_succ, List.getElem?_cons_zero, Option.some.injEq] at ho; subst ho; refine Or.inl ⟨by rfl, ?_⟩; intro wx hSw; (try dsimp only at hSw); go_simp; try rfl
                try simp only [Act.put, List.setIfInBounds_toArray, List.set_cons_zero, List.set_cons_succ]
                refine wpAnyH_tk 3 43 (v := ?vx7y3) ?hyx7y3 ?_
                case hyx7y3 => intro oi ho; simp only [List.getElem?_toArray, List.getElem?_cons_succ, List.getElem?_cons_zero, Option.some.injEq] at ho; subst ho; refine Or.inl ⟨by rfl, ?_⟩; intro wx hSw; (try dsimp only at hSw); go_simp; try rfl
                try simp only [Act.put, List.setIfInBounds_toArray, List.set_cons_zero, List.set_cons_succ]
                refine wpAnyH_tk 4 44 (v := ?vx7y4) ?hyx7y4 ?_
                case hyx7y4 => intro oi ho; simp only [List.getElem?_toArray, List.getElem?_cons_succ, List.getElem?_cons_zero, Option.some.injEq] at ho; subst ho; refine Or.inl ⟨by rfl, ?_⟩; intro wx hSw; (try dsimp only at hSw); go_simp; try rfl
                try simp only [Act.put, List.setIfInBounds_toArray, List.set_cons_zero, List.set_cons_succ]
                refine wpAnyH_tk 9 49 (v := ?vx7y9) ?hyx7y9 ?_
                case hyx7y9 => intro oi ho; simp only [List.getElem?_toArray, List.getElem?_cons_succ, List.getElem?_cons_zero, Option.some.injEq] at ho; subst ho; refine Or.inl ⟨by rfl, ?_⟩; intro wx hSw; (try dsimp only at hSw); go_simp; try rfl
                try simp only [Act.put, List.setIfInBounds_toArray, List.set_cons_zero, List.set_cons_succ]
                refine wpAnyH_tk 10 50 (v := ?vx7y10) ?hyx7y10 ?_
                case hyx7y10 => intro oi ho; simp only [List.getElem?_toArray, List.getElem?_cons_succ, List.getElem?_cons_zero, Option.some.injEq] at ho; subst ho; refine Or.inl ⟨by rfl, ?_⟩; intro wx hSw; (try dsimp only at hSw); go_simp; try rfl
                try simp only [Act.put, List.setIfInBounds_toArray, List.set_cons_zero, List.set_cons_succ]
                refine wpAnyH_cm 5 ?_; intro o ho K hK; simp only [List.getElem?_toArray, List.getElem?_cons_succ, List.getElem?_cons_zero, Option.some.injEq] at ho; subst ho
                go_simp
                refine (headBlock_any m a2 _ HMZ.out).mono ?_
                rintro e w9 ⟨rfl, hb9⟩
                rw [HMM.out]
                have HB9 := hide ((HB8.out.drew).trans (hb9.mono (by have := HB8.out.size; simpa using this)))
                have HX9 : Hid ((fun wx => wx.cell? ⟨wr.heap.size, 0, none⟩ = some (.int .i64 (m : Int)) ∧ wx.cell? ⟨wr.heap.size, 1, none⟩ = some (.int .i64 (a2 : Nat)) ∧ wx.cell? ⟨w.heap.size + 1, 2, none⟩ = some (.int .i64 (m : Int))) w9) := ⟨(hb9.cell (by simp)).trans HX.out.1, (hb9.cell (by simp)).trans HX.out.2.1, (hb9.cell (by have := HW1.out; simp; omega)).trans HX.out.2.2⟩
                have HRX := hide ((hb9.block _ (by have := HW0.out; simp; omega)).trans HR8.out)
                clear hb9 hHeld
                refine hK.out _ _ HX9.out (fun hHeld => ?_)
                clear hK K
                try simp only [Act.put, List.setIfInBounds_toArray, List.set_cons_zero, List.set_cons_succ]
                refine wpAnyH_tk 6 46 (v := ?vx7y6) ?hyx7y6 ?_
                case hyx7y6 => intro oi ho; simp only [List.getElem?_toArray, List.getElem?_cons_succ, List.getElem?_cons_zero, Option.some.injEq] at ho; subst ho; refine Or.inl ⟨by rfl, ?_⟩; intro wx hSw; (try dsimp only at hSw); go_simp; try rfl
                try simp only [Act.put, List.setIfInBounds_toArray, List.set_cons_zero, List.set_cons_succ]
                refine wpAnyH_tk 7 47 (v := ?vx7y7) ?hyx7y7 ?_
                case hyx7y7 => intro oi ho; simp only [List.getElem?_toArray, List.getElem?_cons_succ, List.getElem?_cons_zero, Option.some.injEq] at ho; subst ho; refine Or.inl ⟨by rfl, ?_⟩; intro wx hSw; (try dsimp only at hSw); go_simp; try rfl
                try simp only [Act.put, List.setIfInBounds_toArray, List.set_cons_zero, List.set_cons_succ]
                refine wpAnyH_tk 8 48 (v := ?vx7y8) ?hyx7y8 ?_
                case hyx7y8 => intro oi ho; simp only [List.getElem?_toArray, List.getElem?_cons_succ, List.getElem?_cons_zero, Option.some.injEq] at ho; subst ho; refine Or.inl ⟨by rfl, ?_⟩; intro wx hSw; (try dsimp only at hSw); go_simp; try rfl
                try simp only [Act.put, List.setIfInBounds_toArray, List.set_cons_zero, List.set_cons_succ]
                refine wpAnyH_tk 11 51 (v := ?vx7y11) ?hyx7y11 ?_
                case hyx7y11 => intro oi ho; simp only [List.getElem?_toArray, List.getElem?_cons_succ, List.getElem?_cons_zero, Option.some.injEq] at ho; subst ho; refine Or.inl ⟨by rfl, ?_⟩; intro wx hSw; (try dsimp only at hSw); go_simp; try rfl
                try simp only [Act.put, List.setIfInBounds_toArray, List.set_cons_zero, List.set_cons_succ]
                refine wpAnyH_tk 12 52 (v := ?vx7y12) ?hyx7y12 ?_
                case hyx7y12 => intro oi ho; simp only [List.getElem?_toArray, List.getElem?_cons_succ, List.getElem?_cons_zero, Option.some.injEq] at ho; subst ho; refine Or.inl ⟨by rfl, ?_⟩; intro wx hSw; (try dsimp only at hSw); go_simp; try rfl
                try simp only [Act.put, List.setIfInBounds_toArray, List.set_cons_zero, List.set_cons_succ]
                refine wpAnyH_tk 13 9 (v := ?vx7y13) ?hyx7y13 ?_
                case hyx7y13 => intro oi ho; simp only [List.getElem?_toArray, List.getElem?_cons_succ, List.getElem?_cons_zero, Option.some.injEq] at ho; subst ho; refine Or.inl ⟨by rfl, ?_⟩; intro wx hSw; (try dsimp only at hSw); go_simp; try rfl
                try simp only [Act.put, List.setIfInBounds_toArray, List.set_cons_zero, List.set_cons_succ]
                refine wpAnyH_done (by kernel_rfl) ?_ _
                refine NoPanic.normal ?_
                have HBX := HB9
                have y0 := HX9.out.1
                have y1 := HX9.out.2.1
                have z0 : w9.cell? ⟨w.heap.size, 0, none⟩ = some (.int .i64 0) := cell_blk HRX.out
                have z1 : w9.cell? ⟨w.heap.size, 1, none⟩ = some (.int .i64 0) := cell_blk HRX.out
                have z2 : w9.frozen? ⟨w.heap.size, 0, none⟩ = false := frz_blk HRX.out
                have z3 : w9.frozen? ⟨w.heap.size, 1, none⟩ = false := frz_blk HRX.out
                go_wp2
                (try simp only [Exit.inBlock, Exit.then])
                exact bodyPost_ret (results_head_err Tryz.results82 _ _ w.heap.size _ _ _ _ rfl (set2 HRX.out)) rfl ⟨rfl, (HBX.out.setCell (Nat.le_refl _) _).setCell (Nat.le_refl _) _⟩
              · have hL : lastH ((m : Int), a2) (b1, b2) = none := by
                  unfold lastH
                  rw [if_neg hlt, if_neg (by simp only; omega), if_pos (by simp only; rw [if_neg (by omega)]; omega)]
                obtain rfl : L = none := HLH.out.symm.trans hL
                have HB8 := hide (HBW.out.alloc HBW.out.size (.cells #[.int .i64 (m : Int), .int .i64 (a2 : Nat)] 128))
                have HX : Hid ((fun wx => wx.cell? ⟨wr.heap.size, 0, none⟩ = some (.int .i64 (m : Int)) ∧ wx.cell? ⟨wr.heap.size, 1, none⟩ = some (.int .i64 (a2 : Nat)) ∧ wx.cell? ⟨w.heap.size + 1, 2, none⟩ = some (.int .i64 b1)) (wr.alloc (.cells #[.int .i64 (m : Int), .int .i64 (a2 : Nat)] 128))) := ⟨cell_blk (heap_alloc_new wr _), cell_blk (heap_alloc_new wr _), ((below_box wr _).cell HW1.out).trans c2⟩
                have HR8 := hide (((below_box wr (.cells #[.int .i64 (m : Int), .int .i64 (a2 : Nat)] 128)).block _ HW0.out).trans HR.out)
                have HMM : Hid (((m % 2 : Nat) : Int) = 1) := by show _ = _; omega
                have q8 : decide ((0 : Int) < (m : Int)) = true := decide_eq_true (by omega)
                have q8n : decide (0 < m) = true := decide_eq_true (by omega)
                have q9 : (b1 != (m : Int)) = true := by simp; omega
                have HMZ := hide hm
                have HMX := hide hm0
                clear HLH hL FA FB hm0 hev hm hr la lb
                go_wp2_with fail
                refine wp_region_noPanic ?_
                refine wp_region_held_drew (S := fun wx => wx.cell? ⟨wr.heap.size, 0, none⟩ = some (.int .i64 (m : Int)) ∧ wx.cell? ⟨wr.heap.size, 1, none⟩ = some (.int .i64 (a2 : Nat)) ∧ wx.cell? ⟨w.heap.size + 1, 2, none⟩ = some (.int .i64 b1)) (by kernel_rfl) HX.out (fun hHeld => ?_)
                refine wpAnyH_tk 0 40 (v := ?vx8y0) ?hyx8y0 ?_
                case hyx8y0 => intro oi ho; simp only [List.getElem?_toArray, List.getElem?_cons_zero, Option.some.injEq] at ho; subst ho; refine Or.inl ⟨by rfl, ?_⟩; intro wx hSw; (try dsimp only at hSw); go_simp; try rfl
                try simp only [Act.put, List.setIfInBounds_toArray, List.set_cons_zero, List.set_cons_succ]
                refine wpAnyH_tk 1 41 (v := ?vx8y1) ?hyx8y1 ?_
                case hyx8y1 => intro oi ho; simp only [List.getElem?_toArray, List.getElem?_cons_succ, List.getElem?_cons_zero, Option.some.injEq] at ho; subst ho; refine Or.inl ⟨by rfl, ?_⟩; intro wx hSw; (try dsimp only at hSw); go_simp; try rfl
                try simp only [Act.put, List.setIfInBounds_toArray, List.set_cons_zero, List.set_cons_succ]
                refine wpAnyH_tk 2 42 (v := ?vx8y2) ?hyx8y2 ?_
                case hyx8y2 => intro oi ho; simp only [List.getElem?_toArray, List.getElem?_cons_succ, List.getElem?_cons_zero, Option.some.injEq] at ho; subst ho; refine Or.inl ⟨by rfl, ?_⟩; intro wx hSw; (try dsimp only at hSw); go_simp; try rfl
                try simp only [Act.put, List.setIfInBounds_toArray, List.set_cons_zero, List.set_cons_succ]
                refine wpAnyH_tk 3 43 (v := ?vx8y3) ?hyx8y3 ?_
                case hyx8y3 => intro oi ho; simp only [List.getElem?_toArray, List.getElem?_cons_succ, List.getElem?_cons_zero, Option.some.injEq] at ho; subst ho; refine Or.inl ⟨by rfl, ?_⟩; intro wx hSw; (try dsimp only at hSw); go_simp; try rfl
                try simp only [Act.put, List.setIfInBounds_toArray, List.set_cons_zero, List.set_cons_succ]
                refine wpAnyH_tk 4 44 (v := ?vx8y4) ?hyx8y4 ?_
                case hyx8y4 => intro oi ho; simp only [List.getElem?_toArray, List.getElem?_cons_succ, List.getElem?_cons_zero, Option.some.injEq] at ho; subst ho; refine Or.inl ⟨by rfl, ?_⟩; intro wx hSw; (try dsimp only at hSw); go_simp; try rfl
                try simp only [Act.put, List.setIfInBounds_toArray, List.set_cons_zero, List.set_cons_succ]
                refine wpAnyH_tk 9 49 (v := ?vx8y9) ?hyx8y9 ?_
                case hyx8y9 => intro oi ho; simp only [List.getElem?_toArray, List.getElem?_cons_succ, List.getElem?_cons_zero, Option.some.injEq] at ho; subst ho; refine Or.inl ⟨by rfl, ?_⟩; intro wx hSw; (try dsimp only at hSw); go_simp; try rfl
                try simp only [Act.put, List.setIfInBounds_toArray, List.set_cons_zero, List.set_cons_succ]
                refine wpAnyH_tk 10 50 (v := ?vx8y10) ?hyx8y10 ?_
                case hyx8y10 => intro oi ho; simp only [List.getElem?_toArray, List.getElem?_cons_succ, List.getElem?_cons_zero, Option.some.injEq] at ho; subst ho; refine Or.inl ⟨by rfl, ?_⟩; intro wx hSw; (try dsimp only at hSw); go_simp; try rfl
                try simp only [Act.put, List.setIfInBounds_toArray, List.set_cons_zero, List.set_cons_succ]
                refine wpAnyH_cm 5 ?_; intro o ho K hK; simp only [List.getElem?_toArray, List.getElem?_cons_succ, List.getElem?_cons_zero, Option.some.injEq] at ho; subst ho
                go_simp
                refine (headBlock_any m a2 _ HMZ.out).mono ?_
                rintro e w9 ⟨rfl, hb9⟩
                rw [HMM.out]
                have HB9 := hide ((HB8.out.drew).trans (hb9.mono (by have := HB8.out.size; simpa using this)))
                have HX9 : Hid ((fun wx => wx.cell? ⟨wr.heap.size, 0, none⟩ = some (.int .i64 (m : Int)) ∧ wx.cell? ⟨wr.heap.size, 1, none⟩ = some (.int .i64 (a2 : Nat)) ∧ wx.cell? ⟨w.heap.size + 1, 2, none⟩ = some (.int .i64 b1)) w9) := ⟨(hb9.cell (by simp)).trans HX.out.1, (hb9.cell (by simp)).trans HX.out.2.1, (hb9.cell (by have := HW1.out; simp; omega)).trans HX.out.2.2⟩
                have HRX := hide ((hb9.block _ (by have := HW0.out; simp; omega)).trans HR8.out)
                clear hb9 hHeld
                refine hK.out _ _ HX9.out (fun hHeld => ?_)
                clear hK K
                try simp only [Act.put, List.setIfInBounds_toArray, List.set_cons_zero, List.set_cons_succ]
                refine wpAnyH_tk 6 46 (v := ?vx8y6) ?hyx8y6 ?_
                case hyx8y6 => intro oi ho; simp only [List.getElem?_toArray, List.getElem?_cons_succ, List.getElem?_cons_zero, Option.some.injEq] at ho; subst ho; refine Or.inl ⟨by rfl, ?_⟩; intro wx hSw; (try dsimp only at hSw); go_simp; try rfl
                try simp only [Act.put, List.setIfInBounds_toArray, List.set_cons_zero, List.set_cons_succ]
                refine wpAnyH_tk 7 47 (v := ?vx8y7) ?hyx8y7 ?_
                case hyx8y7 => intro oi ho; simp only [List.getElem?_toArray, List.getElem?_cons_succ, List.getElem?_cons_zero, Option.some.injEq] at ho; subst ho; refine Or.inl ⟨by rfl, ?_⟩; intro wx hSw; (try dsimp only at hSw); go_simp; try rfl
                try simp only [Act.put, List.setIfInBounds_toArray, List.set_cons_zero, List.set_cons_succ]
                refine wpAnyH_tk 8 48 (v := ?vx8y8) ?hyx8y8 ?_
                case hyx8y8 => intro oi ho; simp only [List.getElem?_toArray, List.getElem?_cons_succ, List.getElem?_cons_zero, Option.some.injEq] at ho; subst ho; refine Or.inl ⟨by rfl, ?_⟩; intro wx hSw; (try dsimp only at hSw); go_simp; try rfl
                try simp only [Act.put, List.setIfInBounds_toArray, List.set_cons_zero, List.set_cons_succ]
                refine wpAnyH_tk 11 51 (v := ?vx8y11) ?hyx8y11 ?_
                case hyx8y11 => intro oi ho; simp only [List.getElem?_toArray, List.getElem?_cons_succ, List.getElem?_cons_zero, Option.some.injEq] at ho; subst ho; refine Or.inl ⟨by rfl, ?_⟩; intro wx hSw; (try dsimp only at hSw); go_simp; try rfl
                try simp only [Act.put, List.setIfInBounds_toArray, List.set_cons_zero, List.set_cons_succ]
                refine wpAnyH_tk 12 52 (v := ?vx8y12) ?hyx8y12 ?_
                case hyx8y12 => intro oi ho; simp only [List.getElem?_toArray, List.getElem?_cons_succ, List.getElem?_cons_zero, Option.some.injEq] at ho; subst ho; refine Or.inl ⟨by rfl, ?_⟩; intro wx hSw; (try dsimp only at hSw); go_simp; try rfl
                try simp only [Act.put, List.setIfInBounds_toArray, List.set_cons_zero, List.set_cons_succ]
                refine wpAnyH_tk 13 9 (v := ?vx8y13) ?hyx8y13 ?_
                case hyx8y13 => intro oi ho; simp only [List.getElem?_toArray, List.getElem?_cons_succ, List.getElem?_cons_zero, Option.some.injEq] at ho; subst ho; refine Or.inl ⟨by rfl, ?_⟩; intro wx hSw; (try dsimp only at hSw); go_simp; try rfl
                try simp only [Act.put, List.setIfInBounds_toArray, List.set_cons_zero, List.set_cons_succ]
                refine wpAnyH_done (by kernel_rfl) ?_ _
                refine NoPanic.normal ?_
                have HBX := HB9
                have y0 := HX9.out.1
                have y1 := HX9.out.2.1
                have z0 : w9.cell? ⟨w.heap.size, 0, none⟩ = some (.int .i64 0) := cell_blk HRX.out
                have z1 : w9.cell? ⟨w.heap.size, 1, none⟩ = some (.int .i64 0) := cell_blk HRX.out
                have z2 : w9.frozen? ⟨w.heap.size, 0, none⟩ = false := frz_blk HRX.out
                have z3 : w9.frozen? ⟨w.heap.size, 1, none⟩ = false := frz_blk HRX.out
                go_wp2
                (try simp only [Exit.inBlock, Exit.then])
                exact bodyPost_ret (results_head_err Tryz.results82 _ _ w.heap.size _ _ _ _ rfl (set2 HRX.out)) rfl ⟨rfl, (HBX.out.setCell (Nat.le_refl _) _).setCell (Nat.le_refl _) _⟩
end Go.Proofs.YtnfponcadkmfjabGreat
