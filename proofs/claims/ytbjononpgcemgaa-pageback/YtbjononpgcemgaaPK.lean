/- Contracts of Commit and Hold. -/
import Derived.Test.YtbjononpgcemgaaPJ
set_option linter.unusedVariables false
namespace Go.Proofs.Ytbjononpgcemgaa
open Go.RowKit
def PS.turn (t : PS) (num root : Nat) : PS := { t with num := num, root := root }
section
variable {B p q gs : Nat} {s : DS} {t : PS} {w : World}
theorem SV.turn (h : SV B p q gs t w) {num root : Nat} (hn : num ≤ 4611686018427387904) (hr : root ≤ 4096) : SV B p q gs (t.turn num root) ((w.setCell ⟨q, 3, none⟩ (.int .i64 (num : Int))).setCell ⟨q, 4, none⟩ (.int .i64 (root : Int))) := by
  refine ⟨?_, ?_, h.qB, h.gB, ⟨h.ok.sl, h.ok.sb, hn, hr⟩⟩
  · rw [heap_setCell_same _ q 4 _ _ _ (heap_setCell_same w q 3 _ _ _ h.hq)]
    rfl
  · rw [heap_setCell_other _ _ _ _ h.ne.symm, heap_setCell_other _ _ _ _ h.ne.symm]
    exact h.hs
theorem commit_low {num root : Nat} (hd : s.down = false) (h : s.after = 1) : s.commit num root = (s.flush, 20) ∧ s.flushE = 20 := by
  refine ⟨by unfold DS.commit; rw [if_pos h], by unfold DS.flushE; rw [hd]; simp only [Bool.false_eq_true, if_false]; rw [if_pos h]⟩
set_option maxRecDepth 100000 in
theorem write_any [Gd] (num root : Nat) (hS : SV B p q gs t w) (hD : DI B p s w) (hB : B ≤ w.heap.size) (hd : s.down = false) (hn2 : 2 ≤ s.n) (hlf : s.life < 100000) (hn : num ≤ 4611686018427387904) (hr : root < 4294967296) :
    Calls Try.prog 33 #[.pointer (some ⟨q, 0, none⟩), .agg #[.int .i64 (num : Int), .int .i64 (root : Int)]] w fun e w' => e = .returned (.int .i64 (s.commit num root).2) ∧ DI B p (s.commit num root).1 w' ∧ Fr B w w' := by
  by_cases hf : s.after = 1
  · obtain ⟨e1, e2⟩ := commit_low (num := num) (root := root) hd hf
    rw [e1]
    have HB0 := hide (below_box w (.cells #[.int .i64 (num : Int), .int .i64 (root : Int)] 63))
    have HF0 := hide (Fr.of HB0.out hB)
    have c1 := (hS.later HB0.out).c1
    have HFL := hide (flush_any B p s _ (hD.later HB0.out) (Nat.le_trans hB HB0.out.size) hlf)
    rw [e2] at HFL
    clear hS hD e1 e2
    go_enter Try.func33, Try.ntmps33
    go_wp2_with fail
    refine HFL.out.mono ?_
    rintro e w2 ⟨rfl, hD2, hF2⟩
    have HD2 := hide hD2
    have HF2 := hide hF2
    clear hD2 hF2
    go_wp2
    go_ret
    exact ⟨rfl, HD2.out, HF0.out.trans HF2.out⟩
  · by_cases hf2 : s.flush.after = 1
    · exact write_no_c num root hS hD hB hd hn2 hlf hf hf2 hn hr
    · exact write_ok_c num root hS hD hB hd hn2 hlf hf hf2 hn hr

theorem commit_dead [Gd] (id : Int) (h : ST B p q s t w) (hl : s.life ≠ t.life) :
    Calls Try.prog 12 #[.pointer (some ⟨q, 0, none⟩), .int .i64 id] w fun e w' => e = .returned (.int .i64 20) ∧ Below w.heap.size w w' := by
  have HD := hide (dead_yes h hl)
  clear h hl
  go_enter Try.func12, Try.ntmps12
  go_wp2_with fail
  refine HD.out.mono ?_
  rintro e w1 ⟨rfl, hb1⟩
  have HB1 := hide hb1
  clear hb1
  go_wp2
  go_ret
  exact ⟨rfl, HB1.out⟩
theorem hold_dead [Gd] (v : Value) (h : ST B p q s t w) (hl : s.life ≠ t.life) :
    Calls Try.prog 18 #[.pointer (some ⟨q, 0, none⟩), v] w fun e w' => e = .returned (.int .i64 20) ∧ Below w.heap.size w w' := by
  have HD := hide (dead_yes h hl)
  clear h hl
  go_enter Try.func18, Try.ntmps18
  go_wp2_with fail
  refine HD.out.mono ?_
  rintro e w1 ⟨rfl, hb1⟩
  have HB1 := hide hb1
  clear hb1
  go_wp2
  go_ret
  exact ⟨rfl, HB1.out⟩
/-- What a Commit leaves of a Store. -/
def PS.committed (t : PS) (root : Nat) : PS := ⟨backF t.st, t.life, t.num + 1, root⟩
set_option maxRecDepth 100000 in
set_option maxHeartbeats 2000000 in
theorem commit_any [Gd] (root : Nat) (h : ST B p q s t w) (hB : B ≤ w.heap.size) (hl : s.life = t.life) (hd : s.down = false) (hn2 : 2 ≤ s.n) (hlf : s.life < 100000) (hr : root = 0 ∨ t.of (root : Int) = 2) (hrl : root ≤ 4096) (hnum : t.num < 4611686018427387904) :
    Calls Try.prog 12 #[.pointer (some ⟨q, 0, none⟩), .int .i64 (root : Int)] w fun e w' => e = .returned (.int .i64 (s.commit (t.num + 1) root).2) ∧ ST B p q (s.commit (t.num + 1) root).1 (if (s.commit (t.num + 1) root).2 = 0 then t.committed root else t) w' ∧ Fp B w w' := by
  have HDD := hide (dead_no h hl)
  obtain ⟨hD, gs, hS⟩ := h
  have HO := hide (fun ww hb => of_any (root : Int) (hS.later (w' := ww) hb) (by omega))
  have HS := hide hS
  have HD := hide hD
  have HTR := hide (fun ww (h : SV B p q gs t ww) => h.turn (num := t.num + 1) (root := root) (by omega) hrl)
  have HW := hide (fun ww (h1 : SV B p q gs t ww) (h2 : DI B p s ww) (h3 : B ≤ ww.heap.size) => write_any (t.num + 1) root h1 h2 h3 hd hn2 hlf (by omega) (by omega))
  have q5 : ((t.num : Int) == 4611686018427387904) = false := by simp; omega
  have q6 : (t.num : Int) < 4611686018427387904 := by omega
  generalize hCR : s.commit (t.num + 1) root = CR at *
  obtain ⟨s', E⟩ := CR
  clear hCR hnum hS hD
  simp only at HW ⊢
  rcases hr with hr | hr
  · have q1 : ((root : Int) != 0) = false := by simp; omega
    clear hr
    go_enter Try.func12, Try.ntmps12
    go_wp2_with fail
    refine HDD.out.mono ?_
    rintro e w1 ⟨rfl, hb1⟩
    have HB1 := hide hb1
    clear hb1
    have c3 := (HS.out.later HB1.out).c3
    go_wp2_with fail
    have HB2 := hide (HB1.out.trans ((below_box w1 (.cells #[.int .i64 ((t.num : Int) + 1), .int .i64 (root : Int)] 63)).mono HB1.out.size))
    have HBOX := hide (heap_alloc_new w1 (.cells #[.int .i64 ((t.num : Int) + 1), .int .i64 (root : Int)] 63))
    refine (HW.out _ (HS.out.later HB2.out) (HD.out.later HB2.out) (Nat.le_trans hB HB2.out.size)).mono ?_
    rintro e w3 ⟨rfl, hD3, hF3⟩
    have HD3 := hide hD3
    have HS3 := hide ((HS.out.later HB2.out).fr hF3)
    have HF3 := hide ((Fr.of HB2.out hB).trans hF3)
    have HB5 := hide (hF3.stay _ _ _ _ HBOX.out (by decide) (by decide) (by decide) (by decide))
    clear hD3 hF3 c3
    by_cases hE : E = 0
    · subst hE
      have b0 : w3.cell? ⟨w1.heap.size, 0, none⟩ = some (.int .i64 ((t.num : Int) + 1)) := cell_blk HB5.out
      have b1 : w3.cell? ⟨w1.heap.size, 1, none⟩ = some (.int .i64 (root : Int)) := cell_blk HB5.out
      have y3 := HS3.out.c3
      have y4 := HS3.out.c4
      have f3 := frz_blk (i := 3) HS3.out.hq
      have f4 := frz_blk (i := 4) HS3.out.hq
      have HT4 := hide (HTR.out _ HS3.out)
      have HD4 := hide ((HD3.out.other (o := 3) (u := .int .i64 ((t.num : Int) + 1)) HS3.out.hq (by decide) (by decide) (by decide) (by decide) (by decide)).other (o := 4) (u := .int .i64 (root : Int)) (heap_setCell_same w3 q 3 _ _ _ HS3.out.hq) (by decide) (by decide) (by decide) (by decide) (by decide))
      have HF4 := hide (((Fp.ofFr HF3.out).trans (Fp.set (o := 3) (u := .int .i64 ((t.num : Int) + 1)) HS3.out.hq HS3.out.qB (Or.inl rfl))).trans (Fp.set (o := 4) (u := .int .i64 (root : Int)) (heap_setCell_same w3 q 3 _ _ _ HS3.out.hq) HS3.out.qB (Or.inl rfl)))
      have HFG := hide (freeGivenBack_any HT4.out)
      go_wp2_with fail
      refine HFG.out.mono ?_
      rintro e w5 ⟨rfl, hS5, hF5, hD5⟩
      have HS5 := hide hS5
      have HF5 := hide (HF4.out.trans hF5)
      have HD5 := hide (hD5 _ HD4.out)
      clear hS5 hF5 hD5
      go_wp2
      go_ret
      refine ⟨rfl, ?_, HF5.out⟩
      exact ⟨HD5.out, gs, HS5.out⟩
    · have HNE := hide hE
      have q7 : (E != 0) = true := by simpa using hE
      clear hE q5 q6
      go_wp2
      go_ret
      refine ⟨rfl, ?_, Fp.ofFr HF3.out⟩
      exact ⟨HD3.out, gs, HS3.out⟩
  · by_cases hr0 : root = 0
    · have q1 : ((root : Int) != 0) = false := by simp; omega
      clear hr hr0
      go_enter Try.func12, Try.ntmps12
      go_wp2_with fail
      refine HDD.out.mono ?_
      rintro e w1 ⟨rfl, hb1⟩
      have HB1 := hide hb1
      clear hb1
      have c3 := (HS.out.later HB1.out).c3
      go_wp2_with fail
      have HB2 := hide (HB1.out.trans ((below_box w1 (.cells #[.int .i64 ((t.num : Int) + 1), .int .i64 (root : Int)] 63)).mono HB1.out.size))
      have HBOX := hide (heap_alloc_new w1 (.cells #[.int .i64 ((t.num : Int) + 1), .int .i64 (root : Int)] 63))
      refine (HW.out _ (HS.out.later HB2.out) (HD.out.later HB2.out) (Nat.le_trans hB HB2.out.size)).mono ?_
      rintro e w3 ⟨rfl, hD3, hF3⟩
      have HD3 := hide hD3
      have HS3 := hide ((HS.out.later HB2.out).fr hF3)
      have HF3 := hide ((Fr.of HB2.out hB).trans hF3)
      have HB5 := hide (hF3.stay _ _ _ _ HBOX.out (by decide) (by decide) (by decide) (by decide))
      clear hD3 hF3 c3
      by_cases hE : E = 0
      · subst hE
        have b0 : w3.cell? ⟨w1.heap.size, 0, none⟩ = some (.int .i64 ((t.num : Int) + 1)) := cell_blk HB5.out
        have b1 : w3.cell? ⟨w1.heap.size, 1, none⟩ = some (.int .i64 (root : Int)) := cell_blk HB5.out
        have y3 := HS3.out.c3
        have y4 := HS3.out.c4
        have f3 := frz_blk (i := 3) HS3.out.hq
        have f4 := frz_blk (i := 4) HS3.out.hq
        have HT4 := hide (HTR.out _ HS3.out)
        have HD4 := hide ((HD3.out.other (o := 3) (u := .int .i64 ((t.num : Int) + 1)) HS3.out.hq (by decide) (by decide) (by decide) (by decide) (by decide)).other (o := 4) (u := .int .i64 (root : Int)) (heap_setCell_same w3 q 3 _ _ _ HS3.out.hq) (by decide) (by decide) (by decide) (by decide) (by decide))
        have HF4 := hide (((Fp.ofFr HF3.out).trans (Fp.set (o := 3) (u := .int .i64 ((t.num : Int) + 1)) HS3.out.hq HS3.out.qB (Or.inl rfl))).trans (Fp.set (o := 4) (u := .int .i64 (root : Int)) (heap_setCell_same w3 q 3 _ _ _ HS3.out.hq) HS3.out.qB (Or.inl rfl)))
        have HFG := hide (freeGivenBack_any HT4.out)
        go_wp2_with fail
        refine HFG.out.mono ?_
        rintro e w5 ⟨rfl, hS5, hF5, hD5⟩
        have HS5 := hide hS5
        have HF5 := hide (HF4.out.trans hF5)
        have HD5 := hide (hD5 _ HD4.out)
        clear hS5 hF5 hD5
        go_wp2
        go_ret
        refine ⟨rfl, ?_, HF5.out⟩
        exact ⟨HD5.out, gs, HS5.out⟩
      · have HNE := hide hE
        have q7 : (E != 0) = true := by simpa using hE
        clear hE q5 q6
        go_wp2
        go_ret
        refine ⟨rfl, ?_, Fp.ofFr HF3.out⟩
        exact ⟨HD3.out, gs, HS3.out⟩
    · have q1 : ((root : Int) != 0) = true := by simp; omega
      rw [hr] at HO
      clear hr hr0
      go_enter Try.func12, Try.ntmps12
      go_wp2_with fail
      refine HDD.out.mono ?_
      rintro e w1 ⟨rfl, hb1⟩
      have HB1 := hide hb1
      clear hb1
      go_wp2_with fail
      refine (HO.out _ HB1.out).mono ?_
      rintro e w2 ⟨rfl, rfl⟩
      have c3 := (HS.out.later HB1.out).c3
      go_wp2_with fail
      have HB2 := hide (HB1.out.trans ((below_box w2 (.cells #[.int .i64 ((t.num : Int) + 1), .int .i64 (root : Int)] 63)).mono HB1.out.size))
      have HBOX := hide (heap_alloc_new w2 (.cells #[.int .i64 ((t.num : Int) + 1), .int .i64 (root : Int)] 63))
      refine (HW.out _ (HS.out.later HB2.out) (HD.out.later HB2.out) (Nat.le_trans hB HB2.out.size)).mono ?_
      rintro e w3 ⟨rfl, hD3, hF3⟩
      have HD3 := hide hD3
      have HS3 := hide ((HS.out.later HB2.out).fr hF3)
      have HF3 := hide ((Fr.of HB2.out hB).trans hF3)
      have HB5 := hide (hF3.stay _ _ _ _ HBOX.out (by decide) (by decide) (by decide) (by decide))
      clear hD3 hF3 c3
      by_cases hE : E = 0
      · subst hE
        have b0 : w3.cell? ⟨w2.heap.size, 0, none⟩ = some (.int .i64 ((t.num : Int) + 1)) := cell_blk HB5.out
        have b1 : w3.cell? ⟨w2.heap.size, 1, none⟩ = some (.int .i64 (root : Int)) := cell_blk HB5.out
        have y3 := HS3.out.c3
        have y4 := HS3.out.c4
        have f3 := frz_blk (i := 3) HS3.out.hq
        have f4 := frz_blk (i := 4) HS3.out.hq
        have HT4 := hide (HTR.out _ HS3.out)
        have HD4 := hide ((HD3.out.other (o := 3) (u := .int .i64 ((t.num : Int) + 1)) HS3.out.hq (by decide) (by decide) (by decide) (by decide) (by decide)).other (o := 4) (u := .int .i64 (root : Int)) (heap_setCell_same w3 q 3 _ _ _ HS3.out.hq) (by decide) (by decide) (by decide) (by decide) (by decide))
        have HF4 := hide (((Fp.ofFr HF3.out).trans (Fp.set (o := 3) (u := .int .i64 ((t.num : Int) + 1)) HS3.out.hq HS3.out.qB (Or.inl rfl))).trans (Fp.set (o := 4) (u := .int .i64 (root : Int)) (heap_setCell_same w3 q 3 _ _ _ HS3.out.hq) HS3.out.qB (Or.inl rfl)))
        have HFG := hide (freeGivenBack_any HT4.out)
        go_wp2_with fail
        refine HFG.out.mono ?_
        rintro e w5 ⟨rfl, hS5, hF5, hD5⟩
        have HS5 := hide hS5
        have HF5 := hide (HF4.out.trans hF5)
        have HD5 := hide (hD5 _ HD4.out)
        clear hS5 hF5 hD5
        go_wp2
        go_ret
        refine ⟨rfl, ?_, HF5.out⟩
        exact ⟨HD5.out, gs, HS5.out⟩
      · have HNE := hide hE
        have q7 : (E != 0) = true := by simpa using hE
        clear hE q5 q6
        go_wp2
        go_ret
        refine ⟨rfl, ?_, Fp.ofFr HF3.out⟩
        exact ⟨HD3.out, gs, HS3.out⟩
end
end Go.Proofs.Ytbjononpgcemgaa
