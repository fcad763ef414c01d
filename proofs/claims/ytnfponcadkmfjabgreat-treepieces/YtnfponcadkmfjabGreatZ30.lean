import Derived.Test.YtnfponcadkmfjabGreatZ29
import Derived.Test.YtnfponcadkmfjabGreatZ20
import Derived.Test.YtnfponcadkmfjabGreatZ25
set_option linter.unusedVariables false
namespace Go.Proofs.YtnfponcadkmfjabGreat
open Go.RowKit
theorem newSt_len (n : Nat) : (newSt n).length = n := by simp [newSt]
theorem newSt_ok {n num root : Nat} {l : Int} (hn : n ≤ 4096) (h1 : num ≤ 4611686018427387904) (h2 : root ≤ 4096) : (PS.mk (newSt n) l num root).Ok where
  sl := by show (newSt n).length ≤ 4096; rw [newSt_len]; exact hn
  sb := by
    intro c hc
    simp only [newSt, List.mem_map] at hc
    obtain ⟨i, _, rfl⟩ := hc
    split <;> omega
  nm := h1
  rt := h2
set_option maxRecDepth 100000 in
set_option maxHeartbeats 4000000 in
theorem open_ok [Gd] (B p : Nat) (s : DS) (num root : Nat) (w : World) (h : DI B p s w) (hB : B ≤ w.heap.size) (hd : s.down = false) (h3 : 3 ≤ s.n) (hl : lastH (rdH (pad (s.show 0)) s.n) (rdH (pad (s.show 1)) s.n) = some (num, root)) (h1 : num ≤ 4611686018427387904) (h2 : root ≤ 4096) :
    Calls Tryz.prog 49 #[.pointer (some ⟨p, 0, none⟩)] w fun e w' => ∃ q, e = .returned (.tuple #[.pointer (some ⟨q, 0, none⟩), .int .i64 0]) ∧ ST B p q s ⟨newSt s.n, s.life, num, root⟩ w' ∧ Below w.heap.size w w' := by
  have hz : ∀ ww, (zeroValue 128).run Tryz.prog ww = .ok (.agg #[.int .i64 0, .int .i64 0]) ww := fun ww => by kernel_rfl
  have HBl := hide (blocks_any B p s w h)
  have HL := hide (lastHead_ok B p s w h hB hd h3)
  rw [hl] at HL
  have HN2 := hide h.ok.n2
  have HPO := hide (newSt_ok (l := s.life) h.ok.n2 h1 h2)
  have HNL := hide (newSt_len s.n)
  have d1 : ¬ ((s.n : Nat) : Int) < 3 := by omega
  have HD := hide h
  clear h hl
  go_enter Tryz.func49, Tryz.ntmps49
  go_wp2_with fail
  refine HBl.out.mono ?_
  rintro e w1 ⟨rfl, rfl⟩
  go_wp2_with fail
  refine HL.out.mono ?_
  rintro e w2 ⟨rfl, hb2⟩
  obtain ⟨w3, HW3⟩ : ∃ w3, w3 = w2.alloc (.cells #[.int .i64 (num : Int), .int .i64 (root : Int)] 128) := ⟨_, rfl⟩
  have HB3 : Hid (Below w1.heap.size w1 w3) := by rw [HW3]; exact hb2.alloc hb2.size _
  have HD3 := hide (HD.out.later HB3.out)
  obtain ⟨h4, HH4⟩ : ∃ h4, h4 = w2.heap.size := ⟨_, rfl⟩
  have HX : Hid ((fun wx => wx.cell? ⟨h4, 0, none⟩ = some (.int .i64 (num : Int)) ∧ wx.cell? ⟨h4, 1, none⟩ = some (.int .i64 (root : Int))) w3) := by rw [HW3, HH4]; exact ⟨cell_blk (heap_alloc_new w2 _), cell_blk (heap_alloc_new w2 _)⟩
  have HHW := hide HW3
  have HHH := hide HH4
  clear hb2 HW3 HH4
  go_wp2_with fail
  rw [← HHH.out, ← HHW.out]
  refine wp_region_noPanic ?_
  refine wp_region_held_drew (S := fun wx => wx.cell? ⟨h4, 0, none⟩ = some (.int .i64 (num : Int)) ∧ wx.cell? ⟨h4, 1, none⟩ = some (.int .i64 (root : Int))) (by kernel_rfl) HX.out (fun hHeld => ?_)
  refine wpAnyH_tk 0 21 (v := ?vz1y0) ?hyz1y0 ?_
  case hyz1y0 => intro oi ho; simp only [List.getElem?_toArray, List.getElem?_cons_zero, Option.some.injEq] at ho; subst ho; refine Or.inl ⟨by rfl, ?_⟩; intro wx hSw; (try dsimp only at hSw); go_simp; try rfl
  try simp only [Act.put, List.setIfInBounds_toArray, List.set_cons_zero, List.set_cons_succ]
  refine wpAnyH_tk 3 24 (v := ?vz2y3) ?hyz2y3 ?_
  case hyz2y3 => intro oi ho; simp only [List.getElem?_toArray, List.getElem?_cons_succ, List.getElem?_cons_zero, Option.some.injEq] at ho; subst ho; refine Or.inl ⟨by rfl, ?_⟩; intro wx hSw; (try dsimp only at hSw); go_simp; try rfl
  try simp only [Act.put, List.setIfInBounds_toArray, List.set_cons_zero, List.set_cons_succ]
  refine wpAnyH_tk 4 25 (v := ?vz3y4) ?hyz3y4 ?_
  case hyz3y4 => intro oi ho; simp only [List.getElem?_toArray, List.getElem?_cons_succ, List.getElem?_cons_zero, Option.some.injEq] at ho; subst ho; refine Or.inl ⟨by rfl, ?_⟩; intro wx hSw; (try dsimp only at hSw); go_simp; try rfl
  try simp only [Act.put, List.setIfInBounds_toArray, List.set_cons_zero, List.set_cons_succ]
  refine wpAnyH_tk 6 27 (v := ?vz4y6) ?hyz4y6 ?_
  case hyz4y6 => intro oi ho; simp only [List.getElem?_toArray, List.getElem?_cons_succ, List.getElem?_cons_zero, Option.some.injEq] at ho; subst ho; refine Or.inl ⟨by rfl, ?_⟩; intro wx hSw; (try dsimp only at hSw); go_simp; try rfl
  try simp only [Act.put, List.setIfInBounds_toArray, List.set_cons_zero, List.set_cons_succ]
  refine wpAnyH_cm 1 ?_; intro o ho K hK; simp only [List.getElem?_toArray, List.getElem?_cons_succ, List.getElem?_cons_zero, Option.some.injEq] at ho; subst ho
  go_simp
  refine (blocks_any B p s _ (HD3.out.later ((Below.refl _ _).drew))).mono ?_
  rintro e wq ⟨rfl, hq⟩
  have hq := hq.symm
  subst hq
  refine hK.out _ _ hHeld (fun hHeld => ?_)
  clear hK K
  try simp only [Act.put, List.setIfInBounds_toArray, List.set_cons_zero, List.set_cons_succ]
  refine wpAnyH_cm 2 ?_; intro o ho K hK; simp only [List.getElem?_toArray, List.getElem?_cons_succ, List.getElem?_cons_zero, Option.some.injEq] at ho; subst ho
  go_simp
  refine (newPages_any s.n _ h3 HN2.out).mono ?_
  rintro e w5 ⟨g5, rfl, hr5, hg5, hb5⟩
  have HB5 := hide (((Below.refl _ w3).drew).trans hb5)
  have HR5 := hide hr5
  have HG5 := hide hg5
  have HX5 : Hid ((fun wx => wx.cell? ⟨h4, 0, none⟩ = some (.int .i64 (num : Int)) ∧ wx.cell? ⟨h4, 1, none⟩ = some (.int .i64 (root : Int))) w5) := ⟨(HB5.out.cell (cell_lt HX.out.1)).trans HX.out.1, (HB5.out.cell (cell_lt HX.out.2)).trans HX.out.2⟩
  have HD5 := hide (HD3.out.later HB5.out)
  clear hr5 hg5 hb5 hHeld
  refine hK.out _ _ HX5.out (fun hHeld => ?_)
  clear hK K
  try simp only [Act.put, List.setIfInBounds_toArray, List.set_cons_zero, List.set_cons_succ]
  refine wpAnyH_cm 5 ?_; intro o ho K hK; simp only [List.getElem?_toArray, List.getElem?_cons_succ, List.getElem?_cons_zero, Option.some.injEq] at ho; subst ho
  go_simp
  refine (life_any B p s _ HD5.out).mono ?_
  rintro e wq ⟨rfl, hq⟩
  have hq := hq.symm
  subst hq
  refine hK.out _ _ hHeld (fun hHeld => ?_)
  clear hK K
  try simp only [Act.put, List.setIfInBounds_toArray, List.set_cons_zero, List.set_cons_succ]
  refine wpAnyH_tk 7 28 (v := ?vz5y7) ?hyz5y7 ?_
  case hyz5y7 => intro oi ho; simp only [List.getElem?_toArray, List.getElem?_cons_succ, List.getElem?_cons_zero, Option.some.injEq] at ho; subst ho; refine Or.inl ⟨by rfl, ?_⟩; intro wx hSw; (try dsimp only at hSw); go_simp; try rfl
  try simp only [Act.put, List.setIfInBounds_toArray, List.set_cons_zero, List.set_cons_succ]
  refine wpAnyH_cm 8 ?_; intro o ho K hK; simp only [List.getElem?_toArray, List.getElem?_cons_succ, List.getElem?_cons_zero, Option.some.injEq] at ho; subst ho
  have HXX : Hid ((fun wx => wx.cell? ⟨h4, 0, none⟩ = some (.int .i64 (num : Int)) ∧ wx.cell? ⟨h4, 1, none⟩ = some (.int .i64 (root : Int))) (w5.alloc (.cells #[.slice (some ⟨g5, 0, none⟩) s.n s.n, .pointer (some ⟨p, 0, none⟩), .int .i64 s.life, .int .i64 (num : Int), .int .i64 (root : Int)] 130))) := ⟨((below_box w5 _).cell (cell_lt HX5.out.1)).trans HX5.out.1, ((below_box w5 _).cell (cell_lt HX5.out.2)).trans HX5.out.2⟩
  go_simp
  clear hHeld
  refine hK.out _ _ HXX.out (fun hHeld => ?_)
  clear hK K
  try simp only [Act.put, List.setIfInBounds_toArray, List.set_cons_zero, List.set_cons_succ]
  refine wpAnyH_tk 9 2 (v := ?vz6y9) ?hyz6y9 ?_
  case hyz6y9 => intro oi ho; simp only [List.getElem?_toArray, List.getElem?_cons_succ, List.getElem?_cons_zero, Option.some.injEq] at ho; subst ho; refine Or.inl ⟨by rfl, ?_⟩; intro wx hSw; (try dsimp only at hSw); go_simp; try rfl
  try simp only [Act.put, List.setIfInBounds_toArray, List.set_cons_zero, List.set_cons_succ]
  refine wpAnyH_tk 10 3 (v := ?vz7y10) ?hyz7y10 ?_
  case hyz7y10 => intro oi ho; simp only [List.getElem?_toArray, List.getElem?_cons_succ, List.getElem?_cons_zero, Option.some.injEq] at ho; subst ho; refine Or.inl ⟨by rfl, ?_⟩; intro wx hSw; (try dsimp only at hSw); go_simp; try rfl
  try simp only [Act.put, List.setIfInBounds_toArray, List.set_cons_zero, List.set_cons_succ]
  refine wpAnyH_done (by kernel_rfl) ?_ _
  refine NoPanic.normal ?_
  go_wp2
  go_ret2
  have HBX := hide (HB5.out.trans ((below_box w5 (.cells #[.slice (some ⟨g5, 0, none⟩) s.n s.n, .pointer (some ⟨p, 0, none⟩), .int .i64 s.life, .int .i64 (num : Int), .int .i64 (root : Int)] 130)).mono HB5.out.size))
  refine ⟨w5.heap.size, rfl, ⟨HD5.out.later (below_box w5 _), g5, ?_, ?_, ?_, ?_, HPO.out⟩, HB3.out.trans (HBX.out.mono HB3.out.size)⟩
  · have e := heap_alloc_new w5 (.cells #[.slice (some ⟨g5, 0, none⟩) s.n s.n, .pointer (some ⟨p, 0, none⟩), .int .i64 s.life, .int .i64 (num : Int), .int .i64 (root : Int)] 130)
    rw [e]
    show _ = some (Obj.cells (storeV g5 p ⟨newSt s.n, s.life, num, root⟩) _ _)
    unfold storeV
    rw [HNL.out]
  · rw [Below.heap_alloc _ _ _ (Array.getElem?_eq_some_iff.1 HR5.out).1]
    exact HR5.out
  · exact Nat.le_trans (Nat.le_trans hB HB3.out.size) HB5.out.size
  · exact Nat.le_trans (Nat.le_trans hB HB3.out.size) (Nat.le_trans (by simp) HG5.out)
end Go.Proofs.YtnfponcadkmfjabGreat
set_option linter.unusedVariables false
namespace Go.Proofs.YtnfponcadkmfjabGreat
open Go.RowKit
theorem rdH_zero (n : Nat) : rdH (pad []) n = (0, 0) := by
  unfold rdH
  rw [if_pos pad_nil]
theorem take_at {a b c : List Nat} {k j : Nat} (ha : a.length = k) (hb : b.length = j) : ((a ++ (b ++ c)).drop k).take j = b := by
  subst ha hb
  rw [List.drop_left, List.take_left]
theorem rdH_head {num root n : Nat} (hn : num ≤ 4611686018427387904) (hr : root < n) (hr1 : root ≠ 1) (h0 : num = 0 → root = 0) (hn2 : n ≤ 4096) : rdH (pad (headB num root)) n = ((num : Int), root) := by
  have e1 : pad (headB num root) = [104, 101, 97, 100] ++ (ord num 8 ++ (ord root 4 ++ ((ord num 8).drop 4 ++ zs (blk - (headB num root).length)))) := by
    unfold pad
    generalize zs (blk - (headB num root).length) = Z
    rw [headB]
    simp only [List.append_assoc]
  have e2 : pad (headB num root) = ([104, 101, 97, 100] ++ ord num 8) ++ (ord root 4 ++ ((ord num 8).drop 4 ++ zs (blk - (headB num root).length))) := by
    rw [e1]
    simp only [List.append_assoc]
  have k1 : ordN (((pad (headB num root)).drop 4).take 8) = num := by
    rw [e1, take_at (a := [104, 101, 97, 100]) (k := 4) rfl (ord_len num 8)]
    exact ordN_ord 8 num (by omega)
  have k2 : ordN (((pad (headB num root)).drop 12).take 4) = root := by
    rw [e2, take_at (by rw [List.length_append, ord_len]; rfl) (ord_len root 4)]
    exact ordN_ord 4 root (by omega)
  unfold rdH
  rw [if_neg (by
    intro e
    have h1 : (pad (headB num root)).getD 0 0 = 104 := by rw [e1]; rfl
    rw [e] at h1
    exact absurd h1 (show ¬ (zs blk).getD 0 0 = 104 by
      have : (zs blk).getD 0 0 = 0 := by unfold zs blk; rfl
      omega)), k1, k2, if_neg (by
    simp only [badH, Bool.or_eq_true, decide_eq_true_eq, not_or]
    omega), if_pos rfl]
theorem lastH_zero : lastH (0, 0) (0, 0) = some (0, 0) := by decide
theorem lastH_odd {a : Int × Nat} {num root : Nat} (h : a.1 < (num : Int)) (ho : num % 2 = 1) : lastH a ((num : Int), root) = some (num, root) := by
  unfold lastH
  rw [if_pos h, if_neg (by simp only; omega), if_neg (by simp only; rw [if_neg (by omega)]; omega)]
  rfl
section
variable {B p q : Nat} {s : DS} {t : PS} {w : World}
end
theorem show_wrote (s : DS) (a : Nat) (xs : List Nat) (b : Nat) : (s.wrote a xs).show b = if b = a then xs else s.show b := by
  unfold DS.show
  rw [wrote_idx]
  by_cases h : b = a
  · rw [if_pos h, if_pos h, List.getLast?_append]
    exact wrote_by_m s a xs
  · rw [if_neg h, if_neg h]
    cases hl : (s.idx b).getLast? with
    | none => rfl
    | some j => exact wrote_by s a xs (idx_mem (List.mem_of_getLast? hl)).1
theorem tick_same {s : DS} (hf : ¬ s.after = 1) : s.tick.opens = s.opens ∧ s.tick.kept = s.kept := by
  unfold DS.tick
  split
  · exact ⟨rfl, rfl⟩
  · first | exact ⟨rfl, rfl⟩ | (rw [if_neg hf]; exact ⟨rfl, rfl⟩)
theorem show_of {s s' : DS} (h1 : s'.opens = s.opens) (h2 : s'.kept = s.kept) (b : Nat) : s'.show b = s.show b := by
  have e1 : s'.idx b = s.idx b := by simp only [DS.idx, DS.m, DS.at_, h1]
  unfold DS.show
  rw [e1]
  cases (s.idx b).getLast? with
  | none => simp only [DS.K, h2]
  | some j => simp only [DS.by_, h1]
theorem show_tick {s : DS} (hf : ¬ s.after = 1) (b : Nat) : s.tick.show b = s.show b := show_of (tick_same hf).1 (tick_same hf).2 b
theorem show_settled (s : DS) (b : Nat) (h : b < s.n) : (s.settle 18446744073709551615 (-1) 0).show b = s.show b := by
  have e : (s.settle 18446744073709551615 (-1) 0).show b = (s.settle 18446744073709551615 (-1) 0).K b := rfl
  rw [e, settle_K _ _ _ _ _ h, setK_all]
  rfl
theorem flush_is {s : DS} (hd : s.down = false) (hf : ¬ s.after = 1) : s.flush = s.tick.settle 18446744073709551615 (-1) 0 := by
  unfold DS.flush
  rw [hd]
  simp only [Bool.false_eq_true, if_false]
  rw [if_neg hf]
theorem show_flush {s : DS} (hd : s.down = false) (hf : ¬ s.after = 1) (b : Nat) (h : b < s.n) : s.flush.show b = s.show b := by
  rw [flush_is hd hf, show_settled _ _ (by rw [(tick_n hf).1]; exact h), show_tick hf]
theorem commit_is {s : DS} {num root : Nat} {H : List Nat} (hH : headB num root = H) (h1 : ¬ s.after = 1) (h2 : ¬ s.flush.after = 1) : s.commit num root = ((s.flush.tick.wrote (num % 2) H).flush, (s.flush.tick.wrote (num % 2) H).flushE) := by
  unfold DS.commit
  rw [if_neg h1, if_neg h2, hH]
end Go.Proofs.YtnfponcadkmfjabGreat
