/- Contracts of write and Commit. -/
import Derived.Test.YtbjononpgcemgaaPC
import Derived.Test.YtbjononpgcemgaaPF
import Derived.Test.YtbjononpgcemgaaRG
set_option linter.unusedVariables false
namespace Go.Proofs.Ytbjononpgcemgaa
open Go.RowKit

theorem tick_facts {s : DS} (hf : ¬ s.after = 1) : s.tick.down = s.down ∧ s.tick.life = s.life ∧ s.tick.n = s.n ∧ s.tick.m = s.m := by
  refine ⟨?_, ?_, (tick_n hf).1, (tick_n hf).2⟩
  · unfold DS.tick; split
    · rfl
    · first | rfl | (rw [if_neg hf]; rfl)
  · unfold DS.tick; split
    · rfl
    · first | rfl | (rw [if_neg hf]; rfl)
theorem flush_facts {s : DS} (hd : s.down = false) (hf : ¬ s.after = 1) : s.flushE = 0 ∧ s.flush.down = false ∧ s.flush.n = s.n ∧ s.flush.m = 0 ∧ s.flush.life = s.life := by
  have h1 := tick_facts hf
  have e : s.flush = s.tick.settle 18446744073709551615 (-1) 0 := by unfold DS.flush; rw [hd]; simp only [Bool.false_eq_true, if_false]; rw [if_neg hf]
  refine ⟨by unfold DS.flushE; rw [hd]; simp only [Bool.false_eq_true, if_false]; rw [if_neg hf], ?_, ?_, ?_, ?_⟩
  · rw [e]; exact h1.1.trans hd
  · rw [e, settle_n]; exact h1.2.2.1
  · rw [e]; rfl
  · rw [e]; exact h1.2.1
/-- What a head's write leaves of a disk, and what it tells. -/
def DS.commit (s : DS) (num root : Nat) : DS × Int :=
  if s.after = 1 then (s.flush, 20)
  else if s.flush.after = 1 then (s.flush.tick, 20)
  else ((s.flush.tick.wrote (num % 2) (headB num root)).flush, (s.flush.tick.wrote (num % 2) (headB num root)).flushE)
section
variable {B p q gs : Nat} {s : DS} {t : PS} {w : World}

set_option maxRecDepth 100000 in
set_option maxHeartbeats 4000000 in
theorem write_ok_c [Gd] (num root : Nat) (hS : SV B p q gs t w) (hD : DI B p s w) (hB : B ≤ w.heap.size) (hd : s.down = false) (hn2 : 2 ≤ s.n) (hlf : s.life < 100000) (hf : ¬ s.after = 1) (hf2 : ¬ s.flush.after = 1) (hn : num ≤ 4611686018427387904) (hr : root < 4294967296) :
    Calls Try.prog 33 #[.pointer (some ⟨q, 0, none⟩), .agg #[.int .i64 (num : Int), .int .i64 (root : Int)]] w fun e w' => e = .returned (.int .i64 (s.commit num root).2) ∧ DI B p (s.commit num root).1 w' ∧ Fr B w w' := by
  have HFF := hide (flush_facts hd hf)
  have HCS : Hid (s.commit num root = ((s.flush.tick.wrote (num % 2) (headB num root)).flush, (s.flush.tick.wrote (num % 2) (headB num root)).flushE)) := by
    show _ = _
    unfold DS.commit
    rw [if_neg hf, if_neg hf2]
  have HLF2 : Hid ((s.flush.tick.wrote (num % 2) (headB num root)).life < 100000) := by show s.flush.tick.life < 100000; rw [(tick_facts hf2).2.1, HFF.out.2.2.2.2]; exact hlf
  have HHL := hide (headB_len num root)
  have HHB := hide (headB_lt num root)
  have HB0 := hide (below_box w (.cells #[.int .i64 (num : Int), .int .i64 (root : Int)] 63))
  have HF0 := hide (Fr.of HB0.out hB)
  have HBOX := hide (heap_alloc_new w (.cells #[.int .i64 (num : Int), .int .i64 (root : Int)] 63))
  have HS := hide (hS.later HB0.out)
  have HD0 := hide (hD.later HB0.out)
  have c1 := HS.out.c1
  have HFL := hide (flush_any B p s _ HD0.out (Nat.le_trans hB HB0.out.size) hlf)
  rw [HFF.out.1] at HFL
  generalize s.commit num root = CR at *
  clear hS hD
  go_enter Try.func33, Try.ntmps33
  go_wp2_with fail
  refine HFL.out.mono ?_
  rintro e w2 ⟨rfl, hD2, hF2⟩
  have HD2 := hide hD2
  have HF2 := hide hF2
  have HX2 : Hid ((fun wx => wx.cell? ⟨q, 1, none⟩ = some (.pointer (some ⟨p, 0, none⟩)) ∧ wx.cell? ⟨w.heap.size, 0, none⟩ = some (.int .i64 (num : Int)) ∧ wx.cell? ⟨w.heap.size, 1, none⟩ = some (.int .i64 (root : Int))) w2) := ⟨(HS.out.fr hF2).c1, cell_blk (hF2.stay _ _ _ _ HBOX.out (by decide) (by decide) (by decide) (by decide)), cell_blk (hF2.stay _ _ _ _ HBOX.out (by decide) (by decide) (by decide) (by decide))⟩
  have HBZ := hide (Nat.le_trans hB (Nat.le_trans HB0.out.size hF2.bel.size))
  clear hD2 hF2 c1
  go_wp2_with fail
  refine wp_region_noPanic ?_
  refine wp_region_held_drew (S := fun wx => wx.cell? ⟨q, 1, none⟩ = some (.pointer (some ⟨p, 0, none⟩)) ∧ wx.cell? ⟨w.heap.size, 0, none⟩ = some (.int .i64 (num : Int)) ∧ wx.cell? ⟨w.heap.size, 1, none⟩ = some (.int .i64 (root : Int))) (by kernel_rfl) HX2.out (fun hHeld => ?_)
  refine wpAnyH_takeAt (i := 0) (d := 15) (v := ?vz1y0) (by kernel_rfl) (by kernel_rfl) (by kernel_rfl) (by kernel_rfl) (fun _ _ _ h => h) ?hyz1y0 (by assumption) ?restz1y0
  case hyz1y0 =>
    intro oi ho
    simp only [List.getElem?_toArray, List.getElem?_cons_zero, Option.some.injEq] at ho
    subst ho
    refine Or.inl ⟨by rfl, ?_⟩
    intro wx hSw
    try dsimp only at hSw
    go_simp
    try rfl
  try simp only [Act.put, List.setIfInBounds_toArray, List.set_cons_zero, List.set_cons_succ]
  refine wpAnyH_takeAt (i := 1) (d := 16) (v := ?vz2y1) (by kernel_rfl) (by kernel_rfl) (by kernel_rfl) (by kernel_rfl) (fun _ _ _ h => h) ?hyz2y1 (by assumption) ?restz2y1
  case hyz2y1 =>
    intro oi ho
    simp only [List.getElem?_toArray, List.getElem?_cons_succ, List.getElem?_cons_zero, Option.some.injEq] at ho
    subst ho
    refine Or.inl ⟨by rfl, ?_⟩
    intro wx hSw
    try dsimp only at hSw
    go_simp
    try rfl
  try simp only [Act.put, List.setIfInBounds_toArray, List.set_cons_zero, List.set_cons_succ]
  refine wpAnyH_takeAt (i := 2) (d := 17) (v := ?vz3y2) (by kernel_rfl) (by kernel_rfl) (by kernel_rfl) (by kernel_rfl) (fun _ _ _ h => h) ?hyz3y2 (by assumption) ?restz3y2
  case hyz3y2 =>
    intro oi ho
    simp only [List.getElem?_toArray, List.getElem?_cons_succ, List.getElem?_cons_zero, Option.some.injEq] at ho
    subst ho
    refine Or.inl ⟨by rfl, ?_⟩
    intro wx hSw
    try dsimp only at hSw
    go_simp
    try rfl
  try simp only [Act.put, List.setIfInBounds_toArray, List.set_cons_zero, List.set_cons_succ]
  refine wpAnyH_takeAt (i := 3) (d := 18) (v := ?vz4y3) (by kernel_rfl) (by kernel_rfl) (by kernel_rfl) (by kernel_rfl) (fun _ _ _ h => h) ?hyz4y3 (by assumption) ?restz4y3
  case hyz4y3 =>
    intro oi ho
    simp only [List.getElem?_toArray, List.getElem?_cons_succ, List.getElem?_cons_zero, Option.some.injEq] at ho
    subst ho
    refine Or.inl ⟨by rfl, ?_⟩
    intro wx hSw
    try dsimp only at hSw
    go_simp
    try rfl
  try simp only [Act.put, List.setIfInBounds_toArray, List.set_cons_zero, List.set_cons_succ]
  refine wpAnyH_takeAt (i := 4) (d := 19) (v := ?vz5y4) (by kernel_rfl) (by kernel_rfl) (by kernel_rfl) (by kernel_rfl) (fun _ _ _ h => h) ?hyz5y4 (by assumption) ?restz5y4
  case hyz5y4 =>
    intro oi ho
    simp only [List.getElem?_toArray, List.getElem?_cons_succ, List.getElem?_cons_zero, Option.some.injEq] at ho
    subst ho
    refine Or.inl ⟨by rfl, ?_⟩
    intro wx hSw
    try dsimp only at hSw
    go_simp
    try rfl
  try simp only [Act.put, List.setIfInBounds_toArray, List.set_cons_zero, List.set_cons_succ]
  refine wpAnyH_takeAt (i := 6) (d := 21) (v := ?vz6y6) (by kernel_rfl) (by kernel_rfl) (by kernel_rfl) (by kernel_rfl) (fun _ _ _ h => h) ?hyz6y6 (by assumption) ?restz6y6
  case hyz6y6 =>
    intro oi ho
    simp only [List.getElem?_toArray, List.getElem?_cons_succ, List.getElem?_cons_zero, Option.some.injEq] at ho
    subst ho
    refine Or.inl ⟨by rfl, ?_⟩
    intro wx hSw
    try dsimp only at hSw
    go_simp
    try rfl
  try simp only [Act.put, List.setIfInBounds_toArray, List.set_cons_zero, List.set_cons_succ]
  refine wpAnyH_comesAt (i := 5) (by kernel_rfl) (by kernel_rfl) ?_
  intro o ho K hK
  simp only [List.getElem?_toArray, List.getElem?_cons_succ, List.getElem?_cons_zero, Option.some.injEq] at ho
  subst ho
  go_simp
  refine (headBlock_any num root _ hn).mono ?_
  rintro e w3 ⟨rfl, hb⟩
  have HB3 := hide (((Below.refl _ w2).drew).trans (hb.mono (Nat.le_refl _)))
  have HX3 : Hid ((fun wx => wx.cell? ⟨q, 1, none⟩ = some (.pointer (some ⟨p, 0, none⟩)) ∧ wx.cell? ⟨w.heap.size, 0, none⟩ = some (.int .i64 (num : Int)) ∧ wx.cell? ⟨w.heap.size, 1, none⟩ = some (.int .i64 (root : Int))) w3) := ⟨(HB3.out.cell (cell_lt HX2.out.1)).trans HX2.out.1, (HB3.out.cell (cell_lt HX2.out.2.1)).trans HX2.out.2.1, (HB3.out.cell (cell_lt HX2.out.2.2)).trans HX2.out.2.2⟩
  
  clear hb hHeld
  refine hK.out _ _ HX3.out (fun hHeld => ?_)
  clear hK K
  try simp only [Act.put, List.setIfInBounds_toArray, List.set_cons_zero, List.set_cons_succ]
  refine wpAnyH_comesAt (i := 7) (by kernel_rfl) (by kernel_rfl) ?_
  intro o ho K hK
  simp only [List.getElem?_toArray, List.getElem?_cons_succ, List.getElem?_cons_zero, Option.some.injEq] at ho
  subst ho
  go_simp
  refine (headBytes_any num root _ hn hr).mono ?_
  rintro e w4 ⟨v9, rfl, ho, hb⟩
  have HB4 := hide (HB3.out.trans (hb.mono HB3.out.size))
  have HX4 : Hid ((fun wx => wx.cell? ⟨q, 1, none⟩ = some (.pointer (some ⟨p, 0, none⟩)) ∧ wx.cell? ⟨w.heap.size, 0, none⟩ = some (.int .i64 (num : Int)) ∧ wx.cell? ⟨w.heap.size, 1, none⟩ = some (.int .i64 (root : Int))) w4) := ⟨(HB4.out.cell (cell_lt HX2.out.1)).trans HX2.out.1, (HB4.out.cell (cell_lt HX2.out.2.1)).trans HX2.out.2.1, (HB4.out.cell (cell_lt HX2.out.2.2)).trans HX2.out.2.2⟩
  have HO4 := hide (own_base ho (Nat.le_trans HBZ.out HB3.out.size))
  clear hb ho hHeld
  refine hK.out _ _ HX4.out (fun hHeld => ?_)
  clear hK K
  try simp only [Act.put, List.setIfInBounds_toArray, List.set_cons_zero, List.set_cons_succ]
  refine wpAnyH_comesAt (i := 8) (by kernel_rfl) (by kernel_rfl) ?_
  intro o ho K hK
  simp only [List.getElem?_toArray, List.getElem?_cons_succ, List.getElem?_cons_zero, Option.some.injEq] at ho
  subst ho
  obtain ⟨a9, c9, rfl, B9⟩ := bs_row (xs := headB num root) (by rw [HHL.out]; exact HO4.out) (by rw [HHL.out]; omega) HHB.out
  have HBS9 := hide B9
  clear B9
  rw [HHL.out]
  rw [HHL.out] at HBS9
  go_simp
  refine (write_ok B p s.flush (num % 2) a9 20 c9 (headB num root) w4 (HD2.out.later HB4.out) (Nat.le_trans HBZ.out HB4.out.size) HFF.out.2.1 (by rw [HFF.out.2.2.1]; omega) hf2 (by rw [HFF.out.2.2.2.2]; exact hlf) (by rw [HFF.out.2.2.2.1]; omega) (by rw [HHL.out]; unfold blk; omega) HHB.out HHL.out ?_).mono ?_
  · intro ww f
    obtain ⟨a8, c8, e8, B8⟩ := bs_row (xs := headB num root) (f.row (by rw [HHL.out]; exact HO4.out) (by decide) (by decide) (by decide) (by decide)) (by rw [HHL.out]; omega) HHB.out
    rw [HHL.out] at e8 B8
    simp only [Value.slice.injEq] at e8
    obtain ⟨rfl, _, rfl⟩ := e8
    exact B8
  rintro e w5 ⟨rfl, hD5, hF5⟩
  have HF5 := hide (HF2.out.trans ((Fr.of HB4.out HBZ.out).trans hF5))
  have HD5 := hide hD5
  have HS5 := hide (HS.out.fr HF5.out)
  have HX5 : Hid ((fun wx => wx.cell? ⟨q, 1, none⟩ = some (.pointer (some ⟨p, 0, none⟩)) ∧ wx.cell? ⟨w.heap.size, 0, none⟩ = some (.int .i64 (num : Int)) ∧ wx.cell? ⟨w.heap.size, 1, none⟩ = some (.int .i64 (root : Int))) w5) := ⟨HS5.out.c1, cell_blk (HF5.out.stay _ _ _ _ HBOX.out (by decide) (by decide) (by decide) (by decide)), cell_blk (HF5.out.stay _ _ _ _ HBOX.out (by decide) (by decide) (by decide) (by decide))⟩
  clear hD5 hF5 hHeld
  refine hK.out _ _ HX5.out (fun hHeld => ?_)
  clear hK K
  try simp only [Act.put, List.setIfInBounds_toArray, List.set_cons_zero, List.set_cons_succ]
  refine wpAnyH_takeAt (i := 9) (d := 6) (v := ?vz7y9) (by kernel_rfl) (by kernel_rfl) (by kernel_rfl) (by kernel_rfl) (fun _ _ _ h => h) ?hyz7y9 (by assumption) ?restz7y9
  case hyz7y9 =>
    intro oi ho
    simp only [List.getElem?_toArray, List.getElem?_cons_succ, List.getElem?_cons_zero, Option.some.injEq] at ho
    subst ho
    refine Or.inl ⟨by rfl, ?_⟩
    intro wx hSw
    try dsimp only at hSw
    go_simp
    try rfl
  try simp only [Act.put, List.setIfInBounds_toArray, List.set_cons_zero, List.set_cons_succ]
  refine wpAnyH_done (by kernel_rfl) ?_ _
  refine NoPanic.normal ?_
  have c1 := HX5.out.1
  have HFL := hide (flush_any B p _ w5 HD5.out (Nat.le_trans hB (Nat.le_trans HB0.out.size HF5.out.bel.size)) HLF2.out)
  go_wp2_with fail
  refine HFL.out.mono ?_
  rintro e w6 ⟨rfl, hD6, hF6⟩
  have HD6 := hide hD6
  have HF6 := hide (HF5.out.trans hF6)
  clear hD6 hF6
  go_wp2
  go_ret
  rw [HCS.out]
  exact ⟨rfl, HD6.out, HF0.out.trans HF6.out⟩

set_option maxRecDepth 100000 in
set_option maxHeartbeats 4000000 in
theorem write_no_c [Gd] (num root : Nat) (hS : SV B p q gs t w) (hD : DI B p s w) (hB : B ≤ w.heap.size) (hd : s.down = false) (hn2 : 2 ≤ s.n) (hlf : s.life < 100000) (hf : ¬ s.after = 1) (hf2 : s.flush.after = 1) (hn : num ≤ 4611686018427387904) (hr : root < 4294967296) :
    Calls Try.prog 33 #[.pointer (some ⟨q, 0, none⟩), .agg #[.int .i64 (num : Int), .int .i64 (root : Int)]] w fun e w' => e = .returned (.int .i64 (s.commit num root).2) ∧ DI B p (s.commit num root).1 w' ∧ Fr B w w' := by
  have HFF := hide (flush_facts hd hf)
  have HCS : Hid (s.commit num root = (s.flush.tick, 20)) := by
    show _ = _
    unfold DS.commit
    rw [if_neg hf, if_pos hf2]
  skip
  have HHL := hide (headB_len num root)
  have HHB := hide (headB_lt num root)
  have HB0 := hide (below_box w (.cells #[.int .i64 (num : Int), .int .i64 (root : Int)] 63))
  have HF0 := hide (Fr.of HB0.out hB)
  have HBOX := hide (heap_alloc_new w (.cells #[.int .i64 (num : Int), .int .i64 (root : Int)] 63))
  have HS := hide (hS.later HB0.out)
  have HD0 := hide (hD.later HB0.out)
  have c1 := HS.out.c1
  have HFL := hide (flush_any B p s _ HD0.out (Nat.le_trans hB HB0.out.size) hlf)
  rw [HFF.out.1] at HFL
  generalize s.commit num root = CR at *
  clear hS hD
  go_enter Try.func33, Try.ntmps33
  go_wp2_with fail
  refine HFL.out.mono ?_
  rintro e w2 ⟨rfl, hD2, hF2⟩
  have HD2 := hide hD2
  have HF2 := hide hF2
  have HX2 : Hid ((fun wx => wx.cell? ⟨q, 1, none⟩ = some (.pointer (some ⟨p, 0, none⟩)) ∧ wx.cell? ⟨w.heap.size, 0, none⟩ = some (.int .i64 (num : Int)) ∧ wx.cell? ⟨w.heap.size, 1, none⟩ = some (.int .i64 (root : Int))) w2) := ⟨(HS.out.fr hF2).c1, cell_blk (hF2.stay _ _ _ _ HBOX.out (by decide) (by decide) (by decide) (by decide)), cell_blk (hF2.stay _ _ _ _ HBOX.out (by decide) (by decide) (by decide) (by decide))⟩
  have HBZ := hide (Nat.le_trans hB (Nat.le_trans HB0.out.size hF2.bel.size))
  clear hD2 hF2 c1
  go_wp2_with fail
  refine wp_region_noPanic ?_
  refine wp_region_held_drew (S := fun wx => wx.cell? ⟨q, 1, none⟩ = some (.pointer (some ⟨p, 0, none⟩)) ∧ wx.cell? ⟨w.heap.size, 0, none⟩ = some (.int .i64 (num : Int)) ∧ wx.cell? ⟨w.heap.size, 1, none⟩ = some (.int .i64 (root : Int))) (by kernel_rfl) HX2.out (fun hHeld => ?_)
  refine wpAnyH_takeAt (i := 0) (d := 15) (v := ?vz8y0) (by kernel_rfl) (by kernel_rfl) (by kernel_rfl) (by kernel_rfl) (fun _ _ _ h => h) ?hyz8y0 (by assumption) ?restz8y0
  case hyz8y0 =>
    intro oi ho
    simp only [List.getElem?_toArray, List.getElem?_cons_zero, Option.some.injEq] at ho
    subst ho
    refine Or.inl ⟨by rfl, ?_⟩
    intro wx hSw
    try dsimp only at hSw
    go_simp
    try rfl
  try simp only [Act.put, List.setIfInBounds_toArray, List.set_cons_zero, List.set_cons_succ]
  refine wpAnyH_takeAt (i := 1) (d := 16) (v := ?vz9y1) (by kernel_rfl) (by kernel_rfl) (by kernel_rfl) (by kernel_rfl) (fun _ _ _ h => h) ?hyz9y1 (by assumption) ?restz9y1
  case hyz9y1 =>
    intro oi ho
    simp only [List.getElem?_toArray, List.getElem?_cons_succ, List.getElem?_cons_zero, Option.some.injEq] at ho
    subst ho
    refine Or.inl ⟨by rfl, ?_⟩
    intro wx hSw
    try dsimp only at hSw
    go_simp
    try rfl
  try simp only [Act.put, List.setIfInBounds_toArray, List.set_cons_zero, List.set_cons_succ]
  refine wpAnyH_takeAt (i := 2) (d := 17) (v := ?vz10y2) (by kernel_rfl) (by kernel_rfl) (by kernel_rfl) (by kernel_rfl) (fun _ _ _ h => h) ?hyz10y2 (by assumption) ?restz10y2
  case hyz10y2 =>
    intro oi ho
    simp only [List.getElem?_toArray, List.getElem?_cons_succ, List.getElem?_cons_zero, Option.some.injEq] at ho
    subst ho
    refine Or.inl ⟨by rfl, ?_⟩
    intro wx hSw
    try dsimp only at hSw
    go_simp
    try rfl
  try simp only [Act.put, List.setIfInBounds_toArray, List.set_cons_zero, List.set_cons_succ]
  refine wpAnyH_takeAt (i := 3) (d := 18) (v := ?vz11y3) (by kernel_rfl) (by kernel_rfl) (by kernel_rfl) (by kernel_rfl) (fun _ _ _ h => h) ?hyz11y3 (by assumption) ?restz11y3
  case hyz11y3 =>
    intro oi ho
    simp only [List.getElem?_toArray, List.getElem?_cons_succ, List.getElem?_cons_zero, Option.some.injEq] at ho
    subst ho
    refine Or.inl ⟨by rfl, ?_⟩
    intro wx hSw
    try dsimp only at hSw
    go_simp
    try rfl
  try simp only [Act.put, List.setIfInBounds_toArray, List.set_cons_zero, List.set_cons_succ]
  refine wpAnyH_takeAt (i := 4) (d := 19) (v := ?vz12y4) (by kernel_rfl) (by kernel_rfl) (by kernel_rfl) (by kernel_rfl) (fun _ _ _ h => h) ?hyz12y4 (by assumption) ?restz12y4
  case hyz12y4 =>
    intro oi ho
    simp only [List.getElem?_toArray, List.getElem?_cons_succ, List.getElem?_cons_zero, Option.some.injEq] at ho
    subst ho
    refine Or.inl ⟨by rfl, ?_⟩
    intro wx hSw
    try dsimp only at hSw
    go_simp
    try rfl
  try simp only [Act.put, List.setIfInBounds_toArray, List.set_cons_zero, List.set_cons_succ]
  refine wpAnyH_takeAt (i := 6) (d := 21) (v := ?vz13y6) (by kernel_rfl) (by kernel_rfl) (by kernel_rfl) (by kernel_rfl) (fun _ _ _ h => h) ?hyz13y6 (by assumption) ?restz13y6
  case hyz13y6 =>
    intro oi ho
    simp only [List.getElem?_toArray, List.getElem?_cons_succ, List.getElem?_cons_zero, Option.some.injEq] at ho
    subst ho
    refine Or.inl ⟨by rfl, ?_⟩
    intro wx hSw
    try dsimp only at hSw
    go_simp
    try rfl
  try simp only [Act.put, List.setIfInBounds_toArray, List.set_cons_zero, List.set_cons_succ]
  refine wpAnyH_comesAt (i := 5) (by kernel_rfl) (by kernel_rfl) ?_
  intro o ho K hK
  simp only [List.getElem?_toArray, List.getElem?_cons_succ, List.getElem?_cons_zero, Option.some.injEq] at ho
  subst ho
  go_simp
  refine (headBlock_any num root _ hn).mono ?_
  rintro e w3 ⟨rfl, hb⟩
  have HB3 := hide (((Below.refl _ w2).drew).trans (hb.mono (Nat.le_refl _)))
  have HX3 : Hid ((fun wx => wx.cell? ⟨q, 1, none⟩ = some (.pointer (some ⟨p, 0, none⟩)) ∧ wx.cell? ⟨w.heap.size, 0, none⟩ = some (.int .i64 (num : Int)) ∧ wx.cell? ⟨w.heap.size, 1, none⟩ = some (.int .i64 (root : Int))) w3) := ⟨(HB3.out.cell (cell_lt HX2.out.1)).trans HX2.out.1, (HB3.out.cell (cell_lt HX2.out.2.1)).trans HX2.out.2.1, (HB3.out.cell (cell_lt HX2.out.2.2)).trans HX2.out.2.2⟩
  
  clear hb hHeld
  refine hK.out _ _ HX3.out (fun hHeld => ?_)
  clear hK K
  try simp only [Act.put, List.setIfInBounds_toArray, List.set_cons_zero, List.set_cons_succ]
  refine wpAnyH_comesAt (i := 7) (by kernel_rfl) (by kernel_rfl) ?_
  intro o ho K hK
  simp only [List.getElem?_toArray, List.getElem?_cons_succ, List.getElem?_cons_zero, Option.some.injEq] at ho
  subst ho
  go_simp
  refine (headBytes_any num root _ hn hr).mono ?_
  rintro e w4 ⟨v9, rfl, ho, hb⟩
  have HB4 := hide (HB3.out.trans (hb.mono HB3.out.size))
  have HX4 : Hid ((fun wx => wx.cell? ⟨q, 1, none⟩ = some (.pointer (some ⟨p, 0, none⟩)) ∧ wx.cell? ⟨w.heap.size, 0, none⟩ = some (.int .i64 (num : Int)) ∧ wx.cell? ⟨w.heap.size, 1, none⟩ = some (.int .i64 (root : Int))) w4) := ⟨(HB4.out.cell (cell_lt HX2.out.1)).trans HX2.out.1, (HB4.out.cell (cell_lt HX2.out.2.1)).trans HX2.out.2.1, (HB4.out.cell (cell_lt HX2.out.2.2)).trans HX2.out.2.2⟩
  have HO4 := hide (own_base ho (Nat.le_trans HBZ.out HB3.out.size))
  clear hb ho hHeld
  refine hK.out _ _ HX4.out (fun hHeld => ?_)
  clear hK K
  try simp only [Act.put, List.setIfInBounds_toArray, List.set_cons_zero, List.set_cons_succ]
  refine wpAnyH_comesAt (i := 8) (by kernel_rfl) (by kernel_rfl) ?_
  intro o ho K hK
  simp only [List.getElem?_toArray, List.getElem?_cons_succ, List.getElem?_cons_zero, Option.some.injEq] at ho
  subst ho
  obtain ⟨a9, c9, rfl, B9⟩ := bs_row (xs := headB num root) (by rw [HHL.out]; exact HO4.out) (by rw [HHL.out]; omega) HHB.out
  have HBS9 := hide B9
  clear B9
  rw [HHL.out]
  rw [HHL.out] at HBS9
  go_simp
  refine (write_fails B p s.flush ((num % 2 : Nat) : Int) a9 20 c9 w4 (HD2.out.later HB4.out) (Nat.le_trans HBZ.out HB4.out.size) HFF.out.2.1 ⟨by omega, by rw [HFF.out.2.2.1]; omega⟩ (by unfold blk; omega) hf2 (by rw [HFF.out.2.2.2.2]; exact hlf)).mono ?_
  rintro e w5 ⟨rfl, hD5, hF5⟩
  have HF5 := hide (HF2.out.trans ((Fr.of HB4.out HBZ.out).trans hF5))
  have HD5 := hide hD5
  have HS5 := hide (HS.out.fr HF5.out)
  have HX5 : Hid ((fun wx => wx.cell? ⟨q, 1, none⟩ = some (.pointer (some ⟨p, 0, none⟩)) ∧ wx.cell? ⟨w.heap.size, 0, none⟩ = some (.int .i64 (num : Int)) ∧ wx.cell? ⟨w.heap.size, 1, none⟩ = some (.int .i64 (root : Int))) w5) := ⟨HS5.out.c1, cell_blk (HF5.out.stay _ _ _ _ HBOX.out (by decide) (by decide) (by decide) (by decide)), cell_blk (HF5.out.stay _ _ _ _ HBOX.out (by decide) (by decide) (by decide) (by decide))⟩
  clear hD5 hF5 hHeld
  refine hK.out _ _ HX5.out (fun hHeld => ?_)
  clear hK K
  try simp only [Act.put, List.setIfInBounds_toArray, List.set_cons_zero, List.set_cons_succ]
  refine wpAnyH_takeAt (i := 9) (d := 6) (v := ?vz14y9) (by kernel_rfl) (by kernel_rfl) (by kernel_rfl) (by kernel_rfl) (fun _ _ _ h => h) ?hyz14y9 (by assumption) ?restz14y9
  case hyz14y9 =>
    intro oi ho
    simp only [List.getElem?_toArray, List.getElem?_cons_succ, List.getElem?_cons_zero, Option.some.injEq] at ho
    subst ho
    refine Or.inl ⟨by rfl, ?_⟩
    intro wx hSw
    try dsimp only at hSw
    go_simp
    try rfl
  try simp only [Act.put, List.setIfInBounds_toArray, List.set_cons_zero, List.set_cons_succ]
  refine wpAnyH_done (by kernel_rfl) ?_ _
  refine NoPanic.normal ?_
  go_wp2
  go_ret
  rw [HCS.out]
  exact ⟨rfl, HD5.out, HF0.out.trans HF5.out⟩
end
end Go.Proofs.Ytbjononpgcemgaa
