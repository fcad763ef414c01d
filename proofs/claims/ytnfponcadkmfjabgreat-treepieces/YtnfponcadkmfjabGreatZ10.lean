import Derived.Test.YtnfponcadkmfjabGreatZ9
set_option linter.unusedVariables false
namespace Go.Proofs.YtnfponcadkmfjabGreat
open Go.RowKit
theorem info_int : (Tryz.prog.info? 3).map (fun i => (i.zero, i.size, i.bytes)) = some (some (.int .i64 0), 1, 8) := by kernel_rfl
theorem info_write : (Tryz.prog.info? 190).map (fun i => (i.zero, i.size, i.bytes)) = some (some (.agg #[.int .i64 0, .slice none 0 0]), 2, 32) := by kernel_rfl
theorem wp_append_at {o : Oper} {a : Act} {K : Act → World → Prop} {Q : Exit → Act → World → Prop} {w : World} (s x : Operand) (t : TypeId)
    (ho : o.op = .call { callee := .builtin .append, args := #[s, x], argTypes := #[t, t] })
    (base : Nat) (e : TypeId) (i : TypeInfo) (z : Value) (size bytes : Nat) (ht : Tryz.prog.underlying t = some (.slice e)) (hi : Tryz.prog.info? e = some i) (hz : i.zero = some z)
    (hsize : i.size = size) (hby : i.bytes = bytes) (hzs : z.cells.size = size) (hsz : 0 < size)
    (v : Value) (n : Nat) (xs : List Value) (hs : a.eval s = v) (hown : w.ownsRow base e size v n xs)
    (ad : Addr) (m c : Nat) (news : List Value) (hx : a.eval x = .slice (some ad) m c) (hl : news.length = m * size) (hnews : ∀ j u, news[j]? = some u → w.cell? (ad.add j) = some u) (h1 : ∀ u ∈ news, u.oneCell' = true)
    (h63 : n + m ≤ maxLen) (hbytes : (n + m) * bytes ≤ 140737488355328) (hbase : base ≤ w.heap.size)
    (h : ∀ v' w', w'.ownsRow base e size v' (n + m) (xs ++ news) → w.grownBy w' v.ownBlock → (v'.ownBlock = v.ownBlock ∨ v'.ownBlock = some w.heap.size) → K (a.put o.dst v') w') : o.wp Tryz.prog a w K Q := by
  obtain ⟨v', w', hr, h2, h3, h4, h5⟩ := run_append_own_at (P := Tryz.prog) w base t o.type e i z size bytes ht hi hz hsize hby hzs hsz v n xs hown ad m c news hl hnews h1 h63 hbytes hbase
  unfold Oper.wp execOp
  simp only [ho, resolve, invoke, builtin, Sem.run_bind, Sem.run_pure, Result.andThen_ok, List.map_toArray, List.map_cons, List.map_nil, hs, hx, hr]
  exact h v' w' h2 h3 h5
theorem news2 (w : World) (x y : Value) (t : TypeId) : ∀ j u, [x, y][j]? = some u → (w.alloc (.cells #[x, y] t)).cell? ((⟨w.heap.size, 0, none⟩ : Addr).add j) = some u := by
  intro j u hj
  match j, hj with
  | 0, hj => simp at hj; subst hj; simp [Addr.add]
  | 1, hj => simp at hj; subst hj; simp [Addr.add]
theorem newsI (w : World) (x : Value) (t : TypeId) : ∀ j u, [x][j]? = some u → (w.alloc (.cells #[x] t)).cell? ((⟨w.heap.size, 0, none⟩ : Addr).add j) = some u := by
  intro j u hj
  match j, hj with
  | 0, hj => simp at hj; subst hj; simp [Addr.add]
section
variable {B p gb : Nat} {vo : Value} {kv ov wv : Nat → Value} {s : DS} {a : Nat} {w w1 w2 : World}
theorem DV.grownP [Gd] (h : DV B p gb vo kv ov wv s w1) (ha : a < s.n) (hg : w1.grownBy w2 (ov a).ownBlock) :
    w2.heap[p]? = some (.cells (headV gb vo s.n s.after s.keep s.torn s.cut s.down s.life) 98 (0, 0)) ∧ w2.heap[gb]? = some (.cells (two kv ov s.n).toArray 188 (0, 0)) := by
  have st : ∀ (k : Nat) (cs : Array Value) (t : TypeId), w1.heap[k]? = some (Obj.cells cs t (0, 0)) → t ≠ 3 → w2.heap[k]? = some (Obj.cells cs t (0, 0)) := by
    intro k cs t e ht
    rw [hg.block k (Array.getElem?_eq_some_iff.1 e).1 ?_, e]
    intro e2
    obtain ⟨_, cur, hc⟩ := own_block (h.ho a ha) e2.symm
    rw [hc] at e
    simp only [Option.some.injEq, Obj.cells.injEq] at e
    exact ht e.2.1.symm
  exact ⟨st p _ _ h.hp (by decide), st gb _ _ h.hg (by decide)⟩
theorem DM.grownQ [Gd] (h : DM B p gb vo kv ov wv s a w1) (hg : w1.grownBy w2 vo.ownBlock) :
    w2.heap[p]? = some (.cells (headV gb vo s.n s.after s.keep s.torn s.cut s.down s.life) 98 (0, 0)) := by
  rw [hg.block p (Array.getElem?_eq_some_iff.1 h.hp).1 ?_, h.hp]
  intro e2
  obtain ⟨_, cur, hc⟩ := own_block h.hw e2.symm
  have := h.hp
  rw [hc] at this
  simp only [Option.some.injEq, Obj.cells.injEq] at this
  exact absurd this.2.1 (by decide)
end
theorem tick_n {s : DS} (h : ¬ s.after = 1) : s.tick.n = s.n ∧ s.tick.m = s.m := by
  unfold DS.tick
  split
  · exact ⟨rfl, rfl⟩
  · first | exact ⟨rfl, rfl⟩ | (rw [if_neg h]; exact ⟨rfl, rfl⟩)
set_option maxRecDepth 100000 in
set_option maxHeartbeats 8000000 in
theorem write_ok [Gd] (B p : Nat) (s : DS) (at_ : Nat) (a : Option Addr) (len cap : Nat) (xs : List Nat) (w : World) (h : DI B p s w) (hB : B ≤ w.heap.size) (hd : s.down = false) (ha : at_ < s.n) (hf : ¬ s.after = 1) (hlf : s.life < 100000) (hm : s.m < 100000)
    (hxl : xs.length ≤ blk) (hxb : ∀ c ∈ xs, c < 256) (hlen : xs.length = len) (hbs : ∀ ww, Fr B w ww → BS ww a len cap xs) :
    Calls Tryz.prog 102 #[.pointer (some ⟨p, 0, none⟩), .int .i64 at_, .slice a len cap] w fun e w' => e = .returned (.int .i64 0) ∧ DI B p (s.tick.wrote at_ xs) w' ∧ Fr B w w' := by
  subst hlen
  obtain ⟨i0, hi, hz0, hz1, hz2⟩ := info_parts info_int
  obtain ⟨j0, hj, hy0, hy1, hy2⟩ := info_parts info_write
  have HC := hide (has_any B p s at_ w h)
  rw [decide_eq_true (by omega : (0 : Int) ≤ (at_ : Int) ∧ (at_ : Int) < s.n)] at HC
  have HF := hide (fails_any B p s w h hB hd hlf)
  rw [decide_eq_false hf] at HF
  have hat : at_ < s.tick.n := by rw [(tick_n hf).1]; exact ha
  have HM0 : s.tick.m = s.m := (tick_n hf).2
  obtain ⟨gb0, vo0, kv0, ov0, wv0, h0⟩ := h
  have c6 := h0.c6
  rw [hd] at c6
  have d1 : decide ((8192 : Int) < (xs.length : Int)) = false := decide_eq_false (by unfold blk at hxl; omega)
  clear h0 hf
  generalize s.tick = s1 at *
  go_enter Tryz.func102, Tryz.ntmps102
  go_wp2_with fail
  refine HC.out.mono ?_
  rintro e w2 ⟨rfl, rfl⟩
  go_wp2_with fail
  refine HF.out.mono ?_
  rintro e w3 ⟨rfl, hD, hF⟩
  have HF3 := hide hF
  obtain ⟨gb, vo, kv, ov, wv, D⟩ := hD
  have hB3 : B ≤ w3.heap.size := Nat.le_trans hB hF.bel.size
  obtain ⟨A, C, hvo, hmc, hcm, hnil⟩ := D.form
  subst hvo
  have hok := D.ok
  have hn2 := hok.n2
  have hmm : s1.m < 100000 := by rw [HM0]; exact hm
  obtain ⟨a2, p2, e2⟩ := own_slice (D.ho at_ hat)
  have hil := idx_len s1 at_
  have k1 : w3.cell? ⟨p, 0, none⟩ = some (.slice (some ⟨gb, 0, none⟩) s1.n s1.n) := D.c0
  have k2 : w3.cell? ⟨p, 1, none⟩ = some (.slice A s1.m C) := D.c1
  have HCX : Hid (w3.drew.cell? ⟨gb, at_ * 2 + 1, none⟩ = some (.slice a2 (s1.idx at_).length p2)) := by
    show w3.cell? ⟨gb, at_ * 2 + 1, none⟩ = _
    rw [cell_blk D.hg, ← e2]
    simpa using two_get1 kv ov at_ s1.n hat
  have HD := hide D
  have HHAT := hide hat
  have i1 : (0 : Int) ≤ (at_ : Int) := by omega
  have i2 : (at_ : Int) < ((s1.n : Nat) : Int) := by omega
  have HB4 := hide ((Below.refl w3.heap.size w3).alloc (Nat.le_refl _) (.cells #[.int .i64 ((s1.m : Nat) : Int)] 3)).drew
  have HD4 := hide (HD.out.later HB4.out)
  have HOX := hide (HD4.out.ho at_ hat)
  rw [e2] at HOX
  have HCY := hide ((HB4.out.cell (cell_lt HCX.out)).trans HCX.out)
  have HNX : Hid (∀ j u, [Value.int .i64 ((s1.m : Nat) : Int)][j]? = some u → (w3.alloc (.cells #[.int .i64 ((s1.m : Nat) : Int)] 3)).drew.cell? ((⟨w3.heap.size, 0, none⟩ : Addr).add j) = some u) := newsI w3 (.int .i64 ((s1.m : Nat) : Int)) 3
  have HX3 : Hid ((fun wx => wx.cell? ⟨p, 0, none⟩ = some (.slice (some ⟨gb, 0, none⟩) s1.n s1.n) ∧ wx.cell? ⟨p, 1, none⟩ = some (.slice A s1.m C)) w3.drew) := ⟨k1, k2⟩
  have HX4 : Hid ((fun wx => wx.cell? ⟨p, 0, none⟩ = some (.slice (some ⟨gb, 0, none⟩) s1.n s1.n) ∧ wx.cell? ⟨p, 1, none⟩ = some (.slice A s1.m C)) ((w3.alloc (.cells #[.int .i64 ((s1.m : Nat) : Int)] 3)).drew)) := ⟨(HB4.out.cell (cell_lt k1)).trans k1, (HB4.out.cell (cell_lt k2)).trans k2⟩
  have HE2 := hide e2
  clear D hF hnil e2 k1 k2 c6 HC HF HM0
  generalize hL : (s1.idx at_).length = L at *
  have HL := hide hL
  generalize hM : s1.m = M at *
  have HM := hide hM
  generalize hN : s1.n = N at *
  have HN := hide hN
  clear hL hM hN
  go_wp2_with fail
  refine wp_region_noPanic ?_
  refine wp_region_held_drew (S := fun wx => wx.cell? ⟨p, 0, none⟩ = some (.slice (some ⟨gb, 0, none⟩) N N) ∧ wx.cell? ⟨p, 1, none⟩ = some (.slice A M C)) (by kernel_rfl) HX3.out (fun hHeld => ?_)
  refine wpAnyH_tk 0 22 (v := ?vz1y0) ?hyz1y0 ?_
  case hyz1y0 => intro oi ho; simp only [List.getElem?_toArray, List.getElem?_cons_zero, Option.some.injEq] at ho; subst ho; refine Or.inl ⟨by rfl, ?_⟩; intro wx hSw; (try dsimp only at hSw); go_simp; try rfl
  try simp only [Act.put, List.setIfInBounds_toArray, List.set_cons_zero, List.set_cons_succ]
  refine wpAnyH_tk 1 23 (v := ?vz2y1) ?hyz2y1 ?_
  case hyz2y1 => intro oi ho; simp only [List.getElem?_toArray, List.getElem?_cons_succ, List.getElem?_cons_zero, Option.some.injEq] at ho; subst ho; refine Or.inl ⟨by rfl, ?_⟩; intro wx hSw; (try dsimp only at hSw); go_simp; try rfl
  try simp only [Act.put, List.setIfInBounds_toArray, List.set_cons_zero, List.set_cons_succ]
  refine wpAnyH_tk 2 24 (v := ?vz3y2) ?hyz3y2 ?_
  case hyz3y2 => intro oi ho; simp only [List.getElem?_toArray, List.getElem?_cons_succ, List.getElem?_cons_zero, Option.some.injEq] at ho; subst ho; refine Or.inl ⟨by rfl, ?_⟩; intro wx hSw; (try dsimp only at hSw); go_simp; try rfl
  try simp only [Act.put, List.setIfInBounds_toArray, List.set_cons_zero, List.set_cons_succ]
  refine wpAnyH_tk 3 25 (v := ?vz4y3) ?hyz4y3 ?_
  case hyz4y3 => intro oi ho; simp only [List.getElem?_toArray, List.getElem?_cons_succ, List.getElem?_cons_zero, Option.some.injEq] at ho; subst ho; refine Or.inl ⟨by rfl, ?_⟩; intro wx hSw; (try dsimp only at hSw); go_simp; try rfl
  try simp only [Act.put, List.setIfInBounds_toArray, List.set_cons_zero, List.set_cons_succ]
  refine wpAnyH_tk 4 26 (v := ?vz5y4) ?hyz5y4 ?_
  case hyz5y4 => intro oi ho; simp only [List.getElem?_toArray, List.getElem?_cons_succ, List.getElem?_cons_zero, Option.some.injEq] at ho; subst ho; refine Or.inl ⟨by rfl, ?_⟩; intro wx hSw; (try dsimp only at hSw); go_simp; try rfl
  try simp only [Act.put, List.setIfInBounds_toArray, List.set_cons_zero, List.set_cons_succ]
  refine wpAnyH_tk 5 27 (v := ?vz6y5) ?hyz6y5 ?_
  case hyz6y5 => intro oi ho; simp only [List.getElem?_toArray, List.getElem?_cons_succ, List.getElem?_cons_zero, Option.some.injEq] at ho; subst ho; refine Or.inl ⟨by rfl, ?_⟩; intro wx hSw; (try dsimp only at hSw); go_simp; try rfl
  try simp only [Act.put, List.setIfInBounds_toArray, List.set_cons_zero, List.set_cons_succ]
  refine wpAnyH_tk 6 28 (v := ?vz7y6) ?hyz7y6 ?_
  case hyz7y6 => intro oi ho; simp only [List.getElem?_toArray, List.getElem?_cons_succ, List.getElem?_cons_zero, Option.some.injEq] at ho; subst ho; refine Or.inl ⟨by rfl, ?_⟩; intro wx hSw; (try dsimp only at hSw); go_simp; try rfl
  try simp only [Act.put, List.setIfInBounds_toArray, List.set_cons_zero, List.set_cons_succ]
  refine wpAnyH_tk 7 29 (v := ?vz8y7) ?hyz8y7 ?_
  case hyz8y7 => intro oi ho; simp only [List.getElem?_toArray, List.getElem?_cons_succ, List.getElem?_cons_zero, Option.some.injEq] at ho; subst ho; refine Or.inl ⟨by rfl, ?_⟩; intro wx hSw; (try dsimp only at hSw); go_simp; try rfl
  try simp only [Act.put, List.setIfInBounds_toArray, List.set_cons_zero, List.set_cons_succ]
  refine wpAnyH_tk 8 30 (v := ?vz9y8) ?hyz9y8 ?_
  case hyz9y8 => intro oi ho; simp only [List.getElem?_toArray, List.getElem?_cons_succ, List.getElem?_cons_zero, Option.some.injEq] at ho; subst ho; refine Or.inl ⟨by rfl, ?_⟩; intro wx hSw; (try dsimp only at hSw); go_simp; try rfl
  try simp only [Act.put, List.setIfInBounds_toArray, List.set_cons_zero, List.set_cons_succ]
  refine wpAnyH_tk 9 31 (v := ?vz10y9) ?hyz10y9 ?_
  case hyz10y9 => intro oi ho; simp only [List.getElem?_toArray, List.getElem?_cons_succ, List.getElem?_cons_zero, Option.some.injEq] at ho; subst ho; refine Or.inl ⟨by rfl, ?_⟩; intro wx hSw; (try dsimp only at hSw); go_simp; try rfl
  try simp only [Act.put, List.setIfInBounds_toArray, List.set_cons_zero, List.set_cons_succ]
  refine wpAnyH_tk 10 32 (v := ?vz11y10) ?hyz11y10 ?_
  case hyz11y10 => intro oi ho; simp only [List.getElem?_toArray, List.getElem?_cons_succ, List.getElem?_cons_zero, Option.some.injEq] at ho; subst ho; refine Or.inl ⟨by rfl, ?_⟩; intro wx hSw; (try dsimp only at hSw); go_simp; try rfl
  try simp only [Act.put, List.setIfInBounds_toArray, List.set_cons_zero, List.set_cons_succ]
  refine wpAnyH_tk 11 33 (v := ?vz12y11) ?hyz12y11 ?_
  case hyz12y11 => intro oi ho; simp only [List.getElem?_toArray, List.getElem?_cons_succ, List.getElem?_cons_zero, Option.some.injEq] at ho; subst ho; refine Or.inl ⟨by rfl, ?_⟩; intro wx hSw; (try dsimp only at hSw); go_simp; try rfl
  try simp only [Act.put, List.setIfInBounds_toArray, List.set_cons_zero, List.set_cons_succ]
  refine wpAnyH_tk 13 35 (v := ?vz13y13) ?hyz13y13 ?_
  case hyz13y13 => intro oi ho; simp only [List.getElem?_toArray, List.getElem?_cons_succ, List.getElem?_cons_zero, Option.some.injEq] at ho; subst ho; refine Or.inl ⟨by rfl, ?_⟩; intro wx hSw; (try dsimp only at hSw); go_simp; try rfl
  try simp only [Act.put, List.setIfInBounds_toArray, List.set_cons_zero, List.set_cons_succ]
  refine wpAnyH_tk 14 36 (v := ?vz14y14) ?hyz14y14 ?_
  case hyz14y14 => intro oi ho; simp only [List.getElem?_toArray, List.getElem?_cons_succ, List.getElem?_cons_zero, Option.some.injEq] at ho; subst ho; refine Or.inl ⟨by rfl, ?_⟩; intro wx hSw; (try dsimp only at hSw); go_simp; try rfl
  try simp only [Act.put, List.setIfInBounds_toArray, List.set_cons_zero, List.set_cons_succ]
  refine wpAnyH_tk 15 37 (v := ?vz15y15) ?hyz15y15 ?_
  case hyz15y15 => intro oi ho; simp only [List.getElem?_toArray, List.getElem?_cons_succ, List.getElem?_cons_zero, Option.some.injEq] at ho; subst ho; refine Or.inl ⟨by rfl, ?_⟩; intro wx hSw; (try dsimp only at hSw); go_simp; try rfl
  try simp only [Act.put, List.setIfInBounds_toArray, List.set_cons_zero, List.set_cons_succ]
  refine wpAnyH_tk 16 38 (v := ?vz16y16) ?hyz16y16 ?_
  case hyz16y16 => intro oi ho; simp only [List.getElem?_toArray, List.getElem?_cons_succ, List.getElem?_cons_zero, Option.some.injEq] at ho; subst ho; refine Or.inl ⟨by rfl, ?_⟩; intro wx hSw; (try dsimp only at hSw); go_simp; try rfl
  try simp only [Act.put, List.setIfInBounds_toArray, List.set_cons_zero, List.set_cons_succ]
  refine wpAnyH_tk 17 39 (v := ?vz17y17) ?hyz17y17 ?_
  case hyz17y17 => intro oi ho; simp only [List.getElem?_toArray, List.getElem?_cons_succ, List.getElem?_cons_zero, Option.some.injEq] at ho; subst ho; refine Or.inl ⟨by rfl, ?_⟩; intro wx hSw; (try dsimp only at hSw); go_simp; try rfl
  try simp only [Act.put, List.setIfInBounds_toArray, List.set_cons_zero, List.set_cons_succ]
  refine wpAnyH_comes2At (i := 12) (j := 18) (by kernel_rfl) (by kernel_rfl) (by kernel_rfl) ?z18ya ?z18yb
  case z18ya =>
    intro o ho K hK
    simp only [List.getElem?_toArray, List.getElem?_cons_succ, List.getElem?_cons_zero, Option.some.injEq] at ho
    subst ho
    have c3 := HCX.out
    go_simp
    clear c3
    refine hK.out _ _ hHeld (fun hHeld => ?_)
    clear hK K
    try simp only [Act.put, List.setIfInBounds_toArray, List.set_cons_zero, List.set_cons_succ]
    refine wpAnyH_cm 18 ?_; intro o ho K hK; simp only [List.getElem?_toArray, List.getElem?_cons_succ, List.getElem?_cons_zero, Option.some.injEq] at ho; subst ho
    go_simp
    clear hHeld
    refine hK.out _ _ HX4.out (fun hHeld => ?_)
    clear hK K
    try simp only [Act.put, List.setIfInBounds_toArray, List.set_cons_zero, List.set_cons_succ]
    refine wpAnyH_cm 19 ?_; intro o ho K hK; simp only [List.getElem?_toArray, List.getElem?_cons_succ, List.getElem?_cons_zero, Option.some.injEq] at ho; subst ho
    rw [if_pos (by rfl)]
    refine wp_append_at (.tmp 34) (.tmp 40) 102 rfl B 3 i0 (.int .i64 0) 1 8 Tryz.underlying102 hi hz0 hz1 hz2 rfl (by omega) (.slice a2 L p2) L _ rfl HOX.out ⟨w3.heap.size, 0, none⟩ 1 1 [.int .i64 (M : Nat)] rfl rfl HNX.out (by intro u hu; simp at hu; subst hu; rfl) (by unfold maxLen; omega) (by omega) (by have := HB4.out.size; omega) ?_
    intro v5 w5 ho5 hg5 hat5
    obtain ⟨a5, p5, rfl⟩ := own_slice ho5
    rw [← HE2.out] at hg5 hat5
    have hatn : at_ < s1.n := by rw [HN.out]; exact hat
    obtain ⟨hp5, hgb5⟩ := HD4.out.grownP hatn hg5
    have HX5 : Hid ((fun wx => wx.cell? ⟨p, 0, none⟩ = some (.slice (some ⟨gb, 0, none⟩) N N) ∧ wx.cell? ⟨p, 1, none⟩ = some (.slice A M C)) w5) := ⟨by rw [← HN.out]; exact cell_blk hp5, cell_blk hp5⟩
    have HA := hide (HD4.out.stepA hatn (Nat.le_trans hB3 HB4.out.size) (by rw [HM.out, HL.out]; exact ho5) hg5 hat5)
    have c5 : w5.cell? ⟨gb, at_ * 2 + 1, none⟩ = some (ov at_) := by
      rw [cell_blk hgb5]
      simpa using two_get1 kv ov at_ s1.n hatn
    have f5 : w5.frozen? ⟨gb, at_ * 2 + 1, none⟩ = false := frz_blk hgb5
    have hpg : p ≠ gb := by
      intro e
      rw [e, hgb5] at hp5
      simp only [Option.some.injEq, Obj.cells.injEq] at hp5
      exact absurd hp5.2.1 (by decide)
    clear ho5 hg5 hat5 hHeld hp5 hgb5
    refine hK.out _ _ HX5.out (fun hHeld => ?_)
    clear hK K
    try simp only [Act.put, List.setIfInBounds_toArray, List.set_cons_zero, List.set_cons_succ]
    refine wpAnyH_tk 20 42 (v := ?vz19y20) ?hyz19y20 ?_
    case hyz19y20 => intro oi ho; simp only [List.getElem?_toArray, List.getElem?_cons_succ, List.getElem?_cons_zero, Option.some.injEq] at ho; subst ho; refine Or.inl ⟨by rfl, ?_⟩; intro wx hSw; (try dsimp only at hSw); go_simp; try rfl
    try simp only [Act.put, List.setIfInBounds_toArray, List.set_cons_zero, List.set_cons_succ]
    refine wpAnyH_tk 21 43 (v := ?vz20y21) ?hyz20y21 ?_
    case hyz20y21 => intro oi ho; simp only [List.getElem?_toArray, List.getElem?_cons_succ, List.getElem?_cons_zero, Option.some.injEq] at ho; subst ho; refine Or.inl ⟨by rfl, ?_⟩; intro wx hSw; (try dsimp only at hSw); go_simp; try rfl
    try simp only [Act.put, List.setIfInBounds_toArray, List.set_cons_zero, List.set_cons_succ]
    refine wpAnyH_cm 22 ?_; intro o ho K hK; simp only [List.getElem?_toArray, List.getElem?_cons_succ, List.getElem?_cons_zero, Option.some.injEq] at ho; subst ho
    have HX6 : Hid ((fun wx => wx.cell? ⟨p, 0, none⟩ = some (.slice (some ⟨gb, 0, none⟩) N N) ∧ wx.cell? ⟨p, 1, none⟩ = some (.slice A M C)) (w5.setCell ⟨gb, at_ * 2 + 1, none⟩ (.slice a5 (L + 1) p5))) := ⟨(World.cell?_setCell_other _ _ _ _ (fun e => hpg (congrArg Addr.block e).symm)).trans HX5.out.1, (World.cell?_setCell_other _ _ _ _ (fun e => hpg (congrArg Addr.block e).symm)).trans HX5.out.2⟩
    go_simp
    clear hHeld
    refine hK.out _ _ HX6.out (fun hHeld => ?_)
    clear hK K
    try simp only [Act.put, List.setIfInBounds_toArray, List.set_cons_zero, List.set_cons_succ]
    refine wpAnyH_done (by kernel_rfl) ?_ _
    refine NoPanic.normal ?_
    have HM6 := hide HA.out.1
    have HF6 := hide ((Fr.of HB4.out hB3).trans HA.out.2)
    have HC6 := hide HX6.out.2
    have HB6 := hide (Nat.le_trans hB3 HF6.out.bel.size)
    have HBS6 := hide (hbs _ (HF3.out.trans HF6.out))
    clear hHeld HX5 HX6 HA c5 f5
    generalize w5.setCell ⟨gb, at_ * 2 + 1, none⟩ (.slice a5 (L + 1) p5) = w6 at *
    go_wp2_with fail
    refine wp_region_noPanic ?_
    refine wp_region_held_drew (S := fun wx => True) (by kernel_rfl) trivial (fun hHeld => ?_)
    refine wpAnyH_tk 0 44 (v := ?vz21y0) ?hyz21y0 ?_
    case hyz21y0 => intro oi ho; simp only [List.getElem?_toArray, List.getElem?_cons_zero, Option.some.injEq] at ho; subst ho; refine Or.inl ⟨by rfl, ?_⟩; intro wx hSw; (try dsimp only at hSw); go_simp; try rfl
    try simp only [Act.put, List.setIfInBounds_toArray, List.set_cons_zero, List.set_cons_succ]
    refine wpAnyH_tk 1 45 (v := ?vz22y1) ?hyz22y1 ?_
    case hyz22y1 => intro oi ho; simp only [List.getElem?_toArray, List.getElem?_cons_succ, List.getElem?_cons_zero, Option.some.injEq] at ho; subst ho; refine Or.inl ⟨by rfl, ?_⟩; intro wx hSw; (try dsimp only at hSw); go_simp; try rfl
    try simp only [Act.put, List.setIfInBounds_toArray, List.set_cons_zero, List.set_cons_succ]
    refine wpAnyH_tk 2 46 (v := ?vz23y2) ?hyz23y2 ?_
    case hyz23y2 => intro oi ho; simp only [List.getElem?_toArray, List.getElem?_cons_succ, List.getElem?_cons_zero, Option.some.injEq] at ho; subst ho; refine Or.inl ⟨by rfl, ?_⟩; intro wx hSw; (try dsimp only at hSw); go_simp; try rfl
    try simp only [Act.put, List.setIfInBounds_toArray, List.set_cons_zero, List.set_cons_succ]
    refine wpAnyH_tk 3 47 (v := ?vz24y3) ?hyz24y3 ?_
    case hyz24y3 => intro oi ho; simp only [List.getElem?_toArray, List.getElem?_cons_succ, List.getElem?_cons_zero, Option.some.injEq] at ho; subst ho; refine Or.inl ⟨by rfl, ?_⟩; intro wx hSw; (try dsimp only at hSw); go_simp; try rfl
    try simp only [Act.put, List.setIfInBounds_toArray, List.set_cons_zero, List.set_cons_succ]
    refine wpAnyH_tk 5 49 (v := ?vz25y5) ?hyz25y5 ?_
    case hyz25y5 => intro oi ho; simp only [List.getElem?_toArray, List.getElem?_cons_succ, List.getElem?_cons_zero, Option.some.injEq] at ho; subst ho; refine Or.inl ⟨by rfl, ?_⟩; intro wx hSw; (try dsimp only at hSw); go_simp; try rfl
    try simp only [Act.put, List.setIfInBounds_toArray, List.set_cons_zero, List.set_cons_succ]
    refine wpAnyH_tk 6 50 (v := ?vz26y6) ?hyz26y6 ?_
    case hyz26y6 => intro oi ho; simp only [List.getElem?_toArray, List.getElem?_cons_succ, List.getElem?_cons_zero, Option.some.injEq] at ho; subst ho; refine Or.inl ⟨by rfl, ?_⟩; intro wx hSw; (try dsimp only at hSw); go_simp; try rfl
    try simp only [Act.put, List.setIfInBounds_toArray, List.set_cons_zero, List.set_cons_succ]
    refine wpAnyH_comes2At (i := 4) (j := 7) (by kernel_rfl) (by kernel_rfl) (by kernel_rfl) ?z27ya ?z27yb
    case z27ya =>
      intro o ho K hK
      simp only [List.getElem?_toArray, List.getElem?_cons_succ, List.getElem?_cons_zero, Option.some.injEq] at ho
      subst ho
      have c7 : w6.drew.cell? ⟨p, 1, none⟩ = some (.slice A M C) := HC6.out
      go_simp
      clear c7
      refine hK.out _ _ hHeld (fun hHeld => ?_)
      clear hK K
      try simp only [Act.put, List.setIfInBounds_toArray, List.set_cons_zero, List.set_cons_succ]
      refine wpAnyH_cm 7 ?_; intro o ho K hK; simp only [List.getElem?_toArray, List.getElem?_cons_succ, List.getElem?_cons_zero, Option.some.injEq] at ho; subst ho
      go_simp
      refine (clone_any a xs.length cap xs _ (HBS6.out.later (Below.refl w6.heap.size w6).drew (Nat.le_refl _))).mono ?_
      rintro e w7 ⟨vb, rfl, hob, hb7⟩
      obtain ⟨a7, p7, rfl⟩ := own_slice hob
      have HB7 := hide ((Below.refl w6.heap.size w6).drew.trans hb7)
      have HOB := hide (own_base hob HB6.out)
      clear hob hb7 hHeld
      refine hK.out _ _ trivial (fun hHeld => ?_)
      clear hK K
      try simp only [Act.put, List.setIfInBounds_toArray, List.set_cons_zero, List.set_cons_succ]
      refine wpAnyH_tk 8 52 (v := ?vz28y8) ?hyz28y8 ?_
      case hyz28y8 => intro oi ho; simp only [List.getElem?_toArray, List.getElem?_cons_succ, List.getElem?_cons_zero, Option.some.injEq] at ho; subst ho; refine Or.inl ⟨by rfl, ?_⟩; intro wx hSw; (try dsimp only at hSw); go_simp; try rfl
      try simp only [Act.put, List.setIfInBounds_toArray, List.set_cons_zero, List.set_cons_succ]
      refine wpAnyH_cm 9 ?_; intro o ho K hK; simp only [List.getElem?_toArray, List.getElem?_cons_succ, List.getElem?_cons_zero, Option.some.injEq] at ho; subst ho
      go_simp
      clear hHeld
      refine hK.out _ _ trivial (fun hHeld => ?_)
      clear hK K
      try simp only [Act.put, List.setIfInBounds_toArray, List.set_cons_zero, List.set_cons_succ]
      refine wpAnyH_cm 10 ?_; intro o ho K hK; simp only [List.getElem?_toArray, List.getElem?_cons_succ, List.getElem?_cons_zero, Option.some.injEq] at ho; subst ho
      have HB8 := hide (HB7.out.trans ((below_box w7 (.cells #[.int .i64 (at_ : Int), .slice a7 xs.length p7] 190)).mono HB7.out.size))
      have HM8 := hide (HM6.out.later HB8.out)
      have HO8 := hide HM8.out.hw
      rw [HM.out] at HO8
      rw [if_pos (by rfl)]
      refine wp_append_at (.tmp 48) (.tmp 53) 96 rfl B 190 j0 (.agg #[.int .i64 0, .slice none 0 0]) 2 32 Tryz.underlying96 hj hy0 hy1 hy2 rfl (by omega) (.slice A M C) M _ rfl HO8.out ⟨w7.heap.size, 0, none⟩ 1 1 [.int .i64 (at_ : Int), .slice a7 xs.length p7] rfl rfl (news2 w7 _ _ _) (by intro u hu; simp at hu; rcases hu with rfl | rfl <;> rfl) (by unfold maxLen; omega) (by omega) (by have := HB6.out; have := HB8.out.size; omega) ?_
      intro v9 w9 ho9 hg9 _
      obtain ⟨a9, p9, rfl⟩ := own_slice ho9
      have HOB8 := hide (own_later HOB.out (below_box w7 (.cells #[.int .i64 (at_ : Int), .slice a7 xs.length p7] 190)))
      have HE := hide (HM8.out.stepB (by rw [HN.out]; exact hat) (by have := HB6.out; have := HB8.out.size; omega) hxl hxb (by rw [HM.out]; exact hmm) HOB8.out (by rw [HM.out]; exact ho9) hg9)
      have hp9 := HM8.out.grownQ hg9
      have c9 : w9.cell? ⟨p, 1, none⟩ = some (.slice A M C) := cell_blk hp9
      have f9 : w9.frozen? ⟨p, 1, none⟩ = false := frz_blk hp9
      clear ho9 hg9 hHeld hp9
      refine hK.out _ _ trivial (fun hHeld => ?_)
      clear hK K
      try simp only [Act.put, List.setIfInBounds_toArray, List.set_cons_zero, List.set_cons_succ]
      refine wpAnyH_tk 11 55 (v := ?vz29y11) ?hyz29y11 ?_
      case hyz29y11 => intro oi ho; simp only [List.getElem?_toArray, List.getElem?_cons_succ, List.getElem?_cons_zero, Option.some.injEq] at ho; subst ho; refine Or.inl ⟨by rfl, ?_⟩; intro wx hSw; (try dsimp only at hSw); go_simp; try rfl
      try simp only [Act.put, List.setIfInBounds_toArray, List.set_cons_zero, List.set_cons_succ]
      refine wpAnyH_tk 12 56 (v := ?vz30y12) ?hyz30y12 ?_
      case hyz30y12 => intro oi ho; simp only [List.getElem?_toArray, List.getElem?_cons_succ, List.getElem?_cons_zero, Option.some.injEq] at ho; subst ho; refine Or.inl ⟨by rfl, ?_⟩; intro wx hSw; (try dsimp only at hSw); go_simp; try rfl
      try simp only [Act.put, List.setIfInBounds_toArray, List.set_cons_zero, List.set_cons_succ]
      refine wpAnyH_cm 13 ?_; intro o ho K hK; simp only [List.getElem?_toArray, List.getElem?_cons_succ, List.getElem?_cons_zero, Option.some.injEq] at ho; subst ho
      go_simp
      clear hHeld
      refine hK.out _ _ trivial (fun hHeld => ?_)
      clear hK K
      try simp only [Act.put, List.setIfInBounds_toArray, List.set_cons_zero, List.set_cons_succ]
      refine wpAnyH_done (by kernel_rfl) ?_ _
      refine NoPanic.normal ?_
      go_wp2
      go_ret
      exact ⟨rfl, HE.out.1, HF3.out.trans (HF6.out.trans ((Fr.of HB8.out HB6.out).trans HE.out.2))⟩
    case z27yb =>
      intro o ho K hK
      simp only [List.getElem?_toArray, List.getElem?_cons_succ, List.getElem?_cons_zero, Option.some.injEq] at ho
      subst ho
      go_simp
      refine (clone_any a xs.length cap xs _ (HBS6.out.later (Below.refl w6.heap.size w6).drew (Nat.le_refl _))).mono ?_
      rintro e w7 ⟨vb, rfl, hob, hb7⟩
      obtain ⟨a7, p7, rfl⟩ := own_slice hob
      have HB7 := hide ((Below.refl w6.heap.size w6).drew.trans hb7)
      have HOB := hide (own_base hob HB6.out)
      clear hob hb7 hHeld
      refine hK.out _ _ trivial (fun hHeld => ?_)
      clear hK K
      try simp only [Act.put, List.setIfInBounds_toArray, List.set_cons_zero, List.set_cons_succ]
      refine wpAnyH_tk 8 52 (v := ?vz36y8) ?hyz36y8 ?_
      case hyz36y8 => intro oi ho; simp only [List.getElem?_toArray, List.getElem?_cons_succ, List.getElem?_cons_zero, Option.some.injEq] at ho; subst ho; refine Or.inl ⟨by rfl, ?_⟩; intro wx hSw; (try dsimp only at hSw); go_simp; try rfl
      try simp only [Act.put, List.setIfInBounds_toArray, List.set_cons_zero, List.set_cons_succ]
      refine wpAnyH_comes2At (i := 4) (j := 9) (by kernel_rfl) (by kernel_rfl) (by kernel_rfl) ?z31ya ?z31yb
      case z31ya =>
        intro o ho K hK
        simp only [List.getElem?_toArray, List.getElem?_cons_succ, List.getElem?_cons_zero, Option.some.injEq] at ho
        subst ho
        have c7 : w7.cell? ⟨p, 1, none⟩ = some (.slice A M C) := (HB7.out.cell (cell_lt HC6.out)).trans HC6.out
        go_simp
        clear c7
        refine hK.out _ _ hHeld (fun hHeld => ?_)
        clear hK K
        try simp only [Act.put, List.setIfInBounds_toArray, List.set_cons_zero, List.set_cons_succ]
        refine wpAnyH_cm 9 ?_; intro o ho K hK; simp only [List.getElem?_toArray, List.getElem?_cons_succ, List.getElem?_cons_zero, Option.some.injEq] at ho; subst ho
        go_simp
        clear hHeld
        refine hK.out _ _ trivial (fun hHeld => ?_)
        clear hK K
        try simp only [Act.put, List.setIfInBounds_toArray, List.set_cons_zero, List.set_cons_succ]
        refine wpAnyH_cm 10 ?_; intro o ho K hK; simp only [List.getElem?_toArray, List.getElem?_cons_succ, List.getElem?_cons_zero, Option.some.injEq] at ho; subst ho
        have HB8 := hide (HB7.out.trans ((below_box w7 (.cells #[.int .i64 (at_ : Int), .slice a7 xs.length p7] 190)).mono HB7.out.size))
        have HM8 := hide (HM6.out.later HB8.out)
        have HO8 := hide HM8.out.hw
        rw [HM.out] at HO8
        rw [if_pos (by rfl)]
        refine wp_append_at (.tmp 48) (.tmp 53) 96 rfl B 190 j0 (.agg #[.int .i64 0, .slice none 0 0]) 2 32 Tryz.underlying96 hj hy0 hy1 hy2 rfl (by omega) (.slice A M C) M _ rfl HO8.out ⟨w7.heap.size, 0, none⟩ 1 1 [.int .i64 (at_ : Int), .slice a7 xs.length p7] rfl rfl (news2 w7 _ _ _) (by intro u hu; simp at hu; rcases hu with rfl | rfl <;> rfl) (by unfold maxLen; omega) (by omega) (by have := HB6.out; have := HB8.out.size; omega) ?_
        intro v9 w9 ho9 hg9 _
        obtain ⟨a9, p9, rfl⟩ := own_slice ho9
        have HOB8 := hide (own_later HOB.out (below_box w7 (.cells #[.int .i64 (at_ : Int), .slice a7 xs.length p7] 190)))
        have HE := hide (HM8.out.stepB (by rw [HN.out]; exact hat) (by have := HB6.out; have := HB8.out.size; omega) hxl hxb (by rw [HM.out]; exact hmm) HOB8.out (by rw [HM.out]; exact ho9) hg9)
        have hp9 := HM8.out.grownQ hg9
        have c9 : w9.cell? ⟨p, 1, none⟩ = some (.slice A M C) := cell_blk hp9
        have f9 : w9.frozen? ⟨p, 1, none⟩ = false := frz_blk hp9
        clear ho9 hg9 hHeld hp9
        refine hK.out _ _ trivial (fun hHeld => ?_)
        clear hK K
        try simp only [Act.put, List.setIfInBounds_toArray, List.set_cons_zero, List.set_cons_succ]
        refine wpAnyH_tk 11 55 (v := ?vz32y11) ?hyz32y11 ?_
        case hyz32y11 => intro oi ho; simp only [List.getElem?_toArray, List.getElem?_cons_succ, List.getElem?_cons_zero, Option.some.injEq] at ho; subst ho; refine Or.inl ⟨by rfl, ?_⟩; intro wx hSw; (try dsimp only at hSw); go_simp; try rfl
        try simp only [Act.put, List.setIfInBounds_toArray, List.set_cons_zero, List.set_cons_succ]
        refine wpAnyH_tk 12 56 (v := ?vz33y12) ?hyz33y12 ?_
        case hyz33y12 => intro oi ho; simp only [List.getElem?_toArray, List.getElem?_cons_succ, List.getElem?_cons_zero, Option.some.injEq] at ho; subst ho; refine Or.inl ⟨by rfl, ?_⟩; intro wx hSw; (try dsimp only at hSw); go_simp; try rfl
        try simp only [Act.put, List.setIfInBounds_toArray, List.set_cons_zero, List.set_cons_succ]
        refine wpAnyH_cm 13 ?_; intro o ho K hK; simp only [List.getElem?_toArray, List.getElem?_cons_succ, List.getElem?_cons_zero, Option.some.injEq] at ho; subst ho
        go_simp
        clear hHeld
        refine hK.out _ _ trivial (fun hHeld => ?_)
        clear hK K
        try simp only [Act.put, List.setIfInBounds_toArray, List.set_cons_zero, List.set_cons_succ]
        refine wpAnyH_done (by kernel_rfl) ?_ _
        refine NoPanic.normal ?_
        go_wp2
        go_ret
        exact ⟨rfl, HE.out.1, HF3.out.trans (HF6.out.trans ((Fr.of HB8.out HB6.out).trans HE.out.2))⟩
      case z31yb =>
        intro o ho K hK
        simp only [List.getElem?_toArray, List.getElem?_cons_succ, List.getElem?_cons_zero, Option.some.injEq] at ho
        subst ho
        go_simp
        clear hHeld
        refine hK.out _ _ trivial (fun hHeld => ?_)
        clear hK K
        try simp only [Act.put, List.setIfInBounds_toArray, List.set_cons_zero, List.set_cons_succ]
        refine wpAnyH_cm 4 ?_; intro o ho K hK; simp only [List.getElem?_toArray, List.getElem?_cons_succ, List.getElem?_cons_zero, Option.some.injEq] at ho; subst ho
        have c7 : (w7.alloc (.cells #[.int .i64 (at_ : Int), .slice a7 xs.length p7] 190)).cell? ⟨p, 1, none⟩ = some (.slice A M C) := ((below_box w7 _).cell (Nat.lt_of_lt_of_le (cell_lt HC6.out) HB7.out.size)).trans ((HB7.out.cell (cell_lt HC6.out)).trans HC6.out)
        go_simp
        clear c7
        refine hK.out _ _ hHeld (fun hHeld => ?_)
        clear hK K
        try simp only [Act.put, List.setIfInBounds_toArray, List.set_cons_zero, List.set_cons_succ]
        refine wpAnyH_cm 10 ?_; intro o ho K hK; simp only [List.getElem?_toArray, List.getElem?_cons_succ, List.getElem?_cons_zero, Option.some.injEq] at ho; subst ho
        have HB8 := hide (HB7.out.trans ((below_box w7 (.cells #[.int .i64 (at_ : Int), .slice a7 xs.length p7] 190)).mono HB7.out.size))
        have HM8 := hide (HM6.out.later HB8.out)
        have HO8 := hide HM8.out.hw
        rw [HM.out] at HO8
        rw [if_pos (by rfl)]
        refine wp_append_at (.tmp 48) (.tmp 53) 96 rfl B 190 j0 (.agg #[.int .i64 0, .slice none 0 0]) 2 32 Tryz.underlying96 hj hy0 hy1 hy2 rfl (by omega) (.slice A M C) M _ rfl HO8.out ⟨w7.heap.size, 0, none⟩ 1 1 [.int .i64 (at_ : Int), .slice a7 xs.length p7] rfl rfl (news2 w7 _ _ _) (by intro u hu; simp at hu; rcases hu with rfl | rfl <;> rfl) (by unfold maxLen; omega) (by omega) (by have := HB6.out; have := HB8.out.size; omega) ?_
        intro v9 w9 ho9 hg9 _
        obtain ⟨a9, p9, rfl⟩ := own_slice ho9
        have HOB8 := hide (own_later HOB.out (below_box w7 (.cells #[.int .i64 (at_ : Int), .slice a7 xs.length p7] 190)))
        have HE := hide (HM8.out.stepB (by rw [HN.out]; exact hat) (by have := HB6.out; have := HB8.out.size; omega) hxl hxb (by rw [HM.out]; exact hmm) HOB8.out (by rw [HM.out]; exact ho9) hg9)
        have hp9 := HM8.out.grownQ hg9
        have c9 : w9.cell? ⟨p, 1, none⟩ = some (.slice A M C) := cell_blk hp9
        have f9 : w9.frozen? ⟨p, 1, none⟩ = false := frz_blk hp9
        clear ho9 hg9 hHeld hp9
        refine hK.out _ _ trivial (fun hHeld => ?_)
        clear hK K
        try simp only [Act.put, List.setIfInBounds_toArray, List.set_cons_zero, List.set_cons_succ]
        refine wpAnyH_tk 11 55 (v := ?vz34y11) ?hyz34y11 ?_
        case hyz34y11 => intro oi ho; simp only [List.getElem?_toArray, List.getElem?_cons_succ, List.getElem?_cons_zero, Option.some.injEq] at ho; subst ho; refine Or.inl ⟨by rfl, ?_⟩; intro wx hSw; (try dsimp only at hSw); go_simp; try rfl
        try simp only [Act.put, List.setIfInBounds_toArray, List.set_cons_zero, List.set_cons_succ]
        refine wpAnyH_tk 12 56 (v := ?vz35y12) ?hyz35y12 ?_
        case hyz35y12 => intro oi ho; simp only [List.getElem?_toArray, List.getElem?_cons_succ, List.getElem?_cons_zero, Option.some.injEq] at ho; subst ho; refine Or.inl ⟨by rfl, ?_⟩; intro wx hSw; (try dsimp only at hSw); go_simp; try rfl
        try simp only [Act.put, List.setIfInBounds_toArray, List.set_cons_zero, List.set_cons_succ]
        refine wpAnyH_cm 13 ?_; intro o ho K hK; simp only [List.getElem?_toArray, List.getElem?_cons_succ, List.getElem?_cons_zero, Option.some.injEq] at ho; subst ho
        go_simp
        clear hHeld
        refine hK.out _ _ trivial (fun hHeld => ?_)
        clear hK K
        try simp only [Act.put, List.setIfInBounds_toArray, List.set_cons_zero, List.set_cons_succ]
        refine wpAnyH_done (by kernel_rfl) ?_ _
        refine NoPanic.normal ?_
        go_wp2
        go_ret
        exact ⟨rfl, HE.out.1, HF3.out.trans (HF6.out.trans ((Fr.of HB8.out HB6.out).trans HE.out.2))⟩
  case z18yb =>
    intro o ho K hK
    simp only [List.getElem?_toArray, List.getElem?_cons_succ, List.getElem?_cons_zero, Option.some.injEq] at ho
    subst ho
    go_simp
    clear hHeld
    refine hK.out _ _ HX4.out (fun hHeld => ?_)
    clear hK K
    try simp only [Act.put, List.setIfInBounds_toArray, List.set_cons_zero, List.set_cons_succ]
    refine wpAnyH_cm 12 ?_; intro o ho K hK; simp only [List.getElem?_toArray, List.getElem?_cons_succ, List.getElem?_cons_zero, Option.some.injEq] at ho; subst ho
    have c3 := HCY.out
    go_simp
    clear c3
    refine hK.out _ _ hHeld (fun hHeld => ?_)
    clear hK K
    try simp only [Act.put, List.setIfInBounds_toArray, List.set_cons_zero, List.set_cons_succ]
    refine wpAnyH_cm 19 ?_; intro o ho K hK; simp only [List.getElem?_toArray, List.getElem?_cons_succ, List.getElem?_cons_zero, Option.some.injEq] at ho; subst ho
    rw [if_pos (by rfl)]
    refine wp_append_at (.tmp 34) (.tmp 40) 102 rfl B 3 i0 (.int .i64 0) 1 8 Tryz.underlying102 hi hz0 hz1 hz2 rfl (by omega) (.slice a2 L p2) L _ rfl HOX.out ⟨w3.heap.size, 0, none⟩ 1 1 [.int .i64 (M : Nat)] rfl rfl HNX.out (by intro u hu; simp at hu; subst hu; rfl) (by unfold maxLen; omega) (by omega) (by have := HB4.out.size; omega) ?_
    intro v5 w5 ho5 hg5 hat5
    obtain ⟨a5, p5, rfl⟩ := own_slice ho5
    rw [← HE2.out] at hg5 hat5
    have hatn : at_ < s1.n := by rw [HN.out]; exact hat
    obtain ⟨hp5, hgb5⟩ := HD4.out.grownP hatn hg5
    have HX5 : Hid ((fun wx => wx.cell? ⟨p, 0, none⟩ = some (.slice (some ⟨gb, 0, none⟩) N N) ∧ wx.cell? ⟨p, 1, none⟩ = some (.slice A M C)) w5) := ⟨by rw [← HN.out]; exact cell_blk hp5, cell_blk hp5⟩
    have HA := hide (HD4.out.stepA hatn (Nat.le_trans hB3 HB4.out.size) (by rw [HM.out, HL.out]; exact ho5) hg5 hat5)
    have c5 : w5.cell? ⟨gb, at_ * 2 + 1, none⟩ = some (ov at_) := by
      rw [cell_blk hgb5]
      simpa using two_get1 kv ov at_ s1.n hatn
    have f5 : w5.frozen? ⟨gb, at_ * 2 + 1, none⟩ = false := frz_blk hgb5
    have hpg : p ≠ gb := by
      intro e
      rw [e, hgb5] at hp5
      simp only [Option.some.injEq, Obj.cells.injEq] at hp5
      exact absurd hp5.2.1 (by decide)
    clear ho5 hg5 hat5 hHeld hp5 hgb5
    refine hK.out _ _ HX5.out (fun hHeld => ?_)
    clear hK K
    try simp only [Act.put, List.setIfInBounds_toArray, List.set_cons_zero, List.set_cons_succ]
    refine wpAnyH_tk 20 42 (v := ?vz37y20) ?hyz37y20 ?_
    case hyz37y20 => intro oi ho; simp only [List.getElem?_toArray, List.getElem?_cons_succ, List.getElem?_cons_zero, Option.some.injEq] at ho; subst ho; refine Or.inl ⟨by rfl, ?_⟩; intro wx hSw; (try dsimp only at hSw); go_simp; try rfl
    try simp only [Act.put, List.setIfInBounds_toArray, List.set_cons_zero, List.set_cons_succ]
    refine wpAnyH_tk 21 43 (v := ?vz38y21) ?hyz38y21 ?_
    case hyz38y21 => intro oi ho; simp only [List.getElem?_toArray, List.getElem?_cons_succ, List.getElem?_cons_zero, Option.some.injEq] at ho; subst ho; refine Or.inl ⟨by rfl, ?_⟩; intro wx hSw; (try dsimp only at hSw); go_simp; try rfl
    try simp only [Act.put, List.setIfInBounds_toArray, List.set_cons_zero, List.set_cons_succ]
    refine wpAnyH_cm 22 ?_; intro o ho K hK; simp only [List.getElem?_toArray, List.getElem?_cons_succ, List.getElem?_cons_zero, Option.some.injEq] at ho; subst ho
    have HX6 : Hid ((fun wx => wx.cell? ⟨p, 0, none⟩ = some (.slice (some ⟨gb, 0, none⟩) N N) ∧ wx.cell? ⟨p, 1, none⟩ = some (.slice A M C)) (w5.setCell ⟨gb, at_ * 2 + 1, none⟩ (.slice a5 (L + 1) p5))) := ⟨(World.cell?_setCell_other _ _ _ _ (fun e => hpg (congrArg Addr.block e).symm)).trans HX5.out.1, (World.cell?_setCell_other _ _ _ _ (fun e => hpg (congrArg Addr.block e).symm)).trans HX5.out.2⟩
    go_simp
    clear hHeld
    refine hK.out _ _ HX6.out (fun hHeld => ?_)
    clear hK K
    try simp only [Act.put, List.setIfInBounds_toArray, List.set_cons_zero, List.set_cons_succ]
    refine wpAnyH_done (by kernel_rfl) ?_ _
    refine NoPanic.normal ?_
    have HM6 := hide HA.out.1
    have HF6 := hide ((Fr.of HB4.out hB3).trans HA.out.2)
    have HC6 := hide HX6.out.2
    have HB6 := hide (Nat.le_trans hB3 HF6.out.bel.size)
    have HBS6 := hide (hbs _ (HF3.out.trans HF6.out))
    clear hHeld HX5 HX6 HA c5 f5
    generalize w5.setCell ⟨gb, at_ * 2 + 1, none⟩ (.slice a5 (L + 1) p5) = w6 at *
    go_wp2_with fail
    refine wp_region_noPanic ?_
    refine wp_region_held_drew (S := fun wx => True) (by kernel_rfl) trivial (fun hHeld => ?_)
    refine wpAnyH_tk 0 44 (v := ?vz39y0) ?hyz39y0 ?_
    case hyz39y0 => intro oi ho; simp only [List.getElem?_toArray, List.getElem?_cons_zero, Option.some.injEq] at ho; subst ho; refine Or.inl ⟨by rfl, ?_⟩; intro wx hSw; (try dsimp only at hSw); go_simp; try rfl
    try simp only [Act.put, List.setIfInBounds_toArray, List.set_cons_zero, List.set_cons_succ]
    refine wpAnyH_tk 1 45 (v := ?vz40y1) ?hyz40y1 ?_
    case hyz40y1 => intro oi ho; simp only [List.getElem?_toArray, List.getElem?_cons_succ, List.getElem?_cons_zero, Option.some.injEq] at ho; subst ho; refine Or.inl ⟨by rfl, ?_⟩; intro wx hSw; (try dsimp only at hSw); go_simp; try rfl
    try simp only [Act.put, List.setIfInBounds_toArray, List.set_cons_zero, List.set_cons_succ]
    refine wpAnyH_tk 2 46 (v := ?vz41y2) ?hyz41y2 ?_
    case hyz41y2 => intro oi ho; simp only [List.getElem?_toArray, List.getElem?_cons_succ, List.getElem?_cons_zero, Option.some.injEq] at ho; subst ho; refine Or.inl ⟨by rfl, ?_⟩; intro wx hSw; (try dsimp only at hSw); go_simp; try rfl
    try simp only [Act.put, List.setIfInBounds_toArray, List.set_cons_zero, List.set_cons_succ]
    refine wpAnyH_tk 3 47 (v := ?vz42y3) ?hyz42y3 ?_
    case hyz42y3 => intro oi ho; simp only [List.getElem?_toArray, List.getElem?_cons_succ, List.getElem?_cons_zero, Option.some.injEq] at ho; subst ho; refine Or.inl ⟨by rfl, ?_⟩; intro wx hSw; (try dsimp only at hSw); go_simp; try rfl
    try simp only [Act.put, List.setIfInBounds_toArray, List.set_cons_zero, List.set_cons_succ]
    refine wpAnyH_tk 5 49 (v := ?vz43y5) ?hyz43y5 ?_
    case hyz43y5 => intro oi ho; simp only [List.getElem?_toArray, List.getElem?_cons_succ, List.getElem?_cons_zero, Option.some.injEq] at ho; subst ho; refine Or.inl ⟨by rfl, ?_⟩; intro wx hSw; (try dsimp only at hSw); go_simp; try rfl
    try simp only [Act.put, List.setIfInBounds_toArray, List.set_cons_zero, List.set_cons_succ]
    refine wpAnyH_tk 6 50 (v := ?vz44y6) ?hyz44y6 ?_
    case hyz44y6 => intro oi ho; simp only [List.getElem?_toArray, List.getElem?_cons_succ, List.getElem?_cons_zero, Option.some.injEq] at ho; subst ho; refine Or.inl ⟨by rfl, ?_⟩; intro wx hSw; (try dsimp only at hSw); go_simp; try rfl
    try simp only [Act.put, List.setIfInBounds_toArray, List.set_cons_zero, List.set_cons_succ]
    refine wpAnyH_comes2At (i := 4) (j := 7) (by kernel_rfl) (by kernel_rfl) (by kernel_rfl) ?z45ya ?z45yb
    case z45ya =>
      intro o ho K hK
      simp only [List.getElem?_toArray, List.getElem?_cons_succ, List.getElem?_cons_zero, Option.some.injEq] at ho
      subst ho
      have c7 : w6.drew.cell? ⟨p, 1, none⟩ = some (.slice A M C) := HC6.out
      go_simp
      clear c7
      refine hK.out _ _ hHeld (fun hHeld => ?_)
      clear hK K
      try simp only [Act.put, List.setIfInBounds_toArray, List.set_cons_zero, List.set_cons_succ]
      refine wpAnyH_cm 7 ?_; intro o ho K hK; simp only [List.getElem?_toArray, List.getElem?_cons_succ, List.getElem?_cons_zero, Option.some.injEq] at ho; subst ho
      go_simp
      refine (clone_any a xs.length cap xs _ (HBS6.out.later (Below.refl w6.heap.size w6).drew (Nat.le_refl _))).mono ?_
      rintro e w7 ⟨vb, rfl, hob, hb7⟩
      obtain ⟨a7, p7, rfl⟩ := own_slice hob
      have HB7 := hide ((Below.refl w6.heap.size w6).drew.trans hb7)
      have HOB := hide (own_base hob HB6.out)
      clear hob hb7 hHeld
      refine hK.out _ _ trivial (fun hHeld => ?_)
      clear hK K
      try simp only [Act.put, List.setIfInBounds_toArray, List.set_cons_zero, List.set_cons_succ]
      refine wpAnyH_tk 8 52 (v := ?vz46y8) ?hyz46y8 ?_
      case hyz46y8 => intro oi ho; simp only [List.getElem?_toArray, List.getElem?_cons_succ, List.getElem?_cons_zero, Option.some.injEq] at ho; subst ho; refine Or.inl ⟨by rfl, ?_⟩; intro wx hSw; (try dsimp only at hSw); go_simp; try rfl
      try simp only [Act.put, List.setIfInBounds_toArray, List.set_cons_zero, List.set_cons_succ]
      refine wpAnyH_cm 9 ?_; intro o ho K hK; simp only [List.getElem?_toArray, List.getElem?_cons_succ, List.getElem?_cons_zero, Option.some.injEq] at ho; subst ho
      go_simp
      clear hHeld
      refine hK.out _ _ trivial (fun hHeld => ?_)
      clear hK K
      try simp only [Act.put, List.setIfInBounds_toArray, List.set_cons_zero, List.set_cons_succ]
      refine wpAnyH_cm 10 ?_; intro o ho K hK; simp only [List.getElem?_toArray, List.getElem?_cons_succ, List.getElem?_cons_zero, Option.some.injEq] at ho; subst ho
      have HB8 := hide (HB7.out.trans ((below_box w7 (.cells #[.int .i64 (at_ : Int), .slice a7 xs.length p7] 190)).mono HB7.out.size))
      have HM8 := hide (HM6.out.later HB8.out)
      have HO8 := hide HM8.out.hw
      rw [HM.out] at HO8
      rw [if_pos (by rfl)]
      refine wp_append_at (.tmp 48) (.tmp 53) 96 rfl B 190 j0 (.agg #[.int .i64 0, .slice none 0 0]) 2 32 Tryz.underlying96 hj hy0 hy1 hy2 rfl (by omega) (.slice A M C) M _ rfl HO8.out ⟨w7.heap.size, 0, none⟩ 1 1 [.int .i64 (at_ : Int), .slice a7 xs.length p7] rfl rfl (news2 w7 _ _ _) (by intro u hu; simp at hu; rcases hu with rfl | rfl <;> rfl) (by unfold maxLen; omega) (by omega) (by have := HB6.out; have := HB8.out.size; omega) ?_
      intro v9 w9 ho9 hg9 _
      obtain ⟨a9, p9, rfl⟩ := own_slice ho9
      have HOB8 := hide (own_later HOB.out (below_box w7 (.cells #[.int .i64 (at_ : Int), .slice a7 xs.length p7] 190)))
      have HE := hide (HM8.out.stepB (by rw [HN.out]; exact hat) (by have := HB6.out; have := HB8.out.size; omega) hxl hxb (by rw [HM.out]; exact hmm) HOB8.out (by rw [HM.out]; exact ho9) hg9)
      have hp9 := HM8.out.grownQ hg9
      have c9 : w9.cell? ⟨p, 1, none⟩ = some (.slice A M C) := cell_blk hp9
      have f9 : w9.frozen? ⟨p, 1, none⟩ = false := frz_blk hp9
      clear ho9 hg9 hHeld hp9
      refine hK.out _ _ trivial (fun hHeld => ?_)
      clear hK K
      try simp only [Act.put, List.setIfInBounds_toArray, List.set_cons_zero, List.set_cons_succ]
      refine wpAnyH_tk 11 55 (v := ?vz47y11) ?hyz47y11 ?_
      case hyz47y11 => intro oi ho; simp only [List.getElem?_toArray, List.getElem?_cons_succ, List.getElem?_cons_zero, Option.some.injEq] at ho; subst ho; refine Or.inl ⟨by rfl, ?_⟩; intro wx hSw; (try dsimp only at hSw); go_simp; try rfl
      try simp only [Act.put, List.setIfInBounds_toArray, List.set_cons_zero, List.set_cons_succ]
      refine wpAnyH_tk 12 56 (v := ?vz48y12) ?hyz48y12 ?_
      case hyz48y12 => intro oi ho; simp only [List.getElem?_toArray, List.getElem?_cons_succ, List.getElem?_cons_zero, Option.some.injEq] at ho; subst ho; refine Or.inl ⟨by rfl, ?_⟩; intro wx hSw; (try dsimp only at hSw); go_simp; try rfl
      try simp only [Act.put, List.setIfInBounds_toArray, List.set_cons_zero, List.set_cons_succ]
      refine wpAnyH_cm 13 ?_; intro o ho K hK; simp only [List.getElem?_toArray, List.getElem?_cons_succ, List.getElem?_cons_zero, Option.some.injEq] at ho; subst ho
      go_simp
      clear hHeld
      refine hK.out _ _ trivial (fun hHeld => ?_)
      clear hK K
      try simp only [Act.put, List.setIfInBounds_toArray, List.set_cons_zero, List.set_cons_succ]
      refine wpAnyH_done (by kernel_rfl) ?_ _
      refine NoPanic.normal ?_
      go_wp2
      go_ret
      exact ⟨rfl, HE.out.1, HF3.out.trans (HF6.out.trans ((Fr.of HB8.out HB6.out).trans HE.out.2))⟩
    case z45yb =>
      intro o ho K hK
      simp only [List.getElem?_toArray, List.getElem?_cons_succ, List.getElem?_cons_zero, Option.some.injEq] at ho
      subst ho
      go_simp
      refine (clone_any a xs.length cap xs _ (HBS6.out.later (Below.refl w6.heap.size w6).drew (Nat.le_refl _))).mono ?_
      rintro e w7 ⟨vb, rfl, hob, hb7⟩
      obtain ⟨a7, p7, rfl⟩ := own_slice hob
      have HB7 := hide ((Below.refl w6.heap.size w6).drew.trans hb7)
      have HOB := hide (own_base hob HB6.out)
      clear hob hb7 hHeld
      refine hK.out _ _ trivial (fun hHeld => ?_)
      clear hK K
      try simp only [Act.put, List.setIfInBounds_toArray, List.set_cons_zero, List.set_cons_succ]
      refine wpAnyH_tk 8 52 (v := ?vz54y8) ?hyz54y8 ?_
      case hyz54y8 => intro oi ho; simp only [List.getElem?_toArray, List.getElem?_cons_succ, List.getElem?_cons_zero, Option.some.injEq] at ho; subst ho; refine Or.inl ⟨by rfl, ?_⟩; intro wx hSw; (try dsimp only at hSw); go_simp; try rfl
      try simp only [Act.put, List.setIfInBounds_toArray, List.set_cons_zero, List.set_cons_succ]
      refine wpAnyH_comes2At (i := 4) (j := 9) (by kernel_rfl) (by kernel_rfl) (by kernel_rfl) ?z49ya ?z49yb
      case z49ya =>
        intro o ho K hK
        simp only [List.getElem?_toArray, List.getElem?_cons_succ, List.getElem?_cons_zero, Option.some.injEq] at ho
        subst ho
        have c7 : w7.cell? ⟨p, 1, none⟩ = some (.slice A M C) := (HB7.out.cell (cell_lt HC6.out)).trans HC6.out
        go_simp
        clear c7
        refine hK.out _ _ hHeld (fun hHeld => ?_)
        clear hK K
        try simp only [Act.put, List.setIfInBounds_toArray, List.set_cons_zero, List.set_cons_succ]
        refine wpAnyH_cm 9 ?_; intro o ho K hK; simp only [List.getElem?_toArray, List.getElem?_cons_succ, List.getElem?_cons_zero, Option.some.injEq] at ho; subst ho
        go_simp
        clear hHeld
        refine hK.out _ _ trivial (fun hHeld => ?_)
        clear hK K
        try simp only [Act.put, List.setIfInBounds_toArray, List.set_cons_zero, List.set_cons_succ]
        refine wpAnyH_cm 10 ?_; intro o ho K hK; simp only [List.getElem?_toArray, List.getElem?_cons_succ, List.getElem?_cons_zero, Option.some.injEq] at ho; subst ho
        have HB8 := hide (HB7.out.trans ((below_box w7 (.cells #[.int .i64 (at_ : Int), .slice a7 xs.length p7] 190)).mono HB7.out.size))
        have HM8 := hide (HM6.out.later HB8.out)
        have HO8 := hide HM8.out.hw
        rw [HM.out] at HO8
        rw [if_pos (by rfl)]
        refine wp_append_at (.tmp 48) (.tmp 53) 96 rfl B 190 j0 (.agg #[.int .i64 0, .slice none 0 0]) 2 32 Tryz.underlying96 hj hy0 hy1 hy2 rfl (by omega) (.slice A M C) M _ rfl HO8.out ⟨w7.heap.size, 0, none⟩ 1 1 [.int .i64 (at_ : Int), .slice a7 xs.length p7] rfl rfl (news2 w7 _ _ _) (by intro u hu; simp at hu; rcases hu with rfl | rfl <;> rfl) (by unfold maxLen; omega) (by omega) (by have := HB6.out; have := HB8.out.size; omega) ?_
        intro v9 w9 ho9 hg9 _
        obtain ⟨a9, p9, rfl⟩ := own_slice ho9
        have HOB8 := hide (own_later HOB.out (below_box w7 (.cells #[.int .i64 (at_ : Int), .slice a7 xs.length p7] 190)))
        have HE := hide (HM8.out.stepB (by rw [HN.out]; exact hat) (by have := HB6.out; have := HB8.out.size; omega) hxl hxb (by rw [HM.out]; exact hmm) HOB8.out (by rw [HM.out]; exact ho9) hg9)
        have hp9 := HM8.out.grownQ hg9
        have c9 : w9.cell? ⟨p, 1, none⟩ = some (.slice A M C) := cell_blk hp9
        have f9 : w9.frozen? ⟨p, 1, none⟩ = false := frz_blk hp9
        clear ho9 hg9 hHeld hp9
        refine hK.out _ _ trivial (fun hHeld => ?_)
        clear hK K
        try simp only [Act.put, List.setIfInBounds_toArray, List.set_cons_zero, List.set_cons_succ]
        refine wpAnyH_tk 11 55 (v := ?vz50y11) ?hyz50y11 ?_
        case hyz50y11 => intro oi ho; simp only [List.getElem?_toArray, List.getElem?_cons_succ, List.getElem?_cons_zero, Option.some.injEq] at ho; subst ho; refine Or.inl ⟨by rfl, ?_⟩; intro wx hSw; (try dsimp only at hSw); go_simp; try rfl
        try simp only [Act.put, List.setIfInBounds_toArray, List.set_cons_zero, List.set_cons_succ]
        refine wpAnyH_tk 12 56 (v := ?vz51y12) ?hyz51y12 ?_
        case hyz51y12 => intro oi ho; simp only [List.getElem?_toArray, List.getElem?_cons_succ, List.getElem?_cons_zero, Option.some.injEq] at ho; subst ho; refine Or.inl ⟨by rfl, ?_⟩; intro wx hSw; (try dsimp only at hSw); go_simp; try rfl
        try simp only [Act.put, List.setIfInBounds_toArray, List.set_cons_zero, List.set_cons_succ]
        refine wpAnyH_cm 13 ?_; intro o ho K hK; simp only [List.getElem?_toArray, List.getElem?_cons_succ, List.getElem?_cons_zero, Option.some.injEq] at ho; subst ho
        go_simp
        clear hHeld
        refine hK.out _ _ trivial (fun hHeld => ?_)
        clear hK K
        try simp only [Act.put, List.setIfInBounds_toArray, List.set_cons_zero, List.set_cons_succ]
        refine wpAnyH_done (by kernel_rfl) ?_ _
        refine NoPanic.normal ?_
        go_wp2
        go_ret
        exact ⟨rfl, HE.out.1, HF3.out.trans (HF6.out.trans ((Fr.of HB8.out HB6.out).trans HE.out.2))⟩
      case z49yb =>
        intro o ho K hK
        simp only [List.getElem?_toArray, List.getElem?_cons_succ, List.getElem?_cons_zero, Option.some.injEq] at ho
        subst ho
        go_simp
        clear hHeld
        refine hK.out _ _ trivial (fun hHeld => ?_)
        clear hK K
        try simp only [Act.put, List.setIfInBounds_toArray, List.set_cons_zero, List.set_cons_succ]
        refine wpAnyH_cm 4 ?_; intro o ho K hK; simp only [List.getElem?_toArray, List.getElem?_cons_succ, List.getElem?_cons_zero, Option.some.injEq] at ho; subst ho
        have c7 : (w7.alloc (.cells #[.int .i64 (at_ : Int), .slice a7 xs.length p7] 190)).cell? ⟨p, 1, none⟩ = some (.slice A M C) := ((below_box w7 _).cell (Nat.lt_of_lt_of_le (cell_lt HC6.out) HB7.out.size)).trans ((HB7.out.cell (cell_lt HC6.out)).trans HC6.out)
        go_simp
        clear c7
        refine hK.out _ _ hHeld (fun hHeld => ?_)
        clear hK K
        try simp only [Act.put, List.setIfInBounds_toArray, List.set_cons_zero, List.set_cons_succ]
        refine wpAnyH_cm 10 ?_; intro o ho K hK; simp only [List.getElem?_toArray, List.getElem?_cons_succ, List.getElem?_cons_zero, Option.some.injEq] at ho; subst ho
        have HB8 := hide (HB7.out.trans ((below_box w7 (.cells #[.int .i64 (at_ : Int), .slice a7 xs.length p7] 190)).mono HB7.out.size))
        have HM8 := hide (HM6.out.later HB8.out)
        have HO8 := hide HM8.out.hw
        rw [HM.out] at HO8
        rw [if_pos (by rfl)]
        refine wp_append_at (.tmp 48) (.tmp 53) 96 rfl B 190 j0 (.agg #[.int .i64 0, .slice none 0 0]) 2 32 Tryz.underlying96 hj hy0 hy1 hy2 rfl (by omega) (.slice A M C) M _ rfl HO8.out ⟨w7.heap.size, 0, none⟩ 1 1 [.int .i64 (at_ : Int), .slice a7 xs.length p7] rfl rfl (news2 w7 _ _ _) (by intro u hu; simp at hu; rcases hu with rfl | rfl <;> rfl) (by unfold maxLen; omega) (by omega) (by have := HB6.out; have := HB8.out.size; omega) ?_
        intro v9 w9 ho9 hg9 _
        obtain ⟨a9, p9, rfl⟩ := own_slice ho9
        have HOB8 := hide (own_later HOB.out (below_box w7 (.cells #[.int .i64 (at_ : Int), .slice a7 xs.length p7] 190)))
        have HE := hide (HM8.out.stepB (by rw [HN.out]; exact hat) (by have := HB6.out; have := HB8.out.size; omega) hxl hxb (by rw [HM.out]; exact hmm) HOB8.out (by rw [HM.out]; exact ho9) hg9)
        have hp9 := HM8.out.grownQ hg9
        have c9 : w9.cell? ⟨p, 1, none⟩ = some (.slice A M C) := cell_blk hp9
        have f9 : w9.frozen? ⟨p, 1, none⟩ = false := frz_blk hp9
        clear ho9 hg9 hHeld hp9
        refine hK.out _ _ trivial (fun hHeld => ?_)
        clear hK K
        try simp only [Act.put, List.setIfInBounds_toArray, List.set_cons_zero, List.set_cons_succ]
        refine wpAnyH_tk 11 55 (v := ?vz52y11) ?hyz52y11 ?_
        case hyz52y11 => intro oi ho; simp only [List.getElem?_toArray, List.getElem?_cons_succ, List.getElem?_cons_zero, Option.some.injEq] at ho; subst ho; refine Or.inl ⟨by rfl, ?_⟩; intro wx hSw; (try dsimp only at hSw); go_simp; try rfl
        try simp only [Act.put, List.setIfInBounds_toArray, List.set_cons_zero, List.set_cons_succ]
        refine wpAnyH_tk 12 56 (v := ?vz53y12) ?hyz53y12 ?_
        case hyz53y12 => intro oi ho; simp only [List.getElem?_toArray, List.getElem?_cons_succ, List.getElem?_cons_zero, Option.some.injEq] at ho; subst ho; refine Or.inl ⟨by rfl, ?_⟩; intro wx hSw; (try dsimp only at hSw); go_simp; try rfl
        try simp only [Act.put, List.setIfInBounds_toArray, List.set_cons_zero, List.set_cons_succ]
        refine wpAnyH_cm 13 ?_; intro o ho K hK; simp only [List.getElem?_toArray, List.getElem?_cons_succ, List.getElem?_cons_zero, Option.some.injEq] at ho; subst ho
        go_simp
        clear hHeld
        refine hK.out _ _ trivial (fun hHeld => ?_)
        clear hK K
        try simp only [Act.put, List.setIfInBounds_toArray, List.set_cons_zero, List.set_cons_succ]
        refine wpAnyH_done (by kernel_rfl) ?_ _
        refine NoPanic.normal ?_
        go_wp2
        go_ret
        exact ⟨rfl, HE.out.1, HF3.out.trans (HF6.out.trans ((Fr.of HB8.out HB6.out).trans HE.out.2))⟩
end Go.Proofs.YtnfponcadkmfjabGreat
