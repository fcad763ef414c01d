import Derived.Test.YtnfponcadkmfjabGreatZ48
set_option linter.unusedVariables false
namespace Go.Proofs.YtnfponcadkmfjabGreat
open Go.RowKit
def cutS (cs : Array Value) (o : Nat) : Array Value := ((cs.toList.drop o).take 67).toArray
theorem cutS_size {cs : Array Value} {o : Nat} (h : o + 67 ≤ cs.size) : (cutS cs o).size = 67 := by
  unfold cutS
  simp; omega
theorem cutS_get {cs : Array Value} {o j : Nat} (hj : j < 67) : (cutS cs o)[j]? = cs[o + j]? := by
  unfold cutS
  rw [List.getElem?_toArray, List.getElem?_take, if_pos hj, List.getElem?_drop, Array.getElem?_toList]
theorem cutS_cell {cs : Array Value} {o j : Nat} {v : Value} (h : (cutS cs o)[j]? = some v) : cs[o + j]? = some v := by
  have hl := (Array.getElem?_eq_some_iff.1 h).1
  have : (cutS cs o).size ≤ 67 := by unfold cutS; simp; omega
  rw [cutS_get (by omega)] at h
  exact h
theorem TV.nowS {cs : Array Value} {p q : Nat} {now last : StT} {sv : Value} {left : Int} {ended : Bool} (h : TV cs p q now last sv left ended) : StV (cutS cs 2) now.root now.depth now.keys now.pgs :=
  ⟨cutS_size (by rw [h.sz]; decide), (cutS_get (by decide)).trans h.n0, (cutS_get (by decide)).trans h.n1, (cutS_get (by decide)).trans h.n2, ⟨h.nw.1, h.nw.2.1, fun i x hi => by
    have hl := (List.getElem?_eq_some_iff.1 hi).1
    have := h.nw.1
    rw [cutS_get (by omega), show 2 + (3 + i) = 5 + i by omega]
    exact h.nw.2.2 i x hi⟩⟩
theorem TV.lastS {cs : Array Value} {p q : Nat} {now last : StT} {sv : Value} {left : Int} {ended : Bool} (h : TV cs p q now last sv left ended) : StV (cutS cs 69) last.root last.depth last.keys last.pgs :=
  ⟨cutS_size (by rw [h.sz]; decide), (cutS_get (by decide)).trans h.l0, (cutS_get (by decide)).trans h.l1, (cutS_get (by decide)).trans h.l2, ⟨h.lw.1, h.lw.2.1, fun i x hi => by
    have hl := (List.getElem?_eq_some_iff.1 hi).1
    have := h.lw.1
    rw [cutS_get (by omega), show 69 + (3 + i) = 72 + i by omega]
    exact h.lw.2.2 i x hi⟩⟩
theorem TV.setLast {cs c : Array Value} {p q : Nat} {now last st : StT} {sv : Value} {left : Int} {ended : Bool} (h : TV cs p q now last sv left ended) (hc : StV c st.root st.depth st.keys st.pgs) : TV (spl cs 69 c) p q now st sv left ended := by
  have hz : 69 + c.size ≤ cs.size := by rw [h.sz, hc.sz]; decide
  have ou : ∀ i, i < 69 ∨ 136 ≤ i → (spl cs 69 c)[i]? = cs[i]? := fun i hi => spl_out hz (by rw [hc.sz]; omega)
  have inn : ∀ i, i < 67 → (spl cs 69 c)[69 + i]? = c[i]? := fun i hi => spl_in hz (by rw [hc.sz]; exact hi)
  refine ⟨(spl_size hz).trans h.sz, (ou 0 (by omega)).trans h.c0, (ou 1 (by omega)).trans h.c1, (ou 2 (by omega)).trans h.n0, (ou 3 (by omega)).trans h.n1, (ou 4 (by omega)).trans h.n2, h.nw.same fun k h1 h2 => ou k (by omega), (inn 0 (by omega)).trans hc.c0, (inn 1 (by omega)).trans hc.c1, (inn 2 (by omega)).trans hc.c2, ⟨hc.wd.1, hc.wd.2.1, fun i x hi => ?_⟩, (ou 136 (by omega)).trans h.s0, (ou 137 (by omega)).trans h.s1, (ou 138 (by omega)).trans h.s2⟩
  have hl := (List.getElem?_eq_some_iff.1 hi).1
  have := hc.wd.1
  rw [show 72 + i = 69 + (3 + i) by omega, inn (3 + i) (by omega)]
  exact hc.wd.2.2 i x hi
theorem TV.setNow {cs c : Array Value} {p q : Nat} {now last st : StT} {sv : Value} {left : Int} {ended : Bool} (h : TV cs p q now last sv left ended) (hc : StV c st.root st.depth st.keys st.pgs) : TV (spl cs 2 c) p q st last sv left ended := by
  have hz : 2 + c.size ≤ cs.size := by rw [h.sz, hc.sz]; decide
  have ou : ∀ i, i < 2 ∨ 69 ≤ i → (spl cs 2 c)[i]? = cs[i]? := fun i hi => spl_out hz (by rw [hc.sz]; omega)
  have inn : ∀ i, i < 67 → (spl cs 2 c)[2 + i]? = c[i]? := fun i hi => spl_in hz (by rw [hc.sz]; exact hi)
  refine ⟨(spl_size hz).trans h.sz, (ou 0 (by omega)).trans h.c0, (ou 1 (by omega)).trans h.c1, (inn 0 (by omega)).trans hc.c0, (inn 1 (by omega)).trans hc.c1, (inn 2 (by omega)).trans hc.c2, ⟨hc.wd.1, hc.wd.2.1, fun i x hi => ?_⟩, (ou 69 (by omega)).trans h.l0, (ou 70 (by omega)).trans h.l1, (ou 71 (by omega)).trans h.l2, h.lw.same fun k h1 h2 => ou k (by omega), (ou 136 (by omega)).trans h.s0, (ou 137 (by omega)).trans h.s1, (ou 138 (by omega)).trans h.s2⟩
  have hl := (List.getElem?_eq_some_iff.1 hi).1
  have := hc.wd.1
  rw [show 5 + i = 2 + (3 + i) by omega, inn (3 + i) (by omega)]
  exact hc.wd.2.2 i x hi
theorem ST.rowT [Gd] {B p q g : Nat} {s : DS} {t : PS} {w : World} {cs : Array Value} (h : ST B p q s t w) (hB : B ≤ g) (hg : w.heap[g]? = some (.cells cs 81 (0, 0))) (c : Array Value) : ST B p q s t (w.setRow g c) := h.exT (Ex.row hB c) hg
theorem ChF.fp [Gd] {B g : Nat} {w w' : World} (f : Fp B w w') : ChF B g w w' := ⟨f.bel, fun k cs t fz e ht _ => f.tree e ht⟩
theorem ChF.trans {B g : Nat} {a b c : World} (h : ChF B g a b) (k : ChF B g b c) : ChF B g a c := ⟨h.1.trans k.1, fun i cs t fz e h1 h2 => k.2 i cs t fz (h.2 i cs t fz e h1 h2) h1 h2⟩
theorem ChF.row {B g : Nat} {w : World} (hB : B ≤ g) (c : Array Value) : ChF B g w (w.setRow g c) := ⟨(Ex.row hB c).1, fun i cs t fz e h1 h2 => by rw [(Ex.row (w := w) hB c).2 i (Array.getElem?_eq_some_iff.1 e).1 (by simpa using h2), e]⟩
theorem ChF.cell {B g o : Nat} {w : World} {u : Value} (hB : B ≤ g) : ChF B g w (w.setCell ⟨g, o, none⟩ u) := ⟨(Ex.set hB).1, fun i cs t fz e h1 h2 => by rw [(Ex.set (w := w) (o := o) (u := u) hB).2 i (Array.getElem?_eq_some_iff.1 e).1 (by simpa using h2), e]⟩
theorem ChF.of {B g : Nat} {w w' : World} (h : Below w.heap.size w w') (hB : B ≤ w.heap.size) : ChF B g w w' := ⟨h.mono hB, fun i cs t fz e _ _ => (h.block i (Array.getElem?_eq_some_iff.1 e).1).trans e⟩
theorem SnV.fp {B g : Nat} {w w' : World} {sv : Value} {sn : List (Nat × List Nat)} (h : SnV w sv sn) (f : ChF B g w w') (ha : ∀ (gb o : Nat) cap, sv = .slice (some ⟨gb, o, none⟩) sn.length cap → ∃ cb, w.heap[gb]? = some (.cells cb 56 (0, 0))) (hg : ∃ cg, w.heap[g]? = some (.cells cg 81 (0, 0))) : SnV w' sv sn := by
  obtain ⟨cg, hg⟩ := hg
  obtain ⟨a, c, e, h1⟩ := h.v
  refine ⟨h.n, ⟨a, c, e, fun i x hi => ?_⟩, fun x hx => ?_⟩
  · obtain ⟨gb, o, e1, e2⟩ := h1 i x hi
    obtain ⟨cb, hcb⟩ := ha gb o c (by rw [e, e1])
    refine ⟨gb, o, e1, (World.cell?_of_block ((f.2 gb _ _ _ hcb (by decide) ?_).trans hcb.symm)).trans e2⟩
    intro q9
    rw [q9, hg] at hcb
    simp only [Option.some.injEq, Obj.cells.injEq] at hcb
    exact absurd hcb.2.1 (by decide)
  · obtain ⟨cx, e1, e2⟩ := h.s x hx
    refine ⟨cx, f.2 _ _ _ _ e1 (by decide) ?_, e2⟩
    intro q9
    rw [q9, hg] at e1
    simp only [Option.some.injEq, Obj.cells.injEq] at e1
    exact absurd e1.2.1 (by decide)
set_option maxRecDepth 100000 in
set_option maxHeartbeats 4000000 in
theorem Commit_ok [Gd] {B p q g : Nat} {s : DS} {t : PS} {w : World} {now last : StT} {sv : Value} {left : Int} {sn : List (Nat × List Nat)} {l : List It} (hM : TM B p q g s t now last sv left w) (hTr : Tr s t now l) (hsn : SnV w sv sn) (hn2 : 2 ≤ s.n) (hnum : t.num < 4611686018427387904) :
    Calls Tryz.prog 14 #[.pointer (some ⟨g, 0, none⟩)] w fun e w' => e = .returned (.int .i64 0) ∧ ∃ s' t', Cmt s t (jnS now.pgs sn) now.root.toNat s' t' ∧ TM B p q g s' t' now now sv (cntF t'.st : Nat) w' ∧ ChF B g w w' := by
  obtain ⟨R, hR, hRp, hR4⟩ : ∃ R : Nat, now.root = (R : Int) ∧ (R = 0 ∨ (t.st.getD R 0 = 2 ∧ hsP (jnS now.pgs sn) R = true)) ∧ R ≤ 4096 := by
    rcases hTr with ⟨r1, _⟩ | ⟨h, b, e1, e2, e3, e4, e5, e6, e7, e8, e9⟩
    · exact ⟨0, r1, Or.inl rfl, by omega⟩
    · have h2 := e6.held _ (id_mem b)
      have h3 := e9.2.2.1 _ (id_mem b)
      refine ⟨BT.id b, e1, Or.inr ⟨h2.1, ?_⟩, by omega⟩
      refine (jnS_sub sn now.pgs e9.1 (fun x hx => ?_)).2.1 _ h3 (by rw [e9.2.2.2]; simpa using id_mem b)
      obtain ⟨cx, _, hw⟩ := hsn.s x hx
      exact hw.1
  have hRn : now.root.toNat = R := by rw [hR]; exact Int.toNat_natCast R
  rw [hRn]
  have HCM := hide (cmt_of (t := t) (nd := jnS now.pgs sn) (root := R) hM.af hM.dn hn2 hM.sn)
  obtain ⟨cs, hg, hT⟩ := hM.tv
  have HDE := hide (tdead_no hM.st hM.lf hg hT)
  have HGB := hide (fun (ww : World) (hb : Below w.heap.size w ww) => giveBack_ok (hM.later hb) (hsn.later hb))
  have HM := hide hM
  have HG := hide hg
  have HT := hide hT
  obtain ⟨k1, k2, k3, k4, k5, k6⟩ := gbK_st t (jnS now.pgs sn) s.n
  have HGC := hide (show ∀ (ww : World), ST B p q s (gbK t (jnS now.pgs sn) s.n) ww → B ≤ ww.heap.size → Calls Tryz.prog 36 #[.pointer (some ⟨q, 0, none⟩), .int .i64 (R : Int)] ww fun e w' => e = .returned (.int .i64 0) ∧ ST B p q (s.commit (t.num + 1) R).1 ((gbK t (jnS now.pgs sn) s.n).committed R) w' ∧ Fp B ww w' from fun ww hs hb => by
    have hc := commit_any (root := R) hs hb (by rw [k2]; exact hM.lf) hM.dn hn2 hM.l1 (by
      rcases hRp with h9 | h9
      · exact Or.inl h9
      · right
        have hl : R < t.st.length := by
          apply Classical.byContradiction
          intro q9
          have h8 := h9.1
          rw [List.getD_eq_getElem?_getD, List.getElem?_eq_none (by omega)] at h8
          cases h8
        rw [of_getD, k6 R (by rw [← hM.sn]; exact hl) hl, if_neg, h9.1]
        intro q9
        rw [h9.2] at q9
        exact absurd q9.2.1 (by decide)) hR4 (by rw [k3]; exact hnum)
    rw [k3] at hc
    have h0 := (cmt_facts (num := t.num + 1) (root := R) hM.af hM.dn hn2).1
    rw [h0] at hc
    simpa using hc)
  have HTR1 := hide hR
  clear hM hg hT hTr hsn k1 k2 k3 k4 k5 k6 hRp hRn
  generalize (s.commit (t.num + 1) R).1 = s1 at *
  generalize ((gbK t (jnS now.pgs sn) s.n).committed R) = t1 at *
  generalize hnd : jnS now.pgs sn = nd at *
  go_enter Tryz.func14, Tryz.ntmps14
  go_wp2_with fail
  refine HDE.out.mono ?_
  rintro e w1 ⟨rfl, hb1⟩
  have HGB1 := hide (HGB.out w1 hb1)
  have HF1 := hide (Fp.of hb1 HM.out.bw)
  clear hb1 HDE HGB
  go_wp2_with fail
  refine HGB1.out.mono ?_
  rintro e w2 ⟨rfl, h1, h2⟩
  have HST2 := hide h1
  have HF2 := hide (HF1.out.trans h2)
  have HG2 := hide (HF2.out.tree HG.out (by decide))
  have HBw2 : Hid (B ≤ w2.heap.size) := Nat.le_trans HM.out.bw HF2.out.bel.size
  clear h1 h2 HGB1
  go_upto_region 4 with fail
  have HX0 : Hid ((fun wx => wx.cell? ⟨g, 1, none⟩ = some (.pointer (some ⟨q, 0, none⟩)) ∧ wx.cell? ⟨g, 2, none⟩ = some (.int .i64 (R : Int))) w2.drew) := ⟨(cell_blk HG2.out).trans HT.out.c1, by rw [← HTR1.out]; exact (cell_blk HG2.out).trans HT.out.n0⟩
  have HCC := hide (HGC.out w2.drew (HST2.out.later (Below.refl _ _).drew) HBw2.out)
  refine wp_region_noPanic ?_
  refine wp_region_held_drew (S := fun wx => wx.cell? ⟨g, 1, none⟩ = some (.pointer (some ⟨q, 0, none⟩)) ∧ wx.cell? ⟨g, 2, none⟩ = some (.int .i64 (R : Int))) (by kernel_rfl) HX0.out (fun hHeld => ?_)
  refine wpAnyH_tk 0 8 (v := ?va0) ?hya0 ?_
  case hya0 => intro oi ho; simp only [List.getElem?_toArray, List.getElem?_cons_zero, Option.some.injEq] at ho; subst ho; refine Or.inl ⟨by rfl, ?_⟩; intro wx hSw; (try dsimp only at hSw); go_simp; try rfl
  try simp only [Act.put, List.setIfInBounds_toArray, List.set_cons_zero, List.set_cons_succ]
  refine wpAnyH_tk 1 9 (v := ?va1) ?hya1 ?_
  case hya1 => intro oi ho; simp only [List.getElem?_toArray, List.getElem?_cons_succ, List.getElem?_cons_zero, Option.some.injEq] at ho; subst ho; refine Or.inl ⟨by rfl, ?_⟩; intro wx hSw; (try dsimp only at hSw); go_simp; try rfl
  try simp only [Act.put, List.setIfInBounds_toArray, List.set_cons_zero, List.set_cons_succ]
  refine wpAnyH_tk 2 10 (v := ?va2) ?hya2 ?_
  case hya2 => intro oi ho; simp only [List.getElem?_toArray, List.getElem?_cons_succ, List.getElem?_cons_zero, Option.some.injEq] at ho; subst ho; refine Or.inl ⟨by rfl, ?_⟩; intro wx hSw; (try dsimp only at hSw); go_simp; try rfl
  try simp only [Act.put, List.setIfInBounds_toArray, List.set_cons_zero, List.set_cons_succ]
  refine wpAnyH_tk 3 11 (v := ?va3) ?hya3 ?_
  case hya3 => intro oi ho; simp only [List.getElem?_toArray, List.getElem?_cons_succ, List.getElem?_cons_zero, Option.some.injEq] at ho; subst ho; refine Or.inl ⟨by rfl, ?_⟩; intro wx hSw; (try dsimp only at hSw); go_simp; try rfl
  try simp only [Act.put, List.setIfInBounds_toArray, List.set_cons_zero, List.set_cons_succ]
  refine wpAnyH_tk 4 12 (v := ?va4) ?hya4 ?_
  case hya4 => intro oi ho; simp only [List.getElem?_toArray, List.getElem?_cons_succ, List.getElem?_cons_zero, Option.some.injEq] at ho; subst ho; refine Or.inl ⟨by rfl, ?_⟩; intro wx hSw; (try dsimp only at hSw); go_simp; try rfl
  try simp only [Act.put, List.setIfInBounds_toArray, List.set_cons_zero, List.set_cons_succ]
  refine wpAnyH_tk 5 13 (v := ?va5) ?hya5 ?_
  case hya5 => intro oi ho; simp only [List.getElem?_toArray, List.getElem?_cons_succ, List.getElem?_cons_zero, Option.some.injEq] at ho; subst ho; refine Or.inl ⟨by rfl, ?_⟩; intro wx hSw; (try dsimp only at hSw); go_simp; try rfl
  try simp only [Act.put, List.setIfInBounds_toArray, List.set_cons_zero, List.set_cons_succ]
  refine wpAnyH_tk 6 14 (v := ?va6) ?hya6 ?_
  case hya6 => intro oi ho; simp only [List.getElem?_toArray, List.getElem?_cons_succ, List.getElem?_cons_zero, Option.some.injEq] at ho; subst ho; refine Or.inl ⟨by rfl, ?_⟩; intro wx hSw; (try dsimp only at hSw); go_simp; try rfl
  try simp only [Act.put, List.setIfInBounds_toArray, List.set_cons_zero, List.set_cons_succ]
  refine wpAnyH_tk 7 15 (v := ?va7) ?hya7 ?_
  case hya7 => intro oi ho; simp only [List.getElem?_toArray, List.getElem?_cons_succ, List.getElem?_cons_zero, Option.some.injEq] at ho; subst ho; refine Or.inl ⟨by rfl, ?_⟩; intro wx hSw; (try dsimp only at hSw); go_simp; try rfl
  try simp only [Act.put, List.setIfInBounds_toArray, List.set_cons_zero, List.set_cons_succ]
  refine wpAnyH_tk 8 16 (v := ?va8) ?hya8 ?_
  case hya8 => intro oi ho; simp only [List.getElem?_toArray, List.getElem?_cons_succ, List.getElem?_cons_zero, Option.some.injEq] at ho; subst ho; refine Or.inl ⟨by rfl, ?_⟩; intro wx hSw; (try dsimp only at hSw); go_simp; try rfl
  try simp only [Act.put, List.setIfInBounds_toArray, List.set_cons_zero, List.set_cons_succ]
  refine wpAnyH_cm 9 ?_; intro o ho K hK; simp only [List.getElem?_toArray, List.getElem?_cons_succ, List.getElem?_cons_zero, Option.some.injEq] at ho; subst ho
  go_simp
  refine HCC.out.mono ?_
  rintro e w3 ⟨rfl, h1, h2⟩
  have HST3 := hide h1
  have HF3 := hide (HF2.out.trans ((Fp.of (Below.refl _ _).drew HBw2.out).trans h2))
  have HG3 := hide (HF3.out.tree HG.out (by decide))
  have HX1 : Hid ((fun wx => wx.cell? ⟨g, 1, none⟩ = some (.pointer (some ⟨q, 0, none⟩)) ∧ wx.cell? ⟨g, 2, none⟩ = some (.int .i64 (R : Int))) w3) := ⟨(cell_blk HG3.out).trans HT.out.c1, by rw [← HTR1.out]; exact (cell_blk HG3.out).trans HT.out.n0⟩
  clear h1 h2 hHeld
  refine hK.out _ _ HX1.out (fun hHeld => ?_)
  clear hK K
  try simp only [Act.put, List.setIfInBounds_toArray, List.set_cons_zero, List.set_cons_succ]
  refine wpAnyH_tk 10 3 (v := ?va10) ?hya10 ?_
  case hya10 => intro oi ho; simp only [List.getElem?_toArray, List.getElem?_cons_succ, List.getElem?_cons_zero, Option.some.injEq] at ho; subst ho; refine Or.inl ⟨by rfl, ?_⟩; intro wx hSw; (try dsimp only at hSw); go_simp; try rfl
  try simp only [Act.put, List.setIfInBounds_toArray, List.set_cons_zero, List.set_cons_succ]
  refine wpAnyH_done (by kernel_rfl) ?_ _
  refine NoPanic.normal ?_
  clear hHeld HX0 HX1
  have HLD := hide (load_mid (w := w3) (g := g) (o := 2) (ty := 78) (cs := cutS cs 2) (fun j v hv => (cell_blk HG3.out).trans (cutS_cell hv)) Tryz.underlying78 rfl (by rw [HT.out.nowS.sz]; exact info_tstate))
  have hst := store_spl (o := 69) HG3.out (by rw [HT.out.nowS.sz, HT.out.sz]; decide) HT.out.nowS.one
  have hcz : (cutS cs 2).size = 67 := HT.out.nowS.sz
  have HT4 := hide (HT.out.setLast (st := now) HT.out.nowS)
  have HG4 := hide (setRow_heap _ _ _ (spl cs 69 (cutS cs 2)) _ _ HG3.out)
  have HST4 := hide (HST3.out.rowT HM.out.bg HG3.out (spl cs 69 (cutS cs 2)))
  have HC4 : Hid (ChF B g w (w3.setRow g (spl cs 69 (cutS cs 2)))) := (ChF.fp HF3.out).trans (ChF.row HM.out.bg _)
  generalize hcs4 : spl cs 69 (cutS cs 2) = cs4 at *
  generalize hw4 : w3.setRow g cs4 = w4 at *
  have r1 : w4.cell? ⟨g, 1, none⟩ = some (.pointer (some ⟨q, 0, none⟩)) := (cell_blk HG4.out).trans HT4.out.c1
  have r7 : w4.cell? ⟨g, 137, none⟩ = some (.int .i64 left) := (cell_blk HG4.out).trans HT4.out.s1
  have f7 : w4.frozen? ⟨g, 137, none⟩ = false := frz_blk HG4.out
  have HLF := hide (left_any HST4.out)
  go_wp2_with (refine wpList_load_row rfl (.tmp 27) 78 rfl rfl HLD.out ?_)
  refine HLF.out.mono ?_
  rintro e w5 ⟨rfl, rfl⟩
  go_wp2
  go_ret
  refine ⟨rfl, s1, t1, HCM.out, ⟨HST4.out.exT (Ex.set HM.out.bg) HG4.out, Nat.le_trans (Nat.le_trans HM.out.bw HC4.out.1.size) (Ex.set (B := B) (w := w5) HM.out.bg).1.size, HM.out.bg, ⟨_, heap_setCell_same _ _ _ _ _ _ HG4.out, HT4.out.lft⟩, by rw [HCM.out.life, HCM.out.tlife]; exact HM.out.lf, HCM.out.down, HCM.out.after, by rw [HCM.out.life]; exact HM.out.l1, by rw [HCM.out.len, HCM.out.n]; exact HM.out.sn, ?_⟩, HC4.out.trans (ChF.cell HM.out.bg)⟩
  have hl2 : 2 ≤ t.st.length := by rw [HM.out.sn]; exact hn2
  refine ⟨?_, ?_⟩
  · rw [HCM.out.st 0 (by omega), HM.out.hd.1, if_neg (by omega)]
  · rw [HCM.out.st 1 (by omega), HM.out.hd.2, if_neg (by omega)]
end Go.Proofs.YtnfponcadkmfjabGreat
set_option linter.unusedVariables false
namespace Go.Proofs.YtnfponcadkmfjabGreat
open Go.RowKit
theorem ins_list (o : Nat) : ∀ (l : List Value) (k : Nat) (base : Array Value), (o + k + l.length ≤ base.size) → ((l.zipIdx k).foldl (fun cs x => cs.setIfInBounds (o + x.2) x.1) base).size = base.size ∧ ∀ i, ((l.zipIdx k).foldl (fun cs x => cs.setIfInBounds (o + x.2) x.1) base)[i]? = if o + k ≤ i ∧ i < o + k + l.length then l[i - (o + k)]? else base[i]?
  | [], k, base, _ => ⟨rfl, fun i => by simp only [List.zipIdx_nil, List.foldl_nil, List.length_nil, Nat.add_zero]; rw [if_neg (by omega)]⟩
  | v :: l, k, base, h => by
    simp only [List.length_cons] at h
    obtain ⟨h1, h2⟩ := ins_list o l (k + 1) (base.setIfInBounds (o + k) v) (by rw [Array.size_setIfInBounds]; omega)
    rw [List.zipIdx_cons, List.foldl_cons]
    refine ⟨h1.trans Array.size_setIfInBounds, fun i => ?_⟩
    rw [h2 i]
    by_cases c1 : i = o + k
    · subst c1
      rw [if_neg (by omega), if_pos (by simp), Nat.sub_self, Array.getElem?_setIfInBounds_self_of_lt (by omega)]
      rfl
    · by_cases c2 : o + k ≤ i ∧ i < o + k + (v :: l).length
      · have c3 : o + (k + 1) ≤ i ∧ i < o + (k + 1) + l.length := by simp only [List.length_cons] at c2; omega
        rw [if_pos c3, if_pos c2, show i - (o + k) = (i - (o + (k + 1))) + 1 by omega]
        rfl
      · have c3 : ¬ (o + (k + 1) ≤ i ∧ i < o + (k + 1) + l.length) := by simp only [List.length_cons] at c2; omega
        rw [if_neg c3, if_neg c2, Array.getElem?_setIfInBounds_ne (Ne.symm c1)]
theorem ins_arr {base vs : Array Value} {o n : Nat} (hn : vs.size = n) (h : o + n ≤ base.size) : (Array.foldl (fun (cs : Array Value) (x : Value × Nat) => cs.setIfInBounds (o + x.2) x.1) base vs.zipIdx 0 n).size = base.size ∧ ∀ i, (Array.foldl (fun (cs : Array Value) (x : Value × Nat) => cs.setIfInBounds (o + x.2) x.1) base vs.zipIdx 0 n)[i]? = if o ≤ i ∧ i < o + n then vs[i - o]? else base[i]? := by
  have e : Array.foldl (fun (cs : Array Value) (x : Value × Nat) => cs.setIfInBounds (o + x.2) x.1) base vs.zipIdx 0 n = (vs.toList.zipIdx 0).foldl (fun cs x => cs.setIfInBounds (o + x.2) x.1) base := by
    have hs : vs.zipIdx.size = n := by rw [Array.size_zipIdx, hn]
    rw [← hs, ← Array.foldl_toList, Array.toList_zipIdx]
  rw [e]
  obtain ⟨h1, h2⟩ := ins_list o vs.toList 0 base (by rw [Array.length_toList, hn]; omega)
  refine ⟨h1, fun i => ?_⟩
  rw [h2 i, Array.length_toList, hn, Nat.add_zero]
  by_cases c : o ≤ i ∧ i < o + n
  · rw [if_pos c, if_pos c, Array.getElem?_toList]
  · rw [if_neg c, if_neg c]
theorem info_snp : (Tryz.prog.info? 56).map (fun i => (i.zero, i.size, i.bytes)) = some (some (.pointer none), 1, 8) := by kernel_rfl
structure SpC (cn : Array Value) (g : Nat) (st : StT) : Prop where
  c0 : cn[0]? = some (.pointer (some ⟨g, 0, none⟩))
  c1 : cn[1]? = some (.int .i64 st.root)
  c2 : cn[2]? = some (.int .i64 st.depth)
  c3 : cn[3]? = some (.int .i64 st.keys)
  wd : Wd cn 4 st.pgs
def snC (sn : List (Nat × StT)) : List Value := sn.map fun x => .pointer (some ⟨x.1, 0, none⟩)
structure SnO (B : Nat) (w : World) (g : Nat) (sv : Value) (sn : List (Nat × StT)) : Prop where
  n : sn.length ≤ 4
  v : w.ownsRow B 56 1 sv sn.length (snC sn)
  s : ∀ x ∈ sn, ∃ cx, w.heap[x.1]? = some (.cells cx 92 (0, 0)) ∧ SpC cx g x.2
def snP (sn : List (Nat × StT)) : List (Nat × List Nat) := sn.map fun x => (x.1, x.2.pgs)
theorem SnO.snv {B g : Nat} {w : World} {sv : Value} {sn : List (Nat × StT)} (h : SnO B w g sv sn) : SnV w sv (snP sn) := by
  obtain ⟨a, c, e⟩ := own_slice h.v
  have hl : (snP sn).length = sn.length := List.length_map _
  refine ⟨by rw [hl]; exact h.n, ⟨a, c, by rw [hl]; exact e, fun i x hi => ?_⟩, fun x hx => ?_⟩
  · rw [snP, List.getElem?_map] at hi
    obtain ⟨y, hy, rfl⟩ := Option.map_eq_some_iff.1 hi
    have hlt := (List.getElem?_eq_some_iff.1 hy).1
    rcases h.v.2 with ⟨_, e0⟩ | ⟨gb, cap, cur, e1, _, hc, _, _, h4, h5⟩
    · omega
    · rw [e] at e1
      simp only [Value.slice.injEq] at e1
      refine ⟨gb, 0, e1.1, ?_⟩
      rw [Nat.zero_add, cell_blk hc]
      have h6 : (snC sn)[i]? = some (.pointer (some ⟨y.1, 0, none⟩)) := by unfold snC; rw [List.getElem?_map, hy]; rfl
      rw [← h5, List.getElem?_take, if_pos (by omega)] at h6
      rw [← Array.getElem?_toList]
      exact h6
  · obtain ⟨y, hy, rfl⟩ := List.mem_map.1 hx
    obtain ⟨cx, h1, h2⟩ := h.s y hy
    exact ⟨cx, h1, h2.wd⟩
theorem SnO.later {B g : Nat} {w w' : World} {sv : Value} {sn : List (Nat × StT)} (h : SnO B w g sv sn) (hb : Below w.heap.size w w') : SnO B w' g sv sn := by
  refine ⟨h.n, own_later h.v hb, fun x hx => ?_⟩
  obtain ⟨cx, h1, h2⟩ := h.s x hx
  exact ⟨cx, (hb.block _ (Array.getElem?_eq_some_iff.1 h1).1).trans h1, h2⟩
theorem SnO.chf {B g : Nat} {w w' : World} {sv : Value} {sn : List (Nat × StT)} {cg : Array Value} (h : SnO B w g sv sn) (f : ChF B g w w') (hg : w.heap[g]? = some (.cells cg 81 (0, 0))) : SnO B w' g sv sn := by
  have ne : ∀ {k : Nat} {c : Array Value} {t : TypeId}, w.heap[k]? = some (.cells c t (0, 0)) → t ≠ 81 → k ≠ g := by
    intro k c t e ht q9
    subst q9
    rw [hg] at e
    simp only [Option.some.injEq, Obj.cells.injEq] at e
    exact ht e.2.1.symm
  refine ⟨h.n, own_stay h.v fun k cs _ e => f.2 k cs _ _ e (by decide) (ne e (by decide)), fun x hx => ?_⟩
  obtain ⟨cx, h1, h2⟩ := h.s x hx
  exact ⟨cx, f.2 _ _ _ _ h1 (by decide) (ne h1 (by decide)), h2⟩
theorem SnO.nil (B : Nat) (w : World) (g : Nat) : SnO B w g (.slice none 0 0) [] := ⟨by simp, ⟨rfl, Or.inl ⟨rfl, rfl⟩⟩, fun x hx => by simp at hx⟩
theorem TV.snaps {cs : Array Value} {p q : Nat} {now last : StT} {sv sv' : Value} {left : Int} {ended : Bool} (h : TV cs p q now last sv left ended) : TV (cs.setIfInBounds 136 sv') p q now last sv' left ended := by
  obtain ⟨h1, h2, h3⟩ := h.one (k := 136) (u := sv')
  exact ⟨h1, (h2 _ (by decide)).trans h.c0, (h2 _ (by decide)).trans h.c1, (h2 _ (by decide)).trans h.n0, (h2 _ (by decide)).trans h.n1, (h2 _ (by decide)).trans h.n2, h.nw.same fun k hk _ => h2 k (by omega), (h2 _ (by decide)).trans h.l0, (h2 _ (by decide)).trans h.l1, (h2 _ (by decide)).trans h.l2, h.lw.same fun k hk _ => h2 k (by omega), h3 (by decide), (h2 _ (by decide)).trans h.s1, (h2 _ (by decide)).trans h.s2⟩
def SnF (B g : Nat) (sv : Value) (w w' : World) : Prop := Below B w w' ∧ ∀ (k : Nat) (cs : Array Value) (t : TypeId) (fz : Nat × Nat), w.heap[k]? = some (Obj.cells cs t fz) → k ≠ g → some k ≠ sv.ownBlock → w'.heap[k]? = some (Obj.cells cs t fz)
theorem zero_snap : Tryz.zeroCells92.size = 68 := by kernel_rfl
set_option maxRecDepth 100000 in
set_option maxHeartbeats 4000000 in
theorem Snap_ok [Gd] {B p q g : Nat} {s : DS} {t : PS} {w : World} {now last : StT} {sv : Value} {left : Int} {sn : List (Nat × StT)} (hM : TM B p q g s t now last sv left w) (hsn : SnO B w g sv sn) (h4 : sn.length < 4) :
    Calls Tryz.prog 23 #[.pointer (some ⟨g, 0, none⟩)] w fun e w' => ∃ nb sv', e = .returned (.tuple #[.pointer (some ⟨nb, 0, none⟩), .int .i64 0]) ∧ w.heap.size ≤ nb ∧ TM B p q g s t now last sv' left w' ∧ SnO B w' g sv' (sn ++ [(nb, last)]) ∧ SnF B g sv w w' := by
  obtain ⟨i0, hi0, hz0, hz1, hz2⟩ := info_parts info_snp
  have lt : ∀ {k : Nat} {o : Obj} {ww : World}, ww.heap[k]? = some o → k < ww.heap.size := fun e => (Array.getElem?_eq_some_iff.1 e).1
  obtain ⟨cs, hg, hT⟩ := hM.tv
  have HDE := hide (tdead_no hM.st hM.lf hg hT)
  have HM := hide hM
  have HG := hide hg
  have HT := hide hT
  obtain ⟨sa, sc, hsv⟩ := own_slice hsn.v
  subst hsv
  have HSN := hide hsn
  clear hM hg hT hsn
  generalize hN : sn.length = N at *
  have xN : ¬ (N : Int) = 4 := by omega
  have dN : ((N : Int) == 4) = false := by simp; omega
  go_enter Tryz.func23, Tryz.ntmps23
  go_wp2_with fail
  refine HDE.out.mono ?_
  rintro e w1 ⟨rfl, hb1⟩
  have HB1 := hide hb1
  have HG1 := hide ((hb1.block g (lt HG.out)).trans HG.out)
  have HSN1 := hide (HSN.out.later hb1)
  have r6 : w1.cell? ⟨g, 136, none⟩ = some (.slice sa N sc) := (cell_blk HG1.out).trans HT.out.s0
  have HLD := hide (load_mid (w := w1) (g := g) (o := 69) (ty := 78) (cs := cutS cs 69) (fun j v hv => (cell_blk HG1.out).trans (cutS_cell hv)) Tryz.underlying78 rfl (by rw [HT.out.lastS.sz]; exact info_tstate))
  have hcz : (cutS cs 69).size = 67 := HT.out.lastS.sz
  clear hb1 HDE
  go_upto_region 6 with (refine wpList_load_row rfl (.tmp 16) 78 rfl rfl HLD.out ?_)
  have HCN : Hid (SpC (Array.foldl (fun (cs : Array Value) (x : Value × Nat) => cs.setIfInBounds (1 + x.2) x.1) (Tryz.zeroCells92.setIfInBounds 0 (.pointer (some ⟨g, 0, none⟩))) (cutS cs 69).zipIdx 0 67) g last) := by
    have hl := HT.out.lastS
    obtain ⟨a1, a2⟩ := ins_arr (base := Tryz.zeroCells92.setIfInBounds 0 (.pointer (some ⟨g, 0, none⟩))) (vs := cutS cs 69) (o := 1) (n := 67) hcz (by rw [Array.size_setIfInBounds, zero_snap]; decide)
    refine ⟨?_, ?_, ?_, ?_, hl.wd.1, hl.wd.2.1, fun i x hi => ?_⟩
    · rw [a2 0, if_neg (by omega), Array.getElem?_setIfInBounds_self_of_lt (by rw [zero_snap]; decide)]
    · rw [a2 1, if_pos (by omega)]; exact hl.c0
    · rw [a2 2, if_pos (by omega)]; exact hl.c1
    · rw [a2 3, if_pos (by omega)]; exact hl.c2
    · have h9 := (List.getElem?_eq_some_iff.1 hi).1
      have h8 := hl.wd.1
      rw [a2 (4 + i), if_pos (by omega), show 4 + i - 1 = 3 + i by omega]
      exact hl.wd.2.2 i x hi
  generalize (Array.foldl (fun (cs : Array Value) (x : Value × Nat) => cs.setIfInBounds (1 + x.2) x.1) (Tryz.zeroCells92.setIfInBounds 0 (.pointer (some ⟨g, 0, none⟩))) (cutS cs 69).zipIdx 0 67) = cn at *
  have HB2 := hide (below_box w1 (.cells cn 92))
  have HN2 : Hid ((w1.alloc (.cells cn 92)).heap[w1.heap.size]? = some (.cells cn 92 (0, 0))) := heap_alloc_new w1 _
  generalize hw2 : (w1.alloc (.cells cn 92)) = w2 at *
  generalize hnb : w1.heap.size = nb at *
  have HB2w : Hid (Below w.heap.size w w2) := HB1.out.trans (HB2.out.mono (by have := HB1.out.size; omega))
  have HG2 := hide ((HB2.out.block g (by rw [← hnb]; exact lt HG1.out)).trans HG1.out)
  have HSN2 : Hid (SnO B w2 g (.slice sa N sc) sn) := HSN1.out.later (by rw [hnb]; exact HB2.out)
  have HBX := hide (below_box w2 (.cells #[.pointer (some ⟨nb, 0, none⟩)] 56))
  have HO3 : Hid ((w2.alloc (.cells #[.pointer (some ⟨nb, 0, none⟩)] 56)).ownsRow B 56 1 (.slice sa N sc) N (snC sn)) := by
    have h9 := own_later HSN2.out.v HBX.out
    rw [hN] at h9
    exact h9
  have HNW : Hid (∀ k u, [Value.pointer (some ⟨nb, 0, none⟩)][k]? = some u → (w2.alloc (.cells #[.pointer (some ⟨nb, 0, none⟩)] 56)).cell? ((⟨w2.heap.size, 0, none⟩ : Addr).add k) = some u) := by
    intro k u hu
    rw [Addr.add_lit, Nat.zero_add, cell_blk (heap_alloc_new w2 _)]
    simpa using hu
  have HBS : Hid (B ≤ (w2.alloc (.cells #[.pointer (some ⟨nb, 0, none⟩)] 56)).heap.size) := Nat.le_trans (Nat.le_trans HM.out.bw HB2w.out.size) HBX.out.size
  have r6' : w2.cell? ⟨g, 136, none⟩ = some (.slice sa N sc) := (cell_blk HG2.out).trans HT.out.s0
  have HGX := hide ((HBX.out.block g (lt HG2.out)).trans HG2.out)
  have HNX := hide ((HBX.out.block nb (lt HN2.out)).trans HN2.out)
  clear r6 HLD
  go_wp2_with (at_builtin; refine wpList_append_own _ rfl (.tmp 24) (.tmp 26) 79 rfl B 56 i0 (.pointer none) 1 8 Tryz.underlying79 hi0 hz0 hz1 hz2 rfl (by omega) (.slice sa N sc) N (snC sn) rfl HO3.out ⟨w2.heap.size, 0, none⟩ 1 1 [Value.pointer (some ⟨nb, 0, none⟩)] (by simp [Act.eval]) rfl HNW.out (by simp [Value.oneCell']) (by unfold maxLen; omega) (by omega) HBS.out ?_; intro v3 w3 ho3 hg3 hz3; have HO4 := hide ho3; have HG4 := hide hg3; have HGT : Hid (w3.heap[g]? = some (.cells cs 81 (0, 0))) := (by
    show _ = _
    rw [hg3.block g (lt HGX.out) ?_, HGX.out]
    intro q9
    obtain ⟨_, cur, hc⟩ := own_block HO3.out q9.symm
    rw [HGX.out] at hc
    simp only [Option.some.injEq, Obj.cells.injEq] at hc
    exact absurd hc.2.1 (by decide)); obtain ⟨a3, c3, rfl⟩ := own_slice ho3; have f3 : w3.frozen? ⟨g, 136, none⟩ = false := frz_blk HGT.out; have r3 : w3.cell? ⟨g, 136, none⟩ = some (.slice sa N sc) := (cell_blk HGT.out).trans HT.out.s0; clear ho3 hg3 hz3)
  go_ret2
  have hkeep : ∀ (k : Nat) (c0 : Array Value) (t0 : TypeId) (fz : Nat × Nat), w2.heap[k]? = some (Obj.cells c0 t0 fz) → t0 ≠ 56 → w3.heap[k]? = some (Obj.cells c0 t0 fz) := by
    intro k c0 t0 fz e1 ht
    have e2 := (HBX.out.block k (lt e1)).trans e1
    rw [HG4.out.block k (lt e2) ?_, e2]
    intro q9
    obtain ⟨_, cur, hc⟩ := own_block HO3.out q9.symm
    rw [e2] at hc
    simp only [Option.some.injEq, Obj.cells.injEq] at hc
    exact ht hc.2.1
  have hst2 := HM.out.st.later HB2w.out
  have hst3 : ST B p q s t w3 := by
    obtain ⟨h1, gs, h2⟩ := hst2
    exact ⟨h1.of_stay (fun k cs t e ht => hkeep k cs t _ e (by rcases ht with rfl | rfl | rfl | rfl | rfl <;> decide)), gs, hkeep _ _ _ _ h2.hq (by decide), hkeep _ _ _ _ h2.hs (by decide), h2.qB, h2.gB, h2.ok⟩
  have hbel3 : Below B w w3 := (HB2w.out.mono HM.out.bw).trans ((HBX.out.mono (Nat.le_trans HM.out.bw HB2w.out.size)).grown HG4.out HBS.out (fun k hk => (HO3.out.lt k hk).1))
  have hset : Ex B [g] w3 (w3.setCell ⟨g, 136, none⟩ (.slice a3 (N + 1) c3)) := Ex.set HM.out.bg
  refine ⟨nb, .slice a3 (N + 1) c3, rfl, by rw [← hnb]; exact HB1.out.size, ⟨hst3.exT hset HGT.out, Nat.le_trans (Nat.le_trans HM.out.bw hbel3.size) hset.1.size, HM.out.bg, ⟨_, heap_setCell_same _ _ _ _ _ _ HGT.out, HT.out.snaps⟩, HM.out.lf, HM.out.dn, HM.out.af, HM.out.l1, HM.out.sn, HM.out.hd⟩, ⟨by simp; omega, ?_, fun x hx => ?_⟩, ?_⟩
  · have e9 : snC (sn ++ [(nb, last)]) = snC sn ++ [.pointer (some ⟨nb, 0, none⟩)] := by simp [snC]
    rw [e9, List.length_append, hN]
    exact own_stay HO4.out fun k c0 _ e => hset.keepX HGT.out e (by decide)
  · rcases List.mem_append.1 hx with hx | hx
    · obtain ⟨cx, h1, h2⟩ := HSN2.out.s x hx
      exact ⟨cx, hset.keepX HGT.out (hkeep _ _ _ _ h1 (by decide)) (by decide), h2⟩
    · simp only [List.mem_singleton] at hx
      subst hx
      exact ⟨cn, hset.keepX HGT.out (hkeep _ _ _ _ HN2.out (by decide)) (by decide), HCN.out⟩
  · refine ⟨hbel3.trans hset.1, fun k c0 t0 fz m1 m2 m3 => ?_⟩
    have e1 := (HB2w.out.block k (lt m1)).trans m1
    have e2 := (HBX.out.block k (lt e1)).trans e1
    have e3 : w3.heap[k]? = some (Obj.cells c0 t0 fz) := by rw [HG4.out.block k (lt e2) m3, e2]
    rw [hset.2 k (lt e3) (by simpa using m2), e3]
end Go.Proofs.YtnfponcadkmfjabGreat
set_option linter.unusedVariables false
namespace Go.Proofs.YtnfponcadkmfjabGreat
open Go.RowKit
theorem TV.setStore {cs : Array Value} {p q q' : Nat} {now last : StT} {sv : Value} {left : Int} {ended : Bool} (h : TV cs p q now last sv left ended) : TV (cs.setIfInBounds 1 (.pointer (some ⟨q', 0, none⟩))) p q' now last sv left ended := by
  obtain ⟨h1, h2, h3⟩ := h.one (k := 1) (u := .pointer (some ⟨q', 0, none⟩))
  exact ⟨h1, (h2 _ (by decide)).trans h.c0, h3 (by decide), (h2 _ (by decide)).trans h.n0, (h2 _ (by decide)).trans h.n1, (h2 _ (by decide)).trans h.n2, h.nw.same fun k hk _ => h2 k (by omega), (h2 _ (by decide)).trans h.l0, (h2 _ (by decide)).trans h.l1, (h2 _ (by decide)).trans h.l2, h.lw.same fun k hk _ => h2 k (by omega), (h2 _ (by decide)).trans h.s0, (h2 _ (by decide)).trans h.s1, (h2 _ (by decide)).trans h.s2⟩
def anew (s : DS) (num root : Nat) (ps : List Nat) : PS := holdL ⟨newSt s.n, s.life, num, root⟩ (nums ps 4096)
theorem newSt_get {n i : Nat} (h : i < n) : (newSt n).getD i 0 = if i < 2 then 0 else 1 := by
  unfold newSt
  rw [List.getD_eq_getElem?_getD, List.getElem?_map, List.getElem?_range h]
  rfl
theorem mem_nums {ps : List Nat} {i : Nat} : i ∈ nums ps 4096 ↔ i < 4096 ∧ hsP ps i = true := by
  unfold nums
  rw [List.mem_filter, List.mem_range]
def PgN (s : DS) (ps : List Nat) : Prop := ∀ i, i < 4096 → hsP ps i = true → 2 ≤ i ∧ i < s.n
theorem anew_st {s : DS} {num root : Nat} {ps : List Nat} (hp : PgN s ps) : (anew s num root ps).st.length = s.n ∧ (anew s num root ps).life = s.life ∧ (anew s num root ps).num = num ∧ (∀ i, i < 4096 → hsP ps i = true → (anew s num root ps).st.getD i 0 = 2) ∧ ∀ i, i < s.n → (i < 4096 → hsP ps i = false) → (anew s num root ps).st.getD i 0 = if i < 2 then 0 else 1 := by
  obtain ⟨h1, h2, h3, h4, h5, h6⟩ := holdL_st (nums ps 4096) ⟨newSt s.n, s.life, num, root⟩
  refine ⟨h1.trans (newSt_len _), h2, h3, fun i hi hh => ?_, fun i hi hh => ?_⟩
  · exact h6 (fun x hx => by rw [newSt_len]; exact (hp x (mem_nums.1 hx).1 (mem_nums.1 hx).2).2) i (mem_nums.2 ⟨hi, hh⟩)
  · show (holdL _ _).st.getD i 0 = _
    rw [h5 i (fun q => by
      have := mem_nums.1 q
      rw [hh this.1] at this
      exact absurd this.2 (by decide))]
    exact newSt_get hi
theorem PgI.anew {s : DS} {t : PS} {num root i : Nat} {ps b : List Nat} (h : PgI s t i b) (hp : PgN s ps) (hi : i < 4096) (hh : hsP ps i = true) : PgI s (anew s num root ps) i b :=
  ⟨h.lt, by rw [of_getD]; exact (anew_st hp).2.2.2.1 i hi hh, h.pg, h.ln, h.bt⟩
theorem OnD.anew {s : DS} {t : PS} {num root : Nat} {ps : List Nat} (hp : PgN s ps) : ∀ {h : Nat} {b : BT h}, OnD s t h b → (∀ i ∈ pgB h b, i < 4096 ∧ hsP ps i = true) → OnD s (anew s num root ps) h b
  | 0, b, ⟨h1, hi⟩, hh => ⟨h1.anew hp (hh _ (List.mem_singleton.2 rfl)).1 (hh _ (List.mem_singleton.2 rfl)).2, hi⟩
  | h + 1, b, ⟨h1, hi, h3, h4, h5⟩, hh => ⟨h1.anew hp (hh _ List.mem_cons_self).1 (hh _ List.mem_cons_self).2, hi, h3, h4, fun k hk => OnD.anew hp (h5 k hk) fun i hi => hh i (List.mem_cons_of_mem _ (List.mem_flatten.2 ⟨_, List.mem_map_of_mem hk, hi⟩))⟩
theorem Tr.anew {s : DS} {t : PS} {num root : Nat} {ps : List Nat} {st : StT} {l : List It} (h : Tr s t st l) (hp : PgN s ps) (hn : ∀ i, i < 4096 → hsP st.pgs i = true → hsP ps i = true) : Tr s (anew s num root ps) st l := by
  rcases h with h | ⟨h, b, e1, e2, e3, e4, e5, e6, e7, e8, e9⟩
  · exact Or.inl h
  · exact Or.inr ⟨h, b, e1, e2, e3, e4, e5, e6.anew hp (fun i hi => ⟨e9.2.2.1 i hi, hn i (e9.2.2.1 i hi) (by rw [e9.2.2.2 i]; simpa using hi)⟩), e7, e8, e9⟩
set_option maxRecDepth 100000 in
set_option maxHeartbeats 4000000 in
theorem holdJust_ok [Gd] {B p q g : Nat} {s : DS} {t : PS} {w : World} {now last : StT} {sv : Value} {left : Int} {cp : Array Value} {ps : List Nat} {root : Nat} (hg0 : Gd.g = none) (hM : TM B p q g s t now last sv left w) (hp : Wd cp 0 ps) (hps : cp.size = 64) (hPN : PgN s ps) (h3 : 3 ≤ s.n) (hlh : lastH (rdH (pad (s.show 0)) s.n) (rdH (pad (s.show 1)) s.n) = some (t.num, root)) (hnum : t.num ≤ 4611686018427387904) (hrt : root ≤ 4096) :
    Calls Tryz.prog 80 #[.pointer (some ⟨g, 0, none⟩), .agg cp] w fun e w' => e = .returned (.bool true) ∧ ∃ q', TM B p q' g s (anew s t.num root ps) now last sv left w' ∧ ChF B g w w' := by
  have lt : ∀ {k : Nat} {o : Obj} {ww : World}, ww.heap[k]? = some o → k < ww.heap.size := fun e => (Array.getElem?_eq_some_iff.1 e).1
  obtain ⟨cs, hg, hT⟩ := hM.tv
  have HBX := hide (below_box w (.cells cp 76))
  have HNX : Hid ((w.alloc (.cells cp 76)).heap[w.heap.size]? = some (.cells cp 76 (0, 0))) := heap_alloc_new w _
  have HM1 := hide (hM.later HBX.out)
  have HG1 := hide ((HBX.out.block g (lt hg)).trans hg)
  have r0 : (w.alloc (.cells cp 76)).cell? ⟨g, 0, none⟩ = some (.pointer (some ⟨p, 0, none⟩)) := (cell_blk HG1.out).trans hT.c0
  have HOP := hide (open_ok B p s t.num root _ HM1.out.st.1 HM1.out.bw hM.dn h3 hlh hnum hrt)
  have HM := hide hM
  have HT := hide hT
  have HP := hide hp
  have HPN := hide hPN
  obtain ⟨a1, a2, a3, a4, a5⟩ := anew_st (num := t.num) (root := root) hPN
  have HA1 := hide a1
  have HA2 := hide a2
  have HA5 := hide a5
  clear hM hg hT hp hPN hlh a1 a2 a3 a4 a5
  generalize hw1 : (w.alloc (.cells cp 76)) = w1 at *
  generalize hn0 : w.heap.size = n0 at *
  have dnn : ((t.num : Int) != (t.num : Int)) = false := by simp
  go_enter Tryz.func80, Tryz.ntmps80
  go_wp2_with fail
  refine HOP.out.mono ?_
  rintro e w2 ⟨q2, rfl, h1, h2⟩
  have HST2 := hide h1
  have HB2 : Hid (Below n0 w w2) := HBX.out.trans (h2.mono (by have := HBX.out.size; omega))
  have HG2 := hide ((h2.block g (lt HG1.out)).trans HG1.out)
  have HN2 := hide ((h2.block n0 (lt HNX.out)).trans HNX.out)
  have HSTo := hide (HM1.out.st.later h2)
  clear h1 h2 r0
  go_upto_region 2 with fail
  have HX0 : Hid ((fun wx => wx.cell? ⟨g, 1, none⟩ = some (.pointer (some ⟨q, 0, none⟩))) w2.drew) := (cell_blk HG2.out).trans HT.out.c1
  have HN1 := hide (number_any (HST2.out.later (Below.refl _ _).drew))
  have HNo := hide (number_any (HSTo.out.later (Below.refl _ _).drew))
  refine wp_region_noPanic ?_
  refine wp_region_held_drew (S := fun wx => wx.cell? ⟨g, 1, none⟩ = some (.pointer (some ⟨q, 0, none⟩))) (by kernel_rfl) HX0.out (fun hHeld => ?_)
  refine wpAnyH_tk 0 15 (v := ?va0) ?hya0 ?_
  case hya0 => intro oi ho; simp only [List.getElem?_toArray, List.getElem?_cons_zero, Option.some.injEq] at ho; subst ho; refine Or.inl ⟨by rfl, ?_⟩; intro wx hSw; (try dsimp only at hSw); go_simp; try rfl
  try simp only [Act.put, List.setIfInBounds_toArray, List.set_cons_zero, List.set_cons_succ]
  refine wpAnyH_tk 1 16 (v := ?va1) ?hya1 ?_
  case hya1 => intro oi ho; simp only [List.getElem?_toArray, List.getElem?_cons_succ, List.getElem?_cons_zero, Option.some.injEq] at ho; subst ho; refine Or.inl ⟨by rfl, ?_⟩; intro wx hSw; (try dsimp only at hSw); go_simp; try rfl
  try simp only [Act.put, List.setIfInBounds_toArray, List.set_cons_zero, List.set_cons_succ]
  refine wpAnyH_tk 2 17 (v := ?va2) ?hya2 ?_
  case hya2 => intro oi ho; simp only [List.getElem?_toArray, List.getElem?_cons_succ, List.getElem?_cons_zero, Option.some.injEq] at ho; subst ho; refine Or.inl ⟨by rfl, ?_⟩; intro wx hSw; (try dsimp only at hSw); go_simp; try rfl
  try simp only [Act.put, List.setIfInBounds_toArray, List.set_cons_zero, List.set_cons_succ]
  refine wpAnyH_tk 3 18 (v := ?va3) ?hya3 ?_
  case hya3 => intro oi ho; simp only [List.getElem?_toArray, List.getElem?_cons_succ, List.getElem?_cons_zero, Option.some.injEq] at ho; subst ho; refine Or.inl ⟨by rfl, ?_⟩; intro wx hSw; (try dsimp only at hSw); go_simp; try rfl
  try simp only [Act.put, List.setIfInBounds_toArray, List.set_cons_zero, List.set_cons_succ]
  refine wpAnyH_tk 5 20 (v := ?va5) ?hya5 ?_
  case hya5 => intro oi ho; simp only [List.getElem?_toArray, List.getElem?_cons_succ, List.getElem?_cons_zero, Option.some.injEq] at ho; subst ho; refine Or.inl ⟨by rfl, ?_⟩; intro wx hSw; (try dsimp only at hSw); go_simp; try rfl
  try simp only [Act.put, List.setIfInBounds_toArray, List.set_cons_zero, List.set_cons_succ]
  refine wpAnyH_tk 6 21 (v := ?va6) ?hya6 ?_
  case hya6 => intro oi ho; simp only [List.getElem?_toArray, List.getElem?_cons_succ, List.getElem?_cons_zero, Option.some.injEq] at ho; subst ho; refine Or.inl ⟨by rfl, ?_⟩; intro wx hSw; (try dsimp only at hSw); go_simp; try rfl
  try simp only [Act.put, List.setIfInBounds_toArray, List.set_cons_zero, List.set_cons_succ]
  refine wpAnyH_tk 7 22 (v := ?va7) ?hya7 ?_
  case hya7 => intro oi ho; simp only [List.getElem?_toArray, List.getElem?_cons_succ, List.getElem?_cons_zero, Option.some.injEq] at ho; subst ho; refine Or.inl ⟨by rfl, ?_⟩; intro wx hSw; (try dsimp only at hSw); go_simp; try rfl
  try simp only [Act.put, List.setIfInBounds_toArray, List.set_cons_zero, List.set_cons_succ]
  refine wpAnyH_tk 8 23 (v := ?va8) ?hya8 ?_
  case hya8 => intro oi ho; simp only [List.getElem?_toArray, List.getElem?_cons_succ, List.getElem?_cons_zero, Option.some.injEq] at ho; subst ho; refine Or.inl ⟨by rfl, ?_⟩; intro wx hSw; (try dsimp only at hSw); go_simp; try rfl
  try simp only [Act.put, List.setIfInBounds_toArray, List.set_cons_zero, List.set_cons_succ]
  refine wpAnyH_cm 4 ?_; intro o ho K hK; simp only [List.getElem?_toArray, List.getElem?_cons_succ, List.getElem?_cons_zero, Option.some.injEq] at ho; subst ho
  go_simp
  refine HN1.out.mono ?_
  rintro e w3 ⟨rfl, rfl⟩
  refine hK.out _ _ HX0.out (fun hHeld => ?_)
  clear hK K
  refine wpAnyH_cm 9 ?_; intro o ho K hK; simp only [List.getElem?_toArray, List.getElem?_cons_succ, List.getElem?_cons_zero, Option.some.injEq] at ho; subst ho
  go_simp
  refine HNo.out.mono ?_
  rintro e w3 ⟨rfl, rfl⟩
  refine hK.out _ _ HX0.out (fun hHeld => ?_)
  clear hK K
  try simp only [Act.put, List.setIfInBounds_toArray, List.set_cons_zero, List.set_cons_succ]
  refine wpAnyH_tk 10 25 (v := ?va10) ?hya10 ?_
  case hya10 => intro oi ho; simp only [List.getElem?_toArray, List.getElem?_cons_succ, List.getElem?_cons_zero, Option.some.injEq] at ho; subst ho; refine Or.inl ⟨by rfl, ?_⟩; intro wx hSw; (try dsimp only at hSw); go_simp; try rfl
  try simp only [Act.put, List.setIfInBounds_toArray, List.set_cons_zero, List.set_cons_succ]
  refine wpAnyH_tk 11 26 (v := ?va11) ?hya11 ?_
  case hya11 => intro oi ho; simp only [List.getElem?_toArray, List.getElem?_cons_succ, List.getElem?_cons_zero, Option.some.injEq] at ho; subst ho; refine Or.inl ⟨by rfl, ?_⟩; intro wx hSw; (try dsimp only at hSw); go_simp; try rfl
  try simp only [Act.put, List.setIfInBounds_toArray, List.set_cons_zero, List.set_cons_succ]
  refine wpAnyH_done (by kernel_rfl) ?_ _
  refine NoPanic.normal ?_
  clear hHeld HX0 HN1 HNo
  have HBd := hide ((Below.refl w2.heap.size w2).drew)
  have HNM := hide (numbers_ok (w := w2.drew) HN2.out HP.out)
  go_wp2_with fail
  refine HNM.out.mono ?_
  rintro e w3 ⟨v3, rfl, ho3, hb3⟩
  have HB3 : Hid (Below n0 w w3) := HB2.out.trans ((HBd.out.trans hb3).mono (by have := HB2.out.size; omega))
  have HST3 := hide (HST2.out.later (HBd.out.trans hb3))
  have HBw3 : Hid (B ≤ w3.heap.size) := Nat.le_trans HM.out.bw (by have := HB3.out.size; omega)
  obtain ⟨va, vc, hv3⟩ := own_slice ho3
  subst hv3
  have HHO := hide (hold_any HST3.out HBw3.out rfl ho3 (nums_len ps 4096) (fun x hx => by
    have h9 := mem_nums.1 hx
    have h8 := HPN.out x h9.1 h9.2
    refine ⟨by show x < (newSt s.n).length; rw [newSt_len]; exact h8.2, ?_⟩
    show (newSt s.n).getD x 0 ≠ 0
    rw [newSt_get h8.2, if_neg (by omega)]
    decide))
  clear ho3 hb3 HNM
  generalize (nums ps 4096).length = M at *
  go_wp2_with fail
  refine HHO.out.mono ?_
  rintro e w4 ⟨rfl, h1, h2⟩
  have HST4 : Hid (ST B p q2 s (anew s t.num root ps) w4) := h1
  have HC4 : Hid (ChF B g w w4) := (ChF.of (by rw [hn0]; exact HB3.out) HM.out.bw).trans (ChF.fp h2)
  have HG4 := hide (h2.tree ((HB3.out.block g (by
    obtain ⟨cs9, h9, _⟩ := HM.out.tv
    rw [← hn0]
    exact lt h9)).trans (by
    obtain ⟨cs9, h9, _⟩ := HM.out.tv
    have h8 := HG1.out
    rw [← hw1, Below.heap_alloc _ _ _ (lt h9)] at h8
    exact h8)) (by decide))
  have r1 : w4.cell? ⟨g, 1, none⟩ = some (.pointer (some ⟨q, 0, none⟩)) := (cell_blk HG4.out).trans HT.out.c1
  have f1 : w4.frozen? ⟨g, 1, none⟩ = false := frz_blk HG4.out
  clear h1 h2 HHO
  go_wp2
  go_ret
  have hset : Ex B [g] w4 (w4.setCell ⟨g, 1, none⟩ (.pointer (some ⟨q2, 0, none⟩))) := Ex.set HM.out.bg
  refine ⟨rfl, q2, ⟨HST4.out.exT hset HG4.out, Nat.le_trans (Nat.le_trans HM.out.bw HC4.out.1.size) hset.1.size, HM.out.bg, ⟨_, heap_setCell_same _ _ _ _ _ _ HG4.out, HT.out.setStore⟩, HA2.out.symm, HM.out.dn, HM.out.af, HM.out.l1, HA1.out, ?_⟩, HC4.out.trans (ChF.cell HM.out.bg)⟩
  refine ⟨?_, ?_⟩
  · rw [HA5.out 0 (by omega) (fun _ => by
      cases h9 : hsP ps 0 with
      | false => rfl
      | true => have := (HPN.out 0 (by omega) h9).1; omega)]
    rfl
  · rw [HA5.out 1 (by omega) (fun _ => by
      cases h9 : hsP ps 1 with
      | false => rfl
      | true => have := (HPN.out 1 (by omega) h9).1; omega)]
    rfl
end Go.Proofs.YtnfponcadkmfjabGreat
