import Derived.Test.YtnfponcadkmfjabGreatZ49
set_option linter.unusedVariables false
namespace Go.Proofs.YtnfponcadkmfjabGreat
open Go.RowKit
set_option maxRecDepth 100000 in
set_option maxHeartbeats 4000000 in
theorem letGo_ok [Gd] {B p q g : Nat} {s : DS} {t : PS} {w : World} {now last : StT} {sv : Value} {left : Int} {sn : List (Nat × List Nat)} {root : Nat} (hg0 : Gd.g = none) (hM : TM B p q g s t now last sv left w) (hsn : SnV w sv sn) (hPN : PgN s (jnS (jnP now.pgs last.pgs) sn)) (h3 : 3 ≤ s.n) (hlh : lastH (rdH (pad (s.show 0)) s.n) (rdH (pad (s.show 1)) s.n) = some (t.num, root)) (hnum : t.num ≤ 4611686018427387904) (hrt : root ≤ 4096) :
    Calls Tryz.prog 48 #[.pointer (some ⟨g, 0, none⟩)] w fun e w' => e = .returned (.tuple #[]) ∧ ∃ q', TM B p q' g s (anew s t.num root (jnS (jnP now.pgs last.pgs) sn)) now last sv (cntF (anew s t.num root (jnS (jnP now.pgs last.pgs) sn)).st : Nat) w' ∧ ChF B g w w' := by
  obtain ⟨cs, hg, hT⟩ := hM.tv
  have hsz : (cutW cs 5).size = 64 := cutW_size (by rw [hT.sz]; decide)
  have HLD := hide (load_mid (w := w) (g := g) (o := 5) (ty := 76) (cs := cutW cs 5) (fun j v hv => (cell_blk hg).trans (cutW_get hv)) Tryz.underlying76 rfl (by rw [hsz]; exact info_pset))
  have HND := hide (neededNow_ok hg hT hsn hT.nw.cut hsz)
  have HM := hide hM
  have HHJ := hide (fun (ww : World) (hb : Below w.heap.size w ww) (cr : Array Value) (h1 : cr.size = 64) (h2 : Wd cr 0 (jnS (jnP now.pgs last.pgs) sn)) => holdJust_ok hg0 (hM.later hb) h2 h1 hPN h3 hlh hnum hrt)
  clear hM hg hT hsn hPN hlh
  generalize jnS (jnP now.pgs last.pgs) sn = nd at *
  go_enter Tryz.func48, Tryz.ntmps48
  go_wp2_with (refine wpList_load_row rfl (.tmp 7) 76 rfl rfl HLD.out ?_)
  refine HND.out.mono ?_
  rintro e w1 ⟨cr, rfl, hcr, hwd, hb1⟩
  have HH := hide (HHJ.out w1 hb1 cr hcr hwd)
  have HC1 : Hid (ChF B g w w1) := ChF.of hb1 HM.out.bw
  clear hwd hb1 HND
  go_wp2_with fail
  refine HH.out.mono ?_
  rintro e w2 ⟨rfl, q2, hM2, hc2⟩
  have HM2 := hide hM2
  have HC2 := hide (HC1.out.trans hc2)
  obtain ⟨cs2, hg2, hT2⟩ := hM2.tv
  have HG2 := hide hg2
  have HT2 := hide hT2
  have r1 : w2.cell? ⟨g, 1, none⟩ = some (.pointer (some ⟨q2, 0, none⟩)) := (cell_blk hg2).trans hT2.c1
  have r7 : w2.cell? ⟨g, 137, none⟩ = some (.int .i64 left) := (cell_blk hg2).trans hT2.s1
  have f7 : w2.frozen? ⟨g, 137, none⟩ = false := frz_blk hg2
  have HLF := hide (left_any hM2.st)
  clear hM2 hc2 hg2 hT2 HH
  go_wp2_with fail
  refine HLF.out.mono ?_
  rintro e w3 ⟨rfl, rfl⟩
  go_wp2
  (try simp only [Exit.inBlock, Exit.then])
  refine bodyPost_end (results_none rfl _ _ _) rfl ?_
  refine ⟨rfl, q2, ⟨HM2.out.st.exT (Ex.set HM2.out.bg) HG2.out, Nat.le_trans HM2.out.bw (Ex.set (B := B) (w := w3) HM2.out.bg).1.size, HM2.out.bg, ⟨_, heap_setCell_same _ _ _ _ _ _ HG2.out, HT2.out.lft⟩, HM2.out.lf, HM2.out.dn, HM2.out.af, HM2.out.l1, HM2.out.sn, HM2.out.hd⟩, HC2.out.trans (ChF.cell HM2.out.bg)⟩
set_option maxRecDepth 100000 in
set_option maxHeartbeats 4000000 in
theorem Rollback_ok [Gd] {B p q g : Nat} {s : DS} {t : PS} {w : World} {now last : StT} {sv : Value} {left : Int} {sn : List (Nat × StT)} {root : Nat} (hg0 : Gd.g = none) (hM : TM B p q g s t now last sv left w) (hsn : SnO B w g sv sn) (hPN : PgN s (jnS (jnP last.pgs last.pgs) (snP sn))) (h3 : 3 ≤ s.n) (hlh : lastH (rdH (pad (s.show 0)) s.n) (rdH (pad (s.show 1)) s.n) = some (t.num, root)) (hnum : t.num ≤ 4611686018427387904) (hrt : root ≤ 4096) :
    Calls Tryz.prog 33 #[.pointer (some ⟨g, 0, none⟩)] w fun e w' => e = .returned (.int .i64 0) ∧ ∃ q', TM B p q' g s (anew s t.num root (jnS (jnP last.pgs last.pgs) (snP sn))) last last sv (cntF (anew s t.num root (jnS (jnP last.pgs last.pgs) (snP sn))).st : Nat) w' ∧ SnO B w' g sv sn ∧ ChF B g w w' := by
  obtain ⟨cs, hg, hT⟩ := hM.tv
  have HDE := hide (tdead_no hM.st hM.lf hg hT)
  have HM := hide hM
  have HSN := hide hsn
  have HLG := hide (fun (ww : World) (h1 : TM B p q g s t last last sv left ww) (h2 : SnV ww sv (snP sn)) => letGo_ok hg0 h1 h2 hPN h3 hlh hnum hrt)
  have HG := hide hg
  have HT := hide hT
  clear hM hg hT hsn hPN hlh
  go_enter Tryz.func33, Tryz.ntmps33
  go_wp2_with fail
  refine HDE.out.mono ?_
  rintro e w1 ⟨rfl, hb1⟩
  have HG1 := hide ((hb1.block g (Array.getElem?_eq_some_iff.1 HG.out).1).trans HG.out)
  have HM1 := hide (HM.out.later hb1)
  have HSN1 := hide (HSN.out.later hb1)
  have HC1 : Hid (ChF B g w w1) := ChF.of hb1 HM.out.bw
  have HLD := hide (load_mid (w := w1) (g := g) (o := 69) (ty := 78) (cs := cutS cs 69) (fun j v hv => (cell_blk HG1.out).trans (cutS_cell hv)) Tryz.underlying78 rfl (by rw [HT.out.lastS.sz]; exact info_tstate))
  have hst := store_spl (o := 2) HG1.out (by rw [HT.out.lastS.sz, HT.out.sz]; decide) HT.out.lastS.one
  have hcz : (cutS cs 69).size = 67 := HT.out.lastS.sz
  have HT2 := hide (HT.out.setNow (st := last) HT.out.lastS)
  have HG2 := hide (setRow_heap _ _ _ (spl cs 2 (cutS cs 69)) _ _ HG1.out)
  have HST2 := hide (HM1.out.st.rowT HM.out.bg HG1.out (spl cs 2 (cutS cs 69)))
  have HR2 : Hid (ChF B g w1 (w1.setRow g (spl cs 2 (cutS cs 69)))) := ChF.row HM.out.bg _
  have HSN2 := hide (HSN1.out.chf HR2.out HG1.out)
  generalize hcs2 : spl cs 2 (cutS cs 69) = cs2 at *
  generalize hw2 : w1.setRow g cs2 = w2 at *
  have HM2 : Hid (TM B p q g s t last last sv left w2) := ⟨HST2.out, Nat.le_trans HM1.out.bw HR2.out.1.size, HM.out.bg, ⟨cs2, HG2.out, HT2.out⟩, HM.out.lf, HM.out.dn, HM.out.af, HM.out.l1, HM.out.sn, HM.out.hd⟩
  have HL2 := hide (HLG.out w2 HM2.out HSN2.out.snv)
  clear hb1 HDE
  go_wp2_with (refine wpList_load_row rfl (.tmp 8) 78 rfl rfl HLD.out ?_)
  refine HL2.out.mono ?_
  rintro e w3 ⟨rfl, q3, hM3, hc3⟩
  have HM3 := hide hM3
  have HC3 := hide hc3
  clear hM3 hc3
  go_wp2
  go_ret
  exact ⟨rfl, q3, HM3.out, HSN2.out.chf HC3.out HG2.out, (HC1.out.trans HR2.out).trans HC3.out⟩
set_option maxRecDepth 100000 in
set_option maxHeartbeats 4000000 in
theorem Check_ok [Gd] {B p q g : Nat} {s : DS} {t : PS} {w : World} {now last : StT} {sv : Value} {left : Int} {l : List It} (hM : TM B p q g s t now last sv left w) (hTr : Tr s t now l) (hdp : now.depth < 100000) (hl : l.length < 100000) :
    Calls Tryz.prog 20 #[.pointer (some ⟨g, 0, none⟩)] w fun e w' => e = .returned (.int .i64 0) ∧ Below w.heap.size w w' := by
  have lt : ∀ {k : Nat} {o : Obj} {ww : World}, ww.heap[k]? = some o → k < ww.heap.size := fun e => (Array.getElem?_eq_some_iff.1 e).1
  obtain ⟨cs, hg, hT⟩ := hM.tv
  have HDE := hide (tdead_no hM.st hM.lf hg hT)
  have HLT := hide (fun (ww : World) (hb : Below w.heap.size w ww) => looked_any (hM.st.later hb) (Nat.le_trans hM.bw hb.size) hM.lf hM.dn hM.sn hM.hd.1 hTr hdp hl)
  have HM := hide hM
  have HG := hide hg
  have HT := hide hT
  clear hM hg hT hTr
  go_enter Tryz.func20, Tryz.ntmps20
  go_wp2_with fail
  refine HDE.out.mono ?_
  rintro e w1 ⟨rfl, hb1⟩
  have HG1 := hide ((hb1.block g (lt HG.out)).trans HG.out)
  have HB1 := hide hb1
  have HL1 := hide (HLT.out w1.drew (hb1.trans ((Below.refl _ _).drew)))
  clear hb1 HDE
  go_upto_region 3 with fail
  have HX0 : Hid ((fun wx => wx.cell? ⟨g, 1, none⟩ = some (.pointer (some ⟨q, 0, none⟩)) ∧ wx.cell? ⟨g, 2, none⟩ = some (.int .i64 now.root)) w1.drew) := ⟨(cell_blk HG1.out).trans HT.out.c1, (cell_blk HG1.out).trans HT.out.n0⟩
  refine wp_region_noPanic ?_
  refine wp_region_held_drew (S := fun wx => wx.cell? ⟨g, 1, none⟩ = some (.pointer (some ⟨q, 0, none⟩)) ∧ wx.cell? ⟨g, 2, none⟩ = some (.int .i64 now.root)) (by kernel_rfl) HX0.out (fun hHeld => ?_)
  refine wpAnyH_tk 0 8 (v := ?va0) ?hya0 ?_
  case hya0 => intro oi ho; simp only [List.getElem?_toArray, List.getElem?_cons_zero, Option.some.injEq] at ho; subst ho; refine Or.inl ⟨by rfl, ?_⟩; intro wx hSw; (try dsimp only at hSw); go_simp; try rfl
  try simp only [Act.put, List.setIfInBounds_toArray, List.set_cons_zero, List.set_cons_succ]
  refine wpAnyH_tk 1 9 (v := ?va1) ?hya1 ?_
  case hya1 => intro oi ho; simp only [List.getElem?_toArray, List.getElem?_cons_succ, List.getElem?_cons_zero, Option.some.injEq] at ho; subst ho; refine Or.inl ⟨by rfl, ?_⟩; intro wx hSw; (try dsimp only at hSw); go_simp; try rfl
  try simp only [Act.put, List.setIfInBounds_toArray, List.set_cons_zero, List.set_cons_succ]
  refine wpAnyH_tk 2 10 (v := ?va2) ?hya2 ?_
  case hya2 => intro oi ho; simp only [List.getElem?_toArray, List.getElem?_cons_succ, List.getElem?_cons_zero, Option.some.injEq] at ho; subst ho; refine Or.inl ⟨by rfl, ?_⟩; intro wx hSw; (try dsimp only at hSw); go_simp; try rfl
  try simp only [Act.put, List.setIfInBounds_toArray, List.set_cons_zero, List.set_cons_succ]
  refine wpAnyH_tk 3 11 (v := ?va3) ?hya3 ?_
  case hya3 => intro oi ho; simp only [List.getElem?_toArray, List.getElem?_cons_succ, List.getElem?_cons_zero, Option.some.injEq] at ho; subst ho; refine Or.inl ⟨by rfl, ?_⟩; intro wx hSw; (try dsimp only at hSw); go_simp; try rfl
  try simp only [Act.put, List.setIfInBounds_toArray, List.set_cons_zero, List.set_cons_succ]
  refine wpAnyH_tk 4 12 (v := ?va4) ?hya4 ?_
  case hya4 => intro oi ho; simp only [List.getElem?_toArray, List.getElem?_cons_succ, List.getElem?_cons_zero, Option.some.injEq] at ho; subst ho; refine Or.inl ⟨by rfl, ?_⟩; intro wx hSw; (try dsimp only at hSw); go_simp; try rfl
  try simp only [Act.put, List.setIfInBounds_toArray, List.set_cons_zero, List.set_cons_succ]
  refine wpAnyH_tk 5 13 (v := ?va5) ?hya5 ?_
  case hya5 => intro oi ho; simp only [List.getElem?_toArray, List.getElem?_cons_succ, List.getElem?_cons_zero, Option.some.injEq] at ho; subst ho; refine Or.inl ⟨by rfl, ?_⟩; intro wx hSw; (try dsimp only at hSw); go_simp; try rfl
  try simp only [Act.put, List.setIfInBounds_toArray, List.set_cons_zero, List.set_cons_succ]
  refine wpAnyH_tk 6 14 (v := ?va6) ?hya6 ?_
  case hya6 => intro oi ho; simp only [List.getElem?_toArray, List.getElem?_cons_succ, List.getElem?_cons_zero, Option.some.injEq] at ho; subst ho; refine Or.inl ⟨by rfl, ?_⟩; intro wx hSw; (try dsimp only at hSw); go_simp; try rfl
  try simp only [Act.put, List.setIfInBounds_toArray, List.set_cons_zero, List.set_cons_succ]
  refine wpAnyH_tk 7 15 (v := ?va7) ?hya7 ?_
  case hya7 => intro oi ho; simp only [List.getElem?_toArray, List.getElem?_cons_succ, List.getElem?_cons_zero, Option.some.injEq] at ho; subst ho; refine Or.inl ⟨by rfl, ?_⟩; intro wx hSw; (try dsimp only at hSw); go_simp; try rfl
  try simp only [Act.put, List.setIfInBounds_toArray, List.set_cons_zero, List.set_cons_succ]
  refine wpAnyH_tk 8 16 (v := ?va8) ?hya8 ?_
  case hya8 => intro oi ho; simp only [List.getElem?_toArray, List.getElem?_cons_succ, List.getElem?_cons_zero, Option.some.injEq] at ho; subst ho; refine Or.inl ⟨by rfl, ?_⟩; intro wx hSw; (try dsimp only at hSw); go_simp; try rfl
  try simp only [Act.put, List.setIfInBounds_toArray, List.set_cons_zero, List.set_cons_succ]
  refine wpAnyH_comes2At (i := 9) (j := 13) (by kernel_rfl) (by kernel_rfl) (by kernel_rfl) ?ba ?bb
  case ba =>
    intro o ho K hK
    simp only [List.getElem?_toArray, List.getElem?_cons_succ, List.getElem?_cons_zero, Option.some.injEq] at ho
    subst ho
    go_simp
    refine HL1.out.mono ?_
    rintro e w2 ⟨v2, rfl, ⟨c2, st2, hv2, hsv2, _, _, hdd⟩, hb2⟩
    subst hv2
    have HSV2 := hide hsv2
    have HDD := hide hdd
    have HB2 : Hid (Below w.heap.size w w2) := HB1.out.trans (((Below.refl _ _).drew.trans hb2).mono HB1.out.size)
    have HG2 := hide ((HB2.out.block g (lt HG.out)).trans HG.out)
    have HX1 : Hid ((fun wx => wx.cell? ⟨g, 1, none⟩ = some (.pointer (some ⟨q, 0, none⟩)) ∧ wx.cell? ⟨g, 2, none⟩ = some (.int .i64 now.root)) w2) := ⟨(cell_blk HG2.out).trans HT.out.c1, (cell_blk HG2.out).trans HT.out.n0⟩
    have HX9 : Hid ((w2.alloc (.cells Tryz.zeroCells78 78)).heap[w2.heap.size]? = some (.cells Tryz.zeroCells78 78 (0, 0))) := heap_alloc_new w2 _
    have HB3 : Hid (Below w.heap.size w (w2.alloc (.cells Tryz.zeroCells78 78))) := HB2.out.trans ((below_box w2 _).mono HB2.out.size)
    have HNB : Hid (w.heap.size ≤ w2.heap.size) := HB2.out.size
    have HXX : Hid ((fun wx => wx.cell? ⟨g, 1, none⟩ = some (.pointer (some ⟨q, 0, none⟩)) ∧ wx.cell? ⟨g, 2, none⟩ = some (.int .i64 now.root)) (w2.alloc (.cells Tryz.zeroCells78 78))) := by
      have h9 := (HB3.out.block g (lt HG.out)).trans HG.out
      exact ⟨(cell_blk h9).trans HT.out.c1, (cell_blk h9).trans HT.out.n0⟩
    clear hb2 hsv2 hdd hHeld
    refine hK.out _ _ HX1.out (fun hHeld => ?_)
    clear hK K
    try simp only [Act.put, List.setIfInBounds_toArray, List.set_cons_zero, List.set_cons_succ]
    refine wpAnyH_tk 10 7 (v := ?vp10) ?hyp10 ?_
    case hyp10 => intro oi ho; simp only [List.getElem?_toArray, List.getElem?_cons_succ, List.getElem?_cons_zero, Option.some.injEq] at ho; subst ho; refine Or.inl ⟨by rfl, ?_⟩; intro wx hSw; (try dsimp only at hSw); go_simp; try rfl
    try simp only [Act.put, List.setIfInBounds_toArray, List.set_cons_zero, List.set_cons_succ]
    refine wpAnyH_tk 11 18 (v := ?vp11) ?hyp11 ?_
    case hyp11 => intro oi ho; simp only [List.getElem?_toArray, List.getElem?_cons_succ, List.getElem?_cons_zero, Option.some.injEq] at ho; subst ho; refine Or.inl ⟨by rfl, ?_⟩; intro wx hSw; (try dsimp only at hSw); go_simp; try rfl
    try simp only [Act.put, List.setIfInBounds_toArray, List.set_cons_zero, List.set_cons_succ]
    refine wpAnyH_tk 12 19 (v := ?vp12) ?hyp12 ?_
    case hyp12 => intro oi ho; simp only [List.getElem?_toArray, List.getElem?_cons_succ, List.getElem?_cons_zero, Option.some.injEq] at ho; subst ho; refine Or.inl ⟨by rfl, ?_⟩; intro wx hSw; (try dsimp only at hSw); go_simp; try rfl
    try simp only [Act.put, List.setIfInBounds_toArray, List.set_cons_zero, List.set_cons_succ]
    refine wpAnyH_cm 13 ?_; intro o ho K hK; simp only [List.getElem?_toArray, List.getElem?_cons_succ, List.getElem?_cons_zero, Option.some.injEq] at ho; subst ho
    go_simp
    clear hHeld
    refine hK.out _ _ HXX.out (fun hHeld => ?_)
    clear hK K
    try simp only [Act.put, List.setIfInBounds_toArray, List.set_cons_zero, List.set_cons_succ]
    clear HXX HX1
    generalize hw3 : (w2.alloc (.cells Tryz.zeroCells78 78)) = w3 at *
    generalize hnb : w2.heap.size = nb at *
    have HX3 : Hid ((fun wx => wx.cell? ⟨g, 1, none⟩ = some (.pointer (some ⟨q, 0, none⟩)) ∧ wx.cell? ⟨g, 2, none⟩ = some (.int .i64 now.root)) w3) := by
      have h9 := (HB3.out.block g (lt HG.out)).trans HG.out
      exact ⟨(cell_blk h9).trans HT.out.c1, (cell_blk h9).trans HT.out.n0⟩
    have hst := store_spl (o := 0) HX9.out (by rw [Nat.zero_add, HSV2.out.sz, stv_zero.sz]; exact Nat.le_refl _) HSV2.out.one
    rw [spl_all (by rw [HSV2.out.sz, stv_zero.sz])] at hst
    have hcz : c2.size = 67 := HSV2.out.sz
    have HY4 := hide (setRow_heap _ _ _ c2 _ _ HX9.out)
    have HB4 : Hid (Below w.heap.size w (w3.setRow nb c2)) := below_setRow HB3.out HNB.out c2
    have HX4 : Hid ((fun wx => wx.cell? ⟨g, 1, none⟩ = some (.pointer (some ⟨q, 0, none⟩)) ∧ wx.cell? ⟨g, 2, none⟩ = some (.int .i64 now.root)) (w3.setRow nb c2)) := by
      have h9 := (HB4.out.block g (lt HG.out)).trans HG.out
      exact ⟨(cell_blk h9).trans HT.out.c1, (cell_blk h9).trans HT.out.n0⟩
    refine wpAnyH_cm 14 ?_; intro o ho K hK; simp only [List.getElem?_toArray, List.getElem?_cons_succ, List.getElem?_cons_zero, Option.some.injEq] at ho; subst ho
    go_simp
    clear hHeld
    refine hK.out _ _ HX4.out (fun hHeld => ?_)
    clear hK K
    try simp only [Act.put, List.setIfInBounds_toArray, List.set_cons_zero, List.set_cons_succ]
    refine wpAnyH_tk 15 4 (v := ?vp15) ?hyp15 ?_
    case hyp15 => intro oi ho; simp only [List.getElem?_toArray, List.getElem?_cons_succ, List.getElem?_cons_zero, Option.some.injEq] at ho; subst ho; refine Or.inl ⟨by rfl, ?_⟩; intro wx hSw; (try dsimp only at hSw); go_simp; try rfl
    try simp only [Act.put, List.setIfInBounds_toArray, List.set_cons_zero, List.set_cons_succ]
    refine wpAnyH_done (by kernel_rfl) ?_ _
    refine NoPanic.normal ?_
    clear hHeld HX0 HX3 HX4 hst
    generalize hw4 : w3.setRow nb c2 = w4 at *
    have HG4 := hide ((HB4.out.block g (lt HG.out)).trans HG.out)
    go_upto_region 4 with fail
    have ddp : (now.depth != now.depth) = false := by simp
    have HX5 : Hid ((fun wx => wx.cell? ⟨nb, 1, none⟩ = some (.int .i64 now.depth) ∧ wx.cell? ⟨g, 3, none⟩ = some (.int .i64 now.depth)) w4.drew) := ⟨by rw [← HDD.out]; exact (cell_blk HY4.out).trans HSV2.out.c1, (cell_blk HG4.out).trans HT.out.n1⟩
    refine wp_region_noPanic ?_
    refine wp_region_held_drew (S := fun wx => wx.cell? ⟨nb, 1, none⟩ = some (.int .i64 now.depth) ∧ wx.cell? ⟨g, 3, none⟩ = some (.int .i64 now.depth)) (by kernel_rfl) HX5.out (fun hHeld => ?_)
    refine wpAnyH_tk 0 20 (v := ?vpb0) ?hypb0 ?_
    case hypb0 => intro oi ho; simp only [List.getElem?_toArray, List.getElem?_cons_zero, Option.some.injEq] at ho; subst ho; refine Or.inl ⟨by rfl, ?_⟩; intro wx hSw; (try dsimp only at hSw); go_simp; try rfl
    try simp only [Act.put, List.setIfInBounds_toArray, List.set_cons_zero, List.set_cons_succ]
    refine wpAnyH_tk 1 21 (v := ?vpb1) ?hypb1 ?_
    case hypb1 => intro oi ho; simp only [List.getElem?_toArray, List.getElem?_cons_succ, List.getElem?_cons_zero, Option.some.injEq] at ho; subst ho; refine Or.inl ⟨by rfl, ?_⟩; intro wx hSw; (try dsimp only at hSw); go_simp; try rfl
    try simp only [Act.put, List.setIfInBounds_toArray, List.set_cons_zero, List.set_cons_succ]
    refine wpAnyH_tk 2 22 (v := ?vpb2) ?hypb2 ?_
    case hypb2 => intro oi ho; simp only [List.getElem?_toArray, List.getElem?_cons_succ, List.getElem?_cons_zero, Option.some.injEq] at ho; subst ho; refine Or.inl ⟨by rfl, ?_⟩; intro wx hSw; (try dsimp only at hSw); go_simp; try rfl
    try simp only [Act.put, List.setIfInBounds_toArray, List.set_cons_zero, List.set_cons_succ]
    refine wpAnyH_tk 3 23 (v := ?vpb3) ?hypb3 ?_
    case hypb3 => intro oi ho; simp only [List.getElem?_toArray, List.getElem?_cons_succ, List.getElem?_cons_zero, Option.some.injEq] at ho; subst ho; refine Or.inl ⟨by rfl, ?_⟩; intro wx hSw; (try dsimp only at hSw); go_simp; try rfl
    try simp only [Act.put, List.setIfInBounds_toArray, List.set_cons_zero, List.set_cons_succ]
    refine wpAnyH_tk 4 24 (v := ?vpb4) ?hypb4 ?_
    case hypb4 => intro oi ho; simp only [List.getElem?_toArray, List.getElem?_cons_succ, List.getElem?_cons_zero, Option.some.injEq] at ho; subst ho; refine Or.inl ⟨by rfl, ?_⟩; intro wx hSw; (try dsimp only at hSw); go_simp; try rfl
    try simp only [Act.put, List.setIfInBounds_toArray, List.set_cons_zero, List.set_cons_succ]
    refine wpAnyH_tk 5 25 (v := ?vpb5) ?hypb5 ?_
    case hypb5 => intro oi ho; simp only [List.getElem?_toArray, List.getElem?_cons_succ, List.getElem?_cons_zero, Option.some.injEq] at ho; subst ho; refine Or.inl ⟨by rfl, ?_⟩; intro wx hSw; (try dsimp only at hSw); go_simp; try rfl
    try simp only [Act.put, List.setIfInBounds_toArray, List.set_cons_zero, List.set_cons_succ]
    refine wpAnyH_tk 6 26 (v := ?vpb6) ?hypb6 ?_
    case hypb6 => intro oi ho; simp only [List.getElem?_toArray, List.getElem?_cons_succ, List.getElem?_cons_zero, Option.some.injEq] at ho; subst ho; refine Or.inl ⟨by rfl, ?_⟩; intro wx hSw; (try dsimp only at hSw); go_simp; try rfl
    try simp only [Act.put, List.setIfInBounds_toArray, List.set_cons_zero, List.set_cons_succ]
    refine wpAnyH_tk 7 27 (v := ?vpb7) ?hypb7 ?_
    case hypb7 => intro oi ho; simp only [List.getElem?_toArray, List.getElem?_cons_succ, List.getElem?_cons_zero, Option.some.injEq] at ho; subst ho; refine Or.inl ⟨by rfl, ?_⟩; intro wx hSw; (try dsimp only at hSw); go_simp; try rfl
    try simp only [Act.put, List.setIfInBounds_toArray, List.set_cons_zero, List.set_cons_succ]
    refine wpAnyH_tk 8 28 (v := ?vpb8) ?hypb8 ?_
    case hypb8 => intro oi ho; simp only [List.getElem?_toArray, List.getElem?_cons_succ, List.getElem?_cons_zero, Option.some.injEq] at ho; subst ho; refine Or.inl ⟨by rfl, ?_⟩; intro wx hSw; (try dsimp only at hSw); go_simp; try rfl
    try simp only [Act.put, List.setIfInBounds_toArray, List.set_cons_zero, List.set_cons_succ]
    refine wpAnyH_tk 9 29 (v := ?vpb9) ?hypb9 ?_
    case hypb9 => intro oi ho; simp only [List.getElem?_toArray, List.getElem?_cons_succ, List.getElem?_cons_zero, Option.some.injEq] at ho; subst ho; refine Or.inl ⟨by rfl, ?_⟩; intro wx hSw; (try dsimp only at hSw); go_simp; try rfl
    try simp only [Act.put, List.setIfInBounds_toArray, List.set_cons_zero, List.set_cons_succ]
    refine wpAnyH_tk 10 30 (v := ?vpb10) ?hypb10 ?_
    case hypb10 => intro oi ho; simp only [List.getElem?_toArray, List.getElem?_cons_succ, List.getElem?_cons_zero, Option.some.injEq] at ho; subst ho; refine Or.inl ⟨by rfl, ?_⟩; intro wx hSw; (try dsimp only at hSw); go_simp; try rfl
    try simp only [Act.put, List.setIfInBounds_toArray, List.set_cons_zero, List.set_cons_succ]
    refine wpAnyH_tk 11 31 (v := ?vpb11) ?hypb11 ?_
    case hypb11 => intro oi ho; simp only [List.getElem?_toArray, List.getElem?_cons_succ, List.getElem?_cons_zero, Option.some.injEq] at ho; subst ho; refine Or.inl ⟨by rfl, ?_⟩; intro wx hSw; (try dsimp only at hSw); go_simp; try rfl
    try simp only [Act.put, List.setIfInBounds_toArray, List.set_cons_zero, List.set_cons_succ]
    refine wpAnyH_done (by kernel_rfl) ?_ _
    refine NoPanic.normal ?_
    clear hHeld
    go_wp2
    go_ret
    exact ⟨rfl, HB4.out.drew⟩
  case bb =>
    intro o ho K hK
    simp only [List.getElem?_toArray, List.getElem?_cons_succ, List.getElem?_cons_zero, Option.some.injEq] at ho
    subst ho
    go_simp
    have HBA : Hid (Below w.heap.size w (w1.alloc (.cells Tryz.zeroCells78 78)).drew) := (HB1.out.trans ((below_box w1 _).mono HB1.out.size)).drew
    have HXA : Hid ((w1.alloc (.cells Tryz.zeroCells78 78)).drew.heap[w1.heap.size]? = some (.cells Tryz.zeroCells78 78 (0, 0))) := heap_alloc_new w1 _
    have HXX : Hid ((fun wx => wx.cell? ⟨g, 1, none⟩ = some (.pointer (some ⟨q, 0, none⟩)) ∧ wx.cell? ⟨g, 2, none⟩ = some (.int .i64 now.root)) (w1.alloc (.cells Tryz.zeroCells78 78)).drew) := by
      have h9 := (HBA.out.block g (lt HG.out)).trans HG.out
      exact ⟨(cell_blk h9).trans HT.out.c1, (cell_blk h9).trans HT.out.n0⟩
    have HNB : Hid (w.heap.size ≤ w1.heap.size) := HB1.out.size
    have HL2 := hide (HLT.out _ HBA.out)
    clear hHeld
    refine hK.out _ _ HXX.out (fun hHeld => ?_)
    clear hK K
    try simp only [Act.put, List.setIfInBounds_toArray, List.set_cons_zero, List.set_cons_succ]
    generalize hwA : (w1.alloc (.cells Tryz.zeroCells78 78)).drew = wA at *
    generalize hnb : w1.heap.size = nb at *
    refine wpAnyH_cm 9 ?_; intro o ho K hK; simp only [List.getElem?_toArray, List.getElem?_cons_succ, List.getElem?_cons_zero, Option.some.injEq] at ho; subst ho
    go_simp
    refine HL2.out.mono ?_
    rintro e w3 ⟨v2, rfl, ⟨c2, st2, hv2, hsv2, _, _, hdd⟩, hb2⟩
    subst hv2
    have HSV2 := hide hsv2
    have HDD := hide hdd
    have HB3 : Hid (Below w.heap.size w w3) := HBA.out.trans (hb2.mono HBA.out.size)
    have HX9 := hide ((hb2.block nb (lt HXA.out)).trans HXA.out)
    have HX8 : Hid ((fun wx => wx.cell? ⟨g, 1, none⟩ = some (.pointer (some ⟨q, 0, none⟩)) ∧ wx.cell? ⟨g, 2, none⟩ = some (.int .i64 now.root)) w3) := by
      have h9 := (HB3.out.block g (lt HG.out)).trans HG.out
      exact ⟨(cell_blk h9).trans HT.out.c1, (cell_blk h9).trans HT.out.n0⟩
    clear hb2 hsv2 hdd hHeld
    refine hK.out _ _ HX8.out (fun hHeld => ?_)
    clear hK K
    try simp only [Act.put, List.setIfInBounds_toArray, List.set_cons_zero, List.set_cons_succ]
    clear HX8 HXX
    have HX3 : Hid ((fun wx => wx.cell? ⟨g, 1, none⟩ = some (.pointer (some ⟨q, 0, none⟩)) ∧ wx.cell? ⟨g, 2, none⟩ = some (.int .i64 now.root)) w3) := by
      have h9 := (HB3.out.block g (lt HG.out)).trans HG.out
      exact ⟨(cell_blk h9).trans HT.out.c1, (cell_blk h9).trans HT.out.n0⟩
    have hst := store_spl (o := 0) HX9.out (by rw [Nat.zero_add, HSV2.out.sz, stv_zero.sz]; exact Nat.le_refl _) HSV2.out.one
    rw [spl_all (by rw [HSV2.out.sz, stv_zero.sz])] at hst
    have hcz : c2.size = 67 := HSV2.out.sz
    have HY4 := hide (setRow_heap _ _ _ c2 _ _ HX9.out)
    have HB4 : Hid (Below w.heap.size w (w3.setRow nb c2)) := below_setRow HB3.out HNB.out c2
    have HX4 : Hid ((fun wx => wx.cell? ⟨g, 1, none⟩ = some (.pointer (some ⟨q, 0, none⟩)) ∧ wx.cell? ⟨g, 2, none⟩ = some (.int .i64 now.root)) (w3.setRow nb c2)) := by
      have h9 := (HB4.out.block g (lt HG.out)).trans HG.out
      exact ⟨(cell_blk h9).trans HT.out.c1, (cell_blk h9).trans HT.out.n0⟩
    refine wpAnyH_tk 10 7 (v := ?vq10) ?hyq10 ?_
    case hyq10 => intro oi ho; simp only [List.getElem?_toArray, List.getElem?_cons_succ, List.getElem?_cons_zero, Option.some.injEq] at ho; subst ho; refine Or.inl ⟨by rfl, ?_⟩; intro wx hSw; (try dsimp only at hSw); go_simp; try rfl
    try simp only [Act.put, List.setIfInBounds_toArray, List.set_cons_zero, List.set_cons_succ]
    refine wpAnyH_tk 11 18 (v := ?vq11) ?hyq11 ?_
    case hyq11 => intro oi ho; simp only [List.getElem?_toArray, List.getElem?_cons_succ, List.getElem?_cons_zero, Option.some.injEq] at ho; subst ho; refine Or.inl ⟨by rfl, ?_⟩; intro wx hSw; (try dsimp only at hSw); go_simp; try rfl
    try simp only [Act.put, List.setIfInBounds_toArray, List.set_cons_zero, List.set_cons_succ]
    refine wpAnyH_tk 12 19 (v := ?vq12) ?hyq12 ?_
    case hyq12 => intro oi ho; simp only [List.getElem?_toArray, List.getElem?_cons_succ, List.getElem?_cons_zero, Option.some.injEq] at ho; subst ho; refine Or.inl ⟨by rfl, ?_⟩; intro wx hSw; (try dsimp only at hSw); go_simp; try rfl
    try simp only [Act.put, List.setIfInBounds_toArray, List.set_cons_zero, List.set_cons_succ]
    refine wpAnyH_cm 14 ?_; intro o ho K hK; simp only [List.getElem?_toArray, List.getElem?_cons_succ, List.getElem?_cons_zero, Option.some.injEq] at ho; subst ho
    go_simp
    clear hHeld
    refine hK.out _ _ HX4.out (fun hHeld => ?_)
    clear hK K
    try simp only [Act.put, List.setIfInBounds_toArray, List.set_cons_zero, List.set_cons_succ]
    refine wpAnyH_tk 15 4 (v := ?vq15) ?hyq15 ?_
    case hyq15 => intro oi ho; simp only [List.getElem?_toArray, List.getElem?_cons_succ, List.getElem?_cons_zero, Option.some.injEq] at ho; subst ho; refine Or.inl ⟨by rfl, ?_⟩; intro wx hSw; (try dsimp only at hSw); go_simp; try rfl
    try simp only [Act.put, List.setIfInBounds_toArray, List.set_cons_zero, List.set_cons_succ]
    refine wpAnyH_done (by kernel_rfl) ?_ _
    refine NoPanic.normal ?_
    clear hHeld HX0 HX3 HX4 hst
    generalize hw4 : w3.setRow nb c2 = w4 at *
    have HG4 := hide ((HB4.out.block g (lt HG.out)).trans HG.out)
    go_upto_region 4 with fail
    have ddp : (now.depth != now.depth) = false := by simp
    have HX5 : Hid ((fun wx => wx.cell? ⟨nb, 1, none⟩ = some (.int .i64 now.depth) ∧ wx.cell? ⟨g, 3, none⟩ = some (.int .i64 now.depth)) w4.drew) := ⟨by rw [← HDD.out]; exact (cell_blk HY4.out).trans HSV2.out.c1, (cell_blk HG4.out).trans HT.out.n1⟩
    refine wp_region_noPanic ?_
    refine wp_region_held_drew (S := fun wx => wx.cell? ⟨nb, 1, none⟩ = some (.int .i64 now.depth) ∧ wx.cell? ⟨g, 3, none⟩ = some (.int .i64 now.depth)) (by kernel_rfl) HX5.out (fun hHeld => ?_)
    refine wpAnyH_tk 0 20 (v := ?vqb0) ?hyqb0 ?_
    case hyqb0 => intro oi ho; simp only [List.getElem?_toArray, List.getElem?_cons_zero, Option.some.injEq] at ho; subst ho; refine Or.inl ⟨by rfl, ?_⟩; intro wx hSw; (try dsimp only at hSw); go_simp; try rfl
    try simp only [Act.put, List.setIfInBounds_toArray, List.set_cons_zero, List.set_cons_succ]
    refine wpAnyH_tk 1 21 (v := ?vqb1) ?hyqb1 ?_
    case hyqb1 => intro oi ho; simp only [List.getElem?_toArray, List.getElem?_cons_succ, List.getElem?_cons_zero, Option.some.injEq] at ho; subst ho; refine Or.inl ⟨by rfl, ?_⟩; intro wx hSw; (try dsimp only at hSw); go_simp; try rfl
    try simp only [Act.put, List.setIfInBounds_toArray, List.set_cons_zero, List.set_cons_succ]
    refine wpAnyH_tk 2 22 (v := ?vqb2) ?hyqb2 ?_
    case hyqb2 => intro oi ho; simp only [List.getElem?_toArray, List.getElem?_cons_succ, List.getElem?_cons_zero, Option.some.injEq] at ho; subst ho; refine Or.inl ⟨by rfl, ?_⟩; intro wx hSw; (try dsimp only at hSw); go_simp; try rfl
    try simp only [Act.put, List.setIfInBounds_toArray, List.set_cons_zero, List.set_cons_succ]
    refine wpAnyH_tk 3 23 (v := ?vqb3) ?hyqb3 ?_
    case hyqb3 => intro oi ho; simp only [List.getElem?_toArray, List.getElem?_cons_succ, List.getElem?_cons_zero, Option.some.injEq] at ho; subst ho; refine Or.inl ⟨by rfl, ?_⟩; intro wx hSw; (try dsimp only at hSw); go_simp; try rfl
    try simp only [Act.put, List.setIfInBounds_toArray, List.set_cons_zero, List.set_cons_succ]
    refine wpAnyH_tk 4 24 (v := ?vqb4) ?hyqb4 ?_
    case hyqb4 => intro oi ho; simp only [List.getElem?_toArray, List.getElem?_cons_succ, List.getElem?_cons_zero, Option.some.injEq] at ho; subst ho; refine Or.inl ⟨by rfl, ?_⟩; intro wx hSw; (try dsimp only at hSw); go_simp; try rfl
    try simp only [Act.put, List.setIfInBounds_toArray, List.set_cons_zero, List.set_cons_succ]
    refine wpAnyH_tk 5 25 (v := ?vqb5) ?hyqb5 ?_
    case hyqb5 => intro oi ho; simp only [List.getElem?_toArray, List.getElem?_cons_succ, List.getElem?_cons_zero, Option.some.injEq] at ho; subst ho; refine Or.inl ⟨by rfl, ?_⟩; intro wx hSw; (try dsimp only at hSw); go_simp; try rfl
    try simp only [Act.put, List.setIfInBounds_toArray, List.set_cons_zero, List.set_cons_succ]
    refine wpAnyH_tk 6 26 (v := ?vqb6) ?hyqb6 ?_
    case hyqb6 => intro oi ho; simp only [List.getElem?_toArray, List.getElem?_cons_succ, List.getElem?_cons_zero, Option.some.injEq] at ho; subst ho; refine Or.inl ⟨by rfl, ?_⟩; intro wx hSw; (try dsimp only at hSw); go_simp; try rfl
    try simp only [Act.put, List.setIfInBounds_toArray, List.set_cons_zero, List.set_cons_succ]
    refine wpAnyH_tk 7 27 (v := ?vqb7) ?hyqb7 ?_
    case hyqb7 => intro oi ho; simp only [List.getElem?_toArray, List.getElem?_cons_succ, List.getElem?_cons_zero, Option.some.injEq] at ho; subst ho; refine Or.inl ⟨by rfl, ?_⟩; intro wx hSw; (try dsimp only at hSw); go_simp; try rfl
    try simp only [Act.put, List.setIfInBounds_toArray, List.set_cons_zero, List.set_cons_succ]
    refine wpAnyH_tk 8 28 (v := ?vqb8) ?hyqb8 ?_
    case hyqb8 => intro oi ho; simp only [List.getElem?_toArray, List.getElem?_cons_succ, List.getElem?_cons_zero, Option.some.injEq] at ho; subst ho; refine Or.inl ⟨by rfl, ?_⟩; intro wx hSw; (try dsimp only at hSw); go_simp; try rfl
    try simp only [Act.put, List.setIfInBounds_toArray, List.set_cons_zero, List.set_cons_succ]
    refine wpAnyH_tk 9 29 (v := ?vqb9) ?hyqb9 ?_
    case hyqb9 => intro oi ho; simp only [List.getElem?_toArray, List.getElem?_cons_succ, List.getElem?_cons_zero, Option.some.injEq] at ho; subst ho; refine Or.inl ⟨by rfl, ?_⟩; intro wx hSw; (try dsimp only at hSw); go_simp; try rfl
    try simp only [Act.put, List.setIfInBounds_toArray, List.set_cons_zero, List.set_cons_succ]
    refine wpAnyH_tk 10 30 (v := ?vqb10) ?hyqb10 ?_
    case hyqb10 => intro oi ho; simp only [List.getElem?_toArray, List.getElem?_cons_succ, List.getElem?_cons_zero, Option.some.injEq] at ho; subst ho; refine Or.inl ⟨by rfl, ?_⟩; intro wx hSw; (try dsimp only at hSw); go_simp; try rfl
    try simp only [Act.put, List.setIfInBounds_toArray, List.set_cons_zero, List.set_cons_succ]
    refine wpAnyH_tk 11 31 (v := ?vqb11) ?hyqb11 ?_
    case hyqb11 => intro oi ho; simp only [List.getElem?_toArray, List.getElem?_cons_succ, List.getElem?_cons_zero, Option.some.injEq] at ho; subst ho; refine Or.inl ⟨by rfl, ?_⟩; intro wx hSw; (try dsimp only at hSw); go_simp; try rfl
    try simp only [Act.put, List.setIfInBounds_toArray, List.set_cons_zero, List.set_cons_succ]
    refine wpAnyH_done (by kernel_rfl) ?_ _
    refine NoPanic.normal ?_
    clear hHeld
    go_wp2
    go_ret
    exact ⟨rfl, HB4.out.drew⟩
end Go.Proofs.YtnfponcadkmfjabGreat
set_option linter.unusedVariables false
namespace Go.Proofs.YtnfponcadkmfjabGreat
open Go.RowKit
theorem exec_load_row {o : Oper} {a : Act} {w : World} {p : Operand} {t : TypeId} (ho : o.op = .load t p) {ad : Addr} {cs : Array Value} (hp : a.eval p = .pointer (some ad)) (hrun : (loadVar t ad).run Tryz.prog w = .ok (.agg cs) w) : (execOp a.eval o).run Tryz.prog w = .ok (.value (.agg cs)) w := by
  simp [execOp, ho, Instr.loadAt, Instr.sureAddr, hp, hrun, Result.andThen]
theorem zero_tree : Tryz.zeroCells81.size = 139 ∧ Tryz.zeroCells81[136]? = some (.slice none 0 0) ∧ Tryz.zeroCells81[138]? = some (.bool false) := ⟨by kernel_rfl, by kernel_rfl, by kernel_rfl⟩
theorem tv_build {p q : Nat} {c2 : Array Value} {st : StT} {L : Nat} (hc : StV c2 st.root st.depth st.keys st.pgs) : TV ((Array.foldl (fun (cs : Array Value) (x : Value × Nat) => cs.setIfInBounds (69 + x.2) x.1) (Array.foldl (fun (cs : Array Value) (x : Value × Nat) => cs.setIfInBounds (2 + x.2) x.1) ((Tryz.zeroCells81.setIfInBounds 0 (.pointer (some ⟨p, 0, none⟩))).setIfInBounds 1 (.pointer (some ⟨q, 0, none⟩))) c2.zipIdx 0 67) c2.zipIdx 0 67).setIfInBounds 137 (.int .i64 (L : Int))) p q st st (.slice none 0 0) (L : Int) false := by
  obtain ⟨z1, z2, z3⟩ := zero_tree
  have b1 : ((Tryz.zeroCells81.setIfInBounds 0 (.pointer (some ⟨p, 0, none⟩))).setIfInBounds 1 (.pointer (some ⟨q, 0, none⟩))).size = 139 := by rw [Array.size_setIfInBounds, Array.size_setIfInBounds]; exact z1
  obtain ⟨i1, i2⟩ := ins_arr (base := ((Tryz.zeroCells81.setIfInBounds 0 (.pointer (some ⟨p, 0, none⟩))).setIfInBounds 1 (.pointer (some ⟨q, 0, none⟩)))) (vs := c2) (o := 2) (n := 67) hc.sz (by rw [b1]; decide)
  obtain ⟨j1, j2⟩ := ins_arr (base := (Array.foldl (fun (cs : Array Value) (x : Value × Nat) => cs.setIfInBounds (2 + x.2) x.1) ((Tryz.zeroCells81.setIfInBounds 0 (.pointer (some ⟨p, 0, none⟩))).setIfInBounds 1 (.pointer (some ⟨q, 0, none⟩))) c2.zipIdx 0 67)) (vs := c2) (o := 69) (n := 67) hc.sz (by rw [i1, b1]; decide)
  have ne : ∀ i, i ≠ 137 → ((Array.foldl (fun (cs : Array Value) (x : Value × Nat) => cs.setIfInBounds (69 + x.2) x.1) (Array.foldl (fun (cs : Array Value) (x : Value × Nat) => cs.setIfInBounds (2 + x.2) x.1) ((Tryz.zeroCells81.setIfInBounds 0 (.pointer (some ⟨p, 0, none⟩))).setIfInBounds 1 (.pointer (some ⟨q, 0, none⟩))) c2.zipIdx 0 67) c2.zipIdx 0 67).setIfInBounds 137 (.int .i64 (L : Int)))[i]? = (Array.foldl (fun (cs : Array Value) (x : Value × Nat) => cs.setIfInBounds (69 + x.2) x.1) (Array.foldl (fun (cs : Array Value) (x : Value × Nat) => cs.setIfInBounds (2 + x.2) x.1) ((Tryz.zeroCells81.setIfInBounds 0 (.pointer (some ⟨p, 0, none⟩))).setIfInBounds 1 (.pointer (some ⟨q, 0, none⟩))) c2.zipIdx 0 67) c2.zipIdx 0 67)[i]? := fun i hi => Array.getElem?_setIfInBounds_ne (Ne.symm hi)
  have lo : ∀ i, i < 2 → ((Array.foldl (fun (cs : Array Value) (x : Value × Nat) => cs.setIfInBounds (69 + x.2) x.1) (Array.foldl (fun (cs : Array Value) (x : Value × Nat) => cs.setIfInBounds (2 + x.2) x.1) ((Tryz.zeroCells81.setIfInBounds 0 (.pointer (some ⟨p, 0, none⟩))).setIfInBounds 1 (.pointer (some ⟨q, 0, none⟩))) c2.zipIdx 0 67) c2.zipIdx 0 67).setIfInBounds 137 (.int .i64 (L : Int)))[i]? = ((Tryz.zeroCells81.setIfInBounds 0 (.pointer (some ⟨p, 0, none⟩))).setIfInBounds 1 (.pointer (some ⟨q, 0, none⟩)))[i]? := fun i hi => by rw [ne i (by omega), j2 i, if_neg (by omega), i2 i, if_neg (by omega)]
  have m1 : ∀ i, i < 67 → ((Array.foldl (fun (cs : Array Value) (x : Value × Nat) => cs.setIfInBounds (69 + x.2) x.1) (Array.foldl (fun (cs : Array Value) (x : Value × Nat) => cs.setIfInBounds (2 + x.2) x.1) ((Tryz.zeroCells81.setIfInBounds 0 (.pointer (some ⟨p, 0, none⟩))).setIfInBounds 1 (.pointer (some ⟨q, 0, none⟩))) c2.zipIdx 0 67) c2.zipIdx 0 67).setIfInBounds 137 (.int .i64 (L : Int)))[2 + i]? = c2[i]? := fun i hi => by rw [ne (2 + i) (by omega), j2, if_neg (by omega), i2, if_pos (by omega), show 2 + i - 2 = i by omega]
  have m2 : ∀ i, i < 67 → ((Array.foldl (fun (cs : Array Value) (x : Value × Nat) => cs.setIfInBounds (69 + x.2) x.1) (Array.foldl (fun (cs : Array Value) (x : Value × Nat) => cs.setIfInBounds (2 + x.2) x.1) ((Tryz.zeroCells81.setIfInBounds 0 (.pointer (some ⟨p, 0, none⟩))).setIfInBounds 1 (.pointer (some ⟨q, 0, none⟩))) c2.zipIdx 0 67) c2.zipIdx 0 67).setIfInBounds 137 (.int .i64 (L : Int)))[69 + i]? = c2[i]? := fun i hi => by rw [ne (69 + i) (by omega), j2, if_pos (by omega), show 69 + i - 69 = i by omega]
  have hi : ∀ i, 136 ≤ i → i ≠ 137 → ((Array.foldl (fun (cs : Array Value) (x : Value × Nat) => cs.setIfInBounds (69 + x.2) x.1) (Array.foldl (fun (cs : Array Value) (x : Value × Nat) => cs.setIfInBounds (2 + x.2) x.1) ((Tryz.zeroCells81.setIfInBounds 0 (.pointer (some ⟨p, 0, none⟩))).setIfInBounds 1 (.pointer (some ⟨q, 0, none⟩))) c2.zipIdx 0 67) c2.zipIdx 0 67).setIfInBounds 137 (.int .i64 (L : Int)))[i]? = Tryz.zeroCells81[i]? := fun i h1 h2 => by rw [ne i h2, j2 i, if_neg (by omega), i2 i, if_neg (by omega), Array.getElem?_setIfInBounds_ne (by omega), Array.getElem?_setIfInBounds_ne (by omega)]
  refine ⟨by rw [Array.size_setIfInBounds, j1, i1, b1], ?_, ?_, (m1 0 (by omega)).trans hc.c0, (m1 1 (by omega)).trans hc.c1, (m1 2 (by omega)).trans hc.c2, ⟨hc.wd.1, hc.wd.2.1, fun i x hx => ?_⟩, (m2 0 (by omega)).trans hc.c0, (m2 1 (by omega)).trans hc.c1, (m2 2 (by omega)).trans hc.c2, ⟨hc.wd.1, hc.wd.2.1, fun i x hx => ?_⟩, (hi 136 (by omega) (by omega)).trans z2, ?_, (hi 138 (by omega) (by omega)).trans z3⟩
  · rw [lo 0 (by omega), Array.getElem?_setIfInBounds_ne (by omega), Array.getElem?_setIfInBounds_self_of_lt (by rw [z1]; decide)]
  · rw [lo 1 (by omega), Array.getElem?_setIfInBounds_self_of_lt (by rw [Array.size_setIfInBounds, z1]; decide)]
  · have h1 := (List.getElem?_eq_some_iff.1 hx).1
    have h2 := hc.wd.1
    rw [show 5 + i = 2 + (3 + i) by omega, m1 (3 + i) (by omega)]
    exact hc.wd.2.2 i x hx
  · have h1 := (List.getElem?_eq_some_iff.1 hx).1
    have h2 := hc.wd.1
    rw [show 72 + i = 69 + (3 + i) by omega, m2 (3 + i) (by omega)]
    exact hc.wd.2.2 i x hx
  · exact Array.getElem?_setIfInBounds_self_of_lt (by rw [j1, i1, b1]; decide)
set_option maxRecDepth 100000 in
set_option maxHeartbeats 4000000 in
theorem Open_none [Gd] {B p : Nat} {s : DS} {w : World} {num : Nat} (h : DI B p s w) (hB : B ≤ w.heap.size) (hd : s.down = false) (ha : s.after < 1) (hl1 : s.life < 100000) (h3 : 3 ≤ s.n) (h4 : s.n ≤ 4096) (hl : lastH (rdH (pad (s.show 0)) s.n) (rdH (pad (s.show 1)) s.n) = some (num, 0)) (hnum : num ≤ 4611686018427387904) :
    Calls Tryz.prog 27 #[.pointer (some ⟨p, 0, none⟩)] w fun e w' => ∃ q g st0, e = .returned (.tuple #[.pointer (some ⟨g, 0, none⟩), .int .i64 0]) ∧ w.heap.size ≤ g ∧ TM B p q g s ⟨newSt s.n, s.life, num, 0⟩ st0 st0 (.slice none 0 0) (cntF (newSt s.n) : Nat) w' ∧ st0.root = 0 ∧ st0.depth = 0 ∧ st0.keys = 0 ∧ PgS st0.pgs [] ∧ Fp B w w' := by
  have lt : ∀ {k : Nat} {o : Obj} {ww : World}, ww.heap[k]? = some o → k < ww.heap.size := fun e => (Array.getElem?_eq_some_iff.1 e).1
  have HOP := hide (open_ok B p s num 0 w h hB hd h3 hl hnum (by omega))
  have hns0 : (newSt s.n).getD 0 0 = 0 := by rw [newSt_get (by omega)]; rfl
  have hns1 : (newSt s.n).getD 1 0 = 0 := by rw [newSt_get (by omega)]; rfl
  have HTR : Hid (Tr s ⟨newSt s.n, s.life, num, 0⟩ ⟨0, 0, 0, zPs⟩ []) := Or.inl ⟨rfl, rfl, rfl, rfl, pgs_walk List.nodup_nil (fun x hx => by simp at hx)⟩
  have HB := hide hB
  clear h hl
  go_enter Tryz.func27, Tryz.ntmps27
  go_wp2_with fail
  refine HOP.out.mono ?_
  rintro e w1 ⟨q, rfl, hst1, hb1⟩
  have HST1 := hide hst1
  have HB1 := hide hb1
  have HBw1 : Hid (B ≤ w1.heap.size) := Nat.le_trans hB hb1.size
  have HRO := hide (root_any hst1)
  have HLT := hide (looked_any (l := []) (st := ⟨0, 0, 0, zPs⟩) hst1 HBw1.out rfl hd (newSt_len _) hns0 HTR.out (by decide) (by decide))
  clear hst1 hb1 HOP
  go_wp2_with fail
  refine HRO.out.mono ?_
  rintro e w1' ⟨rfl, rfl⟩
  go_wp2_with fail
  refine HLT.out.mono ?_
  rintro e w2 ⟨v2, rfl, ⟨c2, st2, hv2, hsv2, htr2, hr2, hd2⟩, hb2⟩
  subst hv2
  have hst2 : st2.root = 0 ∧ st2.depth = 0 ∧ st2.keys = 0 ∧ PgS st2.pgs [] := by
    rcases htr2 with ⟨a1, a2, a3, _, a5⟩ | ⟨h9, b9, q1, q2, _⟩
    · exact ⟨a1, a2, a3, a5⟩
    · rw [hd2] at q2
      have q2 : (0 : Int) = ((h9 + 1 : Nat) : Int) := q2
      omega
  have HB2 : Hid (Below w.heap.size w w2) := HB1.out.trans (hb2.mono HB1.out.size)
  have HST2 := hide (HST1.out.later hb2)
  have x3 : (w2.alloc (.cells Tryz.zeroCells78 78)).heap[w2.heap.size]? = some (.cells Tryz.zeroCells78 78 (0, 0)) := heap_alloc_new w2 _
  have hst := store_spl (o := 0) x3 (by rw [Nat.zero_add, hsv2.sz, stv_zero.sz]; exact Nat.le_refl _) hsv2.one
  rw [spl_all (by rw [hsv2.sz, stv_zero.sz])] at hst
  have hcz : c2.size = 67 := hsv2.sz
  have HSV2 := hide hsv2
  have HS2 := hide hst2
  have HB3 : Hid (Below w.heap.size w ((w2.alloc (.cells Tryz.zeroCells78 78)).setRow w2.heap.size c2)) := below_setRow (HB2.out.trans ((below_box w2 _).mono HB2.out.size)) HB2.out.size c2
  have HBL3 : Hid (Below w2.heap.size w2 ((w2.alloc (.cells Tryz.zeroCells78 78)).setRow w2.heap.size c2)) := below_setRow (below_box w2 _) (Nat.le_refl _) c2
  have HY3 := hide (setRow_heap _ _ _ c2 _ _ x3)
  clear hsv2 htr2 hr2 hd2 hb2 x3 hst2 HRO HLT
  go_upto_region 7 with fail
  generalize hw3 : ((w2.alloc (.cells Tryz.zeroCells78 78)).setRow w2.heap.size c2) = w3 at *
  have HST3 := hide (HST2.out.later HBL3.out)
  generalize hnb : w2.heap.size = nb at *
  clear hst
  have HNM := hide (numbers_ok (o := 3) HY3.out HSV2.out.wd)
  have HNO : Hid (nums st2.pgs 4096 = []) := by
    show _ = _
    rw [nums, List.filter_eq_nil_iff]
    intro x _
    rw [HS2.out.2.2.2.2.2.2 x]
    simp
  rw [HNO.out] at HNM
  go_wp2_with fail
  refine HNM.out.mono ?_
  rintro e w4 ⟨v4, rfl, ho4, hb4⟩
  have HBw4 : Hid (B ≤ w4.heap.size) := Nat.le_trans (Nat.le_trans hB HB3.out.size) hb4.size
  have HST4 := hide (HST3.out.later hb4)
  obtain ⟨va, vc, hv4⟩ := own_slice ho4
  subst hv4
  have HHO := hide (hold_any (l := []) HST4.out HBw4.out rfl ho4 (by decide) (fun x hx => by simp at hx))
  have HY4 := hide ((hb4.block nb (lt HY3.out)).trans HY3.out)
  have HB4 : Hid (Below w.heap.size w w4) := HB3.out.trans (hb4.mono HB3.out.size)
  clear ho4 hb4 HNM
  simp only [List.length_nil] at *
  go_wp2_with fail
  refine HHO.out.mono ?_
  rintro e w5 ⟨rfl, h1, h2⟩
  have HST5 : Hid (ST B p q s ⟨newSt s.n, s.life, num, 0⟩ w5) := h1
  have HF5 : Hid (Fp B w w5) := (Fp.of HB4.out hB).trans h2
  have HY5 := hide (h2.tree HY4.out (by decide))
  clear h1 h2 HHO
  go_upto_region 8 with fail
  have HX0 : Hid ((fun wx => wx.heap[nb]? = some (.cells c2 78 (0, 0))) w5.drew) := HY5.out
  have HLE := hide (left_any (HST5.out.later (Below.refl _ _).drew))
  have HBw5 : Hid (B ≤ w5.heap.size) := Nat.le_trans hB HF5.out.bel.size
  generalize hL : cntF (newSt s.n) = L at *
  obtain ⟨zt1, zt2, zt3⟩ := zero_tree
  have hb9 : ((Tryz.zeroCells81.setIfInBounds 0 (.pointer (some ⟨p, 0, none⟩))).setIfInBounds 1 (.pointer (some ⟨q, 0, none⟩))).size = 139 := by rw [Array.size_setIfInBounds, Array.size_setIfInBounds]; exact zt1
  have hsz1 : (Array.foldl (fun (cs : Array Value) (x : Value × Nat) => cs.setIfInBounds (2 + x.2) x.1) ((Tryz.zeroCells81.setIfInBounds 0 (.pointer (some ⟨p, 0, none⟩))).setIfInBounds 1 (.pointer (some ⟨q, 0, none⟩))) c2.zipIdx 0 67).size = 139 := (ins_arr (base := ((Tryz.zeroCells81.setIfInBounds 0 (.pointer (some ⟨p, 0, none⟩))).setIfInBounds 1 (.pointer (some ⟨q, 0, none⟩)))) (vs := c2) (o := 2) (n := 67) hcz (by rw [hb9]; decide)).1.trans hb9
  have hsz2 : (Array.foldl (fun (cs : Array Value) (x : Value × Nat) => cs.setIfInBounds (69 + x.2) x.1) (Array.foldl (fun (cs : Array Value) (x : Value × Nat) => cs.setIfInBounds (2 + x.2) x.1) ((Tryz.zeroCells81.setIfInBounds 0 (.pointer (some ⟨p, 0, none⟩))).setIfInBounds 1 (.pointer (some ⟨q, 0, none⟩))) c2.zipIdx 0 67) c2.zipIdx 0 67).size = 139 := (ins_arr (base := (Array.foldl (fun (cs : Array Value) (x : Value × Nat) => cs.setIfInBounds (2 + x.2) x.1) ((Tryz.zeroCells81.setIfInBounds 0 (.pointer (some ⟨p, 0, none⟩))).setIfInBounds 1 (.pointer (some ⟨q, 0, none⟩))) c2.zipIdx 0 67)) (vs := c2) (o := 69) (n := 67) hcz (by rw [hsz1]; decide)).1.trans hsz1
  have HTV : Hid (TV ((Array.foldl (fun (cs : Array Value) (x : Value × Nat) => cs.setIfInBounds (69 + x.2) x.1) (Array.foldl (fun (cs : Array Value) (x : Value × Nat) => cs.setIfInBounds (2 + x.2) x.1) ((Tryz.zeroCells81.setIfInBounds 0 (.pointer (some ⟨p, 0, none⟩))).setIfInBounds 1 (.pointer (some ⟨q, 0, none⟩))) c2.zipIdx 0 67) c2.zipIdx 0 67).setIfInBounds 137 (.int .i64 (L : Int))) p q st2 st2 (.slice none 0 0) (L : Int) false) := tv_build HSV2.out
  have HST2E : Hid (st2 = ⟨0, 0, 0, st2.pgs⟩) := by
    obtain ⟨e1, e2, e3, e4⟩ := HS2.out
    show _ = _
    cases st2
    simp only at e1 e2 e3
    subst e1 e2 e3
    rfl
  clear zt1 zt2 zt3 hb9
  refine wp_region_noPanic ?_
  refine wp_region_held_drew (S := fun wx => wx.heap[nb]? = some (.cells c2 78 (0, 0))) (by kernel_rfl) HX0.out (fun hHeld => ?_)
  refine wpAnyH_tk 0 29 (v := ?va0) ?hya0 ?_
  case hya0 => intro oi ho; simp only [List.getElem?_toArray, List.getElem?_cons_zero, Option.some.injEq] at ho; subst ho; refine Or.inl ⟨by rfl, ?_⟩; intro wx hSw; (try dsimp only at hSw); go_simp; try rfl
  try simp only [Act.put, List.setIfInBounds_toArray, List.set_cons_zero, List.set_cons_succ]
  refine wpAnyH_tk 1 30 (v := ?va1) ?hya1 ?_
  case hya1 => intro oi ho; simp only [List.getElem?_toArray, List.getElem?_cons_succ, List.getElem?_cons_zero, Option.some.injEq] at ho; subst ho; refine Or.inl ⟨by rfl, ?_⟩; intro wx hSw; (try dsimp only at hSw); go_simp; try rfl
  try simp only [Act.put, List.setIfInBounds_toArray, List.set_cons_zero, List.set_cons_succ]
  refine wpAnyH_takeAt (i := 2) (d := 31) (v := .agg c2) (by kernel_rfl) (by kernel_rfl) (by kernel_rfl) (by kernel_rfl) (fun _ _ _ h => h) ?hya2 (by assumption) ?resta2
  case hya2 =>
    intro oi ho
    simp only [List.getElem?_toArray, List.getElem?_cons_succ, List.getElem?_cons_zero, Option.some.injEq] at ho
    subst ho
    refine Or.inl ⟨by rfl, ?_⟩
    intro wx hSw
    exact exec_load_row rfl rfl ((fun (wx : World) (hSw : wx.heap[nb]? = some (.cells c2 78 (0, 0))) => run_loadVar_row (P := Tryz.prog) wx nb 78 78 c2 (0, 0) _ hSw Tryz.underlying78 rfl (by rw [hcz]; exact info_tstate)) wx hSw)
  case resta2 =>
    try simp only [Act.put, List.setIfInBounds_toArray, List.set_cons_zero, List.set_cons_succ]
    refine wpAnyH_takeAt (i := 3) (d := 32) (v := .agg c2) (by kernel_rfl) (by kernel_rfl) (by kernel_rfl) (by kernel_rfl) (fun _ _ _ h => h) ?hya3 (by assumption) ?resta3
    case hya3 =>
      intro oi ho
      simp only [List.getElem?_toArray, List.getElem?_cons_succ, List.getElem?_cons_zero, Option.some.injEq] at ho
      subst ho
      refine Or.inl ⟨by rfl, ?_⟩
      intro wx hSw
      exact exec_load_row rfl rfl ((fun (wx : World) (hSw : wx.heap[nb]? = some (.cells c2 78 (0, 0))) => run_loadVar_row (P := Tryz.prog) wx nb 78 78 c2 (0, 0) _ hSw Tryz.underlying78 rfl (by rw [hcz]; exact info_tstate)) wx hSw)
    case resta3 =>
      try simp only [Act.put, List.setIfInBounds_toArray, List.set_cons_zero, List.set_cons_succ]
      refine wpAnyH_tk 4 33 (v := ?va4) ?hya4 ?_
      case hya4 => intro oi ho; simp only [List.getElem?_toArray, List.getElem?_cons_succ, List.getElem?_cons_zero, Option.some.injEq] at ho; subst ho; refine Or.inl ⟨by rfl, ?_⟩; intro wx hSw; (try dsimp only at hSw); go_simp; try rfl
      try simp only [Act.put, List.setIfInBounds_toArray, List.set_cons_zero, List.set_cons_succ]
      refine wpAnyH_cm 5 ?_; intro o ho K hK; simp only [List.getElem?_toArray, List.getElem?_cons_succ, List.getElem?_cons_zero, Option.some.injEq] at ho; subst ho
      go_simp
      refine HLE.out.mono ?_
      rintro e w6 ⟨rfl, rfl⟩
      refine hK.out _ _ HX0.out (fun hHeld => ?_)
      clear hK K
      try simp only [Act.put, List.setIfInBounds_toArray, List.set_cons_zero, List.set_cons_succ]
      refine wpAnyH_takeAt (i := 6) (d := 35) (v := .agg ((Array.foldl (fun (cs : Array Value) (x : Value × Nat) => cs.setIfInBounds (69 + x.2) x.1) (Array.foldl (fun (cs : Array Value) (x : Value × Nat) => cs.setIfInBounds (2 + x.2) x.1) ((Tryz.zeroCells81.setIfInBounds 0 (.pointer (some ⟨p, 0, none⟩))).setIfInBounds 1 (.pointer (some ⟨q, 0, none⟩))) c2.zipIdx 0 67) c2.zipIdx 0 67).setIfInBounds 137 (.int .i64 (L : Int)))) (by kernel_rfl) (by kernel_rfl) (by kernel_rfl) (by kernel_rfl) (fun _ _ _ h => h) ?hya6 (by assumption) ?resta6
      case hya6 =>
        intro oi ho
        simp only [List.getElem?_toArray, List.getElem?_cons_succ, List.getElem?_cons_zero, Option.some.injEq] at ho
        subst ho
        refine Or.inl ⟨by rfl, ?_⟩
        intro wx hSw
        try dsimp only at hSw
        go_simp
        try rfl
      try simp only [Act.put, List.setIfInBounds_toArray, List.set_cons_zero, List.set_cons_succ]
      generalize ((Array.foldl (fun (cs : Array Value) (x : Value × Nat) => cs.setIfInBounds (69 + x.2) x.1) (Array.foldl (fun (cs : Array Value) (x : Value × Nat) => cs.setIfInBounds (2 + x.2) x.1) ((Tryz.zeroCells81.setIfInBounds 0 (.pointer (some ⟨p, 0, none⟩))).setIfInBounds 1 (.pointer (some ⟨q, 0, none⟩))) c2.zipIdx 0 67) c2.zipIdx 0 67).setIfInBounds 137 (.int .i64 (L : Int))) = bg at *
      clear hsz1 hsz2
      have HB7 : Hid (Below w5.heap.size w5 (w5.alloc (.cells bg 81)).drew) := (below_box w5 _).drew
      have HN7 : Hid ((w5.alloc (.cells bg 81)).drew.heap[w5.heap.size]? = some (.cells bg 81 (0, 0))) := heap_alloc_new w5 _
      have HX7 : Hid ((fun wx => wx.heap[nb]? = some (.cells c2 78 (0, 0))) (w5.alloc (.cells bg 81)).drew) := (HB7.out.block nb (lt HY5.out)).trans HY5.out
      refine wpAnyH_cm 7 ?_; intro o ho K hK; simp only [List.getElem?_toArray, List.getElem?_cons_succ, List.getElem?_cons_zero, Option.some.injEq] at ho; subst ho
      go_simp
      clear hHeld
      refine hK.out _ _ HX7.out (fun hHeld => ?_)
      clear hK K
      try simp only [Act.put, List.setIfInBounds_toArray, List.set_cons_zero, List.set_cons_succ]
      refine wpAnyH_tk 8 2 (v := ?va8) ?hya8 ?_
      case hya8 => intro oi ho; simp only [List.getElem?_toArray, List.getElem?_cons_succ, List.getElem?_cons_zero, Option.some.injEq] at ho; subst ho; refine Or.inl ⟨by rfl, ?_⟩; intro wx hSw; (try dsimp only at hSw); go_simp; try rfl
      try simp only [Act.put, List.setIfInBounds_toArray, List.set_cons_zero, List.set_cons_succ]
      refine wpAnyH_tk 9 3 (v := ?va9) ?hya9 ?_
      case hya9 => intro oi ho; simp only [List.getElem?_toArray, List.getElem?_cons_succ, List.getElem?_cons_zero, Option.some.injEq] at ho; subst ho; refine Or.inl ⟨by rfl, ?_⟩; intro wx hSw; (try dsimp only at hSw); go_simp; try rfl
      try simp only [Act.put, List.setIfInBounds_toArray, List.set_cons_zero, List.set_cons_succ]
      refine wpAnyH_done (by kernel_rfl) ?_ _
      refine NoPanic.normal ?_
      clear hHeld HX0 HX7
      go_wp2
      go_ret2
      refine ⟨q, w5.heap.size, st2, rfl, HF5.out.bel.size, ⟨HST5.out.later HB7.out, Nat.le_trans HBw5.out HB7.out.size, HBw5.out, ⟨bg, HN7.out, by rw [← hL] at HTV; exact HTV.out⟩, rfl, hd, ha, hl1, newSt_len _, ⟨hns0, hns1⟩⟩, HS2.out.1, HS2.out.2.1, HS2.out.2.2.1, HS2.out.2.2.2, HF5.out.trans (Fp.of HB7.out HBw5.out)⟩
end Go.Proofs.YtnfponcadkmfjabGreat
set_option linter.unusedVariables false
namespace Go.Proofs.YtnfponcadkmfjabGreat
open Go.RowKit
set_option maxRecDepth 100000 in
theorem Len_any [Gd] {B p q g : Nat} {s : DS} {t : PS} {w : World} {now last : StT} {sv : Value} {left : Int} (hM : TM B p q g s t now last sv left w) :
    Calls Tryz.prog 17 #[.pointer (some ⟨g, 0, none⟩)] w fun e w' => e = .returned (.int .i64 now.keys) ∧ w' = w := by
  obtain ⟨cs, hg, hT⟩ := hM.tv
  have r4 : w.cell? ⟨g, 4, none⟩ = some (.int .i64 now.keys) := (cell_blk hg).trans hT.n2
  clear hM hg hT
  go_enter Tryz.func17, Tryz.ntmps17
  go_wp2
  go_ret
  exact ⟨rfl, rfl⟩
set_option maxRecDepth 100000 in
theorem Number_any [Gd] {B p q g : Nat} {s : DS} {t : PS} {w : World} {now last : StT} {sv : Value} {left : Int} (hM : TM B p q g s t now last sv left w) :
    Calls Tryz.prog 22 #[.pointer (some ⟨g, 0, none⟩)] w fun e w' => e = .returned (.int .i64 (t.num : Int)) ∧ w' = w := by
  obtain ⟨cs, hg, hT⟩ := hM.tv
  have r1 : w.cell? ⟨g, 1, none⟩ = some (.pointer (some ⟨q, 0, none⟩)) := (cell_blk hg).trans hT.c1
  have HN := hide (number_any hM.st)
  clear hM hg hT
  go_enter Tryz.func22, Tryz.ntmps22
  go_wp2_with fail
  refine HN.out.mono ?_
  rintro e w1 ⟨rfl, rfl⟩
  go_wp2
  go_ret
  exact ⟨rfl, rfl⟩
set_option maxRecDepth 100000 in
set_option maxHeartbeats 2000000 in
theorem Put_arg [Gd] {B p q g : Nat} {s : DS} {t : PS} {w : World} {now last : StT} {sv : Value} {left : Int} (hM : TM B p q g s t now last sv left w) (a va : Option Addr) (n c vn vc : Nat) (h0 : n = 0 ∨ 64 < n) :
    Calls Tryz.prog 8 #[.pointer (some ⟨g, 0, none⟩), .slice a n c, .slice va vn vc] w fun e w' => e = .returned (.int .i64 (if n = 0 then 1 else 3)) ∧ Below w.heap.size w w' := by
  have HBX := hide (allocs_below [Obj.cells #[.slice a n c] 23, Obj.cells #[.slice va vn vc] 23] w)
  have HX0 : Hid (((w.alloc (.cells #[.slice a n c] 23)).alloc (.cells #[.slice va vn vc] 23)).heap[w.heap.size]? = some (.cells #[.slice a n c] 23 (0, 0))) := allocs_get [Obj.cells #[.slice a n c] 23, Obj.cells #[.slice va vn vc] 23] w 0 _ rfl
  have HB1 : Hid (Below w.heap.size w ((w.alloc (.cells #[.slice a n c] 23)).alloc (.cells #[.slice va vn vc] 23))) := HBX.out.1
  have c0 : ((w.alloc (.cells #[.slice a n c] 23)).alloc (.cells #[.slice va vn vc] 23)).cell? ⟨w.heap.size, 0, none⟩ = some (.slice a n c) := cell_blk HX0.out
  have HRF : Hid (Calls Tryz.prog 28 #[.pointer (some ⟨g, 0, none⟩), .slice a n c] ((w.alloc (.cells #[.slice a n c] 23)).alloc (.cells #[.slice va vn vc] 23)) fun e w' => e = .returned (.int .i64 (if n = 0 then 1 else 3)) ∧ Below w.heap.size w w') := by
    have h1 := hM.later HB1.out
    obtain ⟨cs, hg, hT⟩ := h1.tv
    refine (refusal_any h1.st hM.lf hg hT a n c).mono ?_
    rintro e w' ⟨rfl, hb⟩
    refine ⟨?_, HB1.out.trans (hb.mono HB1.out.size)⟩
    by_cases e : n = 0
    · rw [if_pos e, if_pos e]
    · rw [if_neg e, if_neg e, if_pos (by omega)]
  have hne : ¬ (if n = 0 then (1 : Int) else 3) = 0 := by split <;> decide
  have dne : ((if n = 0 then (1 : Int) else 3) != 0) = true := by split <;> rfl
  clear hM h0 HBX
  generalize (if n = 0 then (1 : Int) else 3) = r at *
  go_enter Tryz.func8, Tryz.ntmps8
  go_wp2_with fail
  refine HRF.out.mono ?_
  rintro e w1 ⟨rfl, hb⟩
  have HB := hide hb
  clear hb
  go_wp2
  go_ret
  exact ⟨rfl, HB.out⟩
theorem cnt_mono : ∀ (a b : List Nat), a.length = b.length → (∀ i : Nat, a[i]? = some 1 → b[i]? = some 1) → a.count 1 ≤ b.count 1
  | [], [], _, _ => Nat.le_refl _
  | [], _ :: _, h, _ => by simp at h
  | _ :: _, [], h, _ => by simp at h
  | x :: a, y :: b, h, hh => by
    have ih := cnt_mono a b (by simpa using h) fun i hi => by simpa using hh (i + 1) (by simpa using hi)
    by_cases c : x = 1
    · subst c
      have : y = 1 := by simpa using hh 0 rfl
      subst this
      simp only [List.count_cons_self]
      omega
    · rw [List.count_cons_of_ne (fun q => c q)]
      exact Nat.le_trans ih (List.count_le_count_cons)
theorem getD_some {st : List Nat} {i x : Nat} (h : st[i]? = some x) : st.getD i 0 = x := by rw [List.getD_eq_getElem?_getD, h]; rfl
theorem some_getD {st : List Nat} {i : Nat} (h : i < st.length) : st[i]? = some (st.getD i 0) := by rw [List.getD_eq_getElem?_getD, List.getElem?_eq_getElem h]; rfl
theorem Cmt.cnt {s s' : DS} {t t' : PS} {nd : List Nat} {root : Nat} (h : Cmt s t nd root s' t') : cntF t.st ≤ cntF t'.st := by
  refine cnt_mono _ _ h.len.symm fun i hi => ?_
  have hl := (List.getElem?_eq_some_iff.1 hi).1
  have hg := getD_some hi
  rw [some_getD (by rw [h.len]; exact hl), h.st i hl, hg]
  simp
theorem newSt_cnt (n : Nat) (h : 2 ≤ n) : cntF (newSt n) = n - 2 := by
  unfold cntF newSt
  have key : ∀ k, ((List.range k).map fun i => if i < 2 then 0 else 1).count 1 = k - 2 := by
    intro k
    induction k with
    | zero => rfl
    | succ k ih =>
      rw [List.range_succ, List.map_append, List.count_append, ih]
      by_cases c : k < 2
      · simp [c]; omega
      · simp [c]; omega
  exact key n
theorem Tr.one {s : DS} {t : PS} {st : StT} {l : List It} (h : Tr s t st l) (hl : l.length ≤ 4) : st.depth ≤ 1 := by
  rcases h with ⟨_, r2, _, _, _⟩ | ⟨h, b, e1, e2, e3, e4, e5, e6, e7, e8, e9⟩
  · omega
  · have := deepR e7 e8
    rw [e4] at this
    have h0 : h = 0 := by
      apply Classical.byContradiction
      intro q
      have h4 : 3 ^ 1 ≤ 3 ^ h := Nat.pow_le_pow_right (by omega) (by omega)
      omega
    omega
theorem Tr.pg {s : DS} {t : PS} {st : StT} {l : List It} (h : Tr s t st l) (hd : t.st.getD 0 0 = 0 ∧ t.st.getD 1 0 = 0) : st.pgs.length = 64 ∧ ∀ i, hsP st.pgs i = true → 2 ≤ i ∧ i < s.n := by
  rcases h with ⟨_, _, _, _, r5⟩ | ⟨h, b, e1, e2, e3, e4, e5, e6, e7, e8, e9⟩
  · refine ⟨r5.1, fun i hi => ?_⟩
    rw [r5.2.2.2 i] at hi
    simp at hi
  · refine ⟨e9.1, fun i hi => ?_⟩
    rw [e9.2.2.2 i] at hi
    simp only [decide_eq_true_eq] at hi
    have h2 := e6.held i hi
    refine ⟨?_, h2.2⟩
    apply Classical.byContradiction
    intro q
    rcases (by omega : i = 0 ∨ i = 1) with e | e
    · rw [e, hd.1] at h2; exact absurd h2.1 (by decide)
    · rw [e, hd.2] at h2; exact absurd h2.1 (by decide)
theorem Tr.root {s : DS} {t : PS} {st : StT} {l : List It} (h : Tr s t st l) (hd : t.st.getD 0 0 = 0 ∧ t.st.getD 1 0 = 0) : ∃ R : Nat, st.root = (R : Int) ∧ R ≠ 1 ∧ R < max 1 s.n := by
  rcases h with ⟨r1, _⟩ | ⟨h, b, e1, e2, e3, e4, e5, e6, e7, e8, e9⟩
  · exact ⟨0, r1, by omega, by omega⟩
  · have h2 := e6.held _ (id_mem b)
    refine ⟨BT.id b, e1, fun q => ?_, by omega⟩
    rw [q, hd.2] at h2
    exact absurd h2.1 (by decide)
theorem Gw.show01 {s s' : DS} {t t' : PS} {L : List Nat} (g : Gw s t s' t' L) (hd : t.st.getD 0 0 = 0 ∧ t.st.getD 1 0 = 0) : s'.show 0 = s.show 0 ∧ s'.show 1 = s.show 1 :=
  ⟨g.sh 0 fun q => by have := (g.new 0 q).1; omega, g.sh 1 fun q => by have := (g.new 1 q).1; omega⟩
end Go.Proofs.YtnfponcadkmfjabGreat
