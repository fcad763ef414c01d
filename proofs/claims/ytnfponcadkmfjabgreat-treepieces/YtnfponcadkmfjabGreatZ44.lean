import Derived.Test.YtnfponcadkmfjabGreatZ43
set_option linter.unusedVariables false
namespace Go.Proofs.YtnfponcadkmfjabGreat
open Go.RowKit
theorem Ex.ftE {B g : Nat} {w w' : World} {cs : Array Value} (f : Ex B [g] w w') (hg : w.heap[g]? = some (.cells cs 28 (0, 0))) : FT B w w' := ⟨f.1, fun k cs' fz e => f.keepX hg e (by decide)⟩
theorem PRW.exE {B B1 b0 : Nat} {w w' : World} {v : Value} {F : List It} {cs : Array Value} (h : PRW B B1 w v F) (f : Ex B [b0] w w') (hg : w.heap[b0]? = some (.cells cs 28 (0, 0))) : PRW B B1 w' v F :=
  h.stay (f.ftE hg) fun k cs' _ e => f.keepX hg e (by decide)
theorem SpV.exE {B B1 r b0 : Nat} {w w' : World} {lv hv : Value} {lo hi : List Nat} {most : Nat} {F : List It} {cs : Array Value} (h : SpV B B1 w r lv hv lo hi most F) (f : Ex B [b0] w w') (hg : w.heap[b0]? = some (.cells cs 28 (0, 0))) : SpV B B1 w' r lv hv lo hi most F := by
  obtain ⟨fv, h1, h2⟩ := h.hx
  exact ⟨h.hr, h.klo.ft (f.ftE hg), h.khi.ft (f.ftE hg), fv, f.keepX hg h1 (by decide), h2.exE f hg⟩
theorem cmpB_le_trans {a b c : List Nat} (h1 : 0 ≤ cmpB a b) (h2 : 0 ≤ cmpB b c) : 0 ≤ cmpB a c := by
  apply Classical.byContradiction
  intro q9
  have h3 : cmpB a c < 0 := by omega
  by_cases h4 : cmpB b c = 0
  · have := cmpB_eq h4
    subst this
    omega
  · have h5 : cmpB c b < 0 := by rw [cmpB_neg]; omega
    have := cmpB_trans h3 h5
    omega
theorem scan_none {hi lo : List Nat} {most : Nat} (l : List It) (h : endB hi lo = true) : (scan hi most [] (frm l lo)).1 = [] := by
  cases hf : frm l lo with
  | nil => rfl
  | cons x r =>
    have hx : x ∈ frm l lo := by rw [hf]; exact List.mem_cons_self
    have hx2 : 0 ≤ cmpB x.1 lo := by
      have := (List.mem_filter.1 hx).2
      simpa using this
    simp only [endB, Bool.and_eq_true, decide_eq_true_eq] at h
    have he : endB hi x.1 = true := by
      simp only [endB, Bool.and_eq_true, decide_eq_true_eq]
      exact ⟨h.1, cmpB_le_trans hx2 h.2⟩
    simp [scan, he]
def rngL (l : List It) (lo hi : List Nat) (most : Nat) : List It := (scan hi most [] (frm l lo)).1
set_option maxRecDepth 100000 in
set_option maxHeartbeats 4000000 in
theorem pairsC_ok [Gd] {B p q g r n0 gs so h : Nat} {s : DS} {t : PS} {w0 w : World} {now last : StT} {sv : Value} {left : Int} {lv hv : Value} {lo hi : List Nat} {most : Nat} (hM : TM B p q g s t now last sv left w0) (hb : Below w0.heap.size w0 w) (b : BT h) (hon : OnD s t h b) (hsr : Srt (flB h b)) (hh : h < 100000) (hsp : SpV B w0.heap.size w r lv hv lo hi most []) (hm0 : 0 < most) (hmo : most < 100000) (hgs : LkB w0 gs) (hr0 : w0.cell? ⟨gs, so, none⟩ = some (.int .i64 (BT.id b : Int))) (hd0 : w0.cell? ⟨gs, so + 1, none⟩ = some (.int .i64 ((h : Int) + 1)))
    (x0 : w.heap[n0]? = some (.cells #[.pointer (some ⟨g, 0, none⟩)] 25 (0, 0))) (x1 : w.heap[n0 + 1]? = some (.cells #[.pointer (some ⟨gs, so, none⟩)] 73 (0, 0))) (x2 : w.heap[n0 + 2]? = some (.cells #[.pointer (some ⟨r, 0, none⟩)] 82 (0, 0))) :
    Calls Tryz.prog 53 #[.func (Fn.func 61) #[] #[.pointer (some ⟨n0 + 2, 0, none⟩), .pointer (some ⟨n0, 0, none⟩), .pointer (some ⟨n0 + 1, 0, none⟩)]] w fun e w' => e = .returned (.int .i64 0) ∧ SpV B w0.heap.size w' r lv hv lo hi most (scan hi most [] (frm (flB h b) lo)).1 ∧ LkF w0.heap.size w w' := by
  have b3 := below_box w (.cells #[.int .i64 0] 28)
  have x3 : (w.alloc (.cells #[.int .i64 0] 28)).heap[w.heap.size]? = some (.cells #[.int .i64 0] 28 (0, 0)) := heap_alloc_new w _
  have hbx : w0.heap.size ≤ w.heap.size := hb.size
  have hBw : B ≤ w.heap.size := Nat.le_trans hM.bw hbx
  have b4 := hb.trans (b3.mono hbx)
  generalize hw1 : (w.alloc (.cells #[.int .i64 0] 28)) = w1 at *
  obtain ⟨cs, hg, hT⟩ := hM.tv
  have lt : ∀ {k : Nat} {o : Obj} {ww : World}, ww.heap[k]? = some o → k < ww.heap.size := fun e => (Array.getElem?_eq_some_iff.1 e).1
  have y0 := (b3.block _ (lt x0)).trans x0
  have y1 := (b3.block _ (lt x1)).trans x1
  have y2 := (b3.block _ (lt x2)).trans x2
  have yg := (b4.block _ (lt hg)).trans hg
  obtain ⟨cs2, t2, fz2, hgs1, hgs2, hgs3⟩ := hgs
  have ygs := (b4.block _ (lt hgs1)).trans hgs1
  have hC := pairs1_ok (w := w1) (w0 := w0) hM.st hM.bw hM.lf hM.dn b4 b hon hsr hh (hsp.later b3 hBw) hm0 hmo (cell_blk y2) (cell_blk y0) ((cell_blk yg).trans hT.c1) (cell_blk y1) ((b4.cell (p := ⟨gs, so, none⟩) (lt hgs1)).trans hr0) ((b4.cell (p := ⟨gs, so + 1, none⟩) (lt hgs1)).trans hd0) ⟨_, _, _, y2, by decide, by decide⟩ ⟨_, _, _, y0, by decide, by decide⟩ ⟨_, _, _, yg, by decide, by decide⟩ ⟨_, _, _, y1, by decide, by decide⟩ ⟨_, _, _, ygs, hgs2, hgs3⟩
  subst hw1
  refine (caught_ret (w := w) (P := fun r' ww => r' = 0 ∧ SpV B w0.heap.size ww r lv hv lo hi most (scan hi most [] (frm (flB h b) lo)).1 ∧ LkF w0.heap.size (w.alloc (.cells #[.int .i64 0] 28)) ww) (fun ww => by rfl) (hC.mono ?_)).mono ?_
  · rintro e9 w9 ⟨rfl, h1, h2⟩
    exact ⟨0, rfl, ⟨rfl, h1, h2⟩, h2.2 _ _ _ _ x3 (by decide) (by decide)⟩
  · rintro e9 w9 ⟨r', w8, rfl, ⟨rfl, h1, h2⟩, rfl⟩
    have x9 := h2.2 _ _ _ _ x3 (by decide) (by decide)
    have hex : Ex B [w.heap.size] w8 (w8.setCell ⟨w.heap.size, 0, none⟩ (.int .i64 0)) := Ex.set hBw
    refine ⟨rfl, h1.exE hex x9, ?_, fun k cs0 t0 fz m1 m2 m3 => ?_⟩
    · exact (b3.mono hbx).trans (h2.1.trans ((Below.refl _ w8).setCell (p := ⟨w.heap.size, 0, none⟩) hbx _))
    · have m4 := h2.2 k cs0 t0 fz ((b3.block k (lt m1)).trans m1) m2 m3
      have hkl := lt m1
      rw [hex.2 k (lt m4) (by simp; omega), m4]
set_option maxRecDepth 100000 in
set_option maxHeartbeats 4000000 in
theorem pairs_any [Gd] {B p q g r gs so : Nat} {s : DS} {t : PS} {w0 w : World} {now last st : StT} {sv : Value} {left : Int} {lv hv : Value} {lo hi : List Nat} {most : Nat} {l : List It} (hM : TM B p q g s t now last sv left w0) (hb : Below w0.heap.size w0 w) (hTr : Tr s t st l) (hdp : st.depth < 100000) (hlo : lo.length ≤ 64) (hhi : hi.length ≤ 64) (hsp : SpV B w0.heap.size w r lv hv lo hi most []) (hm0 : 0 < most) (hmo : most < 100000) (hgs : LkB w0 gs) (hr0 : w0.cell? ⟨gs, so, none⟩ = some (.int .i64 st.root)) (hd0 : w0.cell? ⟨gs, so + 1, none⟩ = some (.int .i64 st.depth)) :
    Calls Tryz.prog 32 #[.pointer (some ⟨g, 0, none⟩), .pointer (some ⟨gs, so, none⟩), .pointer (some ⟨r, 0, none⟩)] w fun e w' => ∃ fv, e = .returned (.tuple #[fv, .int .i64 0]) ∧ PRW B w0.heap.size w' fv (rngL l lo hi most) ∧ LkF w0.heap.size w w' := by
  have hmf : ∀ (fn : Fn) (first cap : Array Value) (w : World), (Instr.makeFunc fn first cap).run Tryz.prog w = .ok (.func fn first cap) w := fun _ _ _ _ => rfl
  have hbs := hb.size
  have hBw : B ≤ w.heap.size := Nat.le_trans hM.bw hbs
  have lt : ∀ {k : Nat} {o : Obj} {ww : World}, ww.heap[k]? = some o → k < ww.heap.size := fun e => (Array.getElem?_eq_some_iff.1 e).1
  have HB1 : Hid (Below w.heap.size w (((w.alloc (.cells #[.pointer (some ⟨g, 0, none⟩)] 25)).alloc (.cells #[.pointer (some ⟨gs, so, none⟩)] 73)).alloc (.cells #[.pointer (some ⟨r, 0, none⟩)] 82))) := by
    have a1 := below_box w (.cells #[.pointer (some ⟨g, 0, none⟩)] 25)
    have a2 := below_box (w.alloc (.cells #[.pointer (some ⟨g, 0, none⟩)] 25)) (.cells #[.pointer (some ⟨gs, so, none⟩)] 73)
    have a3 := below_box ((w.alloc (.cells #[.pointer (some ⟨g, 0, none⟩)] 25)).alloc (.cells #[.pointer (some ⟨gs, so, none⟩)] 73)) (.cells #[.pointer (some ⟨r, 0, none⟩)] 82)
    exact (a1.trans (a2.mono a1.size)).trans (a3.mono (Nat.le_trans a1.size a2.size))
  have e1 : (w.alloc (.cells #[.pointer (some ⟨g, 0, none⟩)] 25)).heap.size = w.heap.size + 1 := Array.size_push _
  have e2 : ((w.alloc (.cells #[.pointer (some ⟨g, 0, none⟩)] 25)).alloc (.cells #[.pointer (some ⟨gs, so, none⟩)] 73)).heap.size = w.heap.size + 2 := (Array.size_push _).trans (by rw [e1])
  have HX : Hid ((((w.alloc (.cells #[.pointer (some ⟨g, 0, none⟩)] 25)).alloc (.cells #[.pointer (some ⟨gs, so, none⟩)] 73)).alloc (.cells #[.pointer (some ⟨r, 0, none⟩)] 82)).heap[w.heap.size]? = some (.cells #[.pointer (some ⟨g, 0, none⟩)] 25 (0, 0)) ∧ (((w.alloc (.cells #[.pointer (some ⟨g, 0, none⟩)] 25)).alloc (.cells #[.pointer (some ⟨gs, so, none⟩)] 73)).alloc (.cells #[.pointer (some ⟨r, 0, none⟩)] 82)).heap[w.heap.size + 1]? = some (.cells #[.pointer (some ⟨gs, so, none⟩)] 73 (0, 0)) ∧ (((w.alloc (.cells #[.pointer (some ⟨g, 0, none⟩)] 25)).alloc (.cells #[.pointer (some ⟨gs, so, none⟩)] 73)).alloc (.cells #[.pointer (some ⟨r, 0, none⟩)] 82)).heap[w.heap.size + 2]? = some (.cells #[.pointer (some ⟨r, 0, none⟩)] 82 (0, 0))) := by
    have a2 := below_box (w.alloc (.cells #[.pointer (some ⟨g, 0, none⟩)] 25)) (.cells #[.pointer (some ⟨gs, so, none⟩)] 73)
    have a3 := below_box ((w.alloc (.cells #[.pointer (some ⟨g, 0, none⟩)] 25)).alloc (.cells #[.pointer (some ⟨gs, so, none⟩)] 73)) (.cells #[.pointer (some ⟨r, 0, none⟩)] 82)
    have x0 : (w.alloc (.cells #[.pointer (some ⟨g, 0, none⟩)] 25)).heap[w.heap.size]? = _ := heap_alloc_new w _
    have x1 : ((w.alloc (.cells #[.pointer (some ⟨g, 0, none⟩)] 25)).alloc (.cells #[.pointer (some ⟨gs, so, none⟩)] 73)).heap[(w.alloc (.cells #[.pointer (some ⟨g, 0, none⟩)] 25)).heap.size]? = _ := heap_alloc_new _ _
    have x2 : (((w.alloc (.cells #[.pointer (some ⟨g, 0, none⟩)] 25)).alloc (.cells #[.pointer (some ⟨gs, so, none⟩)] 73)).alloc (.cells #[.pointer (some ⟨r, 0, none⟩)] 82)).heap[((w.alloc (.cells #[.pointer (some ⟨g, 0, none⟩)] 25)).alloc (.cells #[.pointer (some ⟨gs, so, none⟩)] 73)).heap.size]? = _ := heap_alloc_new _ _
    rw [e1] at x1
    rw [e2] at x2
    refine ⟨?_, ?_, x2⟩
    · rw [a3.block _ (by omega), a2.block _ (by omega), x0]
    · rw [a3.block _ (by omega), x1]
  have HM := hide hM
  have HTR := hide hTr
  have HB0 := hide hb
  have HSP := hide hsp
  have HGS := hide hgs
  have HR0 := hide hr0
  have HD0 := hide hd0
  have HDP := hide hdp
  obtain ⟨la, lc, hlv, hlb⟩ := hsp.klo
  obtain ⟨ha, hc, hhv, hhb⟩ := hsp.khi
  subst hlv hhv
  have HLB := hide hlb
  have c0 : (((w.alloc (.cells #[.pointer (some ⟨g, 0, none⟩)] 25)).alloc (.cells #[.pointer (some ⟨gs, so, none⟩)] 73)).alloc (.cells #[.pointer (some ⟨r, 0, none⟩)] 82)).cell? ⟨w.heap.size, 0, none⟩ = some (.pointer (some ⟨g, 0, none⟩)) := cell_blk HX.out.1
  clear hM hTr hb hsp hgs hr0 hd0 hdp hlb hhb e1 e2
  have xl : ¬ (64 : Int) < (lo.length : Int) := by omega
  have xh : ¬ (64 : Int) < (hi.length : Int) := by omega
  have dl : decide ((64 : Int) < (lo.length : Int)) = false := by simp; omega
  have xm : ¬ (most : Int) < 0 := by omega
  have xm2 : ¬ (most : Int) = 0 := by omega
  have dm2 : ((most : Int) == 0) = false := by simp; omega
  generalize hln : lo.length = ln at *
  generalize hhn : hi.length = hn at *
  generalize hn0 : w.heap.size = n0 at *
  generalize hW1 : (((w.alloc (.cells #[.pointer (some ⟨g, 0, none⟩)] 25)).alloc (.cells #[.pointer (some ⟨gs, so, none⟩)] 73)).alloc (.cells #[.pointer (some ⟨r, 0, none⟩)] 82)) = w1 at *
  have HDD : Hid (Calls Tryz.prog 34 #[.pointer (some ⟨g, 0, none⟩)] w1 fun e w' => e = .returned (.bool false) ∧ Below w1.heap.size w1 w') := by
    have h1 := (HM.out.later (HB0.out.trans (HB1.out.mono hbs)))
    obtain ⟨cs, hg, hT⟩ := h1.tv
    exact tdead_no h1.st HM.out.lf hg hT
  go_enter Tryz.func32, Tryz.ntmps32
  go_upto_region 1 with fail
  go_wp2_with fail
  refine HDD.out.mono ?_
  rintro e w2 ⟨rfl, hb2⟩
  have HB2 : Hid (Below n0 w w2) := HB1.out.trans (hb2.mono (by have := HB1.out.size; omega))
  have HY : Hid (w2.heap[n0]? = some (.cells #[.pointer (some ⟨g, 0, none⟩)] 25 (0, 0)) ∧ w2.heap[n0 + 1]? = some (.cells #[.pointer (some ⟨gs, so, none⟩)] 73 (0, 0)) ∧ w2.heap[n0 + 2]? = some (.cells #[.pointer (some ⟨r, 0, none⟩)] 82 (0, 0))) := ⟨(hb2.block _ (lt HX.out.1)).trans HX.out.1, (hb2.block _ (lt HX.out.2.1)).trans HX.out.2.1, (hb2.block _ (lt HX.out.2.2)).trans HX.out.2.2⟩
  have HSP2 : Hid (SpV B w0.heap.size w2 r (.slice la ln lc) (.slice ha hn hc) lo hi most []) := HSP.out.later (by rw [hn0]; exact HB2.out) (by rw [hn0]; exact hBw)
  have HB02 : Hid (Below w0.heap.size w0 w2) := HB0.out.trans (HB2.out.mono hbs)
  have HR2 : Hid (w2.cell? ⟨gs, so, none⟩ = some (.int .i64 st.root)) := by
    obtain ⟨cs2, t2, fz2, k1, k2, k3⟩ := HGS.out
    exact (HB02.out.cell (p := ⟨gs, so, none⟩) (lt k1)).trans HR0.out
  have b0 : w2.cell? ⟨n0, 0, none⟩ = some (.pointer (some ⟨g, 0, none⟩)) := cell_blk HY.out.1
  have b1 : w2.cell? ⟨n0 + 1, 0, none⟩ = some (.pointer (some ⟨gs, so, none⟩)) := cell_blk HY.out.2.1
  have b2 : w2.cell? ⟨n0 + 2, 0, none⟩ = some (.pointer (some ⟨r, 0, none⟩)) := cell_blk HY.out.2.2
  have s0 : w2.cell? ⟨r, 0, none⟩ = some (.slice la ln lc) := HSP2.out.cellsx.1
  have s1 : w2.cell? ⟨r, 1, none⟩ = some (.slice ha hn hc) := HSP2.out.cellsx.2.1
  have s2 : w2.cell? ⟨r, 2, none⟩ = some (.int .i64 (most : Int)) := HSP2.out.cellsx.2.2
  have HLB2 : Hid (BK B w2 la ln lc lo) := HLB.out.later (by rw [hn0]; exact HB2.out) (by rw [hn0]; exact hBw)
  have HBW2 : Hid (B ≤ w2.heap.size) := by
    have h1 := HB2.out.size
    show B ≤ w2.heap.size
    omega
  clear hb2 c0 HDD HX HB1
  go_upto_region 7 with fail
  generalize hrt : st.root = root at *
  have HX0 : Hid ((fun wx => wx.cell? ⟨n0 + 2, 0, none⟩ = some (.pointer (some ⟨r, 0, none⟩)) ∧ wx.cell? ⟨r, 2, none⟩ = some (.int .i64 (most : Int)) ∧ wx.cell? ⟨r, 0, none⟩ = some (.slice la ln lc) ∧ wx.cell? ⟨n0 + 1, 0, none⟩ = some (.pointer (some ⟨gs, so, none⟩)) ∧ wx.cell? ⟨gs, so, none⟩ = some (.int .i64 root)) w2.drew) := ⟨b2, s2, s0, b1, HR2.out⟩
  have HEN := hide (ends_any (HSP2.out.later (Below.refl _ _).drew HBW2.out) (HLB2.out.later (Below.refl _ _).drew HBW2.out).1)
  clear b1 b2 s0 s1 s2
  have HBd := hide ((Below.refl w2.heap.size w2).drew)
  rcases HTR.out with ⟨r1, r2, r3, r4, r5⟩ | ⟨h, b, q1, q2, q3, q4, q5, q6, q7, q8, q9⟩
  · obtain rfl : root = 0 := by rw [← hrt]; exact r1
    subst r4
    have HRG : Hid (rngL [] lo hi most = []) := rfl
    refine wp_region_noPanic ?_
    refine wp_region_held_drew (S := fun wx => wx.cell? ⟨n0 + 2, 0, none⟩ = some (.pointer (some ⟨r, 0, none⟩)) ∧ wx.cell? ⟨r, 2, none⟩ = some (.int .i64 (most : Int)) ∧ wx.cell? ⟨r, 0, none⟩ = some (.slice la ln lc) ∧ wx.cell? ⟨n0 + 1, 0, none⟩ = some (.pointer (some ⟨gs, so, none⟩)) ∧ wx.cell? ⟨gs, so, none⟩ = some (.int .i64 0)) (by kernel_rfl) HX0.out (fun hHeld => ?_)
    refine wpAnyH_tk 0 34 (v := ?vn0) ?hyn0 ?_
    case hyn0 => intro oi ho; simp only [List.getElem?_toArray, List.getElem?_cons_zero, Option.some.injEq] at ho; subst ho; refine Or.inl ⟨by rfl, ?_⟩; intro wx hSw; (try dsimp only at hSw); go_simp; try rfl
    try simp only [Act.put, List.setIfInBounds_toArray, List.set_cons_zero, List.set_cons_succ]
    refine wpAnyH_tk 1 35 (v := ?vn1) ?hyn1 ?_
    case hyn1 => intro oi ho; simp only [List.getElem?_toArray, List.getElem?_cons_succ, List.getElem?_cons_zero, Option.some.injEq] at ho; subst ho; refine Or.inl ⟨by rfl, ?_⟩; intro wx hSw; (try dsimp only at hSw); go_simp; try rfl
    try simp only [Act.put, List.setIfInBounds_toArray, List.set_cons_zero, List.set_cons_succ]
    refine wpAnyH_tk 2 36 (v := ?vn2) ?hyn2 ?_
    case hyn2 => intro oi ho; simp only [List.getElem?_toArray, List.getElem?_cons_succ, List.getElem?_cons_zero, Option.some.injEq] at ho; subst ho; refine Or.inl ⟨by rfl, ?_⟩; intro wx hSw; (try dsimp only at hSw); go_simp; try rfl
    try simp only [Act.put, List.setIfInBounds_toArray, List.set_cons_zero, List.set_cons_succ]
    refine wpAnyH_tk 3 37 (v := ?vn3) ?hyn3 ?_
    case hyn3 => intro oi ho; simp only [List.getElem?_toArray, List.getElem?_cons_succ, List.getElem?_cons_zero, Option.some.injEq] at ho; subst ho; refine Or.inl ⟨by rfl, ?_⟩; intro wx hSw; (try dsimp only at hSw); go_simp; try rfl
    try simp only [Act.put, List.setIfInBounds_toArray, List.set_cons_zero, List.set_cons_succ]
    refine wpAnyH_tk 4 38 (v := ?vn4) ?hyn4 ?_
    case hyn4 => intro oi ho; simp only [List.getElem?_toArray, List.getElem?_cons_succ, List.getElem?_cons_zero, Option.some.injEq] at ho; subst ho; refine Or.inl ⟨by rfl, ?_⟩; intro wx hSw; (try dsimp only at hSw); go_simp; try rfl
    try simp only [Act.put, List.setIfInBounds_toArray, List.set_cons_zero, List.set_cons_succ]
    refine wpAnyH_tk 5 39 (v := ?vn5) ?hyn5 ?_
    case hyn5 => intro oi ho; simp only [List.getElem?_toArray, List.getElem?_cons_succ, List.getElem?_cons_zero, Option.some.injEq] at ho; subst ho; refine Or.inl ⟨by rfl, ?_⟩; intro wx hSw; (try dsimp only at hSw); go_simp; try rfl
    try simp only [Act.put, List.setIfInBounds_toArray, List.set_cons_zero, List.set_cons_succ]
    refine wpAnyH_tk 6 40 (v := ?vn6) ?hyn6 ?_
    case hyn6 => intro oi ho; simp only [List.getElem?_toArray, List.getElem?_cons_succ, List.getElem?_cons_zero, Option.some.injEq] at ho; subst ho; refine Or.inl ⟨by rfl, ?_⟩; intro wx hSw; (try dsimp only at hSw); go_simp; try rfl
    try simp only [Act.put, List.setIfInBounds_toArray, List.set_cons_zero, List.set_cons_succ]
    refine wpAnyH_tk 7 41 (v := ?vn7) ?hyn7 ?_
    case hyn7 => intro oi ho; simp only [List.getElem?_toArray, List.getElem?_cons_succ, List.getElem?_cons_zero, Option.some.injEq] at ho; subst ho; refine Or.inl ⟨by rfl, ?_⟩; intro wx hSw; (try dsimp only at hSw); go_simp; try rfl
    try simp only [Act.put, List.setIfInBounds_toArray, List.set_cons_zero, List.set_cons_succ]
    refine wpAnyH_tk 8 42 (v := ?vn8) ?hyn8 ?_
    case hyn8 => intro oi ho; simp only [List.getElem?_toArray, List.getElem?_cons_succ, List.getElem?_cons_zero, Option.some.injEq] at ho; subst ho; refine Or.inl ⟨by rfl, ?_⟩; intro wx hSw; (try dsimp only at hSw); go_simp; try rfl
    try simp only [Act.put, List.setIfInBounds_toArray, List.set_cons_zero, List.set_cons_succ]
    refine wpAnyH_tk 9 43 (v := ?vn9) ?hyn9 ?_
    case hyn9 => intro oi ho; simp only [List.getElem?_toArray, List.getElem?_cons_succ, List.getElem?_cons_zero, Option.some.injEq] at ho; subst ho; refine Or.inl ⟨by rfl, ?_⟩; intro wx hSw; (try dsimp only at hSw); go_simp; try rfl
    try simp only [Act.put, List.setIfInBounds_toArray, List.set_cons_zero, List.set_cons_succ]
    refine wpAnyH_tk 10 44 (v := ?vn10) ?hyn10 ?_
    case hyn10 => intro oi ho; simp only [List.getElem?_toArray, List.getElem?_cons_succ, List.getElem?_cons_zero, Option.some.injEq] at ho; subst ho; refine Or.inl ⟨by rfl, ?_⟩; intro wx hSw; (try dsimp only at hSw); go_simp; try rfl
    try simp only [Act.put, List.setIfInBounds_toArray, List.set_cons_zero, List.set_cons_succ]
    refine wpAnyH_tk 11 45 (v := ?vn11) ?hyn11 ?_
    case hyn11 => intro oi ho; simp only [List.getElem?_toArray, List.getElem?_cons_succ, List.getElem?_cons_zero, Option.some.injEq] at ho; subst ho; refine Or.inl ⟨by rfl, ?_⟩; intro wx hSw; (try dsimp only at hSw); go_simp; try rfl
    try simp only [Act.put, List.setIfInBounds_toArray, List.set_cons_zero, List.set_cons_succ]
    refine wpAnyH_tk 12 46 (v := ?vn12) ?hyn12 ?_
    case hyn12 => intro oi ho; simp only [List.getElem?_toArray, List.getElem?_cons_succ, List.getElem?_cons_zero, Option.some.injEq] at ho; subst ho; refine Or.inl ⟨by rfl, ?_⟩; intro wx hSw; (try dsimp only at hSw); go_simp; try rfl
    try simp only [Act.put, List.setIfInBounds_toArray, List.set_cons_zero, List.set_cons_succ]
    refine wpAnyH_takeAt (i := 13) (d := 47) (v := undef) (by kernel_rfl) (by kernel_rfl) (by kernel_rfl) (by kernel_rfl) (fun _ _ _ h => h) ?hyn13 (by assumption) ?restn13
    case hyn13 =>
      intro oi ho
      simp only [List.getElem?_toArray, List.getElem?_cons_succ, List.getElem?_cons_zero, Option.some.injEq] at ho
      subst ho
      exact Or.inr ⟨by rfl, rfl⟩
    try simp only [Act.put, List.setIfInBounds_toArray, List.set_cons_zero, List.set_cons_succ]
    refine wpAnyH_takeAt (i := 14) (d := 48) (v := undef) (by kernel_rfl) (by kernel_rfl) (by kernel_rfl) (by kernel_rfl) (fun _ _ _ h => h) ?hyn14 (by assumption) ?restn14
    case hyn14 =>
      intro oi ho
      simp only [List.getElem?_toArray, List.getElem?_cons_succ, List.getElem?_cons_zero, Option.some.injEq] at ho
      subst ho
      exact Or.inr ⟨by rfl, rfl⟩
    try simp only [Act.put, List.setIfInBounds_toArray, List.set_cons_zero, List.set_cons_succ]
    refine wpAnyH_takeAt (i := 15) (d := 49) (v := undef) (by kernel_rfl) (by kernel_rfl) (by kernel_rfl) (by kernel_rfl) (fun _ _ _ h => h) ?hyn15 (by assumption) ?restn15
    case hyn15 =>
      intro oi ho
      simp only [List.getElem?_toArray, List.getElem?_cons_succ, List.getElem?_cons_zero, Option.some.injEq] at ho
      subst ho
      exact Or.inr ⟨by rfl, rfl⟩
    try simp only [Act.put, List.setIfInBounds_toArray, List.set_cons_zero, List.set_cons_succ]
    refine wpAnyH_takeAt (i := 16) (d := 50) (v := undef) (by kernel_rfl) (by kernel_rfl) (by kernel_rfl) (by kernel_rfl) (fun _ _ _ h => h) ?hyn16 (by assumption) ?restn16
    case hyn16 =>
      intro oi ho
      simp only [List.getElem?_toArray, List.getElem?_cons_succ, List.getElem?_cons_zero, Option.some.injEq] at ho
      subst ho
      exact Or.inr ⟨by rfl, rfl⟩
    try simp only [Act.put, List.setIfInBounds_toArray, List.set_cons_zero, List.set_cons_succ]
    refine wpAnyH_takeAt (i := 17) (d := 51) (v := undef) (by kernel_rfl) (by kernel_rfl) (by kernel_rfl) (by kernel_rfl) (fun _ _ _ h => h) ?hyn17 (by assumption) ?restn17
    case hyn17 =>
      intro oi ho
      simp only [List.getElem?_toArray, List.getElem?_cons_succ, List.getElem?_cons_zero, Option.some.injEq] at ho
      subst ho
      exact Or.inr ⟨by rfl, rfl⟩
    try simp only [Act.put, List.setIfInBounds_toArray, List.set_cons_zero, List.set_cons_succ]
    refine wpAnyH_takeAt (i := 18) (d := 52) (v := undef) (by kernel_rfl) (by kernel_rfl) (by kernel_rfl) (by kernel_rfl) (fun _ _ _ h => h) ?hyn18 (by assumption) ?restn18
    case hyn18 =>
      intro oi ho
      simp only [List.getElem?_toArray, List.getElem?_cons_succ, List.getElem?_cons_zero, Option.some.injEq] at ho
      subst ho
      exact Or.inr ⟨by rfl, rfl⟩
    try simp only [Act.put, List.setIfInBounds_toArray, List.set_cons_zero, List.set_cons_succ]
    refine wpAnyH_tk 19 53 (v := ?vn19) ?hyn19 ?_
    case hyn19 => intro oi ho; simp only [List.getElem?_toArray, List.getElem?_cons_succ, List.getElem?_cons_zero, Option.some.injEq] at ho; subst ho; refine Or.inl ⟨by rfl, ?_⟩; intro wx hSw; (try dsimp only at hSw); go_simp; try rfl
    try simp only [Act.put, List.setIfInBounds_toArray, List.set_cons_zero, List.set_cons_succ]
    refine wpAnyH_tk 20 33 (v := ?vn20) ?hyn20 ?_
    case hyn20 => intro oi ho; simp only [List.getElem?_toArray, List.getElem?_cons_succ, List.getElem?_cons_zero, Option.some.injEq] at ho; subst ho; refine Or.inl ⟨by rfl, ?_⟩; intro wx hSw; (try dsimp only at hSw); go_simp; try rfl
    try simp only [Act.put, List.setIfInBounds_toArray, List.set_cons_zero, List.set_cons_succ]
    refine wpAnyH_done (by kernel_rfl) ?_ _
    refine NoPanic.normal ?_
    clear hHeld
    go_wp2
    go_ret2
    refine ⟨_, rfl, ?_, ?_⟩
    · rw [HRG.out]; exact PRW.nil _ _ _
    · exact LkF.of (by rw [hn0]; exact HB2.out.trans (HBd.out.mono (by have := HB2.out.size; omega))) (by rw [hn0]; exact hbs)
  · have hid := q6.idlt
    have hid1 : 0 < BT.id b := by
      have k1 := (q6.held _ (id_mem b)).1
      have k2 := HM.out.hd.1
      apply Classical.byContradiction
      intro k3
      rw [show BT.id b = 0 by omega, k2] at k1
      exact absurd k1 (by decide)
    have xr : ¬ root = 0 := by rw [← hrt, q1]; omega
    have dr : (root == 0) = false := by simp; exact xr
    refine wp_region_noPanic ?_
    refine wp_region_held_drew (S := fun wx => wx.cell? ⟨n0 + 2, 0, none⟩ = some (.pointer (some ⟨r, 0, none⟩)) ∧ wx.cell? ⟨r, 2, none⟩ = some (.int .i64 (most : Int)) ∧ wx.cell? ⟨r, 0, none⟩ = some (.slice la ln lc) ∧ wx.cell? ⟨n0 + 1, 0, none⟩ = some (.pointer (some ⟨gs, so, none⟩)) ∧ wx.cell? ⟨gs, so, none⟩ = some (.int .i64 root)) (by kernel_rfl) HX0.out (fun hHeld => ?_)
    refine wpAnyH_tk 0 34 (v := ?vs0) ?hys0 ?_
    case hys0 => intro oi ho; simp only [List.getElem?_toArray, List.getElem?_cons_zero, Option.some.injEq] at ho; subst ho; refine Or.inl ⟨by rfl, ?_⟩; intro wx hSw; (try dsimp only at hSw); go_simp; try rfl
    try simp only [Act.put, List.setIfInBounds_toArray, List.set_cons_zero, List.set_cons_succ]
    refine wpAnyH_tk 1 35 (v := ?vs1) ?hys1 ?_
    case hys1 => intro oi ho; simp only [List.getElem?_toArray, List.getElem?_cons_succ, List.getElem?_cons_zero, Option.some.injEq] at ho; subst ho; refine Or.inl ⟨by rfl, ?_⟩; intro wx hSw; (try dsimp only at hSw); go_simp; try rfl
    try simp only [Act.put, List.setIfInBounds_toArray, List.set_cons_zero, List.set_cons_succ]
    refine wpAnyH_tk 2 36 (v := ?vs2) ?hys2 ?_
    case hys2 => intro oi ho; simp only [List.getElem?_toArray, List.getElem?_cons_succ, List.getElem?_cons_zero, Option.some.injEq] at ho; subst ho; refine Or.inl ⟨by rfl, ?_⟩; intro wx hSw; (try dsimp only at hSw); go_simp; try rfl
    try simp only [Act.put, List.setIfInBounds_toArray, List.set_cons_zero, List.set_cons_succ]
    refine wpAnyH_tk 3 37 (v := ?vs3) ?hys3 ?_
    case hys3 => intro oi ho; simp only [List.getElem?_toArray, List.getElem?_cons_succ, List.getElem?_cons_zero, Option.some.injEq] at ho; subst ho; refine Or.inl ⟨by rfl, ?_⟩; intro wx hSw; (try dsimp only at hSw); go_simp; try rfl
    try simp only [Act.put, List.setIfInBounds_toArray, List.set_cons_zero, List.set_cons_succ]
    refine wpAnyH_tk 4 38 (v := ?vs4) ?hys4 ?_
    case hys4 => intro oi ho; simp only [List.getElem?_toArray, List.getElem?_cons_succ, List.getElem?_cons_zero, Option.some.injEq] at ho; subst ho; refine Or.inl ⟨by rfl, ?_⟩; intro wx hSw; (try dsimp only at hSw); go_simp; try rfl
    try simp only [Act.put, List.setIfInBounds_toArray, List.set_cons_zero, List.set_cons_succ]
    refine wpAnyH_tk 5 39 (v := ?vs5) ?hys5 ?_
    case hys5 => intro oi ho; simp only [List.getElem?_toArray, List.getElem?_cons_succ, List.getElem?_cons_zero, Option.some.injEq] at ho; subst ho; refine Or.inl ⟨by rfl, ?_⟩; intro wx hSw; (try dsimp only at hSw); go_simp; try rfl
    try simp only [Act.put, List.setIfInBounds_toArray, List.set_cons_zero, List.set_cons_succ]
    refine wpAnyH_tk 6 40 (v := ?vs6) ?hys6 ?_
    case hys6 => intro oi ho; simp only [List.getElem?_toArray, List.getElem?_cons_succ, List.getElem?_cons_zero, Option.some.injEq] at ho; subst ho; refine Or.inl ⟨by rfl, ?_⟩; intro wx hSw; (try dsimp only at hSw); go_simp; try rfl
    try simp only [Act.put, List.setIfInBounds_toArray, List.set_cons_zero, List.set_cons_succ]
    refine wpAnyH_tk 7 41 (v := ?vs7) ?hys7 ?_
    case hys7 => intro oi ho; simp only [List.getElem?_toArray, List.getElem?_cons_succ, List.getElem?_cons_zero, Option.some.injEq] at ho; subst ho; refine Or.inl ⟨by rfl, ?_⟩; intro wx hSw; (try dsimp only at hSw); go_simp; try rfl
    try simp only [Act.put, List.setIfInBounds_toArray, List.set_cons_zero, List.set_cons_succ]
    refine wpAnyH_tk 8 42 (v := ?vs8) ?hys8 ?_
    case hys8 => intro oi ho; simp only [List.getElem?_toArray, List.getElem?_cons_succ, List.getElem?_cons_zero, Option.some.injEq] at ho; subst ho; refine Or.inl ⟨by rfl, ?_⟩; intro wx hSw; (try dsimp only at hSw); go_simp; try rfl
    try simp only [Act.put, List.setIfInBounds_toArray, List.set_cons_zero, List.set_cons_succ]
    refine wpAnyH_tk 9 43 (v := ?vs9) ?hys9 ?_
    case hys9 => intro oi ho; simp only [List.getElem?_toArray, List.getElem?_cons_succ, List.getElem?_cons_zero, Option.some.injEq] at ho; subst ho; refine Or.inl ⟨by rfl, ?_⟩; intro wx hSw; (try dsimp only at hSw); go_simp; try rfl
    try simp only [Act.put, List.setIfInBounds_toArray, List.set_cons_zero, List.set_cons_succ]
    refine wpAnyH_tk 10 44 (v := ?vs10) ?hys10 ?_
    case hys10 => intro oi ho; simp only [List.getElem?_toArray, List.getElem?_cons_succ, List.getElem?_cons_zero, Option.some.injEq] at ho; subst ho; refine Or.inl ⟨by rfl, ?_⟩; intro wx hSw; (try dsimp only at hSw); go_simp; try rfl
    try simp only [Act.put, List.setIfInBounds_toArray, List.set_cons_zero, List.set_cons_succ]
    refine wpAnyH_tk 11 45 (v := ?vs11) ?hys11 ?_
    case hys11 => intro oi ho; simp only [List.getElem?_toArray, List.getElem?_cons_succ, List.getElem?_cons_zero, Option.some.injEq] at ho; subst ho; refine Or.inl ⟨by rfl, ?_⟩; intro wx hSw; (try dsimp only at hSw); go_simp; try rfl
    try simp only [Act.put, List.setIfInBounds_toArray, List.set_cons_zero, List.set_cons_succ]
    refine wpAnyH_tk 12 46 (v := ?vs12) ?hys12 ?_
    case hys12 => intro oi ho; simp only [List.getElem?_toArray, List.getElem?_cons_succ, List.getElem?_cons_zero, Option.some.injEq] at ho; subst ho; refine Or.inl ⟨by rfl, ?_⟩; intro wx hSw; (try dsimp only at hSw); go_simp; try rfl
    try simp only [Act.put, List.setIfInBounds_toArray, List.set_cons_zero, List.set_cons_succ]
    refine wpAnyH_tk 13 47 (v := ?vs13) ?hys13 ?_
    case hys13 => intro oi ho; simp only [List.getElem?_toArray, List.getElem?_cons_succ, List.getElem?_cons_zero, Option.some.injEq] at ho; subst ho; refine Or.inl ⟨by rfl, ?_⟩; intro wx hSw; (try dsimp only at hSw); go_simp; try rfl
    try simp only [Act.put, List.setIfInBounds_toArray, List.set_cons_zero, List.set_cons_succ]
    refine wpAnyH_tk 14 48 (v := ?vs14) ?hys14 ?_
    case hys14 => intro oi ho; simp only [List.getElem?_toArray, List.getElem?_cons_succ, List.getElem?_cons_zero, Option.some.injEq] at ho; subst ho; refine Or.inl ⟨by rfl, ?_⟩; intro wx hSw; (try dsimp only at hSw); go_simp; try rfl
    try simp only [Act.put, List.setIfInBounds_toArray, List.set_cons_zero, List.set_cons_succ]
    refine wpAnyH_tk 15 49 (v := ?vs15) ?hys15 ?_
    case hys15 => intro oi ho; simp only [List.getElem?_toArray, List.getElem?_cons_succ, List.getElem?_cons_zero, Option.some.injEq] at ho; subst ho; refine Or.inl ⟨by rfl, ?_⟩; intro wx hSw; (try dsimp only at hSw); go_simp; try rfl
    try simp only [Act.put, List.setIfInBounds_toArray, List.set_cons_zero, List.set_cons_succ]
    refine wpAnyH_tk 16 50 (v := ?vs16) ?hys16 ?_
    case hys16 => intro oi ho; simp only [List.getElem?_toArray, List.getElem?_cons_succ, List.getElem?_cons_zero, Option.some.injEq] at ho; subst ho; refine Or.inl ⟨by rfl, ?_⟩; intro wx hSw; (try dsimp only at hSw); go_simp; try rfl
    try simp only [Act.put, List.setIfInBounds_toArray, List.set_cons_zero, List.set_cons_succ]
    refine wpAnyH_tk 17 51 (v := ?vs17) ?hys17 ?_
    case hys17 => intro oi ho; simp only [List.getElem?_toArray, List.getElem?_cons_succ, List.getElem?_cons_zero, Option.some.injEq] at ho; subst ho; refine Or.inl ⟨by rfl, ?_⟩; intro wx hSw; (try dsimp only at hSw); go_simp; try rfl
    try simp only [Act.put, List.setIfInBounds_toArray, List.set_cons_zero, List.set_cons_succ]
    refine wpAnyH_cm 18 ?_; intro o ho K hK; simp only [List.getElem?_toArray, List.getElem?_cons_succ, List.getElem?_cons_zero, Option.some.injEq] at ho; subst ho
    go_simp
    refine HEN.out.mono ?_
    rintro e w3 ⟨rfl, rfl⟩
    refine hK.out _ _ HX0.out (fun hHeld => ?_)
    clear hK K
    try simp only [Act.put, List.setIfInBounds_toArray, List.set_cons_zero, List.set_cons_succ]
    refine wpAnyH_tk 19 53 (v := ?vs19) ?hys19 ?_
    case hys19 => intro oi ho; simp only [List.getElem?_toArray, List.getElem?_cons_succ, List.getElem?_cons_zero, Option.some.injEq] at ho; subst ho; refine Or.inl ⟨by rfl, ?_⟩; intro wx hSw; (try dsimp only at hSw); go_simp; try rfl
    try simp only [Act.put, List.setIfInBounds_toArray, List.set_cons_zero, List.set_cons_succ]
    refine wpAnyH_tk 20 33 (v := ?vs20) ?hys20 ?_
    case hys20 => intro oi ho; simp only [List.getElem?_toArray, List.getElem?_cons_succ, List.getElem?_cons_zero, Option.some.injEq] at ho; subst ho; refine Or.inl ⟨by rfl, ?_⟩; intro wx hSw; (try dsimp only at hSw); go_simp; try rfl
    try simp only [Act.put, List.setIfInBounds_toArray, List.set_cons_zero, List.set_cons_succ]
    refine wpAnyH_done (by kernel_rfl) ?_ _
    refine NoPanic.normal ?_
    clear hHeld
    have HEQ : Hid (flB h b = l) := q4
    cases hen : endB hi lo with
    | true =>
      have HRG : Hid (rngL l lo hi most = []) := scan_none l hen
      clear hen
      go_wp2
      go_ret2
      refine ⟨_, rfl, ?_, ?_⟩
      · rw [HRG.out]; exact PRW.nil _ _ _
      · exact LkF.of (by rw [hn0]; exact HB2.out.trans (HBd.out.mono (by have := HB2.out.size; omega))) (by rw [hn0]; exact hbs)
    | false =>
      have HCC := hide (pairsC_ok (w := w2.drew) HM.out (HB02.out.trans (HBd.out.mono HB02.out.size)) b q6 (by rw [q4]; exact q5) (by have := HDP.out; omega) (HSP2.out.later HBd.out HBW2.out) hm0 hmo HGS.out (by rw [HR0.out, ← hrt, q1]) (by rw [HD0.out, q2]; simp) HY.out.1 HY.out.2.1 HY.out.2.2)
      clear hen q1 q2 q3 q4 q5 q6 q7 q8 q9
      go_wp2_with fail
      refine HCC.out.mono ?_
      rintro e w4 ⟨rfl, h1, h2⟩
      rw [HEQ.out] at h1
      have HL4 := hide h2
      obtain ⟨fv, k1, k2⟩ := h1.hx
      have HP4 := hide k2
      have HY4 := hide (h2.2 _ _ _ _ (show w2.drew.heap[n0 + 2]? = _ from HY.out.2.2) (by decide) (by decide))
      obtain ⟨fa, fc, hfv⟩ := k2.form
      subst hfv
      have z2 : w4.cell? ⟨n0 + 2, 0, none⟩ = some (.pointer (some ⟨r, 0, none⟩)) := cell_blk HY4.out
      have z3 : w4.cell? ⟨r, 3, none⟩ = some (.slice fa (scan hi most [] (frm l lo)).1.length fc) := cell_blk k1
      clear h1 h2 k1 k2 HCC
      go_wp2
      go_ret2
      refine ⟨_, rfl, HP4.out, ?_⟩
      exact (LkF.of (by rw [hn0]; exact HB2.out.trans (HBd.out.mono (by have := HB2.out.size; omega))) (by rw [hn0]; exact hbs)).trans HL4.out
end Go.Proofs.YtnfponcadkmfjabGreat
set_option linter.unusedVariables false
namespace Go.Proofs.YtnfponcadkmfjabGreat
open Go.RowKit
theorem span_new {B : Nat} {w : World} {la ha : Option Addr} {lc hc : Nat} {lo hi : List Nat} {ln hn most : Nat} (hB : B ≤ w.heap.size) (hln : lo.length = ln) (hhn : hi.length = hn) (hlo : BK B w la ln lc lo) (hhi : BK B w ha hn hc hi) :
    SpV B w.heap.size (w.alloc (.cells #[.slice la ln lc, .slice ha hn hc, .int .i64 (most : Int), .slice none 0 0] 84)) w.heap.size (.slice la ln lc) (.slice ha hn hc) lo hi most [] := by
  have hb := below_box w (.cells #[.slice la ln lc, .slice ha hn hc, .int .i64 (most : Int), .slice none 0 0] 84)
  refine ⟨Nat.le_refl _, ⟨la, lc, by rw [hln], by rw [hln]; exact hlo.later hb hB⟩, ⟨ha, hc, by rw [hhn], by rw [hhn]; exact hhi.later hb hB⟩, _, heap_alloc_new w _, PRW.nil _ _ _⟩
set_option maxRecDepth 100000 in
set_option maxHeartbeats 4000000 in
theorem Range_ok [Gd] {B p q g : Nat} {s : DS} {t : PS} {w : World} {now last : StT} {sv : Value} {left : Int} {lo hi : List Nat} {most : Nat} {l : List It} (hM : TM B p q g s t now last sv left w) (hTr : Tr s t now l) (hdp : now.depth < 100000) {la ha : Option Addr} {ln lc hn hc : Nat} (hln : lo.length = ln) (hhn : hi.length = hn) (hlo : BK B w la ln lc lo) (hhi : BK B w ha hn hc hi) (h1 : ln ≤ 64) (h2 : hn ≤ 64) (hm0 : 0 < most) (hmo : most < 100000) :
    Calls Tryz.prog 9 #[.pointer (some ⟨g, 0, none⟩), .slice la ln lc, .slice ha hn hc, .int .i64 (most : Int)] w fun e w' => ∃ fv, e = .returned (.tuple #[fv, .int .i64 0]) ∧ PRW B w.heap.size w' fv (rngL l lo hi most) ∧ Below w.heap.size w w' := by
  obtain ⟨cs, hg, hT⟩ := hM.tv
  have HSB := hide (below_box w (.cells #[.slice la ln lc, .slice ha hn hc, .int .i64 (most : Int), .slice none 0 0] 84))
  have HPA := hide (pairs_any (w0 := w) (gs := g) (so := 2) hM HSB.out hTr hdp (by omega) (by omega) (span_new hM.bw hln hhn hlo hhi) hm0 hmo ⟨_, _, _, hg, by decide, by decide⟩ ((cell_blk hg).trans hT.n0) ((cell_blk hg).trans hT.n1))
  clear hM hTr hdp hlo hhi hg hT
  go_enter Tryz.func9, Tryz.ntmps9
  go_wp2_with fail
  refine HPA.out.mono ?_
  rintro e w1 ⟨fv, rfl, k1, k2⟩
  have HK1 := hide k1
  have HK2 := hide k2
  obtain ⟨fa, fc, hfv⟩ := k1.form
  subst hfv
  clear k1 k2
  go_wp2
  go_ret2
  exact ⟨_, rfl, HK1.out, HSB.out.trans HK2.out.1⟩
set_option maxRecDepth 100000 in
set_option maxHeartbeats 4000000 in
theorem SnapRange_ok [Gd] {B p q g gn : Nat} {s : DS} {t : PS} {w : World} {now last st : StT} {sv : Value} {left : Int} {lo hi : List Nat} {most : Nat} {l : List It} {cn : Array Value} (hM : TM B p q g s t now last sv left w) (hTr : Tr s t st l) (hdp : st.depth < 100000) (hn0 : w.heap[gn]? = some (.cells cn 92 (0, 0))) (c0 : cn[0]? = some (.pointer (some ⟨g, 0, none⟩))) (c1 : cn[1]? = some (.int .i64 st.root)) (c2 : cn[2]? = some (.int .i64 st.depth)) {la ha : Option Addr} {ln lc hn hc : Nat} (hln : lo.length = ln) (hhn : hi.length = hn) (hlo : BK B w la ln lc lo) (hhi : BK B w ha hn hc hi) (h1 : ln ≤ 64) (h2 : hn ≤ 64) (hm0 : 0 < most) (hmo : most < 100000) :
    Calls Tryz.prog 24 #[.pointer (some ⟨gn, 0, none⟩), .slice la ln lc, .slice ha hn hc, .int .i64 (most : Int)] w fun e w' => ∃ fv, e = .returned (.tuple #[fv, .int .i64 0]) ∧ PRW B w.heap.size w' fv (rngL l lo hi most) ∧ Below w.heap.size w w' := by
  have HSB := hide (below_box w (.cells #[.slice la ln lc, .slice ha hn hc, .int .i64 (most : Int), .slice none 0 0] 84))
  have HSD := hide (HSB.out.drew)
  have HPA := hide (pairs_any (w0 := w) (w := (w.alloc (.cells #[.slice la ln lc, .slice ha hn hc, .int .i64 (most : Int), .slice none 0 0] 84)).drew) (gs := gn) (so := 1) hM HSD.out hTr hdp (by omega) (by omega) ((span_new hM.bw hln hhn hlo hhi).later (Below.refl _ _).drew (Nat.le_trans hM.bw HSB.out.size)) hm0 hmo ⟨_, _, _, hn0, by decide, by decide⟩ ((cell_blk hn0).trans c1) ((cell_blk hn0).trans c2))
  have r0 : w.cell? ⟨gn, 0, none⟩ = some (.pointer (some ⟨g, 0, none⟩)) := (cell_blk hn0).trans c0
  have hgl := (Array.getElem?_eq_some_iff.1 hn0).1
  have HX0 : Hid ((fun wx => wx.cell? ⟨gn, 0, none⟩ = some (.pointer (some ⟨g, 0, none⟩))) w.drew) := r0
  have HX1 : Hid ((fun wx => wx.cell? ⟨gn, 0, none⟩ = some (.pointer (some ⟨g, 0, none⟩))) (w.alloc (.cells #[.slice la ln lc, .slice ha hn hc, .int .i64 (most : Int), .slice none 0 0] 84)).drew) := (HSD.out.cell (p := ⟨gn, 0, none⟩) hgl).trans r0
  clear hM hTr hdp hlo hhi hn0 c0 c1 c2
  go_enter Tryz.func24, Tryz.ntmps24
  go_upto_region 3 with fail
  refine wp_region_noPanic ?_
  refine wp_region_held_drew (S := fun wx => wx.cell? ⟨gn, 0, none⟩ = some (.pointer (some ⟨g, 0, none⟩))) (by kernel_rfl) HX0.out (fun hHeld => ?_)
  refine wpAnyH_tk 0 15 (v := ?va0) ?hya0 ?_
  case hya0 => intro oi ho; simp only [List.getElem?_toArray, List.getElem?_cons_zero, Option.some.injEq] at ho; subst ho; refine Or.inl ⟨by rfl, ?_⟩; intro wx hSw; (try dsimp only at hSw); go_simp; try rfl
  try simp only [Act.put, List.setIfInBounds_toArray, List.set_cons_zero, List.set_cons_succ]
  refine wpAnyH_tk 1 16 (v := ?va1) ?hya1 ?_
  case hya1 => intro oi ho; simp only [List.getElem?_toArray, List.getElem?_cons_succ, List.getElem?_cons_zero, Option.some.injEq] at ho; subst ho; refine Or.inl ⟨by rfl, ?_⟩; intro wx hSw; (try dsimp only at hSw); go_simp; try rfl
  try simp only [Act.put, List.setIfInBounds_toArray, List.set_cons_zero, List.set_cons_succ]
  refine wpAnyH_tk 2 17 (v := ?va2) ?hya2 ?_
  case hya2 => intro oi ho; simp only [List.getElem?_toArray, List.getElem?_cons_succ, List.getElem?_cons_zero, Option.some.injEq] at ho; subst ho; refine Or.inl ⟨by rfl, ?_⟩; intro wx hSw; (try dsimp only at hSw); go_simp; try rfl
  try simp only [Act.put, List.setIfInBounds_toArray, List.set_cons_zero, List.set_cons_succ]
  refine wpAnyH_tk 3 18 (v := ?va3) ?hya3 ?_
  case hya3 => intro oi ho; simp only [List.getElem?_toArray, List.getElem?_cons_succ, List.getElem?_cons_zero, Option.some.injEq] at ho; subst ho; refine Or.inl ⟨by rfl, ?_⟩; intro wx hSw; (try dsimp only at hSw); go_simp; try rfl
  try simp only [Act.put, List.setIfInBounds_toArray, List.set_cons_zero, List.set_cons_succ]
  refine wpAnyH_tk 4 19 (v := ?va4) ?hya4 ?_
  case hya4 => intro oi ho; simp only [List.getElem?_toArray, List.getElem?_cons_succ, List.getElem?_cons_zero, Option.some.injEq] at ho; subst ho; refine Or.inl ⟨by rfl, ?_⟩; intro wx hSw; (try dsimp only at hSw); go_simp; try rfl
  try simp only [Act.put, List.setIfInBounds_toArray, List.set_cons_zero, List.set_cons_succ]
  refine wpAnyH_tk 5 20 (v := ?va5) ?hya5 ?_
  case hya5 => intro oi ho; simp only [List.getElem?_toArray, List.getElem?_cons_succ, List.getElem?_cons_zero, Option.some.injEq] at ho; subst ho; refine Or.inl ⟨by rfl, ?_⟩; intro wx hSw; (try dsimp only at hSw); go_simp; try rfl
  try simp only [Act.put, List.setIfInBounds_toArray, List.set_cons_zero, List.set_cons_succ]
  refine wpAnyH_tk 6 21 (v := ?va6) ?hya6 ?_
  case hya6 => intro oi ho; simp only [List.getElem?_toArray, List.getElem?_cons_succ, List.getElem?_cons_zero, Option.some.injEq] at ho; subst ho; refine Or.inl ⟨by rfl, ?_⟩; intro wx hSw; (try dsimp only at hSw); go_simp; try rfl
  try simp only [Act.put, List.setIfInBounds_toArray, List.set_cons_zero, List.set_cons_succ]
  refine wpAnyH_tk 7 22 (v := ?va7) ?hya7 ?_
  case hya7 => intro oi ho; simp only [List.getElem?_toArray, List.getElem?_cons_succ, List.getElem?_cons_zero, Option.some.injEq] at ho; subst ho; refine Or.inl ⟨by rfl, ?_⟩; intro wx hSw; (try dsimp only at hSw); go_simp; try rfl
  try simp only [Act.put, List.setIfInBounds_toArray, List.set_cons_zero, List.set_cons_succ]
  refine wpAnyH_tk 8 23 (v := ?va8) ?hya8 ?_
  case hya8 => intro oi ho; simp only [List.getElem?_toArray, List.getElem?_cons_succ, List.getElem?_cons_zero, Option.some.injEq] at ho; subst ho; refine Or.inl ⟨by rfl, ?_⟩; intro wx hSw; (try dsimp only at hSw); go_simp; try rfl
  try simp only [Act.put, List.setIfInBounds_toArray, List.set_cons_zero, List.set_cons_succ]
  refine wpAnyH_tk 9 24 (v := ?va9) ?hya9 ?_
  case hya9 => intro oi ho; simp only [List.getElem?_toArray, List.getElem?_cons_succ, List.getElem?_cons_zero, Option.some.injEq] at ho; subst ho; refine Or.inl ⟨by rfl, ?_⟩; intro wx hSw; (try dsimp only at hSw); go_simp; try rfl
  try simp only [Act.put, List.setIfInBounds_toArray, List.set_cons_zero, List.set_cons_succ]
  refine wpAnyH_tk 10 25 (v := ?va10) ?hya10 ?_
  case hya10 => intro oi ho; simp only [List.getElem?_toArray, List.getElem?_cons_succ, List.getElem?_cons_zero, Option.some.injEq] at ho; subst ho; refine Or.inl ⟨by rfl, ?_⟩; intro wx hSw; (try dsimp only at hSw); go_simp; try rfl
  try simp only [Act.put, List.setIfInBounds_toArray, List.set_cons_zero, List.set_cons_succ]
  refine wpAnyH_cm 11 ?_; intro o ho K hK; simp only [List.getElem?_toArray, List.getElem?_cons_succ, List.getElem?_cons_zero, Option.some.injEq] at ho; subst ho
  go_simp
  clear hHeld
  refine hK.out _ _ HX1.out (fun hHeld => ?_)
  clear hK K
  try simp only [Act.put, List.setIfInBounds_toArray, List.set_cons_zero, List.set_cons_succ]
  refine wpAnyH_cm 12 ?_; intro o ho K hK; simp only [List.getElem?_toArray, List.getElem?_cons_succ, List.getElem?_cons_zero, Option.some.injEq] at ho; subst ho
  go_simp
  refine HPA.out.mono ?_
  rintro e w1 ⟨fv, rfl, k1, k2⟩
  have HK1 := hide k1
  have HK2 := hide k2
  obtain ⟨fa, fc, hfv⟩ := k1.form
  subst hfv
  have HX2 : Hid ((fun wx => wx.cell? ⟨gn, 0, none⟩ = some (.pointer (some ⟨g, 0, none⟩))) w1) := (k2.1.cell (p := ⟨gn, 0, none⟩) hgl).trans HX1.out
  clear k1 k2 hHeld
  refine hK.out _ _ HX2.out (fun hHeld => ?_)
  clear hK K
  try simp only [Act.put, List.setIfInBounds_toArray, List.set_cons_zero, List.set_cons_succ]
  refine wpAnyH_tk 13 28 (v := ?va13) ?hya13 ?_
  case hya13 => intro oi ho; simp only [List.getElem?_toArray, List.getElem?_cons_succ, List.getElem?_cons_zero, Option.some.injEq] at ho; subst ho; refine Or.inl ⟨by rfl, ?_⟩; intro wx hSw; (try dsimp only at hSw); go_simp; try rfl
  try simp only [Act.put, List.setIfInBounds_toArray, List.set_cons_zero, List.set_cons_succ]
  refine wpAnyH_tk 14 29 (v := ?va14) ?hya14 ?_
  case hya14 => intro oi ho; simp only [List.getElem?_toArray, List.getElem?_cons_succ, List.getElem?_cons_zero, Option.some.injEq] at ho; subst ho; refine Or.inl ⟨by rfl, ?_⟩; intro wx hSw; (try dsimp only at hSw); go_simp; try rfl
  try simp only [Act.put, List.setIfInBounds_toArray, List.set_cons_zero, List.set_cons_succ]
  refine wpAnyH_tk 15 8 (v := ?va15) ?hya15 ?_
  case hya15 => intro oi ho; simp only [List.getElem?_toArray, List.getElem?_cons_succ, List.getElem?_cons_zero, Option.some.injEq] at ho; subst ho; refine Or.inl ⟨by rfl, ?_⟩; intro wx hSw; (try dsimp only at hSw); go_simp; try rfl
  try simp only [Act.put, List.setIfInBounds_toArray, List.set_cons_zero, List.set_cons_succ]
  refine wpAnyH_tk 16 9 (v := ?va16) ?hya16 ?_
  case hya16 => intro oi ho; simp only [List.getElem?_toArray, List.getElem?_cons_succ, List.getElem?_cons_zero, Option.some.injEq] at ho; subst ho; refine Or.inl ⟨by rfl, ?_⟩; intro wx hSw; (try dsimp only at hSw); go_simp; try rfl
  try simp only [Act.put, List.setIfInBounds_toArray, List.set_cons_zero, List.set_cons_succ]
  refine wpAnyH_done (by kernel_rfl) ?_ _
  refine NoPanic.normal ?_
  clear hHeld
  go_wp2
  go_ret2
  exact ⟨_, rfl, HK1.out, HSD.out.trans HK2.out.1⟩
end Go.Proofs.YtnfponcadkmfjabGreat
