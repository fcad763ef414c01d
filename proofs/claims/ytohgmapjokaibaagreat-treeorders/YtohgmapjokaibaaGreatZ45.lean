import Derived.Test.YtohgmapjokaibaaGreatZ44
set_option maxRecDepth 100000
set_option maxHeartbeats 16000000
set_option linter.unusedVariables false
namespace Go.Proofs.YtohgmapjokaibaaGreat
open Go.RowKit
theorem letGo_ok [Gd] {B p q g:Nat} {s:DS} {t:PS} {w:World} {now last:StT} {sv:Value} {left:Int} {sn:List (Nat×List Nat)} {root:Nat} (hg0:True) (hM:TM B p q g s t now last sv left w) (hsn:SnV w sv sn) (hPN:PgN s (jnS (jnP now.pgs last.pgs) sn)) (h3:3≤s.n) (hlh:lastH (rdH (pad (s.show 0)) s.n) (rdH (pad (s.show 1)) s.n)=some (t.num,root)) (hnum:t.num≤4611686018427387904) (hrt:root≤4096) :
  Calls Tryz.prog 57 #[.pointer (some ⟨g,0,none⟩)] w fun e w'=>e=.returned (.tuple #[])∧∃ q',TM B p q' g s (anew s t.num root (jnS (jnP now.pgs last.pgs) sn)) now last sv (cntF (anew s t.num root (jnS (jnP now.pgs last.pgs) sn)).st:Nat) w'∧ChF B g w w':=by
 obtain ⟨cs,hg,hT⟩:=hM.tv
 have hsz:(cutW cs 5).size=64:=cutW_size (by rw [hT.sz];decide)
 have HLD:=hide (aD9 (w:=w) (g:=g) (o:=5) (ty:=55) (cs:=cutW cs 5) (fun j v hv=>(aAa hg).trans (cutW_get hv)) Tryz.underlying55 rfl (by rw [hsz];exact aC2))
 have HND:=hide (neededNow_ok hg hT hsn hT.nw.cut hsz)
 have HM:=hide hM
 have HHJ:=hide (fun (ww:World) (hb:Below w.heap.size w ww) (cr:Array Value) (h1:cr.size=64) (h2:Wd cr 0 (jnS (jnP now.pgs last.pgs) sn))=>holdJust_ok hg0 (hM.later hb) h2 h1 hPN h3 hlh hnum hrt)
 clear hM hg hT hsn hPN hlh
 generalize jnS (jnP now.pgs last.pgs) sn=nd at *
 go_enter Tryz.func57,Tryz.ntmps57
 go_wp2_with (refine wpList_load_row rfl (.tmp 7) 55 rfl rfl HLD.out ?_)
 refine HND.out.mono ?_
 rintro e w1 ⟨cr,rfl,hcr,hwd,hb1⟩
 have HH:=hide (HHJ.out w1 hb1 cr hcr hwd)
 have HC1:Hid (ChF B g w w1):=ChF.of hb1 HM.out.bw
 clear hwd hb1 HND
 go_wp2_with fail
 refine HH.out.mono ?_
 rintro e w2 ⟨rfl,q2,hM2,hc2⟩
 have HM2:=hide hM2
 have HC2:=hide (HC1.out.trans hc2)
 obtain ⟨cs2,hg2,hT2⟩:=hM2.tv
 have HG2:=hide hg2
 have HT2:=hide hT2
 have r1:w2.cell? ⟨g,1,none⟩=some (.pointer (some ⟨q2,0,none⟩)):=(aAa hg2).trans hT2.c1
 have r7:w2.cell? ⟨g,137,none⟩=some (.int .i64 left):=(aAa hg2).trans hT2.s1
 have f7:w2.frozen? ⟨g,137,none⟩=false:=aAc hg2
 have HLF:=hide (aEa hM2.st)
 clear hM2 hc2 hg2 hT2 HH
 go_wp2_with fail
 refine HLF.out.mono ?_
 rintro e w3 ⟨rfl,rfl⟩
 go_wp2
 (try simp only [Exit.inBlock,Exit.then])
 refine bodyPost_end (results_none rfl _ _ _) rfl ?_
 refine ⟨rfl,q2,⟨HM2.out.st.exT (Ex.set HM2.out.bg) HG2.out,nT HM2.out.bw (Ex.set (B:=B) (w:=w3) HM2.out.bg).1.size,HM2.out.bg,⟨_,heap_setCell_same _ _ _ _ _ _ HG2.out,HT2.out.lft⟩,HM2.out.lf,HM2.out.dn,HM2.out.af,HM2.out.l1,HM2.out.sn,HM2.out.hd⟩,HC2.out.trans (ChF.cell HM2.out.bg HG2.out)⟩
theorem Rollback_ok [Gd] {B p q g:Nat} {s:DS} {t:PS} {w:World} {now last:StT} {sv:Value} {left:Int} {sn:List (Nat×StT)} {root:Nat} (hg0:True) (hM:TM B p q g s t now last sv left w) (hsn:SnO B w g sv sn) (hPN:PgN s (jnS (jnP last.pgs last.pgs) (snP sn))) (h3:3≤s.n) (hlh:lastH (rdH (pad (s.show 0)) s.n) (rdH (pad (s.show 1)) s.n)=some (t.num,root)) (hnum:t.num≤4611686018427387904) (hrt:root≤4096) :
  Calls Tryz.prog 29 #[.pointer (some ⟨g,0,none⟩)] w fun e w'=>e=.returned (.int .i64 0)∧∃ q',TM B p q' g s (anew s t.num root (jnS (jnP last.pgs last.pgs) (snP sn))) last last sv (cntF (anew s t.num root (jnS (jnP last.pgs last.pgs) (snP sn))).st:Nat) w'∧SnO B w' g sv sn∧ChF B g w w':=by
 obtain ⟨cs,hg,hT⟩:=hM.tv
 have HDE:=hide (aDa hM.st hM.lf hg hT)
 have HM:=hide hM
 have HSN:=hide hsn
 have HLG:=hide (fun (ww:World) (h1:TM B p q g s t last last sv left ww) (h2:SnV ww sv (snP sn))=>letGo_ok hg0 h1 h2 hPN h3 hlh hnum hrt)
 have HG:=hide hg
 have HT:=hide hT
 clear hM hg hT hsn hPN hlh
 go_enter Tryz.func29,Tryz.ntmps29
 go_wp2_with fail
 refine HDE.out.mono ?_
 rintro e w1 ⟨rfl,hb1⟩
 have HG1:=hide ((hb1.block g (lO HG.out)).trans HG.out)
 have HM1:=hide (HM.out.later hb1)
 have HSN1:=hide (HSN.out.later hb1)
 have HC1:Hid (ChF B g w w1):=ChF.of hb1 HM.out.bw
 have HLD:=hide (aD9 (w:=w1) (g:=g) (o:=69) (ty:=57) (cs:=cutS cs 69) (fun j v hv=>(aAa HG1.out).trans (aF8 hv)) Tryz.underlying57 rfl (by rw [HT.out.lastS.sz];exact aBk))
 have hst:=aBi (o:=2) HG1.out (by rw [HT.out.lastS.sz,HT.out.sz];decide) HT.out.lastS.one
 have hcz:(cutS cs 69).size=67:=HT.out.lastS.sz
 have HT2:=hide (HT.out.setNow (st:=last) HT.out.lastS)
 have HG2:=hide (setRow_heap _ _ _ (spl cs 2 (cutS cs 69)) _ _ HG1.out)
 have HST2:=hide (HM1.out.st.rowT HM.out.bg HG1.out (spl cs 2 (cutS cs 69)))
 have HR2:Hid (ChF B g w1 (w1.setRow g (spl cs 2 (cutS cs 69)))):=ChF.row HM.out.bg HG1.out _
 have HSN2:=hide (HSN1.out.chf HR2.out HG1.out)
 generalize hcs2:spl cs 2 (cutS cs 69)=cs2 at *
 generalize hw2:w1.setRow g cs2=w2 at *
 have HM2:Hid (TM B p q g s t last last sv left w2):=⟨HST2.out,nT HM1.out.bw HR2.out.1.size,HM.out.bg,⟨cs2,HG2.out,HT2.out⟩,HM.out.lf,HM.out.dn,HM.out.af,HM.out.l1,HM.out.sn,HM.out.hd⟩
 have HL2:=hide (HLG.out w2 HM2.out HSN2.out.snv)
 clear hb1 HDE
 go_wp2_with (refine wpList_load_row rfl (.tmp 8) 57 rfl rfl HLD.out ?_)
 refine HL2.out.mono ?_
 rintro e w3 ⟨rfl,q3,hM3,hc3⟩
 have HM3:=hide hM3
 have HC3:=hide hc3
 clear hM3 hc3
 go_wp2
 go_ret
 exact ⟨rfl,q3,HM3.out,HSN2.out.chf HC3.out HG2.out,(HC1.out.trans HR2.out).trans HC3.out⟩
theorem Check_ok [Gd] {B p q g:Nat} {s:DS} {t:PS} {w:World} {now last:StT} {sv:Value} {left:Int} {l:List It} (hM:TM B p q g s t now last sv left w) (hTr:Tr s t now l) (hdp:now.depth<100000) (hl:l.length<100000) :
  Calls Tryz.prog 12 #[.pointer (some ⟨g,0,none⟩)] w fun e w'=>e=.returned (.int .i64 0)∧Below w.heap.size w w':=by
 have lt:∀ {k:Nat} {o:Obj} {ww:World},ww.heap[k]?=some o→k<ww.heap.size:=fun e=>(lO e)
 obtain ⟨cs,hg,hT⟩:=hM.tv
 have HDE:=hide (aDa hM.st hM.lf hg hT)
 have HLT:=hide (fun (ww:World) (hb:Below w.heap.size w ww)=>aGt (hM.st.later hb) (nT hM.bw hb.size) hM.lf hM.dn hM.sn hM.hd.1 hTr hdp hl)
 have HM:=hide hM
 have HG:=hide hg
 have HT:=hide hT
 clear hM hg hT hTr
 go_enter Tryz.func12,Tryz.ntmps12
 go_wp2_with fail
 refine HDE.out.mono ?_
 rintro e w1 ⟨rfl,hb1⟩
 have HG1:=hide ((hb1.block g (lt HG.out)).trans HG.out)
 have HB1:=hide hb1
 have HL1:=hide (HLT.out w1.drew (hb1.trans ((Below.refl _ _).drew)))
 clear hb1 HDE
 go_upto_region 3 with fail
 have HX0:Hid ((fun wx=>wx.cell? ⟨g,1,none⟩=some (.pointer (some ⟨q,0,none⟩))∧wx.cell? ⟨g,2,none⟩=some (.int .i64 now.root)) w1.drew):=⟨(aAa HG1.out).trans HT.out.c1,(aAa HG1.out).trans HT.out.n0⟩
 refine wp_region_noPanic ?_
 refine wp_region_held_drew (S:=fun wx=>wx.cell? ⟨g,1,none⟩=some (.pointer (some ⟨q,0,none⟩))∧wx.cell? ⟨g,2,none⟩=some (.int .i64 now.root)) (by kernel_rfl) HX0.out (fun hHeld=>?_)
 refine wpAnyH_tk 0 8 ?_
 refine wpAnyH_tk 1 9 ?_
 refine wpAnyH_tk 2 10 ?_
 refine wpAnyH_tk 3 11 ?_
 refine wpAnyH_tk 4 12 ?_
 refine wpAnyH_tk 5 13 ?_
 refine wpAnyH_tk 6 14 ?_
 refine wpAnyH_tk 7 15 ?_
 refine wpAnyH_tk 8 16 ?_
 refine aAx (i:=9) (j:=13) (by kernel_rfl) (by kernel_rfl) (by kernel_rfl) ?ba ?bb
 case ba =>
  intro o ho K hK
  simp only [List.getElem?_toArray,List.getElem?_cons_succ,List.getElem?_cons_zero,oI] at ho
  subst ho
  go_simp
  refine HL1.out.mono ?_
  rintro e w2 ⟨v2,rfl,⟨c2,st2,hv2,hsv2,_,_,hdd⟩,hb2⟩
  subst hv2
  have HSV2:=hide hsv2
  have HDD:=hide hdd
  have HB2:Hid (Below w.heap.size w w2):=HB1.out.trans (((Below.refl _ _).drew.trans hb2).mono HB1.out.size)
  have HG2:=hide ((HB2.out.block g (lt HG.out)).trans HG.out)
  have HX1:Hid ((fun wx=>wx.cell? ⟨g,1,none⟩=some (.pointer (some ⟨q,0,none⟩))∧wx.cell? ⟨g,2,none⟩=some (.int .i64 now.root)) w2):=⟨(aAa HG2.out).trans HT.out.c1,(aAa HG2.out).trans HT.out.n0⟩
  have HX9:Hid ((w2.alloc (.cells Tryz.zeroCells57 57)).heap[w2.heap.size]?=some (.cells Tryz.zeroCells57 57 (0,0))):=heap_alloc_new w2 _
  have HB3:Hid (Below w.heap.size w (w2.alloc (.cells Tryz.zeroCells57 57))):=HB2.out.trans ((aAb w2 _).mono HB2.out.size)
  have HNB:Hid (w.heap.size≤w2.heap.size):=HB2.out.size
  have HXX:Hid ((fun wx=>wx.cell? ⟨g,1,none⟩=some (.pointer (some ⟨q,0,none⟩))∧wx.cell? ⟨g,2,none⟩=some (.int .i64 now.root)) (w2.alloc (.cells Tryz.zeroCells57 57))):=by
   have h9:=(HB3.out.block g (lt HG.out)).trans HG.out
   exact ⟨(aAa h9).trans HT.out.c1,(aAa h9).trans HT.out.n0⟩
  clear hb2 hsv2 hdd hHeld
  refine hK.out _ _ HX1.out (fun hHeld=>?_)
  clear hK K
  try simp only [Act.put,siT,scZ,scS]
  refine wpAnyH_tk 10 7 ?_
  refine wpAnyH_tk 11 18 ?_
  refine wpAnyH_tk 12 19 ?_
  refine wpAnyH_cm 13 ?_;intro K hK
  go_simp
  clear hHeld
  refine hK.out _ _ HXX.out (fun hHeld=>?_)
  clear hK K
  try simp only [Act.put,siT,scZ,scS]
  clear HXX HX1
  generalize hw3:(w2.alloc (.cells Tryz.zeroCells57 57))=w3 at *
  generalize hnb:w2.heap.size=nb at *
  have HX3:Hid ((fun wx=>wx.cell? ⟨g,1,none⟩=some (.pointer (some ⟨q,0,none⟩))∧wx.cell? ⟨g,2,none⟩=some (.int .i64 now.root)) w3):=by
   have h9:=(HB3.out.block g (lt HG.out)).trans HG.out
   exact ⟨(aAa h9).trans HT.out.c1,(aAa h9).trans HT.out.n0⟩
  have hst:=aBi (o:=0) HX9.out (by rw [Nat.zero_add,HSV2.out.sz,aBx.sz];exact nR _) HSV2.out.one
  rw [aCy (by rw [HSV2.out.sz,aBx.sz])] at hst
  have hcz:c2.size=67:=HSV2.out.sz
  have HY4:=hide (setRow_heap _ _ _ c2 _ _ HX9.out)
  have HB4:Hid (Below w.heap.size w (w3.setRow nb c2)):=below_setRow HB3.out HNB.out c2
  have HX4:Hid ((fun wx=>wx.cell? ⟨g,1,none⟩=some (.pointer (some ⟨q,0,none⟩))∧wx.cell? ⟨g,2,none⟩=some (.int .i64 now.root)) (w3.setRow nb c2)):=by
   have h9:=(HB4.out.block g (lt HG.out)).trans HG.out
   exact ⟨(aAa h9).trans HT.out.c1,(aAa h9).trans HT.out.n0⟩
  refine wpAnyH_cm 14 ?_;intro K hK
  go_simp
  clear hHeld
  refine hK.out _ _ HX4.out (fun hHeld=>?_)
  clear hK K
  try simp only [Act.put,siT,scZ,scS]
  refine wpAnyH_tk 15 4 ?_
  refine wpAnyH_done (by kernel_rfl) ?_ _
  refine NoPanic.normal ?_
  clear hHeld HX0 HX3 HX4 hst
  generalize hw4:w3.setRow nb c2=w4 at *
  have HG4:=hide ((HB4.out.block g (lt HG.out)).trans HG.out)
  go_upto_region 4 with fail
  have ddp:(now.depth != now.depth)=false:=by simp
  have HX5:Hid ((fun wx=>wx.cell? ⟨nb,1,none⟩=some (.int .i64 now.depth)∧wx.cell? ⟨g,3,none⟩=some (.int .i64 now.depth)) w4.drew):=⟨by rw [←HDD.out];exact (aAa HY4.out).trans HSV2.out.c1,(aAa HG4.out).trans HT.out.n1⟩
  refine wp_region_noPanic ?_
  refine wp_region_held_drew (S:=fun wx=>wx.cell? ⟨nb,1,none⟩=some (.int .i64 now.depth)∧wx.cell? ⟨g,3,none⟩=some (.int .i64 now.depth)) (by kernel_rfl) HX5.out (fun hHeld=>?_)
  refine wpAnyH_tk 0 20 ?_
  refine wpAnyH_tk 1 21 ?_
  refine wpAnyH_tk 2 22 ?_
  refine wpAnyH_tk 3 23 ?_
  refine wpAnyH_tk 4 24 ?_
  refine wpAnyH_tk 5 25 ?_
  refine wpAnyH_tk 6 26 ?_
  refine wpAnyH_tk 7 27 ?_
  refine wpAnyH_tk 8 28 ?_
  refine wpAnyH_tk 9 29 ?_
  refine wpAnyH_tk 10 30 ?_
  refine wpAnyH_tk 11 31 ?_
  refine wpAnyH_done (by kernel_rfl) ?_ _
  refine NoPanic.normal ?_
  clear hHeld
  go_wp2
  go_ret
  exact ⟨rfl,HB4.out.drew⟩
 case bb =>
  intro o ho K hK
  simp only [List.getElem?_toArray,List.getElem?_cons_succ,List.getElem?_cons_zero,oI] at ho
  subst ho
  go_simp
  have HBA:Hid (Below w.heap.size w (w1.alloc (.cells Tryz.zeroCells57 57)).drew):=(HB1.out.trans ((aAb w1 _).mono HB1.out.size)).drew
  have HXA:Hid ((w1.alloc (.cells Tryz.zeroCells57 57)).drew.heap[w1.heap.size]?=some (.cells Tryz.zeroCells57 57 (0,0))):=heap_alloc_new w1 _
  have HXX:Hid ((fun wx=>wx.cell? ⟨g,1,none⟩=some (.pointer (some ⟨q,0,none⟩))∧wx.cell? ⟨g,2,none⟩=some (.int .i64 now.root)) (w1.alloc (.cells Tryz.zeroCells57 57)).drew):=by
   have h9:=(HBA.out.block g (lt HG.out)).trans HG.out
   exact ⟨(aAa h9).trans HT.out.c1,(aAa h9).trans HT.out.n0⟩
  have HNB:Hid (w.heap.size≤w1.heap.size):=HB1.out.size
  have HL2:=hide (HLT.out _ HBA.out)
  clear hHeld
  refine hK.out _ _ HXX.out (fun hHeld=>?_)
  clear hK K
  try simp only [Act.put,siT,scZ,scS]
  generalize hwA:(w1.alloc (.cells Tryz.zeroCells57 57)).drew=wA at *
  generalize hnb:w1.heap.size=nb at *
  refine wpAnyH_cm 9 ?_;intro K hK
  go_simp
  refine HL2.out.mono ?_
  rintro e w3 ⟨v2,rfl,⟨c2,st2,hv2,hsv2,_,_,hdd⟩,hb2⟩
  subst hv2
  have HSV2:=hide hsv2
  have HDD:=hide hdd
  have HB3:Hid (Below w.heap.size w w3):=HBA.out.trans (hb2.mono HBA.out.size)
  have HX9:=hide ((hb2.block nb (lt HXA.out)).trans HXA.out)
  have HX8:Hid ((fun wx=>wx.cell? ⟨g,1,none⟩=some (.pointer (some ⟨q,0,none⟩))∧wx.cell? ⟨g,2,none⟩=some (.int .i64 now.root)) w3):=by
   have h9:=(HB3.out.block g (lt HG.out)).trans HG.out
   exact ⟨(aAa h9).trans HT.out.c1,(aAa h9).trans HT.out.n0⟩
  clear hb2 hsv2 hdd hHeld
  refine hK.out _ _ HX8.out (fun hHeld=>?_)
  clear hK K
  try simp only [Act.put,siT,scZ,scS]
  clear HX8 HXX
  have HX3:Hid ((fun wx=>wx.cell? ⟨g,1,none⟩=some (.pointer (some ⟨q,0,none⟩))∧wx.cell? ⟨g,2,none⟩=some (.int .i64 now.root)) w3):=by
   have h9:=(HB3.out.block g (lt HG.out)).trans HG.out
   exact ⟨(aAa h9).trans HT.out.c1,(aAa h9).trans HT.out.n0⟩
  have hst:=aBi (o:=0) HX9.out (by rw [Nat.zero_add,HSV2.out.sz,aBx.sz];exact nR _) HSV2.out.one
  rw [aCy (by rw [HSV2.out.sz,aBx.sz])] at hst
  have hcz:c2.size=67:=HSV2.out.sz
  have HY4:=hide (setRow_heap _ _ _ c2 _ _ HX9.out)
  have HB4:Hid (Below w.heap.size w (w3.setRow nb c2)):=below_setRow HB3.out HNB.out c2
  have HX4:Hid ((fun wx=>wx.cell? ⟨g,1,none⟩=some (.pointer (some ⟨q,0,none⟩))∧wx.cell? ⟨g,2,none⟩=some (.int .i64 now.root)) (w3.setRow nb c2)):=by
   have h9:=(HB4.out.block g (lt HG.out)).trans HG.out
   exact ⟨(aAa h9).trans HT.out.c1,(aAa h9).trans HT.out.n0⟩
  refine wpAnyH_tk 10 7 ?_
  refine wpAnyH_tk 11 18 ?_
  refine wpAnyH_tk 12 19 ?_
  refine wpAnyH_cm 14 ?_;intro K hK
  go_simp
  clear hHeld
  refine hK.out _ _ HX4.out (fun hHeld=>?_)
  clear hK K
  try simp only [Act.put,siT,scZ,scS]
  refine wpAnyH_tk 15 4 ?_
  refine wpAnyH_done (by kernel_rfl) ?_ _
  refine NoPanic.normal ?_
  clear hHeld HX0 HX3 HX4 hst
  generalize hw4:w3.setRow nb c2=w4 at *
  have HG4:=hide ((HB4.out.block g (lt HG.out)).trans HG.out)
  go_upto_region 4 with fail
  have ddp:(now.depth != now.depth)=false:=by simp
  have HX5:Hid ((fun wx=>wx.cell? ⟨nb,1,none⟩=some (.int .i64 now.depth)∧wx.cell? ⟨g,3,none⟩=some (.int .i64 now.depth)) w4.drew):=⟨by rw [←HDD.out];exact (aAa HY4.out).trans HSV2.out.c1,(aAa HG4.out).trans HT.out.n1⟩
  refine wp_region_noPanic ?_
  refine wp_region_held_drew (S:=fun wx=>wx.cell? ⟨nb,1,none⟩=some (.int .i64 now.depth)∧wx.cell? ⟨g,3,none⟩=some (.int .i64 now.depth)) (by kernel_rfl) HX5.out (fun hHeld=>?_)
  refine wpAnyH_tk 0 20 ?_
  refine wpAnyH_tk 1 21 ?_
  refine wpAnyH_tk 2 22 ?_
  refine wpAnyH_tk 3 23 ?_
  refine wpAnyH_tk 4 24 ?_
  refine wpAnyH_tk 5 25 ?_
  refine wpAnyH_tk 6 26 ?_
  refine wpAnyH_tk 7 27 ?_
  refine wpAnyH_tk 8 28 ?_
  refine wpAnyH_tk 9 29 ?_
  refine wpAnyH_tk 10 30 ?_
  refine wpAnyH_tk 11 31 ?_
  refine wpAnyH_done (by kernel_rfl) ?_ _
  refine NoPanic.normal ?_
  clear hHeld
  go_wp2
  go_ret
  exact ⟨rfl,HB4.out.drew⟩
theorem aEe {o:Oper} {a:Act} {w:World} {p:Operand} {t:TypeId} (ho:o.op=.load t p) {ad:Addr} {cs:Array Value} (hp:a.eval p=.pointer (some ad)) (hrun:(loadVar t ad).run Tryz.prog w=.ok (.agg cs) w):(execOp a.eval o).run Tryz.prog w=.ok (.value (.agg cs)) w:=by
 simp [execOp,ho,Instr.loadAt,Instr.sureAddr,hp,hrun,Result.andThen]
theorem zero_tree:Tryz.zeroCells60.size=139∧Tryz.zeroCells60[136]?=some (.slice none 0 0)∧Tryz.zeroCells60[138]?=some (.bool false):=⟨by kernel_rfl,by kernel_rfl,by kernel_rfl⟩
theorem tv_build {p q:Nat} {c2:Array Value} {st:StT} {L:Nat} (hc:StV c2 st.root st.depth st.keys st.pgs):TV ((Array.foldl (fun (cs:Array Value) (x:Value×Nat)=>cs.setIfInBounds (69+x.2) x.1) (Array.foldl (fun (cs:Array Value) (x:Value×Nat)=>cs.setIfInBounds (2+x.2) x.1) ((Tryz.zeroCells60.setIfInBounds 0 (.pointer (some ⟨p,0,none⟩))).setIfInBounds 1 (.pointer (some ⟨q,0,none⟩))) c2.zipIdx 0 67) c2.zipIdx 0 67).setIfInBounds 137 (.int .i64 (L:Int))) p q st st (.slice none 0 0) (L:Int) false:=by
 obtain ⟨z1,z2,z3⟩:=zero_tree
 have b1:((Tryz.zeroCells60.setIfInBounds 0 (.pointer (some ⟨p,0,none⟩))).setIfInBounds 1 (.pointer (some ⟨q,0,none⟩))).size=139:=by rw [Array.size_setIfInBounds,Array.size_setIfInBounds];exact z1
 obtain ⟨i1,i2⟩:=aF1 (base:=((Tryz.zeroCells60.setIfInBounds 0 (.pointer (some ⟨p,0,none⟩))).setIfInBounds 1 (.pointer (some ⟨q,0,none⟩)))) (vs:=c2) (o:=2) (n:=67) hc.sz (by rw [b1];decide)
 obtain ⟨j1,j2⟩:=aF1 (base:=(Array.foldl (fun (cs:Array Value) (x:Value×Nat)=>cs.setIfInBounds (2+x.2) x.1) ((Tryz.zeroCells60.setIfInBounds 0 (.pointer (some ⟨p,0,none⟩))).setIfInBounds 1 (.pointer (some ⟨q,0,none⟩))) c2.zipIdx 0 67)) (vs:=c2) (o:=69) (n:=67) hc.sz (by rw [i1,b1];decide)
 have ne:∀ i,i≠137→((Array.foldl (fun (cs:Array Value) (x:Value×Nat)=>cs.setIfInBounds (69+x.2) x.1) (Array.foldl (fun (cs:Array Value) (x:Value×Nat)=>cs.setIfInBounds (2+x.2) x.1) ((Tryz.zeroCells60.setIfInBounds 0 (.pointer (some ⟨p,0,none⟩))).setIfInBounds 1 (.pointer (some ⟨q,0,none⟩))) c2.zipIdx 0 67) c2.zipIdx 0 67).setIfInBounds 137 (.int .i64 (L:Int)))[i]?=(Array.foldl (fun (cs:Array Value) (x:Value×Nat)=>cs.setIfInBounds (69+x.2) x.1) (Array.foldl (fun (cs:Array Value) (x:Value×Nat)=>cs.setIfInBounds (2+x.2) x.1) ((Tryz.zeroCells60.setIfInBounds 0 (.pointer (some ⟨p,0,none⟩))).setIfInBounds 1 (.pointer (some ⟨q,0,none⟩))) c2.zipIdx 0 67) c2.zipIdx 0 67)[i]?:=fun i hi=>Array.getElem?_setIfInBounds_ne (Ne.symm hi)
 have lo:∀ i,i<2→((Array.foldl (fun (cs:Array Value) (x:Value×Nat)=>cs.setIfInBounds (69+x.2) x.1) (Array.foldl (fun (cs:Array Value) (x:Value×Nat)=>cs.setIfInBounds (2+x.2) x.1) ((Tryz.zeroCells60.setIfInBounds 0 (.pointer (some ⟨p,0,none⟩))).setIfInBounds 1 (.pointer (some ⟨q,0,none⟩))) c2.zipIdx 0 67) c2.zipIdx 0 67).setIfInBounds 137 (.int .i64 (L:Int)))[i]?=((Tryz.zeroCells60.setIfInBounds 0 (.pointer (some ⟨p,0,none⟩))).setIfInBounds 1 (.pointer (some ⟨q,0,none⟩)))[i]?:=fun i hi=>by rw [ne i (by omega),j2 i,if_neg (by omega),i2 i,if_neg (by omega)]
 have m1:∀ i,i<67→((Array.foldl (fun (cs:Array Value) (x:Value×Nat)=>cs.setIfInBounds (69+x.2) x.1) (Array.foldl (fun (cs:Array Value) (x:Value×Nat)=>cs.setIfInBounds (2+x.2) x.1) ((Tryz.zeroCells60.setIfInBounds 0 (.pointer (some ⟨p,0,none⟩))).setIfInBounds 1 (.pointer (some ⟨q,0,none⟩))) c2.zipIdx 0 67) c2.zipIdx 0 67).setIfInBounds 137 (.int .i64 (L:Int)))[2+i]?=c2[i]?:=fun i hi=>by rw [ne (2+i) (by omega),j2,if_neg (by omega),i2,if_pos (by omega),show 2+i-2=i by omega]
 have m2:∀ i,i<67→((Array.foldl (fun (cs:Array Value) (x:Value×Nat)=>cs.setIfInBounds (69+x.2) x.1) (Array.foldl (fun (cs:Array Value) (x:Value×Nat)=>cs.setIfInBounds (2+x.2) x.1) ((Tryz.zeroCells60.setIfInBounds 0 (.pointer (some ⟨p,0,none⟩))).setIfInBounds 1 (.pointer (some ⟨q,0,none⟩))) c2.zipIdx 0 67) c2.zipIdx 0 67).setIfInBounds 137 (.int .i64 (L:Int)))[69+i]?=c2[i]?:=fun i hi=>by rw [ne (69+i) (by omega),j2,if_pos (by omega),show 69+i-69=i by omega]
 have hi:∀ i,136≤i→i≠137→((Array.foldl (fun (cs:Array Value) (x:Value×Nat)=>cs.setIfInBounds (69+x.2) x.1) (Array.foldl (fun (cs:Array Value) (x:Value×Nat)=>cs.setIfInBounds (2+x.2) x.1) ((Tryz.zeroCells60.setIfInBounds 0 (.pointer (some ⟨p,0,none⟩))).setIfInBounds 1 (.pointer (some ⟨q,0,none⟩))) c2.zipIdx 0 67) c2.zipIdx 0 67).setIfInBounds 137 (.int .i64 (L:Int)))[i]?=Tryz.zeroCells60[i]?:=fun i h1 h2=>by rw [ne i h2,j2 i,if_neg (by omega),i2 i,if_neg (by omega),Array.getElem?_setIfInBounds_ne (by omega),Array.getElem?_setIfInBounds_ne (by omega)]
 refine ⟨by rw [Array.size_setIfInBounds,j1,i1,b1],?_,?_,(m1 0 (by omega)).trans hc.c0,(m1 1 (by omega)).trans hc.c1,(m1 2 (by omega)).trans hc.c2,⟨hc.wd.1,hc.wd.2.1,fun i x hx=>?_⟩,(m2 0 (by omega)).trans hc.c0,(m2 1 (by omega)).trans hc.c1,(m2 2 (by omega)).trans hc.c2,⟨hc.wd.1,hc.wd.2.1,fun i x hx=>?_⟩,(hi 136 (by omega) (by omega)).trans z2,?_,(hi 138 (by omega) (by omega)).trans z3⟩
 ·rw [lo 0 (by omega),Array.getElem?_setIfInBounds_ne (by omega),Array.getElem?_setIfInBounds_self_of_lt (by rw [z1];decide)]
 ·rw [lo 1 (by omega),Array.getElem?_setIfInBounds_self_of_lt (by rw [Array.size_setIfInBounds,z1];decide)]
 ·have h1:=(lL hx)
  have h2:=hc.wd.1
  rw [show 5+i=2+(3+i) by omega,m1 (3+i) (by omega)]
  exact hc.wd.2.2 i x hx
 ·have h1:=(lL hx)
  have h2:=hc.wd.1
  rw [show 72+i=69+(3+i) by omega,m2 (3+i) (by omega)]
  exact hc.wd.2.2 i x hx
 ·exact Array.getElem?_setIfInBounds_self_of_lt (by rw [j1,i1,b1];decide)
theorem Open_none [Gd] {B p:Nat} {s:DS} {w:World} {num:Nat} (h:DI B p s w) (hB:B≤w.heap.size) (hd:s.down=false) (ha:s.after<1) (hl1:s.life<100000) (h3:3≤s.n) (h4:s.n≤4096) (hl:lastH (rdH (pad (s.show 0)) s.n) (rdH (pad (s.show 1)) s.n)=some (num,0)) (hnum:num≤4611686018427387904) :
  Calls Tryz.prog 14 #[.pointer (some ⟨p,0,none⟩)] w fun e w'=>∃ q g st0,e=.returned (.tuple #[.pointer (some ⟨g,0,none⟩),.int .i64 0])∧w.heap.size≤g∧TM B p q g s ⟨newSt s.n,s.life,num,0⟩ st0 st0 (.slice none 0 0) (cntF (newSt s.n):Nat) w'∧st0.root=0∧st0.depth=0∧st0.keys=0∧PgS st0.pgs []∧Fp B w w':=by
 have lt:∀ {k:Nat} {o:Obj} {ww:World},ww.heap[k]?=some o→k<ww.heap.size:=fun e=>(lO e)
 have HOP:=hide (open_ok B p s num 0 w h hB hd h3 hl hnum (by omega))
 have hns0:(newSt s.n).getD 0 0=0:=by rw [aD4 (by omega)];rfl
 have hns1:(newSt s.n).getD 1 0=0:=by rw [aD4 (by omega)];rfl
 have HTR:Hid (Tr s ⟨newSt s.n,s.life,num,0⟩ ⟨0,0,0,zPs⟩ []):=Or.inl ⟨rfl,rfl,rfl,rfl,aHn List.nodup_nil (fun x hx=>by simp at hx)⟩
 have HB:=hide hB
 clear h hl
 go_enter Tryz.func14,Tryz.ntmps14
 go_wp2_with fail
 refine HOP.out.mono ?_
 rintro e w1 ⟨q,rfl,hst1,hb1⟩
 have HST1:=hide hst1
 have HB1:=hide hb1
 have HBw1:Hid (B≤w1.heap.size):=nT hB hb1.size
 have HRO:=hide (root_any hst1)
 have HLT:=hide (aGt (l:=[]) (st:=⟨0,0,0,zPs⟩) hst1 HBw1.out rfl hd (aCc _) hns0 HTR.out (by decide) (by decide))
 clear hst1 hb1 HOP
 go_wp2_with fail
 refine HRO.out.mono ?_
 rintro e w1' ⟨rfl,rfl⟩
 go_wp2_with fail
 refine HLT.out.mono ?_
 rintro e w2 ⟨v2,rfl,⟨c2,st2,hv2,hsv2,htr2,hr2,hd2⟩,hb2⟩
 subst hv2
 have hst2:st2.root=0∧st2.depth=0∧st2.keys=0∧PgS st2.pgs []:=by
  rcases htr2 with ⟨a1,a2,a3,_,a5⟩ | ⟨h9,b9,q1,q2,_⟩
  ·exact ⟨a1,a2,a3,a5⟩
  ·rw [hd2] at q2
   have q2:(0:Int)=((h9+1:Nat):Int):=q2
   omega
 have HB2:Hid (Below w.heap.size w w2):=HB1.out.trans (hb2.mono HB1.out.size)
 have HST2:=hide (HST1.out.later hb2)
 have x3:(w2.alloc (.cells Tryz.zeroCells57 57)).heap[w2.heap.size]?=some (.cells Tryz.zeroCells57 57 (0,0)):=heap_alloc_new w2 _
 have hst:=aBi (o:=0) x3 (by rw [Nat.zero_add,hsv2.sz,aBx.sz];exact nR _) hsv2.one
 rw [aCy (by rw [hsv2.sz,aBx.sz])] at hst
 have hcz:c2.size=67:=hsv2.sz
 have HSV2:=hide hsv2
 have HS2:=hide hst2
 have HB3:Hid (Below w.heap.size w ((w2.alloc (.cells Tryz.zeroCells57 57)).setRow w2.heap.size c2)):=below_setRow (HB2.out.trans ((aAb w2 _).mono HB2.out.size)) HB2.out.size c2
 have HBL3:Hid (Below w2.heap.size w2 ((w2.alloc (.cells Tryz.zeroCells57 57)).setRow w2.heap.size c2)):=below_setRow (aAb w2 _) (nR _) c2
 have HY3:=hide (setRow_heap _ _ _ c2 _ _ x3)
 clear hsv2 htr2 hr2 hd2 hb2 x3 hst2 HRO HLT
 go_upto_region 7 with fail
 generalize hw3:((w2.alloc (.cells Tryz.zeroCells57 57)).setRow w2.heap.size c2)=w3 at *
 have HST3:=hide (HST2.out.later HBL3.out)
 generalize hnb:w2.heap.size=nb at *
 clear hst
 have HNM:=hide (aGs (o:=3) HY3.out HSV2.out.wd)
 have HNO:Hid (nums st2.pgs 4096=[]):=by
  show _=_
  rw [nums,List.filter_eq_nil_iff]
  intro x _
  rw [HS2.out.2.2.2.2.2.2 x]
  simp
 rw [HNO.out] at HNM
 go_wp2_with fail
 refine HNM.out.mono ?_
 rintro e w4 ⟨v4,rfl,ho4,hb4⟩
 have HBw4:Hid (B≤w4.heap.size):=nT (nT hB HB3.out.size) hb4.size
 have HST4:=hide (HST3.out.later hb4)
 obtain ⟨va,vc,hv4⟩:=aAf ho4
 subst hv4
 have HHO:=hide (hold_any (l:=[]) HST4.out HBw4.out rfl ho4 (by decide) (fun x hx=>by simp at hx))
 have HY4:=hide ((hb4.block nb (lt HY3.out)).trans HY3.out)
 have HB4:Hid (Below w.heap.size w w4):=HB3.out.trans (hb4.mono HB3.out.size)
 clear ho4 hb4 HNM
 simp only [List.length_nil] at *
 go_wp2_with fail
 refine HHO.out.mono ?_
 rintro e w5 ⟨rfl,h1,h2⟩
 have HST5:Hid (ST B p q s ⟨newSt s.n,s.life,num,0⟩ w5):=h1
 have HF5:Hid (Fp B w w5):=(Fp.of HB4.out hB).trans h2
 have HY5:=hide (h2.tree HY4.out (by decide))
 clear h1 h2 HHO
 go_upto_region 8 with fail
 have HX0:Hid ((fun wx=>wx.heap[nb]?=some (.cells c2 57 (0,0))) w5.drew):=HY5.out
 have HLE:=hide (aEa (HST5.out.later (Below.refl _ _).drew))
 have HBw5:Hid (B≤w5.heap.size):=nT hB HF5.out.bel.size
 generalize hL:cntF (newSt s.n)=L at *
 obtain ⟨zt1,zt2,zt3⟩:=zero_tree
 have hb9:((Tryz.zeroCells60.setIfInBounds 0 (.pointer (some ⟨p,0,none⟩))).setIfInBounds 1 (.pointer (some ⟨q,0,none⟩))).size=139:=by rw [Array.size_setIfInBounds,Array.size_setIfInBounds];exact zt1
 have hsz1:(Array.foldl (fun (cs:Array Value) (x:Value×Nat)=>cs.setIfInBounds (2+x.2) x.1) ((Tryz.zeroCells60.setIfInBounds 0 (.pointer (some ⟨p,0,none⟩))).setIfInBounds 1 (.pointer (some ⟨q,0,none⟩))) c2.zipIdx 0 67).size=139:=(aF1 (base:=((Tryz.zeroCells60.setIfInBounds 0 (.pointer (some ⟨p,0,none⟩))).setIfInBounds 1 (.pointer (some ⟨q,0,none⟩)))) (vs:=c2) (o:=2) (n:=67) hcz (by rw [hb9];decide)).1.trans hb9
 have hsz2:(Array.foldl (fun (cs:Array Value) (x:Value×Nat)=>cs.setIfInBounds (69+x.2) x.1) (Array.foldl (fun (cs:Array Value) (x:Value×Nat)=>cs.setIfInBounds (2+x.2) x.1) ((Tryz.zeroCells60.setIfInBounds 0 (.pointer (some ⟨p,0,none⟩))).setIfInBounds 1 (.pointer (some ⟨q,0,none⟩))) c2.zipIdx 0 67) c2.zipIdx 0 67).size=139:=(aF1 (base:=(Array.foldl (fun (cs:Array Value) (x:Value×Nat)=>cs.setIfInBounds (2+x.2) x.1) ((Tryz.zeroCells60.setIfInBounds 0 (.pointer (some ⟨p,0,none⟩))).setIfInBounds 1 (.pointer (some ⟨q,0,none⟩))) c2.zipIdx 0 67)) (vs:=c2) (o:=69) (n:=67) hcz (by rw [hsz1];decide)).1.trans hsz1
 have HTV:Hid (TV ((Array.foldl (fun (cs:Array Value) (x:Value×Nat)=>cs.setIfInBounds (69+x.2) x.1) (Array.foldl (fun (cs:Array Value) (x:Value×Nat)=>cs.setIfInBounds (2+x.2) x.1) ((Tryz.zeroCells60.setIfInBounds 0 (.pointer (some ⟨p,0,none⟩))).setIfInBounds 1 (.pointer (some ⟨q,0,none⟩))) c2.zipIdx 0 67) c2.zipIdx 0 67).setIfInBounds 137 (.int .i64 (L:Int))) p q st2 st2 (.slice none 0 0) (L:Int) false):=tv_build HSV2.out
 have HST2E:Hid (st2=⟨0,0,0,st2.pgs⟩):=by
  obtain ⟨e1,e2,e3,e4⟩:=HS2.out
  show _=_
  cases st2
  simp only at e1 e2 e3
  subst e1 e2 e3
  rfl
 clear zt1 zt2 zt3 hb9
 refine wp_region_noPanic ?_
 refine wp_region_held_drew (S:=fun wx=>wx.heap[nb]?=some (.cells c2 57 (0,0))) (by kernel_rfl) HX0.out (fun hHeld=>?_)
 refine wpAnyH_tk 0 29 ?_
 refine wpAnyH_tk 1 30 ?_
 refine aAd (i:=2) (d:=31) (v:=.agg c2) (by kernel_rfl) (by kernel_rfl) (by kernel_rfl) (by kernel_rfl) (fun _ _ _ h=>h) ?hya2 (by assumption) ?resta2
 case hya2 =>
  intro oi ho
  simp only [List.getElem?_toArray,List.getElem?_cons_succ,List.getElem?_cons_zero,oI] at ho
  subst ho
  refine Or.inl ⟨by rfl,?_⟩
  intro wx hSw
  exact aEe rfl rfl ((fun (wx:World) (hSw:wx.heap[nb]?=some (.cells c2 57 (0,0)))=>run_loadVar_row (P:=Tryz.prog) wx nb 57 57 c2 (0,0) _ hSw Tryz.underlying57 rfl (by rw [hcz];exact aBk)) wx hSw)
 case resta2 =>
  try simp only [Act.put,siT,scZ,scS]
  refine aAd (i:=3) (d:=32) (v:=.agg c2) (by kernel_rfl) (by kernel_rfl) (by kernel_rfl) (by kernel_rfl) (fun _ _ _ h=>h) ?hya3 (by assumption) ?resta3
  case hya3 =>
   intro oi ho
   simp only [List.getElem?_toArray,List.getElem?_cons_succ,List.getElem?_cons_zero,oI] at ho
   subst ho
   refine Or.inl ⟨by rfl,?_⟩
   intro wx hSw
   exact aEe rfl rfl ((fun (wx:World) (hSw:wx.heap[nb]?=some (.cells c2 57 (0,0)))=>run_loadVar_row (P:=Tryz.prog) wx nb 57 57 c2 (0,0) _ hSw Tryz.underlying57 rfl (by rw [hcz];exact aBk)) wx hSw)
  case resta3 =>
   try simp only [Act.put,siT,scZ,scS]
   refine wpAnyH_tk 4 33 ?_
   refine wpAnyH_cm 5 ?_;intro K hK
   go_simp
   refine HLE.out.mono ?_
   rintro e w6 ⟨rfl,rfl⟩
   refine hK.out _ _ HX0.out (fun hHeld=>?_)
   clear hK K
   try simp only [Act.put,siT,scZ,scS]
   refine aAd (i:=6) (d:=35) (v:=.agg ((Array.foldl (fun (cs:Array Value) (x:Value×Nat)=>cs.setIfInBounds (69+x.2) x.1) (Array.foldl (fun (cs:Array Value) (x:Value×Nat)=>cs.setIfInBounds (2+x.2) x.1) ((Tryz.zeroCells60.setIfInBounds 0 (.pointer (some ⟨p,0,none⟩))).setIfInBounds 1 (.pointer (some ⟨q,0,none⟩))) c2.zipIdx 0 67) c2.zipIdx 0 67).setIfInBounds 137 (.int .i64 (L:Int)))) (by kernel_rfl) (by kernel_rfl) (by kernel_rfl) (by kernel_rfl) (fun _ _ _ h=>h) ?hya6 (by assumption) ?resta6
   case hya6 =>
    intro oi ho
    simp only [List.getElem?_toArray,List.getElem?_cons_succ,List.getElem?_cons_zero,oI] at ho
    subst ho
    refine Or.inl ⟨by rfl,?_⟩
    intro wx hSw
    try dsimp only at hSw
    go_simp
    try rfl
   try simp only [Act.put,siT,scZ,scS]
   generalize ((Array.foldl (fun (cs:Array Value) (x:Value×Nat)=>cs.setIfInBounds (69+x.2) x.1) (Array.foldl (fun (cs:Array Value) (x:Value×Nat)=>cs.setIfInBounds (2+x.2) x.1) ((Tryz.zeroCells60.setIfInBounds 0 (.pointer (some ⟨p,0,none⟩))).setIfInBounds 1 (.pointer (some ⟨q,0,none⟩))) c2.zipIdx 0 67) c2.zipIdx 0 67).setIfInBounds 137 (.int .i64 (L:Int)))=bg at *
   clear hsz1 hsz2
   have HB7:Hid (Below w5.heap.size w5 (w5.alloc (.cells bg 60)).drew):=(aAb w5 _).drew
   have HN7:Hid ((w5.alloc (.cells bg 60)).drew.heap[w5.heap.size]?=some (.cells bg 60 (0,0))):=heap_alloc_new w5 _
   have HX7:Hid ((fun wx=>wx.heap[nb]?=some (.cells c2 57 (0,0))) (w5.alloc (.cells bg 60)).drew):=(HB7.out.block nb (lt HY5.out)).trans HY5.out
   refine wpAnyH_cm 7 ?_;intro K hK
   go_simp
   clear hHeld
   refine hK.out _ _ HX7.out (fun hHeld=>?_)
   clear hK K
   try simp only [Act.put,siT,scZ,scS]
   refine wpAnyH_tk 8 2 ?_
   refine wpAnyH_tk 9 3 ?_
   refine wpAnyH_done (by kernel_rfl) ?_ _
   refine NoPanic.normal ?_
   clear hHeld HX0 HX7
   go_wp2
   go_ret2
   refine ⟨q,w5.heap.size,st2,rfl,HF5.out.bel.size,⟨HST5.out.later HB7.out,nT HBw5.out HB7.out.size,HBw5.out,⟨bg,HN7.out,by rw [←hL] at HTV;exact HTV.out⟩,rfl,hd,ha,hl1,aCc _,⟨hns0,hns1⟩⟩,HS2.out.1,HS2.out.2.1,HS2.out.2.2.1,HS2.out.2.2.2,HF5.out.trans (Fp.of HB7.out HBw5.out)⟩
theorem Len_any [Gd] {B p q g:Nat} {s:DS} {t:PS} {w:World} {now last:StT} {sv:Value} {left:Int} (hM:TM B p q g s t now last sv left w) :
  Calls Tryz.prog 11 #[.pointer (some ⟨g,0,none⟩)] w fun e w'=>e=.returned (.int .i64 now.keys)∧w'=w:=by
 obtain ⟨cs,hg,hT⟩:=hM.tv
 have r4:w.cell? ⟨g,4,none⟩=some (.int .i64 now.keys):=(aAa hg).trans hT.n2
 clear hM hg hT
 go_enter Tryz.func11,Tryz.ntmps11
 go_wp2
 go_ret
 exact ⟨rfl,rfl⟩
theorem Number_any [Gd] {B p q g:Nat} {s:DS} {t:PS} {w:World} {now last:StT} {sv:Value} {left:Int} (hM:TM B p q g s t now last sv left w) :
  Calls Tryz.prog 30 #[.pointer (some ⟨g,0,none⟩)] w fun e w'=>e=.returned (.int .i64 (t.num:Int))∧w'=w:=by
 obtain ⟨cs,hg,hT⟩:=hM.tv
 have r1:w.cell? ⟨g,1,none⟩=some (.pointer (some ⟨q,0,none⟩)):=(aAa hg).trans hT.c1
 have HN:=hide (aEp hM.st)
 clear hM hg hT
 go_enter Tryz.func30,Tryz.ntmps30
 go_wp2_with fail
 refine HN.out.mono ?_
 rintro e w1 ⟨rfl,rfl⟩
 go_wp2
 go_ret
 exact ⟨rfl,rfl⟩
theorem Put_arg [Gd] {B p q g:Nat} {s:DS} {t:PS} {w:World} {now last:StT} {sv:Value} {left:Int} (hM:TM B p q g s t now last sv left w) (a va:Option Addr) (n c vn vc:Nat) (h0:n=0∨64<n) :
  Calls Tryz.prog 5 #[.pointer (some ⟨g,0,none⟩),.slice a n c,.slice va vn vc] w fun e w'=>e=.returned (.int .i64 (if n=0 then 1 else 3))∧Below w.heap.size w w':=by
 have HBX:=hide (aA8 [Obj.cells #[.slice a n c] 28,Obj.cells #[.slice va vn vc] 28] w)
 have HX0:Hid (((w.alloc (.cells #[.slice a n c] 28)).alloc (.cells #[.slice va vn vc] 28)).heap[w.heap.size]?=some (.cells #[.slice a n c] 28 (0,0))):=aAr [Obj.cells #[.slice a n c] 28,Obj.cells #[.slice va vn vc] 28] w 0 _ rfl
 have HB1:Hid (Below w.heap.size w ((w.alloc (.cells #[.slice a n c] 28)).alloc (.cells #[.slice va vn vc] 28))):=HBX.out.1
 have c0:((w.alloc (.cells #[.slice a n c] 28)).alloc (.cells #[.slice va vn vc] 28)).cell? ⟨w.heap.size,0,none⟩=some (.slice a n c):=aAa HX0.out
 have HRF:Hid (Calls Tryz.prog 15 #[.pointer (some ⟨g,0,none⟩),.slice a n c] ((w.alloc (.cells #[.slice a n c] 28)).alloc (.cells #[.slice va vn vc] 28)) fun e w'=>e=.returned (.int .i64 (if n=0 then 1 else 3))∧Below w.heap.size w w'):=by
  have h1:=hM.later HB1.out
  obtain ⟨cs,hg,hT⟩:=h1.tv
  refine (aCs h1.st hM.lf hg hT a n c).mono ?_
  rintro e w' ⟨rfl,hb⟩
  refine ⟨?_,HB1.out.trans (hb.mono HB1.out.size)⟩
  by_cases e:n=0
  ·rw [if_pos e,if_pos e]
  ·rw [if_neg e,if_neg e,if_pos (by omega)]
 have hne:¬ (if n=0 then (1:Int) else 3)=0:=by split<;>decide
 have dne:((if n=0 then (1:Int) else 3) != 0)=true:=by split<;>rfl
 clear hM h0 HBX
 generalize (if n=0 then (1:Int) else 3)=r at *
 go_enter Tryz.func5,Tryz.ntmps5
 go_wp2_with fail
 refine HRF.out.mono ?_
 rintro e w1 ⟨rfl,hb⟩
 have HB:=hide hb
 clear hb
 go_wp2
 go_ret
 exact ⟨rfl,HB.out⟩
theorem cnt_mono:∀ (a b:List Nat),a.length=b.length→(∀ i:Nat,a[i]?=some 1→b[i]?=some 1)→a.count 1≤b.count 1
 | [],[],_,_=>nR _
 | [],_::_,h,_=>by simp at h
 | _::_,[],h,_=>by simp at h
 | x::a,y::b,h,hh=>by
  have ih:=cnt_mono a b (by simpa using h) fun i hi=>by simpa using hh (i+1) (by simpa using hi)
  by_cases c:x=1
  ·subst c
   have:y=1:=by simpa using hh 0 rfl
   subst this
   simp only [List.count_cons_self]
   omega
  ·rw [List.count_cons_of_ne (fun q=>c q)]
   exact nT ih (List.count_le_count_cons)
theorem getD_some {st:List Nat} {i x:Nat} (h:st[i]?=some x):st.getD i 0=x:=by rw [List.getD_eq_getElem?_getD,h];rfl
theorem some_getD {st:List Nat} {i:Nat} (h:i<st.length):st[i]?=some (st.getD i 0):=by rw [List.getD_eq_getElem?_getD,gE h];rfl
theorem Cmt.cnt {s s':DS} {t t':PS} {nd:List Nat} {root:Nat} (h:Cmt s t nd root s' t'):cntF t.st≤cntF t'.st:=by
 refine cnt_mono _ _ h.len.symm fun i hi=>?_
 have hl:=(lL hi)
 have hg:=getD_some hi
 rw [some_getD (by rw [h.len];exact hl),h.st i hl,hg]
 simp
theorem aFv (n:Nat) (h:2≤n):cntF (newSt n)=n-2:=by
 unfold cntF newSt
 have key:∀ k,((List.range k).map fun i=>if i<2 then 0 else 1).count 1=k-2:=by
  intro k
  induction k with
  | zero=>rfl
  | succ k ih =>
   rw [List.range_succ,List.map_append,List.count_append,ih]
   by_cases c:k<2
   ·simp [c];omega
   ·simp [c];omega
 exact key n
theorem Tr.one {s:DS} {t:PS} {st:StT} {l:List It} (h:Tr s t st l) (hl:l.length≤4):st.depth≤1:=by
 rcases h with ⟨_,r2,_,_,_⟩ | ⟨h,b,e1,e2,e3,e4,e5,e6,e7,e8,e9⟩
 ·omega
 ·have:=deepR e7 e8
  rw [e4] at this
  have h0:h=0:=by
   apply Classical.byContradiction
   intro q
   have h4:3 ^ 1≤3 ^ h:=Nat.pow_le_pow_right (by omega) (by omega)
   omega
  omega
theorem Tr.pg {s:DS} {t:PS} {st:StT} {l:List It} (h:Tr s t st l) (hd:t.st.getD 0 0=0∧t.st.getD 1 0=0):st.pgs.length=64∧∀ i,hsP st.pgs i=true→2≤i∧i<s.n:=by
 rcases h with ⟨_,_,_,_,r5⟩ | ⟨h,b,e1,e2,e3,e4,e5,e6,e7,e8,e9⟩
 ·refine ⟨r5.1,fun i hi=>?_⟩
  rw [r5.2.2.2 i] at hi
  simp at hi
 ·refine ⟨e9.1,fun i hi=>?_⟩
  rw [e9.2.2.2 i] at hi
  simp only [decide_eq_true_eq] at hi
  have h2:=e6.held i hi
  refine ⟨?_,h2.2⟩
  apply Classical.byContradiction
  intro q
  rcases (by omega:i=0∨i=1) with e | e
  ·rw [e,hd.1] at h2;exact absurd h2.1 (by decide)
  ·rw [e,hd.2] at h2;exact absurd h2.1 (by decide)
theorem Tr.root {s:DS} {t:PS} {st:StT} {l:List It} (h:Tr s t st l) (hd:t.st.getD 0 0=0∧t.st.getD 1 0=0):∃ R:Nat,st.root=(R:Int)∧R≠1∧R<max 1 s.n:=by
 rcases h with ⟨r1,_⟩ | ⟨h,b,e1,e2,e3,e4,e5,e6,e7,e8,e9⟩
 ·exact ⟨0,r1,by omega,by omega⟩
 ·have h2:=e6.held _ (aG0 b)
  refine ⟨BT.id b,e1,fun q=>?_,by omega⟩
  rw [q,hd.2] at h2
  exact absurd h2.1 (by decide)
theorem Gw.show01 {s s':DS} {t t':PS} {L:List Nat} (g:Gw s t s' t' L) (hd:t.st.getD 0 0=0∧t.st.getD 1 0=0):s'.show 0=s.show 0∧s'.show 1=s.show 1 :=
 ⟨g.sh 0 fun q=>by have:=(g.new 0 q).1;omega,g.sh 1 fun q=>by have:=(g.new 1 q).1;omega⟩
def tiA:It:=([97],[98])
def tiB:It:=([98],[97])
theorem tiA_ok:ItOk tiA:=⟨by decide,by decide,by decide,by decide,by decide⟩
theorem tiB_ok:ItOk tiB:=⟨by decide,by decide,by decide,by decide,by decide⟩
theorem aE8:putL [] tiA=[tiA]∧putL [tiA] tiB=[tiA,tiB]∧rngL [tiA] [] [] 9=[tiA]∧valL [tiA,tiB] [98]=some [97]:=⟨by decide,by decide,by decide,by decide⟩
theorem new30 (s:DS) (h:s=DS.new 30):s.down=false∧s.after<1∧s.life=0∧s.n=30∧s.m=0∧s.show 0=[]∧s.show 1=[]:=by
 subst h
 exact ⟨rfl,(show (0:Int)<1 by decide),rfl,rfl,rfl,rfl,rfl⟩
theorem bk_const {B g:Nat} {w:World} {x:Nat} {fz:Nat×Nat} (h:w.heap[g]?=some (.cells #[.int .u8 (x:Int)] 5 fz)) (hx:x<256):BK B w (some ⟨g,0,none⟩) 1 1 [x]:=by
 refine ⟨BS.of rfl (by omega) (by omega) (by omega) (by simpa using hx) ?_,fun y hy=>?_⟩
 ·intro i hi
  obtain rfl:i=0:=by omega
  rw [cell_of_row w g _ _ _ _ h]
  rfl
 ·simp only [oI] at hy
  subst hy
  exact Or.inr ⟨_,_,h⟩
theorem ChF.bk [Gd] {B g n c:Nat} {w w':World} {a:Option Addr} {xs:List Nat} {cg:Array Value} (h:BK B w a n c xs) (f:ChF B g w w') (hg:w.heap[g]?=some (.cells cg 60 (0,0))):BK B w' a n c xs:=by
 refine h.ft ⟨f.1,fun k cs fz e=>f.2 k cs _ fz e (by decide) ?_⟩
 intro q9
 subst q9
 rw [hg] at e
 simp only [oI,cI] at e
 exact absurd e.2.1 (by decide)
theorem SnF.bk {B g n c:Nat} {w w':World} {a:Option Addr} {xs:List Nat} (h:BK B w a n c xs) (f:SnF B g (.slice none 0 0) w w') {cg:Array Value} (hg:w.heap[g]?=some (.cells cg 60 (0,0))):BK B w' a n c xs:=by
 refine h.ft ⟨f.1,fun k cs fz e=>f.2 k cs _ fz e ?_ (by simp [Value.ownBlock])⟩
 intro q9
 subst q9
 rw [hg] at e
 simp only [oI,cI] at e
 exact absurd e.2.1 (by decide)
theorem told_any (w:World):Calls Tryz.prog 9 #[] w fun e w'=>e=.returned (.bool true)∧Below w.heap.size w w':=by
 letI:Gd:=⟨fun _=>False⟩
 have kc:=fun (w:World) (C:Array Value) (n c:Nat)=>Lib.run_convert_bytes_const (P:=Tryz.prog) w 28 5 C n c Tryz.underlying28 Tryz.underlying5
 have hg0:Hid True:=trivial
 obtain ⟨s0,hs0⟩:∃ s,s=DS.new 30:=⟨_,rfl⟩
 obtain ⟨k1,k2,k3,k4,k5,k6,k7⟩:=new30 s0 hs0
 have HNW:=hide (new_any w.heap.size 30 w (by omega) (by omega) (nR _) (fun _ h=>False.elim h))
 rw [←hs0] at HNW
 have HL0:Hid (lastH (rdH (pad (s0.show 0)) s0.n) (rdH (pad (s0.show 1)) s0.n)=some (0,0)):=by
  show _=_
  rw [k6,k7,aHk]
  exact aGu
 have HS0:=hide (show s0.down=false∧s0.after<1∧s0.life=0∧s0.n=30∧s0.m=0∧s0.show 0=[]∧s0.show 1=[] from ⟨k1,k2,k3,k4,k5,k6,k7⟩)
 clear k1 k2 k3 k4 k5 k6 k7 hs0
 go_enter Tryz.func9,Tryz.ntmps9
 go_wp2_with fail
 refine HNW.out.mono ?_
 rintro e w1 ⟨p,rfl,hD,hb1⟩
 have HB1:=hide hb1
 have HOP:=hide (Open_none (num:=0) hD hb1.size HS0.out.1 HS0.out.2.1 (by rw [HS0.out.2.2.1];decide) (by rw [HS0.out.2.2.2.1];decide) (by rw [HS0.out.2.2.2.1];decide) HL0.out (by decide))
 clear hD hb1 HNW
 go_wp2_with fail
 refine HOP.out.mono ?_
 rintro e w2 ⟨q,g,st0,rfl,hgB,hM,r0,r1,r2,r3,hF⟩
 have HM2:=hide hM
 have HGB:=hide hgB
 have HTR0:Hid (Tr s0 ⟨newSt s0.n,s0.life,0,0⟩ st0 []):=Or.inl ⟨r0,r1,r2,rfl,r3⟩
 have HB2:Hid (Below w.heap.size w w2):=HB1.out.trans hF.bel
 have HR1:=hide r1
 clear hM hgB r0 r1 r2 r3 hF HOP
 have kc1:=kc w2 #[.int .u8 97] 1 1
 have kc2:=kc (w2.alloc (.cells #[.int .u8 97] 5 (1,2))) #[.int .u8 98] 1 1
 have sz1:(w2.alloc (.cells #[.int .u8 97] 5 (1,2))).heap.size=w2.heap.size+1:=by simp
 rw [sz1] at kc2
 clear kc sz1
 go_upto_region 8 with fail
 have HBA:Hid (Below w2.heap.size w2 ((w2.alloc (.cells #[.int .u8 97] 5 (1,2))).alloc (.cells #[.int .u8 98] 5 (1,2)))):=(aA8 [Obj.cells #[.int .u8 97] 5 (1,2),Obj.cells #[.int .u8 98] 5 (1,2)] w2).1
 have HA:Hid (((w2.alloc (.cells #[.int .u8 97] 5 (1,2))).alloc (.cells #[.int .u8 98] 5 (1,2))).heap[w2.heap.size]?=some (.cells #[.int .u8 97] 5 (1,2))):=aAr [Obj.cells #[.int .u8 97] 5 (1,2),Obj.cells #[.int .u8 98] 5 (1,2)] w2 0 _ rfl
 have HBb:Hid (((w2.alloc (.cells #[.int .u8 97] 5 (1,2))).alloc (.cells #[.int .u8 98] 5 (1,2))).heap[w2.heap.size+1]?=some (.cells #[.int .u8 98] 5 (1,2))):=aAr [Obj.cells #[.int .u8 97] 5 (1,2),Obj.cells #[.int .u8 98] 5 (1,2)] w2 1 _ rfl
 clear kc1 kc2
 generalize hw3:((w2.alloc (.cells #[.int .u8 97] 5 (1,2))).alloc (.cells #[.int .u8 98] 5 (1,2)))=w3 at *
 generalize hna:w2.heap.size=na at *
 have HM3:Hid (TM w.heap.size p q g s0 ⟨newSt s0.n,s0.life,0,0⟩ st0 st0 (.slice none 0 0) (cntF (newSt s0.n):Nat) w3):=HM2.out.later (by rw [hna];exact HBA.out)
 have HKA:Hid (BK w.heap.size w3 (some ⟨na,0,none⟩) 1 1 [97]):=bk_const HA.out (by decide)
 have HKB:Hid (BK w.heap.size w3 (some ⟨na+1,0,none⟩) 1 1 [98]):=bk_const HBb.out (by decide)
 have HB3:Hid (Below w.heap.size w w3):=HB2.out.trans (HBA.out.mono (by have:=HB2.out.size;omega))
 have HPT:=hide (Put_ok hg0.out HM3.out HTR0.out (by decide) tiA tiA_ok (kn:=1) (vn:=1) rfl rfl HKA.out HKB.out (by rw [HR1.out,aFv s0.n (by rw [HS0.out.2.2.2.1];decide),HS0.out.2.2.2.1];decide) (by rw [HR1.out];decide) (by rw [HS0.out.2.2.2.2.1];decide))
 clear HA HBb HBA
 generalize ht0:(⟨newSt s0.n,s0.life,0,0⟩:PS)=t0 at *
 have HT0:Hid (t0.num=0∧cntF t0.st=28):=by
  show _∧_
  rw [←ht0]
  exact ⟨rfl,by show cntF (newSt s0.n)=28;rw [aFv s0.n (by rw [HS0.out.2.2.2.1];decide),HS0.out.2.2.2.1]⟩
 go_wp2_with fail
 refine HPT.out.mono ?_
 rintro e w4 ⟨rfl,s1,t1,now1,L1,hG1,hM4,hT4,hL1,hC4⟩
 rw [aE8.1] at hT4
 obtain ⟨cg3,hcg3,_⟩:=HM3.out.tv
 have HKA4:=hide (ChF.bk HKA.out hC4 hcg3)
 have HKB4:=hide (ChF.bk HKB.out hC4 hcg3)
 have HM4:=hide hM4
 have HT4:=hide hT4
 have HG1:=hide hG1
 have HB4:Hid (Below w.heap.size w w4):=HB3.out.trans hC4.1
 have HL1:Hid (L1.length≤1):=by
  have h9:=HR1.out
  show L1.length≤1
  omega
 have HCO:=hide (Commit_ok hM4 hT4 (SnV.nil _) (by rw [hG1.n,HS0.out.2.2.2.1];decide) (by rw [hG1.num,HT0.out.1];decide))
 clear hM4 hT4 hG1 hL1 hC4 HPT hcg3
 go_wp2_with fail
 refine HCO.out.mono ?_
 rintro e w5 ⟨rfl,s2,t2,hCm,hM5,hC5⟩
 obtain ⟨cg4,hcg4,_⟩:=HM4.out.tv
 have HKA5:=hide (ChF.bk HKA4.out hC5 hcg4)
 have HKB5:=hide (ChF.bk HKB4.out hC5 hcg4)
 have HM5:=hide hM5
 have HCm:=hide hCm
 have HTR2:Hid (Tr s2 t2 now1 [tiA]):=HT4.out.cmt hCm HM4.out.hd (fun i _ hi=>hi)
 have HB5:Hid (Below w.heap.size w w5):=HB4.out.trans hC5.1
 have HD1:Hid (now1.depth≤1):=HT4.out.one (by decide)
 have HC27:Hid (27≤cntF t2.st):=by
  have h1:=HG1.out.cnt
  have h2:=HT0.out.2
  have h3:=HL1.out
  have h4:=hCm.cnt
  show 27≤cntF t2.st
  omega
 have HPT2:=hide (Put_ok hg0.out hM5 HTR2.out (by decide) tiB tiB_ok (kn:=1) (vn:=1) rfl rfl HKB5.out HKA5.out (by have:=HD1.out;have:=HC27.out;omega) (by have:=HD1.out;omega) (by rw [hCm.m];decide))
 clear hM5 hCm hC5 HCO hcg4
 go_wp2_with fail
 refine HPT2.out.mono ?_
 rintro e w6 ⟨rfl,s3,t3,now2,L2,hG2,hM6,hT6,hL2,hC6⟩
 rw [aE8.2.1] at hT6
 obtain ⟨cg5,hcg5,_⟩:=HM5.out.tv
 have HKB6:=hide (ChF.bk HKB5.out hC6 hcg5)
 have HM6:=hide hM6
 have HT6:=hide hT6
 have HTL6:Hid (Tr s3 t3 now1 [tiA]):=HTR2.out.grow hG2
 have HG2:=hide hG2
 have HB6:Hid (Below w.heap.size w w6):=HB5.out.trans hC6.1
 have HSP:=hide (Snap_ok hM6 (SnO.nil _ _ _) (by decide))
 clear hM6 hT6 hG2 hL2 hC6 HPT2 hcg5
 go_wp2_with fail
 refine HSP.out.mono ?_
 rintro e w7 ⟨nb,sv7,rfl,hnb,hM7,hS7,hF7⟩
 rw [List.nil_append] at hS7
 obtain ⟨cg6,hcg6,_⟩:=HM6.out.tv
 have HKB7:=hide (SnF.bk HKB6.out hF7 hcg6)
 have HM7:=hide hM7
 have HS7:=hide hS7
 have HB7:Hid (Below w.heap.size w w7):=HB6.out.trans hF7.1
 obtain ⟨cx7,hx7,hsp7⟩:=hS7.s (nb,now1) (List.mem_singleton.2 rfl)
 have HSR:=hide (SnapRange_ok (most:=9) (lo:=[]) (hi:=[]) hM7 HTL6.out (by have:=HD1.out;omega) hx7 hsp7.c0 hsp7.c1 hsp7.c2 rfl rfl (BK.nil _ _) (BK.nil _ _) (by decide) (by decide) (by decide) (by decide))
 rw [aE8.2.2.1] at HSR
 clear hM7 hS7 hF7 hx7 hsp7 HSP hcg6 hnb
 go_wp2_with fail
 refine HSR.out.mono ?_
 rintro e w8 ⟨fv,rfl,hP8,hb8⟩
 obtain ⟨fa,fc,hfv⟩:=hP8.form
 subst hfv
 have HM8:=hide (HM7.out.later hb8)
 have HS8:=hide (HS7.out.later hb8)
 have HKB8:=hide (HKB7.out.later hb8 HM7.out.bw)
 have HB8:Hid (Below w.heap.size w w8):=HB7.out.trans (hb8.mono HB7.out.size)
 have HD2:Hid (now2.depth≤1):=HT6.out.one (by decide)
 have HGT:=hide (Get_ok HM8.out HT6.out (by have:=HD2.out;omega) HKB8.out (by decide) (by decide))
 rw [aE8.2.2.2] at HGT
 clear hP8 hb8 HSR
 simp only [List.length_singleton]
 go_wp2_with fail
 refine HGT.out.mono ?_
 rintro e w9 ⟨v9,is9,rfl,hv9,hb9⟩
 obtain ⟨rfl,va9,vc9,hva9,hbk9⟩:=hv9
 subst hva9
 have HM9:=hide (HM8.out.later hb9)
 have HS9:=hide (HS8.out.later hb9)
 have HV9:Hid (BK w.heap.size w9 va9 1 vc9 [97]):=hbk9
 have HB9:Hid (Below w.heap.size w w9):=HB8.out.trans (hb9.mono HB8.out.size)
 obtain ⟨R,hR,hR1,hRn⟩:=HTL6.out.root HM6.out.hd
 have hn3:s3.n=30:=by rw [HG2.out.n,HCm.out.n,HG1.out.n,HS0.out.2.2.2.1]
 have hsh:=HG2.out.show01 HM5.out.hd
 have hsh1:=HG1.out.show01 HM3.out.hd
 have hn1:t1.num=0:=by rw [HG1.out.num,HT0.out.1]
 have hnt3:t3.num=1:=by rw [HG2.out.num,HCm.out.num,hn1]
 have hlh:lastH (rdH (pad (s3.show 0)) s3.n) (rdH (pad (s3.show 1)) s3.n)=some (t3.num,R):=by
  rw [hsh.1,hsh.2,HCm.out.sh 0 (by rw [HG1.out.n,HS0.out.2.2.2.1];decide),HCm.out.sh 1 (by rw [HG1.out.n,HS0.out.2.2.2.1];decide),hn1,if_neg (by decide),if_pos (by decide),hsh1.1,HS0.out.2.2.2.2.2.1,aHk,hnt3,hR,Int.toNat_natCast,rdH_head (by decide) (by omega) hR1 (by omega) (by omega)]
  exact lastH_odd (by decide) rfl
 have hpg:=HTL6.out.pg HM6.out.hd
 have hsub:=jnS_sub (snP [(nb,now1)]) (jnP now1.pgs now1.pgs) (jnP_len hpg.1 hpg.1) (fun x hx=>by
  simp only [snP,List.map_cons,List.map_nil,List.mem_singleton] at hx
  subst hx
  exact hpg.1)
 have hPN:PgN s3 (jnS (jnP now1.pgs now1.pgs) (snP [(nb,now1)])):=by
  intro i hi hh
  have e1:jnS (jnP now1.pgs now1.pgs) (snP [(nb,now1)])=jnP (jnP now1.pgs now1.pgs) now1.pgs:=rfl
  rw [e1,hs_jn (jnP_len hpg.1 hpg.1) hpg.1 hi,hs_jn hpg.1 hpg.1 hi,Bool.or_self,Bool.or_self] at hh
  exact hpg.2 i hh
 have HRB:=hide (Rollback_ok hg0.out HM9.out HS9.out hPN (by omega) hlh (by rw [hnt3];decide) (by omega))
 have HTR9:Hid (Tr s3 (anew s3 t3.num R (jnS (jnP now1.pgs now1.pgs) (snP [(nb,now1)]))) now1 [tiA]):=HTL6.out.anew hPN (fun i hi hh=>hsub.2.1 i hi (by rw [hs_jn hpg.1 hpg.1 hi,hh];rfl))
 have HNM:Hid ((anew s3 t3.num R (jnS (jnP now1.pgs now1.pgs) (snP [(nb,now1)]))).num=1):=by
  show _=_
  rw [(anew_st hPN).2.2.1,hnt3]
 generalize hta:anew s3 t3.num R (jnS (jnP now1.pgs now1.pgs) (snP [(nb,now1)]))=ta at *
 clear hbk9 hb9 HGT hR hR1 hRn hsh hsh1 hlh hpg hsub hPN hta
 go_wp2_with fail
 refine HRB.out.mono ?_
 rintro e w10 ⟨rfl,q2,hM10,hS10,hC10⟩
 obtain ⟨cg9,hcg9,_⟩:=HM9.out.tv
 have hv10:=ChF.bk HV9.out hC10 hcg9
 have hcv:=run_text hv10.1
 have HM10:=hide hM10
 have HB10:Hid (Below w.heap.size w w10):=HB9.out.trans hC10.1
 have hke:now1.keys=1:=HTR9.out.keys
 have HLE:=hide (Len_any hM10)
 rw [hke] at HLE
 have HNU:=hide (Number_any hM10)
 rw [HNM.out] at HNU
 have HCK:=hide (Check_ok hM10 HTR9.out (by have:=HD1.out;omega) (by decide))
 have e97:str [97]=⟨#[97]⟩:=by decide
 rw [e97] at hcv
 clear hM10 hS10 hC10 HRB hcg9 hv10 hke e97
 go_wp2_with fail
 refine HLE.out.mono ?_
 rintro e w11 ⟨rfl,rfl⟩
 go_wp2_with fail
 refine HNU.out.mono ?_
 rintro e w12 ⟨rfl,rfl⟩
 go_wp2_with fail
 refine HCK.out.mono ?_
 rintro e w13 ⟨rfl,hb13⟩
 have HPA:=hide (Put_arg (HM10.out.later hb13) none none 0 0 0 0 (Or.inl rfl))
 have HB13:Hid (Below w.heap.size w w13):=HB10.out.trans (hb13.mono HB10.out.size)
 clear hb13 HCK
 go_wp2_with fail
 refine HPA.out.mono ?_
 rintro e w14 ⟨rfl,hb14⟩
 have HB14:Hid (Below w.heap.size w w14):=HB13.out.trans (hb14.mono HB13.out.size)
 clear hb14
 go_wp2
 go_ret
 exact ⟨rfl,HB14.out⟩
theorem new_facts (n:Nat) (s:DS) (h:s=DS.new n):s.down=false∧s.after<1∧s.life=0∧s.n=n∧s.m=0∧s.show 0=[]∧s.show 1=[]:=by
 subst h
 have hk:∀ b,(DS.new n).show b=[]:=by
  intro b
  have:(DS.new n).show b=(DS.new n).kept.getD b []:=rfl
  rw [this]
  show (List.replicate n ([]:List Nat)).getD b []=[]
  rw [List.getD_eq_getElem?_getD,List.getElem?_replicate]
  split<;>rfl
 exact ⟨rfl,(show (0:Int)<1 by decide),rfl,List.length_replicate,rfl,hk 0,hk 1⟩
def OpT [Gd] (B p g n:Nat) (w':World):Prop:=∃ (q:Nat) (s:DS) (t:PS) (st0:StT),TM B p q g s t st0 st0 (.slice none 0 0) (cntF t.st:Nat) w'∧Tr s t st0 []∧st0.depth=0∧s.n=n∧s.m=0∧cntF t.st=n-2∧t.num=0∧s.show 0=[]∧s.show 1=[]
theorem PRW.later {B B1:Nat} {w w':World} {v:Value} {F:List It} (h:PRW B B1 w v F) (hb:Below w.heap.size w w') (hB:B≤w.heap.size):PRW B B1 w' v F :=
 h.stay (FT.of hb hB) fun k cs _ e=>(hb.block k (lO e)).trans e
theorem PRW.at {B B1:Nat} {w:World} {v:Value} {F:List It} (h:PRW B B1 w v F) {j:Nat} {it:It} (hj:F[j]?=some it):∃ g c ka kc va vc,v=.slice (some ⟨g,0,none⟩) F.length c∧w.cell? ⟨g,j*3,none⟩=some (.int .i64 0)∧w.cell? ⟨g,j*3+1,none⟩=some (.slice ka it.1.length kc)∧w.cell? ⟨g,j*3+2,none⟩=some (.slice va it.2.length vc)∧BK B w ka it.1.length kc it.1∧BK B w va it.2.length vc it.2:=by
 obtain ⟨kf,hkl,hown,hall⟩:=h
 have hlt:=(lL hj)
 obtain ⟨x,hx⟩:∃ x,kf[j]?=some x:=⟨_,gE (by omega)⟩
 obtain ⟨⟨ka,kc,e1,b1⟩,⟨va,vc,e2,b2⟩⟩:=hall j it x hj hx
 obtain ⟨p0,p1,p2⟩:=prC_get hx
 rcases hown.2 with ⟨_,e0⟩ | ⟨g,cap,cur,e,_,hc,_,_,h4,h5⟩
 ·omega
 ·have get:∀ i u,(prC kf)[i]?=some u→w.cell? ⟨g,i,none⟩=some u:=by
   intro i u hi
   have hli:=(lL hi)
   rw [prC_len] at hli
   rw [aAa hc,←Array.getElem?_toList]
   rw [←h5,List.getElem?_take] at hi
   split at hi
   ·exact hi
   ·cases hi
  exact ⟨g,cap,ka,kc,va,vc,e,get _ _ p0,by rw [←e1];exact get _ _ p1,by rw [←e2];exact get _ _ p2,b1,b2⟩
theorem same_ok {B B1 B2:Nat} {w:World} {v u:Value} {F:List It} (h1:PRW B B1 w v F) (h2:PRW B B2 w u F) (hl:F.length≤100000) :
  Calls Tryz.prog 10 #[v,u] w fun e w'=>e=.returned (.bool true)∧Below w.heap.size w w':=by
 obtain ⟨a1,c1,e1⟩:=h1.form
 obtain ⟨a2,c2,e2⟩:=h2.form
 have H1:=hide h1
 have H2:=hide h2
 subst e1 e2
 clear h1 h2
 generalize hN:F.length=N at *
 go_enter Tryz.func10,Tryz.ntmps10
 go_wp2_with fail
 go_loopw [5] (fun i wx=>∃ j:Nat,j≤N∧i=.int .i64 j∧Below w.heap.size w wx∧wx.heap=w.heap) (fun i _=>N-(intOf i).toNat)
 case atStart=>exact ⟨0,by omega,rfl,Below.refl _ _,rfl⟩
 case round =>
  obtain ⟨j,hj,rfl,hbr,hhp⟩:=hrel
  have HBR:=hide hbr
  have HHP:=hide hhp
  clear hbr hhp
  by_cases hjn:j<N
  ·have xj:(j:Int)<(N:Int):=by omega
   obtain ⟨it,hit⟩:∃ it,F[j]?=some it:=⟨_,gE (by omega)⟩
   obtain ⟨g1,d1,ka1,kc1,va1,vc1,f1,q1,q2,q3,q4,q5⟩:=H1.out.at hit
   obtain ⟨g2,d2,ka2,kc2,va2,vc2,f2,r1,r2,r3,r4,r5⟩:=H2.out.at hit
   simp only [Value.slice.injEq] at f1 f2
   obtain ⟨rfl,z1,rfl⟩:=f1
   obtain ⟨rfl,z2,rfl⟩:=f2
   clear z1 z2
   have hbs:∀ {ww:World} {a:Option Addr} {n c:Nat} {xs:List Nat},BS w a n c xs→ww.heap=w.heap→BS ww a n c xs:=by
    intro ww a n c xs h9 hh
    exact ⟨h9.hlen,h9.hcap,h9.hroom,h9.hmax,h9.hbyte,h9.hnil,fun x hx i hi=>by rw [←h9.hcell x hx i hi];exact World.cell?_of_block (by rw [hh])⟩
   obtain ⟨ks,hks⟩:∃ ks,str it.1=ks:=⟨_,rfl⟩
   obtain ⟨vs,hvs⟩:∃ vs,str it.2=vs:=⟨_,rfl⟩
   generalize it.1.length=kn at *
   generalize it.2.length=vn at *
   have HSS:Hid (∀ ww:World,ww.heap=w.heap→(fun wx=>wx.cell? ⟨g1,j*3,none⟩=some (.int .i64 0)∧wx.cell? ⟨g2,j*3,none⟩=some (.int .i64 0)∧wx.cell? ⟨g1,j*3+1,none⟩=some (.slice ka1 kn kc1)∧wx.cell? ⟨g2,j*3+1,none⟩=some (.slice ka2 kn kc2)∧wx.cell? ⟨g1,j*3+2,none⟩=some (.slice va1 vn vc1)∧wx.cell? ⟨g2,j*3+2,none⟩=some (.slice va2 vn vc2)∧(convert 28 9 (.slice ka1 kn kc1)).run Tryz.prog wx=.ok (.string ks) wx∧(convert 28 9 (.slice ka2 kn kc2)).run Tryz.prog wx=.ok (.string ks) wx∧(convert 28 9 (.slice va1 vn vc1)).run Tryz.prog wx=.ok (.string vs) wx∧(convert 28 9 (.slice va2 vn vc2)).run Tryz.prog wx=.ok (.string vs) wx) ww):=by
    intro ww hh
    have ce:∀ {g o:Nat} {x:Value},w.cell? ⟨g,o,none⟩=some x→ww.cell? ⟨g,o,none⟩=some x:=fun h9=>(World.cell?_of_block (by rw [hh])).trans h9
    exact ⟨ce q1,ce r1,ce q2,ce r2,ce q3,ce r3,by rw [←hks];exact run_text (hbs q4.1 hh),by rw [←hks];exact run_text (hbs r4.1 hh),by rw [←hvs];exact run_text (hbs q5.1 hh),by rw [←hvs];exact run_text (hbs r5.1 hh)⟩
   have HX0:Hid ((fun wx=>wx.cell? ⟨g1,j*3,none⟩=some (.int .i64 0)∧wx.cell? ⟨g2,j*3,none⟩=some (.int .i64 0)∧wx.cell? ⟨g1,j*3+1,none⟩=some (.slice ka1 kn kc1)∧wx.cell? ⟨g2,j*3+1,none⟩=some (.slice ka2 kn kc2)∧wx.cell? ⟨g1,j*3+2,none⟩=some (.slice va1 vn vc1)∧wx.cell? ⟨g2,j*3+2,none⟩=some (.slice va2 vn vc2)∧(convert 28 9 (.slice ka1 kn kc1)).run Tryz.prog wx=.ok (.string ks) wx∧(convert 28 9 (.slice ka2 kn kc2)).run Tryz.prog wx=.ok (.string ks) wx∧(convert 28 9 (.slice va1 vn vc1)).run Tryz.prog wx=.ok (.string vs) wx∧(convert 28 9 (.slice va2 vn vc2)).run Tryz.prog wx=.ok (.string vs) wx) wr.drew):=HSS.out _ HHP.out
   have dk:(ks != ks)=false:=by cases ks with | mk d=>show (!(d == d))=false;simp
   have dv:(vs != vs)=false:=by cases vs with | mk d=>show (!(d == d))=false;simp
   clear q1 q2 q3 q4 q5 r1 r2 r3 r4 r5 hbs HSS hks hvs hit
   go_upto_region 6 with fail
   refine wp_region_noPanic ?_
   refine wp_region_held_drew (S:=fun wx=>wx.cell? ⟨g1,j*3,none⟩=some (.int .i64 0)∧wx.cell? ⟨g2,j*3,none⟩=some (.int .i64 0)∧wx.cell? ⟨g1,j*3+1,none⟩=some (.slice ka1 kn kc1)∧wx.cell? ⟨g2,j*3+1,none⟩=some (.slice ka2 kn kc2)∧wx.cell? ⟨g1,j*3+2,none⟩=some (.slice va1 vn vc1)∧wx.cell? ⟨g2,j*3+2,none⟩=some (.slice va2 vn vc2)∧(convert 28 9 (.slice ka1 kn kc1)).run Tryz.prog wx=.ok (.string ks) wx∧(convert 28 9 (.slice ka2 kn kc2)).run Tryz.prog wx=.ok (.string ks) wx∧(convert 28 9 (.slice va1 vn vc1)).run Tryz.prog wx=.ok (.string vs) wx∧(convert 28 9 (.slice va2 vn vc2)).run Tryz.prog wx=.ok (.string vs) wx) (by kernel_rfl) HX0.out (fun hHeld=>?_)
   refine wpAnyH_tk 0 17 ?_
   refine wpAnyH_tk 1 18 ?_
   refine wpAnyH_tk 2 19 ?_
   refine wpAnyH_tk 3 20 ?_
   refine wpAnyH_tk 4 21 ?_
   refine wpAnyH_tk 5 22 ?_
   refine wpAnyH_tk 6 23 ?_
   refine wpAnyH_tk 7 24 ?_
   refine wpAnyH_tk 8 25 ?_
   refine wpAnyH_tk 9 26 ?_
   refine wpAnyH_tk 10 27 ?_
   refine wpAnyH_tk 11 28 ?_
   refine wpAnyH_tk 12 29 ?_
   refine wpAnyH_tk 13 30 ?_
   refine wpAnyH_tk 14 31 ?_
   refine wpAnyH_tk 15 32 ?_
   refine wpAnyH_tk 16 33 ?_
   refine wpAnyH_tk 17 34 ?_
   refine wpAnyH_tk 18 35 ?_
   refine wpAnyH_tk 19 36 ?_
   refine wpAnyH_tk 20 37 ?_
   refine wpAnyH_tk 21 38 ?_
   refine wpAnyH_tk 22 39 ?_
   refine wpAnyH_tk 23 40 ?_
   refine wpAnyH_tk 24 41 ?_
   refine wpAnyH_tk 25 42 ?_
   refine wpAnyH_tk 26 43 ?_
   refine wpAnyH_tk 27 44 ?_
   refine wpAnyH_tk 28 45 ?_
   refine wpAnyH_tk 29 46 ?_
   refine wpAnyH_tk 30 47 ?_
   refine wpAnyH_tk 31 48 ?_
   refine wpAnyH_tk 32 49 ?_
   refine wpAnyH_tk 33 50 ?_
   refine wpAnyH_tk 34 51 ?_
   refine wpAnyH_tk 35 52 ?_
   refine wpAnyH_tk 36 53 ?_
   refine wpAnyH_tk 37 54 ?_
   refine wpAnyH_tk 38 55 ?_
   refine wpAnyH_tk 39 56 ?_
   refine wpAnyH_tk 40 57 ?_
   refine wpAnyH_done (by kernel_rfl) ?_ _
   refine NoPanic.normal ?_
   clear hHeld HX0
   go_wp2_with fail
   go_roundw
   case rel=>exact ⟨j+1,by omega,by go_num,HBR.out.drew,HHP.out⟩
   case measure=>simp [intOf];omega
  ·have xj:¬ (j:Int)<(N:Int):=by omega
   go_wp2
   go_ret
   exact ⟨rfl,HBR.out⟩
end Go.Proofs.YtohgmapjokaibaaGreat
