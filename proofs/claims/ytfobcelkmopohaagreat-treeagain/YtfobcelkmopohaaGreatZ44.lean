import Derived.Test.YtfobcelkmopohaaGreatZ43
set_option maxRecDepth 100000
set_option maxHeartbeats 16000000
set_option linter.unusedVariables false
namespace Go.Proofs.YtfobcelkmopohaaGreat
open Go.RowKit
theorem letGo_ok [Gd] {B p q g:Nat} {s:DS} {t:PS} {w:World} {now last:StT} {sv:Value} {left:Int} {sn:List (Nat×List Nat)} {root:Nat} (hg0:True) (hM:TM B p q g s t now last sv left w) (hsn:SnV w sv sn) (hPN:PgN s (jnS (jnP now.pgs last.pgs) sn)) (h3:3<=s.n) (hlh:lastH (rdH (pad (s.show 0)) s.n) (rdH (pad (s.show 1)) s.n)=some (t.num,root)) (hnum:t.num<=4611686018427387904) (hrt:root<=4096) :
  Calls Tryz.prog 62 #[.pointer (some ⟨g,0,none⟩)] w fun e w'=>e=.returned (.tuple #[])/\∃ q',TM B p q' g s (anew s t.num root (jnS (jnP now.pgs last.pgs) sn)) now last sv (cntF (anew s t.num root (jnS (jnP now.pgs last.pgs) sn)).st:Nat) w'/\ChF B g w w':=by
 obtain ⟨cs,hg,hT⟩:=hM.tv
 have hsz:(cutW cs 5).size=64:=cutW_size (by rw [hT.sz];decide)
 have HLD:=zH (aEf (w:=w) (g:=g) (o:=5) (ty:=52) (cs:=cutW cs 5) (fun j v hv=>(aAa hg).trans (cutW_get hv)) Tryz.underlying52 rfl (by rw [hsz];exact aC6))
 have HND:=zH (neededNow_ok hg hT hsn hT.nw.cut hsz)
 have HM:=zH hM
 have HHJ:=zH (fun (ww:World) (hb:Below w.heap.size w ww) (cr:Array Value) (h1:cr.size=64) (h2:Wd cr 0 (jnS (jnP now.pgs last.pgs) sn))=>holdJust_ok hg0 (hM.later hb) h2 h1 hPN h3 hlh hnum hrt)
 clear hM hg hT hsn hPN hlh
 generalize jnS (jnP now.pgs last.pgs) sn=nd at *
 go_enter Tryz.func62,Tryz.ntmps62
 go_wp2_with (refine wpList_load_row rfl (.tmp 7) 52 rfl rfl HLD.o ?_)
 refine HND.o.mono ?_
 rintro e w1 ⟨cr,rfl,hcr,hwd,hb1⟩
 have HH:=zH (HHJ.o w1 hb1 cr hcr hwd)
 have HC1:Hid (ChF B g w w1):=ChF.of hb1 HM.o.bw
 clear hwd hb1 HND
 go_wp2_with fail
 refine HH.o.mono ?_
 rintro e w2 ⟨rfl,q2,hM2,hc2⟩
 have HM2:=zH hM2
 have HC2:=zH (HC1.o.trans hc2)
 obtain ⟨cs2,hg2,hT2⟩:=hM2.tv
 have HG2:=zH hg2
 have HT2:=zH hT2
 have r1:w2.cell? ⟨g,1,none⟩=some (.pointer (some ⟨q2,0,none⟩)):=(aAa hg2).trans hT2.c1
 have r7:w2.cell? ⟨g,137,none⟩=some (.int .i64 left):=(aAa hg2).trans hT2.s1
 have f7:w2.frozen? ⟨g,137,none⟩=false:=aAc hg2
 have HLF:=zH (aEg hM2.st)
 clear hM2 hc2 hg2 hT2 HH
 go_wp2_with fail
 refine HLF.o.mono ?_
 rintro e w3 ⟨rfl,rfl⟩
 go_wp2
 (try simp only [Exit.inBlock,Exit.then])
 refine bodyPost_end (results_none rfl _ _ _) rfl ?_
 refine ⟨rfl,q2,⟨HM2.o.st.exT (Ex.set HM2.o.bg) HG2.o,nT HM2.o.bw (Ex.set (B:=B) (w:=w3) HM2.o.bg).1.size,HM2.o.bg,⟨_,heap_setCell_same _ _ _ _ _ _ HG2.o,HT2.o.lft⟩,HM2.o.lf,HM2.o.dn,HM2.o.af,HM2.o.l1,HM2.o.sn,HM2.o.hd⟩,HC2.o.trans (ChF.cell HM2.o.bg HG2.o)⟩
theorem Rollback_ok [Gd] {B p q g:Nat} {s:DS} {t:PS} {w:World} {now last:StT} {sv:Value} {left:Int} {sn:List (Nat×StT)} {root:Nat} (hg0:True) (hM:TM B p q g s t now last sv left w) (hsn:SnO B w g sv sn) (hPN:PgN s (jnS (jnP last.pgs last.pgs) (snP sn))) (h3:3<=s.n) (hlh:lastH (rdH (pad (s.show 0)) s.n) (rdH (pad (s.show 1)) s.n)=some (t.num,root)) (hnum:t.num<=4611686018427387904) (hrt:root<=4096) :
  Calls Tryz.prog 34 #[.pointer (some ⟨g,0,none⟩)] w fun e w'=>e=.returned (.int .i64 0)/\∃ q',TM B p q' g s (anew s t.num root (jnS (jnP last.pgs last.pgs) (snP sn))) last last sv (cntF (anew s t.num root (jnS (jnP last.pgs last.pgs) (snP sn))).st:Nat) w'/\SnO B w' g sv sn/\ChF B g w w':=by
 obtain ⟨cs,hg,hT⟩:=hM.tv
 have HDE:=zH (aDe hM.st hM.lf hg hT)
 have HM:=zH hM
 have HSN:=zH hsn
 have HLG:=zH (fun (ww:World) (h1:TM B p q g s t last last sv left ww) (h2:SnV ww sv (snP sn))=>letGo_ok hg0 h1 h2 hPN h3 hlh hnum hrt)
 have HG:=zH hg
 have HT:=zH hT
 clear hM hg hT hsn hPN hlh
 go_enter Tryz.func34,Tryz.ntmps34
 go_wp2_with fail
 refine HDE.o.mono ?_
 rintro e w1 ⟨rfl,hb1⟩
 have HG1:=zH ((hb1.block g (lO HG.o)).trans HG.o)
 have HM1:=zH (HM.o.later hb1)
 have HSN1:=zH (HSN.o.later hb1)
 have HC1:Hid (ChF B g w w1):=ChF.of hb1 HM.o.bw
 have HLD:=zH (aEf (w:=w1) (g:=g) (o:=69) (ty:=54) (cs:=cutS cs 69) (fun j v hv=>(aAa HG1.o).trans (aGh hv)) Tryz.underlying54 rfl (by rw [HT.o.lastS.sz];exact aBl))
 have hst:=aBj (o:=2) HG1.o (by rw [HT.o.lastS.sz,HT.o.sz];decide) HT.o.lastS.one
 have hcz:(cutS cs 69).size=67:=HT.o.lastS.sz
 have HT2:=zH (HT.o.setNow (st:=last) HT.o.lastS)
 have HG2:=zH (setRow_heap _ _ _ (spl cs 2 (cutS cs 69)) _ _ HG1.o)
 have HST2:=zH (HM1.o.st.rowT HM.o.bg HG1.o (spl cs 2 (cutS cs 69)))
 have HR2:Hid (ChF B g w1 (w1.setRow g (spl cs 2 (cutS cs 69)))):=ChF.row HM.o.bg HG1.o _
 have HSN2:=zH (HSN1.o.chf HR2.o HG1.o)
 generalize hcs2:spl cs 2 (cutS cs 69)=cs2 at *
 generalize hw2:w1.setRow g cs2=w2 at *
 have HM2:Hid (TM B p q g s t last last sv left w2):=⟨HST2.o,nT HM1.o.bw HR2.o.1.size,HM.o.bg,⟨cs2,HG2.o,HT2.o⟩,HM.o.lf,HM.o.dn,HM.o.af,HM.o.l1,HM.o.sn,HM.o.hd⟩
 have HL2:=zH (HLG.o w2 HM2.o HSN2.o.snv)
 clear hb1 HDE
 go_wp2_with (refine wpList_load_row rfl (.tmp 8) 54 rfl rfl HLD.o ?_)
 refine HL2.o.mono ?_
 rintro e w3 ⟨rfl,q3,hM3,hc3⟩
 have HM3:=zH hM3
 have HC3:=zH hc3
 clear hM3 hc3
 go_wp2
 go_ret
 exact ⟨rfl,q3,HM3.o,HSN2.o.chf HC3.o HG2.o,(HC1.o.trans HR2.o).trans HC3.o⟩
theorem Check_ok [Gd] {B p q g:Nat} {s:DS} {t:PS} {w:World} {now last:StT} {sv:Value} {left:Int} {l:List It} (hM:TM B p q g s t now last sv left w) (hTr:Tr s t now l) (hdp:now.depth<100000) (hl:l.length<100000) :
  Calls Tryz.prog 14 #[.pointer (some ⟨g,0,none⟩)] w fun e w'=>e=.returned (.int .i64 0)/\Below w.heap.size w w':=by
 have lt:∀ {k:Nat} {o:Obj} {ww:World},ww.heap[k]?=some o->k<ww.heap.size:=fun e=>(lO e)
 obtain ⟨cs,hg,hT⟩:=hM.tv
 have HDE:=zH (aDe hM.st hM.lf hg hT)
 have HLT:=zH (fun (ww:World) (hb:Below w.heap.size w ww)=>looked_any (hM.st.later hb) (nT hM.bw hb.size) hM.lf hM.dn hM.sn hM.hd.1 hTr hdp hl)
 have HM:=zH hM
 have HG:=zH hg
 have HT:=zH hT
 clear hM hg hT hTr
 go_enter Tryz.func14,Tryz.ntmps14
 go_wp2_with fail
 refine HDE.o.mono ?_
 rintro e w1 ⟨rfl,hb1⟩
 have HG1:=zH ((hb1.block g (lt HG.o)).trans HG.o)
 have HB1:=zH hb1
 have HL1:=zH (HLT.o w1.drew (hb1.trans ((Below.refl _ _).drew)))
 clear hb1 HDE
 go_upto_region 3 with fail
 have HX0:Hid ((fun wx=>wx.cell? ⟨g,1,none⟩=some (.pointer (some ⟨q,0,none⟩))/\wx.cell? ⟨g,2,none⟩=some (.int .i64 now.root)) w1.drew):=⟨(aAa HG1.o).trans HT.o.c1,(aAa HG1.o).trans HT.o.n0⟩
 refine wp_region_noPanic ?_
 refine wp_region_held_drew (S:=fun wx=>wx.cell? ⟨g,1,none⟩=some (.pointer (some ⟨q,0,none⟩))/\wx.cell? ⟨g,2,none⟩=some (.int .i64 now.root)) (by kernel_rfl) HX0.o (fun hHeld=>?_)
 refine kT 0 8 ?_
 refine kT 1 9 ?_
 refine kT 2 10 ?_
 refine kT 3 11 ?_
 refine kT 4 12 ?_
 refine kT 5 13 ?_
 refine kT 6 14 ?_
 refine kT 7 15 ?_
 refine kT 8 16 ?_
 refine aAx (i:=9) (j:=13) (by kernel_rfl) (by kernel_rfl) (by kernel_rfl) ?ba ?bb
 case ba =>
  intro o ho K hK
  simp only [List.getElem?_toArray,List.getElem?_cons_succ,List.getElem?_cons_zero,oI] at ho
  subst ho
  go_simp
  refine HL1.o.mono ?_
  rintro e w2 ⟨v2,rfl,⟨c2,st2,hv2,hsv2,_,_,hdd⟩,hb2⟩
  subst hv2
  have HSV2:=zH hsv2
  have HDD:=zH hdd
  have HB2:Hid (Below w.heap.size w w2):=HB1.o.trans (((Below.refl _ _).drew.trans hb2).mono HB1.o.size)
  have HG2:=zH ((HB2.o.block g (lt HG.o)).trans HG.o)
  have HX1:Hid ((fun wx=>wx.cell? ⟨g,1,none⟩=some (.pointer (some ⟨q,0,none⟩))/\wx.cell? ⟨g,2,none⟩=some (.int .i64 now.root)) w2):=⟨(aAa HG2.o).trans HT.o.c1,(aAa HG2.o).trans HT.o.n0⟩
  have HX9:Hid ((w2.alloc (.cells Tryz.zeroCells54 54)).heap[w2.heap.size]?=some (.cells Tryz.zeroCells54 54 (0,0))):=heap_alloc_new w2 _
  have HB3:Hid (Below w.heap.size w (w2.alloc (.cells Tryz.zeroCells54 54))):=HB2.o.trans ((aAb w2 _).mono HB2.o.size)
  have HNB:Hid (w.heap.size<=w2.heap.size):=HB2.o.size
  have HXX:Hid ((fun wx=>wx.cell? ⟨g,1,none⟩=some (.pointer (some ⟨q,0,none⟩))/\wx.cell? ⟨g,2,none⟩=some (.int .i64 now.root)) (w2.alloc (.cells Tryz.zeroCells54 54))):=by
   have h9:=(HB3.o.block g (lt HG.o)).trans HG.o
   exact ⟨(aAa h9).trans HT.o.c1,(aAa h9).trans HT.o.n0⟩
  clear hb2 hsv2 hdd hHeld
  refine hK.out _ _ HX1.o (fun hHeld=>?_)
  clear hK K
  try simp only [Act.put,siT,scZ,scS]
  refine kT 10 7 ?_
  refine kT 11 18 ?_
  refine kT 12 19 ?_
  refine kC 13 ?_;intro K hK
  go_simp
  clear hHeld
  refine hK.out _ _ HXX.o (fun hHeld=>?_)
  clear hK K
  try simp only [Act.put,siT,scZ,scS]
  clear HXX HX1
  generalize hw3:(w2.alloc (.cells Tryz.zeroCells54 54))=w3 at *
  generalize hnb:w2.heap.size=nb at *
  have HX3:Hid ((fun wx=>wx.cell? ⟨g,1,none⟩=some (.pointer (some ⟨q,0,none⟩))/\wx.cell? ⟨g,2,none⟩=some (.int .i64 now.root)) w3):=by
   have h9:=(HB3.o.block g (lt HG.o)).trans HG.o
   exact ⟨(aAa h9).trans HT.o.c1,(aAa h9).trans HT.o.n0⟩
  have hst:=aBj (o:=0) HX9.o (by rw [Nat.zero_add,HSV2.o.sz,aBx.sz];exact nR _) HSV2.o.one
  rw [aC2 (by rw [HSV2.o.sz,aBx.sz])] at hst
  have hcz:c2.size=67:=HSV2.o.sz
  have HY4:=zH (setRow_heap _ _ _ c2 _ _ HX9.o)
  have HB4:Hid (Below w.heap.size w (w3.setRow nb c2)):=below_setRow HB3.o HNB.o c2
  have HX4:Hid ((fun wx=>wx.cell? ⟨g,1,none⟩=some (.pointer (some ⟨q,0,none⟩))/\wx.cell? ⟨g,2,none⟩=some (.int .i64 now.root)) (w3.setRow nb c2)):=by
   have h9:=(HB4.o.block g (lt HG.o)).trans HG.o
   exact ⟨(aAa h9).trans HT.o.c1,(aAa h9).trans HT.o.n0⟩
  refine kC 14 ?_;intro K hK
  go_simp
  clear hHeld
  refine hK.out _ _ HX4.o (fun hHeld=>?_)
  clear hK K
  try simp only [Act.put,siT,scZ,scS]
  refine kT 15 4 ?_
  refine wpAnyH_done (by kernel_rfl) ?_ _
  refine NoPanic.normal ?_
  clear hHeld HX0 HX3 HX4 hst
  generalize hw4:w3.setRow nb c2=w4 at *
  have HG4:=zH ((HB4.o.block g (lt HG.o)).trans HG.o)
  go_upto_region 4 with fail
  have ddp:(now.depth != now.depth)=false:=by simp
  have HX5:Hid ((fun wx=>wx.cell? ⟨nb,1,none⟩=some (.int .i64 now.depth)/\wx.cell? ⟨g,3,none⟩=some (.int .i64 now.depth)) w4.drew):=⟨by rw [<-HDD.o];exact (aAa HY4.o).trans HSV2.o.c1,(aAa HG4.o).trans HT.o.n1⟩
  refine wp_region_noPanic ?_
  refine wp_region_held_drew (S:=fun wx=>wx.cell? ⟨nb,1,none⟩=some (.int .i64 now.depth)/\wx.cell? ⟨g,3,none⟩=some (.int .i64 now.depth)) (by kernel_rfl) HX5.o (fun hHeld=>?_)
  refine kT 0 20 ?_
  refine kT 1 21 ?_
  refine kT 2 22 ?_
  refine kT 3 23 ?_
  refine kT 4 24 ?_
  refine kT 5 25 ?_
  refine kT 6 26 ?_
  refine kT 7 27 ?_
  refine kT 8 28 ?_
  refine kT 9 29 ?_
  refine kT 10 30 ?_
  refine kT 11 31 ?_
  refine wpAnyH_done (by kernel_rfl) ?_ _
  refine NoPanic.normal ?_
  clear hHeld
  go_wp2
  go_ret
  exact ⟨rfl,HB4.o.drew⟩
 case bb =>
  intro o ho K hK
  simp only [List.getElem?_toArray,List.getElem?_cons_succ,List.getElem?_cons_zero,oI] at ho
  subst ho
  go_simp
  have HBA:Hid (Below w.heap.size w (w1.alloc (.cells Tryz.zeroCells54 54)).drew):=(HB1.o.trans ((aAb w1 _).mono HB1.o.size)).drew
  have HXA:Hid ((w1.alloc (.cells Tryz.zeroCells54 54)).drew.heap[w1.heap.size]?=some (.cells Tryz.zeroCells54 54 (0,0))):=heap_alloc_new w1 _
  have HXX:Hid ((fun wx=>wx.cell? ⟨g,1,none⟩=some (.pointer (some ⟨q,0,none⟩))/\wx.cell? ⟨g,2,none⟩=some (.int .i64 now.root)) (w1.alloc (.cells Tryz.zeroCells54 54)).drew):=by
   have h9:=(HBA.o.block g (lt HG.o)).trans HG.o
   exact ⟨(aAa h9).trans HT.o.c1,(aAa h9).trans HT.o.n0⟩
  have HNB:Hid (w.heap.size<=w1.heap.size):=HB1.o.size
  have HL2:=zH (HLT.o _ HBA.o)
  clear hHeld
  refine hK.out _ _ HXX.o (fun hHeld=>?_)
  clear hK K
  try simp only [Act.put,siT,scZ,scS]
  generalize hwA:(w1.alloc (.cells Tryz.zeroCells54 54)).drew=wA at *
  generalize hnb:w1.heap.size=nb at *
  refine kC 9 ?_;intro K hK
  go_simp
  refine HL2.o.mono ?_
  rintro e w3 ⟨v2,rfl,⟨c2,st2,hv2,hsv2,_,_,hdd⟩,hb2⟩
  subst hv2
  have HSV2:=zH hsv2
  have HDD:=zH hdd
  have HB3:Hid (Below w.heap.size w w3):=HBA.o.trans (hb2.mono HBA.o.size)
  have HX9:=zH ((hb2.block nb (lt HXA.o)).trans HXA.o)
  have HX8:Hid ((fun wx=>wx.cell? ⟨g,1,none⟩=some (.pointer (some ⟨q,0,none⟩))/\wx.cell? ⟨g,2,none⟩=some (.int .i64 now.root)) w3):=by
   have h9:=(HB3.o.block g (lt HG.o)).trans HG.o
   exact ⟨(aAa h9).trans HT.o.c1,(aAa h9).trans HT.o.n0⟩
  clear hb2 hsv2 hdd hHeld
  refine hK.out _ _ HX8.o (fun hHeld=>?_)
  clear hK K
  try simp only [Act.put,siT,scZ,scS]
  clear HX8 HXX
  have HX3:Hid ((fun wx=>wx.cell? ⟨g,1,none⟩=some (.pointer (some ⟨q,0,none⟩))/\wx.cell? ⟨g,2,none⟩=some (.int .i64 now.root)) w3):=by
   have h9:=(HB3.o.block g (lt HG.o)).trans HG.o
   exact ⟨(aAa h9).trans HT.o.c1,(aAa h9).trans HT.o.n0⟩
  have hst:=aBj (o:=0) HX9.o (by rw [Nat.zero_add,HSV2.o.sz,aBx.sz];exact nR _) HSV2.o.one
  rw [aC2 (by rw [HSV2.o.sz,aBx.sz])] at hst
  have hcz:c2.size=67:=HSV2.o.sz
  have HY4:=zH (setRow_heap _ _ _ c2 _ _ HX9.o)
  have HB4:Hid (Below w.heap.size w (w3.setRow nb c2)):=below_setRow HB3.o HNB.o c2
  have HX4:Hid ((fun wx=>wx.cell? ⟨g,1,none⟩=some (.pointer (some ⟨q,0,none⟩))/\wx.cell? ⟨g,2,none⟩=some (.int .i64 now.root)) (w3.setRow nb c2)):=by
   have h9:=(HB4.o.block g (lt HG.o)).trans HG.o
   exact ⟨(aAa h9).trans HT.o.c1,(aAa h9).trans HT.o.n0⟩
  refine kT 10 7 ?_
  refine kT 11 18 ?_
  refine kT 12 19 ?_
  refine kC 14 ?_;intro K hK
  go_simp
  clear hHeld
  refine hK.out _ _ HX4.o (fun hHeld=>?_)
  clear hK K
  try simp only [Act.put,siT,scZ,scS]
  refine kT 15 4 ?_
  refine wpAnyH_done (by kernel_rfl) ?_ _
  refine NoPanic.normal ?_
  clear hHeld HX0 HX3 HX4 hst
  generalize hw4:w3.setRow nb c2=w4 at *
  have HG4:=zH ((HB4.o.block g (lt HG.o)).trans HG.o)
  go_upto_region 4 with fail
  have ddp:(now.depth != now.depth)=false:=by simp
  have HX5:Hid ((fun wx=>wx.cell? ⟨nb,1,none⟩=some (.int .i64 now.depth)/\wx.cell? ⟨g,3,none⟩=some (.int .i64 now.depth)) w4.drew):=⟨by rw [<-HDD.o];exact (aAa HY4.o).trans HSV2.o.c1,(aAa HG4.o).trans HT.o.n1⟩
  refine wp_region_noPanic ?_
  refine wp_region_held_drew (S:=fun wx=>wx.cell? ⟨nb,1,none⟩=some (.int .i64 now.depth)/\wx.cell? ⟨g,3,none⟩=some (.int .i64 now.depth)) (by kernel_rfl) HX5.o (fun hHeld=>?_)
  refine kT 0 20 ?_
  refine kT 1 21 ?_
  refine kT 2 22 ?_
  refine kT 3 23 ?_
  refine kT 4 24 ?_
  refine kT 5 25 ?_
  refine kT 6 26 ?_
  refine kT 7 27 ?_
  refine kT 8 28 ?_
  refine kT 9 29 ?_
  refine kT 10 30 ?_
  refine kT 11 31 ?_
  refine wpAnyH_done (by kernel_rfl) ?_ _
  refine NoPanic.normal ?_
  clear hHeld
  go_wp2
  go_ret
  exact ⟨rfl,HB4.o.drew⟩
theorem aEk {o:Oper} {a:Act} {w:World} {p:Operand} {t:TypeId} (ho:o.op=.load t p) {ad:Addr} {cs:Array Value} (hp:a.eval p=.pointer (some ad)) (hrun:(loadVar t ad).run Tryz.prog w=.ok (.agg cs) w):(execOp a.eval o).run Tryz.prog w=.ok (.value (.agg cs)) w:=by
 simp [execOp,ho,Instr.loadAt,Instr.sureAddr,hp,hrun,Result.andThen]
theorem zero_tree:Tryz.zeroCells58.size=139/\Tryz.zeroCells58[136]?=some (.slice none 0 0)/\Tryz.zeroCells58[138]?=some (.bool false):=⟨by kernel_rfl,by kernel_rfl,by kernel_rfl⟩
theorem tv_build {p q:Nat} {c2:Array Value} {st:StT} {L:Nat} (hc:StV c2 st.root st.depth st.keys st.pgs):TV ((Array.foldl (fun (cs:Array Value) (x:Value×Nat)=>cs.setIfInBounds (69+x.2) x.1) (Array.foldl (fun (cs:Array Value) (x:Value×Nat)=>cs.setIfInBounds (2+x.2) x.1) ((Tryz.zeroCells58.setIfInBounds 0 (.pointer (some ⟨p,0,none⟩))).setIfInBounds 1 (.pointer (some ⟨q,0,none⟩))) c2.zipIdx 0 67) c2.zipIdx 0 67).setIfInBounds 137 (.int .i64 (L:Int))) p q st st (.slice none 0 0) (L:Int) false:=by
 obtain ⟨z1,z2,z3⟩:=zero_tree
 have b1:((Tryz.zeroCells58.setIfInBounds 0 (.pointer (some ⟨p,0,none⟩))).setIfInBounds 1 (.pointer (some ⟨q,0,none⟩))).size=139:=by rw [Array.size_setIfInBounds,Array.size_setIfInBounds];exact z1
 obtain ⟨i1,i2⟩:=aF9 (base:=((Tryz.zeroCells58.setIfInBounds 0 (.pointer (some ⟨p,0,none⟩))).setIfInBounds 1 (.pointer (some ⟨q,0,none⟩)))) (vs:=c2) (o:=2) (n:=67) hc.sz (by rw [b1];decide)
 obtain ⟨j1,j2⟩:=aF9 (base:=(Array.foldl (fun (cs:Array Value) (x:Value×Nat)=>cs.setIfInBounds (2+x.2) x.1) ((Tryz.zeroCells58.setIfInBounds 0 (.pointer (some ⟨p,0,none⟩))).setIfInBounds 1 (.pointer (some ⟨q,0,none⟩))) c2.zipIdx 0 67)) (vs:=c2) (o:=69) (n:=67) hc.sz (by rw [i1,b1];decide)
 have ne:∀ i,i≠137->((Array.foldl (fun (cs:Array Value) (x:Value×Nat)=>cs.setIfInBounds (69+x.2) x.1) (Array.foldl (fun (cs:Array Value) (x:Value×Nat)=>cs.setIfInBounds (2+x.2) x.1) ((Tryz.zeroCells58.setIfInBounds 0 (.pointer (some ⟨p,0,none⟩))).setIfInBounds 1 (.pointer (some ⟨q,0,none⟩))) c2.zipIdx 0 67) c2.zipIdx 0 67).setIfInBounds 137 (.int .i64 (L:Int)))[i]?=(Array.foldl (fun (cs:Array Value) (x:Value×Nat)=>cs.setIfInBounds (69+x.2) x.1) (Array.foldl (fun (cs:Array Value) (x:Value×Nat)=>cs.setIfInBounds (2+x.2) x.1) ((Tryz.zeroCells58.setIfInBounds 0 (.pointer (some ⟨p,0,none⟩))).setIfInBounds 1 (.pointer (some ⟨q,0,none⟩))) c2.zipIdx 0 67) c2.zipIdx 0 67)[i]?:=fun i hi=>Array.getElem?_setIfInBounds_ne (Ne.symm hi)
 have lo:∀ i,i<2->((Array.foldl (fun (cs:Array Value) (x:Value×Nat)=>cs.setIfInBounds (69+x.2) x.1) (Array.foldl (fun (cs:Array Value) (x:Value×Nat)=>cs.setIfInBounds (2+x.2) x.1) ((Tryz.zeroCells58.setIfInBounds 0 (.pointer (some ⟨p,0,none⟩))).setIfInBounds 1 (.pointer (some ⟨q,0,none⟩))) c2.zipIdx 0 67) c2.zipIdx 0 67).setIfInBounds 137 (.int .i64 (L:Int)))[i]?=((Tryz.zeroCells58.setIfInBounds 0 (.pointer (some ⟨p,0,none⟩))).setIfInBounds 1 (.pointer (some ⟨q,0,none⟩)))[i]?:=fun i hi=>by rw [ne i (by omega),j2 i,if_neg (by omega),i2 i,if_neg (by omega)]
 have m1:∀ i,i<67->((Array.foldl (fun (cs:Array Value) (x:Value×Nat)=>cs.setIfInBounds (69+x.2) x.1) (Array.foldl (fun (cs:Array Value) (x:Value×Nat)=>cs.setIfInBounds (2+x.2) x.1) ((Tryz.zeroCells58.setIfInBounds 0 (.pointer (some ⟨p,0,none⟩))).setIfInBounds 1 (.pointer (some ⟨q,0,none⟩))) c2.zipIdx 0 67) c2.zipIdx 0 67).setIfInBounds 137 (.int .i64 (L:Int)))[2+i]?=c2[i]?:=fun i hi=>by rw [ne (2+i) (by omega),j2,if_neg (by omega),i2,if_pos (by omega),show 2+i-2=i by omega]
 have m2:∀ i,i<67->((Array.foldl (fun (cs:Array Value) (x:Value×Nat)=>cs.setIfInBounds (69+x.2) x.1) (Array.foldl (fun (cs:Array Value) (x:Value×Nat)=>cs.setIfInBounds (2+x.2) x.1) ((Tryz.zeroCells58.setIfInBounds 0 (.pointer (some ⟨p,0,none⟩))).setIfInBounds 1 (.pointer (some ⟨q,0,none⟩))) c2.zipIdx 0 67) c2.zipIdx 0 67).setIfInBounds 137 (.int .i64 (L:Int)))[69+i]?=c2[i]?:=fun i hi=>by rw [ne (69+i) (by omega),j2,if_pos (by omega),show 69+i-69=i by omega]
 have hi:∀ i,136<=i->i≠137->((Array.foldl (fun (cs:Array Value) (x:Value×Nat)=>cs.setIfInBounds (69+x.2) x.1) (Array.foldl (fun (cs:Array Value) (x:Value×Nat)=>cs.setIfInBounds (2+x.2) x.1) ((Tryz.zeroCells58.setIfInBounds 0 (.pointer (some ⟨p,0,none⟩))).setIfInBounds 1 (.pointer (some ⟨q,0,none⟩))) c2.zipIdx 0 67) c2.zipIdx 0 67).setIfInBounds 137 (.int .i64 (L:Int)))[i]?=Tryz.zeroCells58[i]?:=fun i h1 h2=>by rw [ne i h2,j2 i,if_neg (by omega),i2 i,if_neg (by omega),Array.getElem?_setIfInBounds_ne (by omega),Array.getElem?_setIfInBounds_ne (by omega)]
 refine ⟨by rw [Array.size_setIfInBounds,j1,i1,b1],?_,?_,(m1 0 (by omega)).trans hc.c0,(m1 1 (by omega)).trans hc.c1,(m1 2 (by omega)).trans hc.c2,⟨hc.wd.1,hc.wd.2.1,fun i x hx=>?_⟩,(m2 0 (by omega)).trans hc.c0,(m2 1 (by omega)).trans hc.c1,(m2 2 (by omega)).trans hc.c2,⟨hc.wd.1,hc.wd.2.1,fun i x hx=>?_⟩,(hi 136 (by omega) (by omega)).trans z2,?_,(hi 138 (by omega) (by omega)).trans z3⟩
 ·rw [lo 0 (by omega),Array.getElem?_setIfInBounds_ne (by omega),Array.getElem?_setIfInBounds_self_of_lt (by rw [z1];decide)]
 ·rw [lo 1 (by omega),Array.getElem?_setIfInBounds_self_of_lt (by rw [Array.size_setIfInBounds,z1];decide)]
 ·have h1:=(lL hx)
  have h2:=hc.wd.1
  rw [show 5+i=2+(3+i) by omega,m1 (3+i) (by omega)]
  exact hc.wd.2.2 i x hx
 ·have h1:=(lL hx)
  have h2:=hc.wd.1
  rw [show 72+i=69+(3+i) by omega,m2 (3+i) (by omega)]
  exact hc.wd.2.2 i x hx
 ·exact Array.getElem?_setIfInBounds_self_of_lt (by rw [j1,i1,b1];decide)
theorem PgW.anew {s:DS} {t:PS} {num root i:Nat} {ps b:List Nat} (h:PgW s t i b) (hp:PgN s ps) (hi:i<4096) (hh:hsP ps i=true):PgI s (anew s num root ps) i b :=
 ⟨h.lt,by rw [aBb];exact (aDq hp).2.2.2.1 i hi hh,h.pg,h.ln,h.bt⟩
theorem OnW.anew {s:DS} {t:PS} {num root:Nat} {ps:List Nat} (hp:PgN s ps):∀ {h:Nat} {b:BT h},OnW s t h b->(∀ i∈pgB h b,i<4096/\hsP ps i=true)->OnD s (anew s num root ps) h b
 | 0,b,⟨h1,hi⟩,hh=>⟨h1.anew hp (hh _ (List.mem_singleton.2 rfl)).1 (hh _ (List.mem_singleton.2 rfl)).2,hi⟩
 | h+1,b,⟨h1,hi,h3,h4,h5⟩,hh=>⟨h1.anew hp (hh _ List.mem_cons_self).1 (hh _ List.mem_cons_self).2,hi,h3,h4,fun k hk=>OnW.anew hp (h5 k hk) fun i hi=>hh i (List.mem_cons_of_mem _ (List.mem_flatten.2 ⟨_,List.mem_map_of_mem hk,hi⟩))⟩
theorem TrW.anew {s:DS} {t:PS} {num root:Nat} {st st':StT} {l:List It} (h:TrW s t st l) (e:SameT st st') (hp:PgN s st'.pgs):Tr s (anew s num root st'.pgs) st' l:=by
 rcases h with ⟨r1,r2,r3,r4,r5⟩ | ⟨h,b,q1,q2,q3,q4,q5,q6,q7,q8,q9⟩
 ·exact Or.inl ⟨e.rt.trans r1,e.dp.trans r2,e.ky.trans r3,r4,e.pgs r5⟩
 ·exact Or.inr ⟨h,b,e.rt.trans q1,e.dp.trans q2,e.ky.trans q3,q4,q5,q6.anew hp (fun i hi=>⟨q9.2.2.1 i hi,by rw [e.hs,q9.2.2.2 i];simpa using hi⟩),q7,q8,e.pgs q9⟩
theorem TrW.pgn {s:DS} {num root:Nat} {st st':StT} {l:List It} (h:TrW s ⟨newSt s.n,s.life,num,root⟩ st l) (e:SameT st st'):PgN s st'.pgs:=by
 intro i _ hi
 rw [e.hs] at hi
 rcases h with ⟨_,_,_,_,r5⟩ | ⟨h,b,q1,q2,q3,q4,q5,q6,q7,q8,q9⟩
 ·rw [r5.2.2.2 i] at hi;simp at hi
 ·rw [q9.2.2.2 i] at hi
  have h2:=q6.pgs i (of_decide_eq_true hi)
  refine ⟨?_,h2.2⟩
  apply Classical.byContradiction
  intro q
  have h3:(newSt s.n).getD i 0≠0:=h2.1
  rw [aCg h2.2,if_pos (by omega)] at h3
  exact h3 rfl
theorem Open_gen [Gd] {B p:Nat} {s:DS} {w:World} {num root:Nat} {st:StT} {l:List It} (h:DI B p s w) (hB:B<=w.heap.size) (hd:s.down=false) (ha:s.after<1) (hl1:s.life<100000) (h3:3<=s.n) (h4:s.n<=4096) (hl:lastH (rdH (pad (s.show 0)) s.n) (rdH (pad (s.show 1)) s.n)=some (num,root)) (hnum:num<=4611686018427387904) (hrt:root<=4096) (hTr:TrW s ⟨newSt s.n,s.life,num,root⟩ st l) (hro:st.root=(root:Int)) (hdp:st.depth<100000) (hll:l.length<100000) :
  Calls Tryz.prog 16 #[.pointer (some ⟨p,0,none⟩)] w fun e w'=>∃ q g st0,e=.returned (.tuple #[.pointer (some ⟨g,0,none⟩),.int .i64 0])/\w.heap.size<=g/\TM B p q g s (anew s num root st0.pgs) st0 st0 (.slice none 0 0) (cntF (anew s num root st0.pgs).st:Nat) w'/\SameT st st0/\Fp B w w':=by
 have lt:∀ {k:Nat} {o:Obj} {ww:World},ww.heap[k]?=some o->k<ww.heap.size:=fun e=>(lO e)
 have HOP:=zH (open_ok B p s num root w h hB hd h3 hl hnum hrt)
 have hns0:(newSt s.n).getD 0 0=0:=by rw [aCg (by omega)];rfl
 have hns1:(newSt s.n).getD 1 0=0:=by rw [aCg (by omega)];rfl
 have HTR:=zH hTr
 have HB:=zH hB
 clear h hl hTr
 go_enter Tryz.func16,Tryz.ntmps16
 go_wp2_with fail
 refine HOP.o.mono ?_
 rintro e w1 ⟨q,rfl,hst1,hb1⟩
 have HST1:=zH hst1
 have HB1:=zH hb1
 have HBw1:Hid (B<=w1.heap.size):=nT hB hb1.size
 have HRO:=zH (root_any hst1)
 have HLT:=zH (looked_w hst1 HBw1.o rfl hd (aCf _) hns0 HTR.o hdp hll)
 rw [hro] at HLT
 clear hst1 hb1 HOP
 go_wp2_with fail
 refine HRO.o.mono ?_
 rintro e w1' ⟨rfl,rfl⟩
 go_wp2_with fail
 refine HLT.o.mono ?_
 rintro e w2 ⟨v2,rfl,⟨c2,st2,hv2,hsv2,hsame⟩,hb2⟩
 subst hv2
 have HPN:=zH (HTR.o.pgn hsame)
 have HSM:=zH hsame
 have HB2:Hid (Below w.heap.size w w2):=HB1.o.trans (hb2.mono HB1.o.size)
 have HST2:=zH (HST1.o.later hb2)
 have x3:(w2.alloc (.cells Tryz.zeroCells54 54)).heap[w2.heap.size]?=some (.cells Tryz.zeroCells54 54 (0,0)):=heap_alloc_new w2 _
 have hst:=aBj (o:=0) x3 (by rw [Nat.zero_add,hsv2.sz,aBx.sz];exact nR _) hsv2.one
 rw [aC2 (by rw [hsv2.sz,aBx.sz])] at hst
 have hcz:c2.size=67:=hsv2.sz
 have HSV2:=zH hsv2
 have HB3:Hid (Below w.heap.size w ((w2.alloc (.cells Tryz.zeroCells54 54)).setRow w2.heap.size c2)):=below_setRow (HB2.o.trans ((aAb w2 _).mono HB2.o.size)) HB2.o.size c2
 have HBL3:Hid (Below w2.heap.size w2 ((w2.alloc (.cells Tryz.zeroCells54 54)).setRow w2.heap.size c2)):=below_setRow (aAb w2 _) (nR _) c2
 have HY3:=zH (setRow_heap _ _ _ c2 _ _ x3)
 clear hsv2 hsame hb2 x3 HRO HLT
 go_upto_region 7 with fail
 generalize hw3:((w2.alloc (.cells Tryz.zeroCells54 54)).setRow w2.heap.size c2)=w3 at *
 have HST3:=zH (HST2.o.later HBL3.o)
 generalize hnb:w2.heap.size=nb at *
 clear hst
 have HNM:=zH (aG2 (o:=3) HY3.o HSV2.o.wd)
 go_wp2_with fail
 refine HNM.o.mono ?_
 rintro e w4 ⟨v4,rfl,ho4,hb4⟩
 have HBw4:Hid (B<=w4.heap.size):=nT (nT hB HB3.o.size) hb4.size
 have HST4:=zH (HST3.o.later hb4)
 obtain ⟨va,vc,hv4⟩:=aAf ho4
 subst hv4
 have HHO:=zH (hold_any HST4.o HBw4.o rfl ho4 (aH0 st2.pgs 4096) (fun x hx=>by
  have h9:=aDf.1 hx
  have h8:=HPN.o x h9.1 h9.2
  refine ⟨by show x<(newSt s.n).length;rw [aCf];exact h8.2,?_⟩
  show (newSt s.n).getD x 0≠0
  rw [aCg h8.2,if_neg (by omega)]
  decide))
 have HY4:=zH ((hb4.block nb (lt HY3.o)).trans HY3.o)
 have HB4:Hid (Below w.heap.size w w4):=HB3.o.trans (hb4.mono HB3.o.size)
 clear ho4 hb4 HNM
 generalize (nums st2.pgs 4096).length=M9 at *
 go_wp2_with fail
 refine HHO.o.mono ?_
 rintro e w5 ⟨rfl,h1,h2⟩
 have HST5:Hid (ST B p q s (anew s num root st2.pgs) w5):=h1
 have HF5:Hid (Fp B w w5):=(Fp.of HB4.o hB).trans h2
 have HY5:=zH (h2.tree HY4.o (by decide))
 clear h1 h2 HHO
 go_upto_region 8 with fail
 have HX0:Hid ((fun wx=>wx.heap[nb]?=some (.cells c2 54 (0,0))) w5.drew):=HY5.o
 have HLE:=zH (aEg (HST5.o.later (Below.refl _ _).drew))
 have HBw5:Hid (B<=w5.heap.size):=nT hB HF5.o.bel.size
 generalize hL:cntF (anew s num root st2.pgs).st=L at *
 obtain ⟨zt1,zt2,zt3⟩:=zero_tree
 have hb9:((Tryz.zeroCells58.setIfInBounds 0 (.pointer (some ⟨p,0,none⟩))).setIfInBounds 1 (.pointer (some ⟨q,0,none⟩))).size=139:=by rw [Array.size_setIfInBounds,Array.size_setIfInBounds];exact zt1
 have hsz1:(Array.foldl (fun (cs:Array Value) (x:Value×Nat)=>cs.setIfInBounds (2+x.2) x.1) ((Tryz.zeroCells58.setIfInBounds 0 (.pointer (some ⟨p,0,none⟩))).setIfInBounds 1 (.pointer (some ⟨q,0,none⟩))) c2.zipIdx 0 67).size=139:=(aF9 (base:=((Tryz.zeroCells58.setIfInBounds 0 (.pointer (some ⟨p,0,none⟩))).setIfInBounds 1 (.pointer (some ⟨q,0,none⟩)))) (vs:=c2) (o:=2) (n:=67) hcz (by rw [hb9];decide)).1.trans hb9
 have hsz2:(Array.foldl (fun (cs:Array Value) (x:Value×Nat)=>cs.setIfInBounds (69+x.2) x.1) (Array.foldl (fun (cs:Array Value) (x:Value×Nat)=>cs.setIfInBounds (2+x.2) x.1) ((Tryz.zeroCells58.setIfInBounds 0 (.pointer (some ⟨p,0,none⟩))).setIfInBounds 1 (.pointer (some ⟨q,0,none⟩))) c2.zipIdx 0 67) c2.zipIdx 0 67).size=139:=(aF9 (base:=(Array.foldl (fun (cs:Array Value) (x:Value×Nat)=>cs.setIfInBounds (2+x.2) x.1) ((Tryz.zeroCells58.setIfInBounds 0 (.pointer (some ⟨p,0,none⟩))).setIfInBounds 1 (.pointer (some ⟨q,0,none⟩))) c2.zipIdx 0 67)) (vs:=c2) (o:=69) (n:=67) hcz (by rw [hsz1];decide)).1.trans hsz1
 have HTV:Hid (TV ((Array.foldl (fun (cs:Array Value) (x:Value×Nat)=>cs.setIfInBounds (69+x.2) x.1) (Array.foldl (fun (cs:Array Value) (x:Value×Nat)=>cs.setIfInBounds (2+x.2) x.1) ((Tryz.zeroCells58.setIfInBounds 0 (.pointer (some ⟨p,0,none⟩))).setIfInBounds 1 (.pointer (some ⟨q,0,none⟩))) c2.zipIdx 0 67) c2.zipIdx 0 67).setIfInBounds 137 (.int .i64 (L:Int))) p q st2 st2 (.slice none 0 0) (L:Int) false):=tv_build HSV2.o
 clear zt1 zt2 zt3 hb9
 refine wp_region_noPanic ?_
 refine wp_region_held_drew (S:=fun wx=>wx.heap[nb]?=some (.cells c2 54 (0,0))) (by kernel_rfl) HX0.o (fun hHeld=>?_)
 refine kT 0 29 ?_
 refine kT 1 30 ?_
 refine aAd (i:=2) (d:=31) (v:=.agg c2) (by kernel_rfl) (by kernel_rfl) (by kernel_rfl) (by kernel_rfl) (fun _ _ _ h=>h) ?hya2 (by assumption) ?resta2
 case hya2 =>
  intro oi ho
  simp only [List.getElem?_toArray,List.getElem?_cons_succ,List.getElem?_cons_zero,oI] at ho
  subst ho
  refine Or.inl ⟨by rfl,?_⟩
  intro wx hSw
  exact aEk rfl rfl ((fun (wx:World) (hSw:wx.heap[nb]?=some (.cells c2 54 (0,0)))=>run_loadVar_row (P:=Tryz.prog) wx nb 54 54 c2 (0,0) _ hSw Tryz.underlying54 rfl (by rw [hcz];exact aBl)) wx hSw)
 case resta2 =>
  try simp only [Act.put,siT,scZ,scS]
  refine aAd (i:=3) (d:=32) (v:=.agg c2) (by kernel_rfl) (by kernel_rfl) (by kernel_rfl) (by kernel_rfl) (fun _ _ _ h=>h) ?hya3 (by assumption) ?resta3
  case hya3 =>
   intro oi ho
   simp only [List.getElem?_toArray,List.getElem?_cons_succ,List.getElem?_cons_zero,oI] at ho
   subst ho
   refine Or.inl ⟨by rfl,?_⟩
   intro wx hSw
   exact aEk rfl rfl ((fun (wx:World) (hSw:wx.heap[nb]?=some (.cells c2 54 (0,0)))=>run_loadVar_row (P:=Tryz.prog) wx nb 54 54 c2 (0,0) _ hSw Tryz.underlying54 rfl (by rw [hcz];exact aBl)) wx hSw)
  case resta3 =>
   try simp only [Act.put,siT,scZ,scS]
   refine kT 4 33 ?_
   refine kC 5 ?_;intro K hK
   go_simp
   refine HLE.o.mono ?_
   rintro e w6 ⟨rfl,rfl⟩
   refine hK.out _ _ HX0.o (fun hHeld=>?_)
   clear hK K
   try simp only [Act.put,siT,scZ,scS]
   refine aAd (i:=6) (d:=35) (v:=.agg ((Array.foldl (fun (cs:Array Value) (x:Value×Nat)=>cs.setIfInBounds (69+x.2) x.1) (Array.foldl (fun (cs:Array Value) (x:Value×Nat)=>cs.setIfInBounds (2+x.2) x.1) ((Tryz.zeroCells58.setIfInBounds 0 (.pointer (some ⟨p,0,none⟩))).setIfInBounds 1 (.pointer (some ⟨q,0,none⟩))) c2.zipIdx 0 67) c2.zipIdx 0 67).setIfInBounds 137 (.int .i64 (L:Int)))) (by kernel_rfl) (by kernel_rfl) (by kernel_rfl) (by kernel_rfl) (fun _ _ _ h=>h) ?hya6 (by assumption) ?resta6
   case hya6 =>
    intro oi ho
    simp only [List.getElem?_toArray,List.getElem?_cons_succ,List.getElem?_cons_zero,oI] at ho
    subst ho
    refine Or.inl ⟨by rfl,?_⟩
    intro wx hSw
    try dsimp only at hSw
    go_simp
    try rfl
   try simp only [Act.put,siT,scZ,scS]
   generalize ((Array.foldl (fun (cs:Array Value) (x:Value×Nat)=>cs.setIfInBounds (69+x.2) x.1) (Array.foldl (fun (cs:Array Value) (x:Value×Nat)=>cs.setIfInBounds (2+x.2) x.1) ((Tryz.zeroCells58.setIfInBounds 0 (.pointer (some ⟨p,0,none⟩))).setIfInBounds 1 (.pointer (some ⟨q,0,none⟩))) c2.zipIdx 0 67) c2.zipIdx 0 67).setIfInBounds 137 (.int .i64 (L:Int)))=bg at *
   clear hsz1 hsz2
   have HB7:Hid (Below w5.heap.size w5 (w5.alloc (.cells bg 58)).drew):=(aAb w5 _).drew
   have HN7:Hid ((w5.alloc (.cells bg 58)).drew.heap[w5.heap.size]?=some (.cells bg 58 (0,0))):=heap_alloc_new w5 _
   have HX7:Hid ((fun wx=>wx.heap[nb]?=some (.cells c2 54 (0,0))) (w5.alloc (.cells bg 58)).drew):=(HB7.o.block nb (lt HY5.o)).trans HY5.o
   refine kC 7 ?_;intro K hK
   go_simp
   clear hHeld
   refine hK.out _ _ HX7.o (fun hHeld=>?_)
   clear hK K
   try simp only [Act.put,siT,scZ,scS]
   refine kT 8 2 ?_
   refine kT 9 3 ?_
   refine wpAnyH_done (by kernel_rfl) ?_ _
   refine NoPanic.normal ?_
   clear hHeld HX0 HX7
   go_wp2
   go_ret2
   obtain ⟨a1,a2,a3,a4,a5⟩:=aDq (num:=num) (root:=root) HPN.o
   refine ⟨q,w5.heap.size,st2,rfl,HF5.o.bel.size,⟨HST5.o.later HB7.o,nT HBw5.o HB7.o.size,HBw5.o,⟨bg,HN7.o,by rw [<-hL] at HTV;exact HTV.o⟩,a2.symm,hd,ha,hl1,a1,?_,?_⟩,HSM.o,HF5.o.trans (Fp.of HB7.o HBw5.o)⟩
   ·rw [a5 0 (by omega) (fun _=>by
     cases h9:hsP st2.pgs 0 with
     | false=>rfl
     | true=>have:=(HPN.o 0 (by omega) h9).1;omega)]
    rfl
   ·rw [a5 1 (by omega) (fun _=>by
     cases h9:hsP st2.pgs 1 with
     | false=>rfl
     | true=>have:=(HPN.o 1 (by omega) h9).1;omega)]
    rfl
theorem Open_none [Gd] {B p:Nat} {s:DS} {w:World} {num:Nat} (h:DI B p s w) (hB:B<=w.heap.size) (hd:s.down=false) (ha:s.after<1) (hl1:s.life<100000) (h3:3<=s.n) (h4:s.n<=4096) (hl:lastH (rdH (pad (s.show 0)) s.n) (rdH (pad (s.show 1)) s.n)=some (num,0)) (hnum:num<=4611686018427387904) :
  Calls Tryz.prog 16 #[.pointer (some ⟨p,0,none⟩)] w fun e w'=>∃ q g st0,e=.returned (.tuple #[.pointer (some ⟨g,0,none⟩),.int .i64 0])/\w.heap.size<=g/\TM B p q g s ⟨newSt s.n,s.life,num,0⟩ st0 st0 (.slice none 0 0) (cntF (newSt s.n):Nat) w'/\st0.root=0/\st0.depth=0/\st0.keys=0/\PgS st0.pgs []/\Fp B w w':=by
 have hp:PgS zPs []:=aHv List.nodup_nil (fun x hx=>by simp at hx)
 refine (Open_gen (st:=⟨0,0,0,zPs⟩) (l:=[]) h hB hd ha hl1 h3 h4 hl hnum (by omega) (Or.inl ⟨rfl,rfl,rfl,rfl,hp⟩) rfl (by decide) (by decide)).mono ?_
 rintro e w' ⟨q,g,st0,rfl,h5,h6,h7,h8⟩
 have hn:nums st0.pgs 4096=[]:=by
  rw [nums,List.filter_eq_nil_iff]
  intro x _
  rw [h7.hs,hp.2.2.2 x]
  simp
 have ha:anew s num 0 st0.pgs=⟨newSt s.n,s.life,num,0⟩:=by
  unfold anew
  rw [hn]
  rfl
 rw [ha] at h6
 exact ⟨q,g,st0,rfl,h5,h6,h7.rt,h7.dp,h7.ky,h7.pgs hp,h8⟩
theorem Len_any [Gd] {B p q g:Nat} {s:DS} {t:PS} {w:World} {now last:StT} {sv:Value} {left:Int} (hM:TM B p q g s t now last sv left w) :
  Calls Tryz.prog 9 #[.pointer (some ⟨g,0,none⟩)] w fun e w'=>e=.returned (.int .i64 now.keys)/\w'=w:=by
 obtain ⟨cs,hg,hT⟩:=hM.tv
 have r4:w.cell? ⟨g,4,none⟩=some (.int .i64 now.keys):=(aAa hg).trans hT.n2
 clear hM hg hT
 go_enter Tryz.func9,Tryz.ntmps9
 go_wp2
 go_ret
 exact ⟨rfl,rfl⟩
theorem aHi [Gd] {B p q g:Nat} {s:DS} {t:PS} {w:World} {now last:StT} {sv:Value} {left:Int} (hM:TM B p q g s t now last sv left w) :
  Calls Tryz.prog 10 #[.pointer (some ⟨g,0,none⟩)] w fun e w'=>e=.returned (.int .i64 (t.num:Int))/\w'=w:=by
 obtain ⟨cs,hg,hT⟩:=hM.tv
 have r1:w.cell? ⟨g,1,none⟩=some (.pointer (some ⟨q,0,none⟩)):=(aAa hg).trans hT.c1
 have HN:=zH (aEu hM.st)
 clear hM hg hT
 go_enter Tryz.func10,Tryz.ntmps10
 go_wp2_with fail
 refine HN.o.mono ?_
 rintro e w1 ⟨rfl,rfl⟩
 go_wp2
 go_ret
 exact ⟨rfl,rfl⟩
theorem Put_arg [Gd] {B p q g:Nat} {s:DS} {t:PS} {w:World} {now last:StT} {sv:Value} {left:Int} (hM:TM B p q g s t now last sv left w) (a va:Option Addr) (n c vn vc:Nat) (h0:n=0\/64<n) :
  Calls Tryz.prog 8 #[.pointer (some ⟨g,0,none⟩),.slice a n c,.slice va vn vc] w fun e w'=>e=.returned (.int .i64 (if n=0 then 1 else 3))/\Below w.heap.size w w':=by
 have HBX:=zH (aA5 [Obj.cells #[.slice a n c] 27,Obj.cells #[.slice va vn vc] 27] w)
 have HX0:Hid (((w.alloc (.cells #[.slice a n c] 27)).alloc (.cells #[.slice va vn vc] 27)).heap[w.heap.size]?=some (.cells #[.slice a n c] 27 (0,0))):=aAp [Obj.cells #[.slice a n c] 27,Obj.cells #[.slice va vn vc] 27] w 0 _ rfl
 have HB1:Hid (Below w.heap.size w ((w.alloc (.cells #[.slice a n c] 27)).alloc (.cells #[.slice va vn vc] 27))):=HBX.o.1
 have c0:((w.alloc (.cells #[.slice a n c] 27)).alloc (.cells #[.slice va vn vc] 27)).cell? ⟨w.heap.size,0,none⟩=some (.slice a n c):=aAa HX0.o
 have HRF:Hid (Calls Tryz.prog 17 #[.pointer (some ⟨g,0,none⟩),.slice a n c] ((w.alloc (.cells #[.slice a n c] 27)).alloc (.cells #[.slice va vn vc] 27)) fun e w'=>e=.returned (.int .i64 (if n=0 then 1 else 3))/\Below w.heap.size w w'):=by
  have h1:=hM.later HB1.o
  obtain ⟨cs,hg,hT⟩:=h1.tv
  refine (aCd h1.st hM.lf hg hT a n c).mono ?_
  rintro e w' ⟨rfl,hb⟩
  refine ⟨?_,HB1.o.trans (hb.mono HB1.o.size)⟩
  by_cases e:n=0
  ·rw [if_pos e,if_pos e]
  ·rw [if_neg e,if_neg e,if_pos (by omega)]
 have hne:¬ (if n=0 then (1:Int) else 3)=0:=by split<;>decide
 have dne:((if n=0 then (1:Int) else 3) != 0)=true:=by split<;>rfl
 clear hM h0 HBX
 generalize (if n=0 then (1:Int) else 3)=r at *
 go_enter Tryz.func8,Tryz.ntmps8
 go_wp2_with fail
 refine HRF.o.mono ?_
 rintro e w1 ⟨rfl,hb⟩
 have HB:=zH hb
 clear hb
 go_wp2
 go_ret
 exact ⟨rfl,HB.o⟩
theorem cnt_mono:∀ (a b:List Nat),a.length=b.length->(∀ i:Nat,a[i]?=some 1->b[i]?=some 1)->a.count 1<=b.count 1
 | [],[],_,_=>nR _
 | [],_::_,h,_=>by simp at h
 | _::_,[],h,_=>by simp at h
 | x::a,y::b,h,hh=>by
  have ih:=cnt_mono a b (by simpa using h) fun i hi=>by simpa using hh (i+1) (by simpa using hi)
  by_cases c:x=1
  ·subst c
   have:y=1:=by simpa using hh 0 rfl
   subst this
   simp only [List.count_cons_self]
   omega
  ·rw [List.count_cons_of_ne (fun q=>c q)]
   exact nT ih (List.count_le_count_cons)
theorem getD_some {st:List Nat} {i x:Nat} (h:st[i]?=some x):st.getD i 0=x:=by rw [List.getD_eq_getElem?_getD,h];rfl
theorem some_getD {st:List Nat} {i:Nat} (h:i<st.length):st[i]?=some (st.getD i 0):=by rw [List.getD_eq_getElem?_getD,gE h];rfl
theorem Cmt.cnt {s s':DS} {t t':PS} {nd:List Nat} {root:Nat} (h:Cmt s t nd root s' t'):cntF t.st<=cntF t'.st:=by
 refine cnt_mono _ _ h.len.symm fun i hi=>?_
 have hl:=(lL hi)
 have hg:=getD_some hi
 rw [some_getD (by rw [h.len];exact hl),h.st i hl,hg]
 simp
theorem aF2 (n:Nat) (h:2<=n):cntF (newSt n)=n-2:=by
 unfold cntF newSt
 have key:∀ k,((List.range k).map fun i=>if i<2 then 0 else 1).count 1=k-2:=by
  intro k
  induction k with
  | zero=>rfl
  | succ k ih =>
   rw [List.range_succ,List.map_append,List.count_append,ih]
   by_cases c:k<2
   ·simp [c];omega
   ·simp [c];omega
 exact key n
theorem Tr.one {s:DS} {t:PS} {st:StT} {l:List It} (h:Tr s t st l) (hl:l.length<=4):st.depth<=1:=by
 rcases h with ⟨_,r2,_,_,_⟩ | ⟨h,b,e1,e2,e3,e4,e5,e6,e7,e8,e9⟩
 ·omega
 ·have:=deepR e7 e8
  rw [e4] at this
  have h0:h=0:=by
   apply Classical.byContradiction
   intro q
   have h4:3 ^ 1<=3 ^ h:=Nat.pow_le_pow_right (by omega) (by omega)
   omega
  omega
theorem Tr.pg {s:DS} {t:PS} {st:StT} {l:List It} (h:Tr s t st l) (hd:t.st.getD 0 0=0/\t.st.getD 1 0=0):st.pgs.length=64/\∀ i,hsP st.pgs i=true->2<=i/\i<s.n:=by
 rcases h with ⟨_,_,_,_,r5⟩ | ⟨h,b,e1,e2,e3,e4,e5,e6,e7,e8,e9⟩
 ·refine ⟨r5.1,fun i hi=>?_⟩
  rw [r5.2.2.2 i] at hi
  simp at hi
 ·refine ⟨e9.1,fun i hi=>?_⟩
  rw [e9.2.2.2 i] at hi
  simp only [decide_eq_true_eq] at hi
  have h2:=e6.held i hi
  refine ⟨?_,h2.2⟩
  apply Classical.byContradiction
  intro q
  rcases (by omega:i=0\/i=1) with e | e
  ·rw [e,hd.1] at h2;exact absurd h2.1 (by decide)
  ·rw [e,hd.2] at h2;exact absurd h2.1 (by decide)
theorem Tr.root {s:DS} {t:PS} {st:StT} {l:List It} (h:Tr s t st l) (hd:t.st.getD 0 0=0/\t.st.getD 1 0=0):∃ R:Nat,st.root=(R:Int)/\R≠1/\R<max 1 s.n:=by
 rcases h with ⟨r1,_⟩ | ⟨h,b,e1,e2,e3,e4,e5,e6,e7,e8,e9⟩
 ·exact ⟨0,r1,by omega,by omega⟩
 ·have h2:=e6.held _ (aGb b)
  refine ⟨BT.id b,e1,fun q=>?_,by omega⟩
  rw [q,hd.2] at h2
  exact absurd h2.1 (by decide)
theorem Gw.show01 {s s':DS} {t t':PS} {L:List Nat} (g:Gw s t s' t' L) (hd:t.st.getD 0 0=0/\t.st.getD 1 0=0):s'.show 0=s.show 0/\s'.show 1=s.show 1 :=
 ⟨g.sh 0 fun q=>by have:=(g.new 0 q).1;omega,g.sh 1 fun q=>by have:=(g.new 1 q).1;omega⟩
structure HdK (s:DS) (c r:Nat):Prop where
 a:rdH (pad (s.show (c % 2))) s.n=((c:Int),r)
 b:(rdH (pad (s.show ((c+1) % 2))) s.n).1<(c:Int)\/(c=0/\(rdH (pad (s.show ((c+1) % 2))) s.n).1=0)
theorem HdK.last {s:DS} {c r:Nat} (h:HdK s c r):lastH (rdH (pad (s.show 0)) s.n) (rdH (pad (s.show 1)) s.n)=some (c,r):=by
 have h1:=h.a
 have h2:=h.b
 by_cases e:c % 2=0
 ·rw [e] at h1
  rw [show (c+1) % 2=1 by omega] at h2
  rw [h1]
  exact lastH_even (by rcases h2 with q | ⟨q,q2⟩<;>omega) e
 ·have e:c % 2=1:=by omega
  rw [e] at h1
  rw [show (c+1) % 2=0 by omega] at h2
  rw [h1]
  exact lastH_odd (by rcases h2 with q | ⟨q,q2⟩<;>omega) e
theorem HdK.same {s s':DS} {c r:Nat} (h:HdK s c r) (e0:s'.show 0=s.show 0) (e1:s'.show 1=s.show 1) (hn:s'.n=s.n):HdK s' c r:=by
 have e:∀ i,i<2->s'.show i=s.show i:=fun i hi=>by
  have:i=0\/i=1:=by omega
  rcases this with rfl | rfl
  ·exact e0
  ·exact e1
 refine ⟨?_,?_⟩
 ·rw [e _ (by omega),hn];exact h.a
 ·rw [e _ (by omega),hn];exact h.b
theorem HdK.gw {s s':DS} {t t':PS} {L:List Nat} {c r:Nat} (h:HdK s c r) (g:Gw s t s' t' L) (hd:t.st.getD 0 0=0/\t.st.getD 1 0=0):HdK s' c r :=
 h.same (g.show01 hd).1 (g.show01 hd).2 g.n
theorem HdK.cmt {s s':DS} {t t':PS} {nd:List Nat} {root c r:Nat} (h:HdK s c r) (k:Cmt s t nd root s' t') (hc:t.num=c) (hr:root<s.n) (hr1:root≠1) (hn:2<=s.n) (h4:s.n<=4096) (hm:c<100000):HdK s' (c+1) root:=by
 refine ⟨?_,Or.inl ?_⟩
 ·rw [k.sh _ (by omega),hc,if_pos rfl,k.n]
  exact rdH_head (by omega) hr hr1 (by omega) h4
 ·rw [k.sh _ (by omega),hc,if_neg (by omega),show (c+1+1) % 2=c % 2 by omega,k.n,h.a]
  show (c:Int)<((c+1:Nat):Int)
  omega
theorem HdK.new {s:DS} (h0:s.show 0=[]) (h1:s.show 1=[]):HdK s 0 0:=by
 refine ⟨?_,Or.inr ⟨rfl,?_⟩⟩
 ·show rdH (pad (s.show 0)) s.n=_
  rw [h0,aD6]
  rfl
 ·show (rdH (pad (s.show 1)) s.n).1=0
  rw [h1,aD6]
theorem Tr.rootk {s:DS} {t:PS} {st:StT} {l:List It} (h:Tr s t st l) (hd:t.st.getD 0 0=0/\t.st.getD 1 0=0) (hn:3<=s.n):st.root.toNat<s.n/\st.root.toNat≠1/\st.root=(st.root.toNat:Int):=by
 rcases h with ⟨r1,_⟩ | ⟨h,b,e1,e2,e3,e4,e5,e6,e7,e8,e9⟩
 ·rw [r1]
  exact ⟨by show 0<s.n;omega,by decide,rfl⟩
 ·have h2:=e6.held _ (aGb b)
  rw [e1]
  refine ⟨h2.2,fun q9=>?_,rfl⟩
  have q9:BT.id b=1:=q9
  rw [q9] at h2
  omega
theorem show_calm {s:DS} (hm:s.m=0) (i:Nat):s.show i=s.K i:=by
 have:s.idx i=[]:=by unfold DS.idx;rw [hm];rfl
 unfold DS.show
 rw [this]
 rfl
theorem lost_calm {s:DS} {keep:Nat} {torn cut:Int} (hm:s.m=0) (hd:s.down=false) :
  (∀ i,(s.cutS keep torn cut).restart.show i=s.show i)/\(s.cutS keep torn cut).restart.n=s.n/\(s.cutS keep torn cut).restart.m=0/\(s.cutS keep torn cut).restart.life=s.life+1/\(s.cutS keep torn cut).restart.down=false/\(s.cutS keep torn cut).restart.after<1/\(s.cutS keep torn cut).life=s.life+1:=by
 have e1:s.cutS keep torn cut=s.lose keep torn cut:=by unfold DS.cutS;rw [hd];rfl
 have e2:(s.lose keep torn cut).restart=(s.lose keep torn cut).up:=by unfold DS.restart;rfl
 rw [e1,e2]
 have hm2:(s.lose keep torn cut).up.m=0:=rfl
 refine ⟨fun i=>?_,aBy s keep torn cut,hm2,rfl,rfl,(show (0:Int)<1 by decide),rfl⟩
 rw [show_calm hm2,show_calm hm]
 show (s.settle keep torn cut).K i=s.K i
 by_cases hi:i<s.n
 ·rw [aD2 s keep torn cut i hi,hm]
  rfl
 ·rw [aFs s keep torn cut i hi]
  unfold DS.K DS.n at *
  rw [List.getD_eq_getElem?_getD,List.getElem?_eq_none (by omega)]
  rfl
theorem OnD.re {s s2:DS} {t:PS} {lf:Int} {num root:Nat} (hs:∀ i,s2.show i=s.show i) (hn:s2.n=s.n) (hd:t.st.getD 0 0=0/\t.st.getD 1 0=0):∀ {h:Nat} {b:BT h},OnD s t h b->OnW s2 ⟨newSt s2.n,lf,num,root⟩ h b:=by
 have pg:∀ {i:Nat} {b:List Nat},PgI s t i b->PgW s2 ⟨newSt s2.n,lf,num,root⟩ i b:=by
  intro i b h
  refine ⟨by rw [hn];exact h.lt,?_,by rw [hs];exact h.pg,h.ln,h.bt⟩
  rw [aBb]
  show (newSt s2.n).getD i 0≠0
  have h2:=h.of
  rw [aBb] at h2
  rw [aCg (by rw [hn];exact h.lt),if_neg (by
   intro q
   have:i=0\/i=1:=by omega
   rcases this with rfl | rfl<;>omega)]
  decide
 intro h
 induction h with
 | zero=>exact fun ⟨h1,h2⟩=>⟨pg h1,h2⟩
 | succ h ih=>exact fun ⟨h1,h2,h3,h4,h5⟩=>⟨pg h1,h2,h3,h4,fun k hk=>ih (h5 k hk)⟩
theorem Tr.re {s s2:DS} {t:PS} {lf:Int} {num root:Nat} {st:StT} {l:List It} (h:Tr s t st l) (hs:∀ i,s2.show i=s.show i) (hn:s2.n=s.n) (hd:t.st.getD 0 0=0/\t.st.getD 1 0=0):TrW s2 ⟨newSt s2.n,lf,num,root⟩ st l:=by
 rcases h with h | ⟨h,b,q1,q2,q3,q4,q5,q6,q7,q8,q9⟩
 ·exact Or.inl h
 ·exact Or.inr ⟨h,b,q1,q2,q3,q4,q5,q6.re hs hn hd,q7,q8,q9⟩
section
variable [Gd] {B p q g:Nat} {s s':DS} {t:PS} {w w':World} {cs:Array Value} {now last:StT} {sv:Value} {left:Int}
theorem ST.cut (h:ST B p q s t w) (hD:DI B p s' w') (hF:Fr B w w'):ST B p q s' t w':=by
 obtain ⟨_,gs,h2⟩:=h
 exact ⟨hD,gs,hF.stay _ _ _ _ h2.hq (by decide) (by decide) (by decide) (by decide),hF.stay _ _ _ _ h2.hs (by decide) (by decide) (by decide) (by decide),h2.qB,h2.gB,h2.ok,h2.hG⟩
theorem tdead_yes (hST:ST B p q s t w) (hl:s.life≠t.life) (hg:w.heap[g]?=some (.cells cs 58 (0,0))) (hT:TV cs p q now last sv left false) :
  Calls Tryz.prog 21 #[.pointer (some ⟨g,0,none⟩)] w fun e w'=>e=.returned (.bool true)/\Below w.heap.size w w':=by
 have r1:w.cell? ⟨g,1,none⟩=some (.pointer (some ⟨q,0,none⟩)):=(aAa hg).trans hT.c1
 have r2:w.cell? ⟨g,138,none⟩=some (.bool false):=(aAa hg).trans hT.s2
 have HD:=zH (dead_yes hST hl)
 clear hST hg hT
 go_enter Tryz.func21,Tryz.ntmps21
 go_wp2_with fail
 refine HD.o.mono ?_
 rintro e w1 ⟨rfl,hb1⟩
 have HB1:=zH hb1
 clear hb1
 go_wp2
 go_ret
 exact ⟨rfl,HB1.o⟩
theorem refusal_dead (hST:ST B p q s t w) (hl:s.life≠t.life) (hg:w.heap[g]?=some (.cells cs 58 (0,0))) (hT:TV cs p q now last sv left false) (a:Option Addr) (len cap:Nat) :
  Calls Tryz.prog 17 #[.pointer (some ⟨g,0,none⟩),.slice a len cap] w fun e w'=>e=.returned (.int .i64 20)/\Below w.heap.size w w':=by
 have HD:=zH (tdead_yes hST hl hg hT)
 clear hST hg hT
 go_enter Tryz.func17,Tryz.ntmps17
 go_wp2_with fail
 refine HD.o.mono ?_
 rintro e w1 ⟨rfl,hb1⟩
 have HB1:=zH hb1
 clear hb1
 go_wp2
 go_ret
 exact ⟨rfl,HB1.o⟩
theorem Get_dead (hST:ST B p q s t w) (hl:s.life≠t.life) (hg:w.heap[g]?=some (.cells cs 58 (0,0))) (hT:TV cs p q now last sv left false) (ka:Option Addr) (kn kc:Nat) :
  Calls Tryz.prog 26 #[.pointer (some ⟨g,0,none⟩),.slice ka kn kc] w fun e w'=>e=.returned (.tuple #[.slice none 0 0,.bool false,.int .i64 20])/\Below w.heap.size w w':=by
 have lt:∀ {k:Nat} {o:Obj} {ww:World},ww.heap[k]?=some o->k<ww.heap.size:=fun e=>(lO e)
 have HGT:Hid (Calls Tryz.prog 57 #[.pointer (some ⟨g,0,none⟩),.pointer (some ⟨g,2,none⟩),.slice ka kn kc] w fun e w'=>e=.returned (.tuple #[.slice none 0 0,.bool false,.int .i64 20])/\Below w.heap.size w w'):=by
  have HBB:=zH (aA5 [(Obj.cells #[.pointer (some ⟨g,0,none⟩)] 24),(Obj.cells #[.pointer (some ⟨g,2,none⟩)] 71),(Obj.cells #[.slice ka kn kc] 27),(Obj.cells #[.slice none 0 0] 27),(Obj.cells #[.bool false] 4)] w)
  have x0:=aAp [(Obj.cells #[.pointer (some ⟨g,0,none⟩)] 24),(Obj.cells #[.pointer (some ⟨g,2,none⟩)] 71),(Obj.cells #[.slice ka kn kc] 27),(Obj.cells #[.slice none 0 0] 27),(Obj.cells #[.bool false] 4)] w 0 _ rfl
  have x2:=aAp [(Obj.cells #[.pointer (some ⟨g,0,none⟩)] 24),(Obj.cells #[.pointer (some ⟨g,2,none⟩)] 71),(Obj.cells #[.slice ka kn kc] 27),(Obj.cells #[.slice none 0 0] 27),(Obj.cells #[.bool false] 4)] w 2 _ rfl
  have x3:=aAp [(Obj.cells #[.pointer (some ⟨g,0,none⟩)] 24),(Obj.cells #[.pointer (some ⟨g,2,none⟩)] 71),(Obj.cells #[.slice ka kn kc] 27),(Obj.cells #[.slice none 0 0] 27),(Obj.cells #[.bool false] 4)] w 3 _ rfl
  have x4:=aAp [(Obj.cells #[.pointer (some ⟨g,0,none⟩)] 24),(Obj.cells #[.pointer (some ⟨g,2,none⟩)] 71),(Obj.cells #[.slice ka kn kc] 27),(Obj.cells #[.slice none 0 0] 27),(Obj.cells #[.bool false] 4)] w 4 _ rfl
  have HB1:Hid (Below w.heap.size w (((((w.alloc (.cells #[.pointer (some ⟨g,0,none⟩)] 24)).alloc (.cells #[.pointer (some ⟨g,2,none⟩)] 71)).alloc (.cells #[.slice ka kn kc] 27)).alloc (.cells #[.slice none 0 0] 27)).alloc (.cells #[.bool false] 4))):=HBB.o.1
  have HX0:Hid ((((((w.alloc (.cells #[.pointer (some ⟨g,0,none⟩)] 24)).alloc (.cells #[.pointer (some ⟨g,2,none⟩)] 71)).alloc (.cells #[.slice ka kn kc] 27)).alloc (.cells #[.slice none 0 0] 27)).alloc (.cells #[.bool false] 4)).heap[w.heap.size]?=some (.cells #[.pointer (some ⟨g,0,none⟩)] 24 (0,0))):=x0
  have HX2:Hid ((((((w.alloc (.cells #[.pointer (some ⟨g,0,none⟩)] 24)).alloc (.cells #[.pointer (some ⟨g,2,none⟩)] 71)).alloc (.cells #[.slice ka kn kc] 27)).alloc (.cells #[.slice none 0 0] 27)).alloc (.cells #[.bool false] 4)).heap[w.heap.size+2]?=some (.cells #[.slice ka kn kc] 27 (0,0))):=x2
  have HX3:Hid ((((((w.alloc (.cells #[.pointer (some ⟨g,0,none⟩)] 24)).alloc (.cells #[.pointer (some ⟨g,2,none⟩)] 71)).alloc (.cells #[.slice ka kn kc] 27)).alloc (.cells #[.slice none 0 0] 27)).alloc (.cells #[.bool false] 4)).heap[w.heap.size+3]?=some (.cells #[.slice none 0 0] 27 (0,0))):=x3
  have HX4:Hid ((((((w.alloc (.cells #[.pointer (some ⟨g,0,none⟩)] 24)).alloc (.cells #[.pointer (some ⟨g,2,none⟩)] 71)).alloc (.cells #[.slice ka kn kc] 27)).alloc (.cells #[.slice none 0 0] 27)).alloc (.cells #[.bool false] 4)).heap[w.heap.size+4]?=some (.cells #[.bool false] 4 (0,0))):=x4
  have c0:(((((w.alloc (.cells #[.pointer (some ⟨g,0,none⟩)] 24)).alloc (.cells #[.pointer (some ⟨g,2,none⟩)] 71)).alloc (.cells #[.slice ka kn kc] 27)).alloc (.cells #[.slice none 0 0] 27)).alloc (.cells #[.bool false] 4)).cell? ⟨w.heap.size,0,none⟩=some (.pointer (some ⟨g,0,none⟩)):=aAa HX0.o
  have c2:(((((w.alloc (.cells #[.pointer (some ⟨g,0,none⟩)] 24)).alloc (.cells #[.pointer (some ⟨g,2,none⟩)] 71)).alloc (.cells #[.slice ka kn kc] 27)).alloc (.cells #[.slice none 0 0] 27)).alloc (.cells #[.bool false] 4)).cell? ⟨w.heap.size+2,0,none⟩=some (.slice ka kn kc):=aAa HX2.o
  have HST:=zH hST
  have HG:=zH hg
  have HT:=zH hT
  clear hST hg hT HBB x0 x2 x3 x4
  generalize hn0:w.heap.size=n0 at *
  generalize hW:(((((w.alloc (.cells #[.pointer (some ⟨g,0,none⟩)] 24)).alloc (.cells #[.pointer (some ⟨g,2,none⟩)] 71)).alloc (.cells #[.slice ka kn kc] 27)).alloc (.cells #[.slice none 0 0] 27)).alloc (.cells #[.bool false] 4))=w1 at *
  have HRF:=zH (refusal_dead (HST.o.later (by rw [hn0];exact HB1.o)) hl ((HB1.o.block g (by rw [<-hn0];exact lt HG.o)).trans HG.o) HT.o ka kn kc)
  go_enter Tryz.func57,Tryz.ntmps57
  go_wp2_with fail
  refine HRF.o.mono ?_
  rintro e w2 ⟨rfl,hb2⟩
  have HB2:Hid (Below n0 w w2):=HB1.o.trans (hb2.mono (by have:=HB1.o.size;omega))
  have y3:=(hb2.block _ (lt HX3.o)).trans HX3.o
  have y4:=(hb2.block _ (lt HX4.o)).trans HX4.o
  have HY3:=zH y3
  have HY4:=zH y4
  have d3:w2.cell? ⟨n0+3,0,none⟩=some (.slice none 0 0):=aAa y3
  have f3:w2.frozen? ⟨n0+3,0,none⟩=false:=aAc y3
  have e4:(w2.setCell ⟨n0+3,0,none⟩ (.slice none 0 0)).heap[n0+4]?=some (.cells #[.bool false] 4 (0,0)):=(heap_setCell_other _ _ _ _ (by show n0+4≠n0+3;omega)).trans y4
  have f5:(w2.setCell ⟨n0+3,0,none⟩ (.slice none 0 0)).frozen? ⟨n0+4,0,none⟩=false:=aAc e4
  have d5:(w2.setCell ⟨n0+3,0,none⟩ (.slice none 0 0)).cell? ⟨n0+4,0,none⟩=some (.bool false):=aAa e4
  clear hb2 c0 c2 HRF y3 y4 e4
  go_wp2
  have z3:(w2.setCell ⟨n0+3,0,none⟩ (.slice none 0 0)).heap[n0+3]?=some (.cells #[.slice none 0 0] 27 (0,0)):=by rw [heap_setCell_same _ _ _ _ _ _ HY3.o];rfl
  have z3':((w2.setCell ⟨n0+3,0,none⟩ (.slice none 0 0)).setCell ⟨n0+4,0,none⟩ (.bool false)).heap[n0+3]?=some (.cells #[.slice none 0 0] 27 (0,0)):=(heap_setCell_other _ _ _ _ (by show n0+3≠n0+4;omega)).trans z3
  have z4':((w2.setCell ⟨n0+3,0,none⟩ (.slice none 0 0)).setCell ⟨n0+4,0,none⟩ (.bool false)).heap[n0+4]?=some (.cells #[.bool false] 4 (0,0)):=by
   rw [heap_setCell_same _ _ _ _ _ _ ((heap_setCell_other _ _ _ _ (by show n0+4≠n0+3;omega)).trans HY4.o)];rfl
  have HBF:Hid (Below n0 w ((w2.setCell ⟨n0+3,0,none⟩ (.slice none 0 0)).setCell ⟨n0+4,0,none⟩ (.bool false))):=(HB2.o.setCell (p:=⟨n0+3,0,none⟩) (by show n0<=n0+3;omega) _).setCell (p:=⟨n0+4,0,none⟩) (by show n0<=n0+4;omega) _
  have c3:=aAa (i:=0) z3'
  have c4:=aAa (i:=0) z4'
  simp only [show n0+1+1+1=n0+3 from rfl,show n0+1+1+1+1=n0+4 from rfl]
  generalize ((w2.setCell ⟨n0+3,0,none⟩ (.slice none 0 0)).setCell ⟨n0+4,0,none⟩ (.bool false))=w4 at *
  exact bodyPost_ret (aFy (v1:=.slice none 0 0) (v2:=.bool false) rfl _ _ _ rfl rfl (by simp [go_sem,c3]) (by simp [go_sem,c4])) rfl ⟨rfl,HBF.o⟩
 clear hST hg hT
 go_enter Tryz.func26,Tryz.ntmps26
 go_wp2_with fail
 refine HGT.o.mono ?_
 rintro e w1 ⟨rfl,h2⟩
 have H2:=zH h2
 clear h2
 go_wp2
 go_ret3
 exact ⟨rfl,H2.o⟩
end
def tiA:It:=([97],[98])
def tiB:It:=([98],[97])
theorem tiA_ok:ItOk tiA:=⟨by decide,by decide,by decide,by decide,by decide⟩
theorem tiB_ok:ItOk tiB:=⟨by decide,by decide,by decide,by decide,by decide⟩
theorem aFf:putL [] tiA=[tiA]/\putL [tiA] tiB=[tiA,tiB]/\rngL [tiA] [] [] 9=[tiA]/\valL [tiA,tiB] [98]=some [97]:=⟨by decide,by decide,by decide,by decide⟩
theorem new30 (s:DS) (h:s=DS.new 30):s.down=false/\s.after<1/\s.life=0/\s.n=30/\s.m=0/\s.show 0=[]/\s.show 1=[]:=by
 subst h
 exact ⟨rfl,(show (0:Int)<1 by decide),rfl,rfl,rfl,rfl,rfl⟩
theorem bk_const {B g:Nat} {w:World} {x:Nat} {fz:Nat×Nat} (h:w.heap[g]?=some (.cells #[.int .u8 (x:Int)] 5 fz)) (hx:x<256):BK B w (some ⟨g,0,none⟩) 1 1 [x]:=by
 refine ⟨BS.of rfl (by omega) (by omega) (by omega) (by simpa using hx) ?_,fun y hy=>?_⟩
 ·intro i hi
  obtain rfl:i=0:=by omega
  rw [cell_of_row w g _ _ _ _ h]
  rfl
 ·simp only [oI] at hy
  subst hy
  exact Or.inr ⟨_,_,h⟩
theorem ChF.bk [Gd] {B g n c:Nat} {w w':World} {a:Option Addr} {xs:List Nat} {cg:Array Value} (h:BK B w a n c xs) (f:ChF B g w w') (hg:w.heap[g]?=some (.cells cg 58 (0,0))):BK B w' a n c xs:=by
 refine h.ft ⟨f.1,fun k cs fz e=>f.2 k cs _ fz e (by decide) ?_⟩
 intro q9
 subst q9
 rw [hg] at e
 simp only [oI,cI] at e
 exact absurd e.2.1 (by decide)
theorem SnF.bk {B g n c:Nat} {w w':World} {a:Option Addr} {xs:List Nat} (h:BK B w a n c xs) (f:SnF B g (.slice none 0 0) w w') {cg:Array Value} (hg:w.heap[g]?=some (.cells cg 58 (0,0))):BK B w' a n c xs:=by
 refine h.ft ⟨f.1,fun k cs fz e=>f.2 k cs _ fz e ?_ (by simp [Value.ownBlock])⟩
 intro q9
 subst q9
 rw [hg] at e
 simp only [oI,cI] at e
 exact absurd e.2.1 (by decide)
theorem told_any (w:World):Calls Tryz.prog 12 #[] w fun e w'=>e=.returned (.bool true)/\Below w.heap.size w w':=by
 letI:Gd:=⟨fun _=>False⟩
 have kc:=fun (w:World) (C:Array Value) (n c:Nat)=>Lib.run_convert_bytes_const (P:=Tryz.prog) w 27 5 C n c Tryz.underlying27 Tryz.underlying5
 have hg0:Hid True:=trivial
 obtain ⟨s0,hs0⟩:∃ s,s=DS.new 30:=⟨_,rfl⟩
 obtain ⟨k1,k2,k3,k4,k5,k6,k7⟩:=new30 s0 hs0
 have HNW:=zH (new_any w.heap.size 30 w (by omega) (by omega) (nR _) (fun _ h=>False.elim h))
 rw [<-hs0] at HNW
 have HL0:Hid (lastH (rdH (pad (s0.show 0)) s0.n) (rdH (pad (s0.show 1)) s0.n)=some (0,0)):=by
  show _=_
  rw [k6,k7,aD6]
  exact aG3
 have HS0:=zH (show s0.down=false/\s0.after<1/\s0.life=0/\s0.n=30/\s0.m=0/\s0.show 0=[]/\s0.show 1=[] from ⟨k1,k2,k3,k4,k5,k6,k7⟩)
 clear k1 k2 k3 k4 k5 k6 k7 hs0
 go_enter Tryz.func12,Tryz.ntmps12
 go_wp2_with fail
 refine HNW.o.mono ?_
 rintro e w1 ⟨p,rfl,hD,hb1⟩
 have HB1:=zH hb1
 have HOP:=zH (Open_none (num:=0) hD hb1.size HS0.o.1 HS0.o.2.1 (by rw [HS0.o.2.2.1];decide) (by rw [HS0.o.2.2.2.1];decide) (by rw [HS0.o.2.2.2.1];decide) HL0.o (by decide))
 clear hD hb1 HNW
 go_wp2_with fail
 refine HOP.o.mono ?_
 rintro e w2 ⟨q,g,st0,rfl,hgB,hM,r0,r1,r2,r3,hF⟩
 have HM2:=zH hM
 have HGB:=zH hgB
 have HTR0:Hid (Tr s0 ⟨newSt s0.n,s0.life,0,0⟩ st0 []):=Or.inl ⟨r0,r1,r2,rfl,r3⟩
 have HB2:Hid (Below w.heap.size w w2):=HB1.o.trans hF.bel
 have HR1:=zH r1
 clear hM hgB r0 r1 r2 r3 hF HOP
 have kc1:=kc w2 #[.int .u8 97] 1 1
 have kc2:=kc (w2.alloc (.cells #[.int .u8 97] 5 (1,2))) #[.int .u8 98] 1 1
 have sz1:(w2.alloc (.cells #[.int .u8 97] 5 (1,2))).heap.size=w2.heap.size+1:=by simp
 rw [sz1] at kc2
 clear kc sz1
 go_upto_region 8 with fail
 have HBA:Hid (Below w2.heap.size w2 ((w2.alloc (.cells #[.int .u8 97] 5 (1,2))).alloc (.cells #[.int .u8 98] 5 (1,2)))):=(aA5 [Obj.cells #[.int .u8 97] 5 (1,2),Obj.cells #[.int .u8 98] 5 (1,2)] w2).1
 have HA:Hid (((w2.alloc (.cells #[.int .u8 97] 5 (1,2))).alloc (.cells #[.int .u8 98] 5 (1,2))).heap[w2.heap.size]?=some (.cells #[.int .u8 97] 5 (1,2))):=aAp [Obj.cells #[.int .u8 97] 5 (1,2),Obj.cells #[.int .u8 98] 5 (1,2)] w2 0 _ rfl
 have HBb:Hid (((w2.alloc (.cells #[.int .u8 97] 5 (1,2))).alloc (.cells #[.int .u8 98] 5 (1,2))).heap[w2.heap.size+1]?=some (.cells #[.int .u8 98] 5 (1,2))):=aAp [Obj.cells #[.int .u8 97] 5 (1,2),Obj.cells #[.int .u8 98] 5 (1,2)] w2 1 _ rfl
 clear kc1 kc2
 generalize hw3:((w2.alloc (.cells #[.int .u8 97] 5 (1,2))).alloc (.cells #[.int .u8 98] 5 (1,2)))=w3 at *
 generalize hna:w2.heap.size=na at *
 have HM3:Hid (TM w.heap.size p q g s0 ⟨newSt s0.n,s0.life,0,0⟩ st0 st0 (.slice none 0 0) (cntF (newSt s0.n):Nat) w3):=HM2.o.later (by rw [hna];exact HBA.o)
 have HKA:Hid (BK w.heap.size w3 (some ⟨na,0,none⟩) 1 1 [97]):=bk_const HA.o (by decide)
 have HKB:Hid (BK w.heap.size w3 (some ⟨na+1,0,none⟩) 1 1 [98]):=bk_const HBb.o (by decide)
 have HB3:Hid (Below w.heap.size w w3):=HB2.o.trans (HBA.o.mono (by have:=HB2.o.size;omega))
 have HPT:=zH (Put_ok hg0.out HM3.o HTR0.o (by decide) tiA tiA_ok (kn:=1) (vn:=1) rfl rfl HKA.o HKB.o (by rw [HR1.o,aF2 s0.n (by rw [HS0.o.2.2.2.1];decide),HS0.o.2.2.2.1];decide) (by rw [HR1.o];decide) (by rw [HS0.o.2.2.2.2.1];decide))
 clear HA HBb HBA
 generalize ht0:(⟨newSt s0.n,s0.life,0,0⟩:PS)=t0 at *
 have HT0:Hid (t0.num=0/\cntF t0.st=28):=by
  show _/\_
  rw [<-ht0]
  exact ⟨rfl,by show cntF (newSt s0.n)=28;rw [aF2 s0.n (by rw [HS0.o.2.2.2.1];decide),HS0.o.2.2.2.1]⟩
 go_wp2_with fail
 refine HPT.o.mono ?_
 rintro e w4 ⟨rfl,s1,t1,now1,L1,hG1,hM4,hT4,hL1,hC4⟩
 rw [aFf.1] at hT4
 obtain ⟨cg3,hcg3,_⟩:=HM3.o.tv
 have HKA4:=zH (ChF.bk HKA.o hC4 hcg3)
 have HKB4:=zH (ChF.bk HKB.o hC4 hcg3)
 have HM4:=zH hM4
 have HT4:=zH hT4
 have HG1:=zH hG1
 have HB4:Hid (Below w.heap.size w w4):=HB3.o.trans hC4.1
 have HL1:Hid (L1.length<=1):=by
  have h9:=HR1.o
  show L1.length<=1
  omega
 have HCO:=zH (Commit_ok hM4 hT4 (SnV.nil _) (by rw [hG1.n,HS0.o.2.2.2.1];decide) (by rw [hG1.num,HT0.o.1];decide))
 clear hM4 hT4 hG1 hL1 hC4 HPT hcg3
 go_wp2_with fail
 refine HCO.o.mono ?_
 rintro e w5 ⟨rfl,s2,t2,hCm,hM5,hC5⟩
 obtain ⟨cg4,hcg4,_⟩:=HM4.o.tv
 have HKA5:=zH (ChF.bk HKA4.o hC5 hcg4)
 have HKB5:=zH (ChF.bk HKB4.o hC5 hcg4)
 have HM5:=zH hM5
 have HCm:=zH hCm
 have HTR2:Hid (Tr s2 t2 now1 [tiA]):=HT4.o.cmt hCm HM4.o.hd (fun i _ hi=>hi)
 have HB5:Hid (Below w.heap.size w w5):=HB4.o.trans hC5.1
 have HD1:Hid (now1.depth<=1):=HT4.o.one (by decide)
 have HC27:Hid (27<=cntF t2.st):=by
  have h1:=HG1.o.cnt
  have h2:=HT0.o.2
  have h3:=HL1.o
  have h4:=hCm.cnt
  show 27<=cntF t2.st
  omega
 have HPT2:=zH (Put_ok hg0.out hM5 HTR2.o (by decide) tiB tiB_ok (kn:=1) (vn:=1) rfl rfl HKB5.o HKA5.o (by have:=HD1.o;have:=HC27.o;omega) (by have:=HD1.o;omega) (by rw [hCm.m];decide))
 clear hM5 hCm hC5 HCO hcg4
 go_wp2_with fail
 refine HPT2.o.mono ?_
 rintro e w6 ⟨rfl,s3,t3,now2,L2,hG2,hM6,hT6,hL2,hC6⟩
 rw [aFf.2.1] at hT6
 obtain ⟨cg5,hcg5,_⟩:=HM5.o.tv
 have HKB6:=zH (ChF.bk HKB5.o hC6 hcg5)
 have HM6:=zH hM6
 have HT6:=zH hT6
 have HTL6:Hid (Tr s3 t3 now1 [tiA]):=HTR2.o.grow hG2
 have HG2:=zH hG2
 have HB6:Hid (Below w.heap.size w w6):=HB5.o.trans hC6.1
 have HSP:=zH (Snap_ok hM6 (SnO.nil _ _ _) (by decide))
 clear hM6 hT6 hG2 hL2 hC6 HPT2 hcg5
 go_wp2_with fail
 refine HSP.o.mono ?_
 rintro e w7 ⟨nb,sv7,rfl,hnb,hM7,hS7,hF7⟩
 rw [List.nil_append] at hS7
 obtain ⟨cg6,hcg6,_⟩:=HM6.o.tv
 have HKB7:=zH (SnF.bk HKB6.o hF7 hcg6)
 have HM7:=zH hM7
 have HS7:=zH hS7
 have HB7:Hid (Below w.heap.size w w7):=HB6.o.trans hF7.1
 obtain ⟨cx7,hx7,hsp7⟩:=hS7.s (nb,now1) (List.mem_singleton.2 rfl)
 have HSR:=zH (SnapRange_ok (most:=9) (lo:=[]) (hi:=[]) hM7 HTL6.o (by have:=HD1.o;omega) hx7 hsp7.c0 hsp7.c1 hsp7.c2 rfl rfl (BK.nil _ _) (BK.nil _ _) (by decide) (by decide) (by decide) (by decide))
 rw [aFf.2.2.1] at HSR
 clear hM7 hS7 hF7 hx7 hsp7 HSP hcg6 hnb
 go_wp2_with fail
 refine HSR.o.mono ?_
 rintro e w8 ⟨fv,rfl,hP8,hb8⟩
 obtain ⟨fa,fc,hfv⟩:=hP8.form
 subst hfv
 have HM8:=zH (HM7.o.later hb8)
 have HS8:=zH (HS7.o.later hb8)
 have HKB8:=zH (HKB7.o.later hb8 HM7.o.bw)
 have HB8:Hid (Below w.heap.size w w8):=HB7.o.trans (hb8.mono HB7.o.size)
 have HD2:Hid (now2.depth<=1):=HT6.o.one (by decide)
 have HGT:=zH (Get_ok HM8.o HT6.o (by have:=HD2.o;omega) HKB8.o (by decide) (by decide))
 rw [aFf.2.2.2] at HGT
 clear hP8 hb8 HSR
 simp only [List.length_singleton]
 go_wp2_with fail
 refine HGT.o.mono ?_
 rintro e w9 ⟨v9,is9,rfl,hv9,hb9⟩
 obtain ⟨rfl,va9,vc9,hva9,hbk9⟩:=hv9
 subst hva9
 have HM9:=zH (HM8.o.later hb9)
 have HS9:=zH (HS8.o.later hb9)
 have HV9:Hid (BK w.heap.size w9 va9 1 vc9 [97]):=hbk9
 have HB9:Hid (Below w.heap.size w w9):=HB8.o.trans (hb9.mono HB8.o.size)
 obtain ⟨R,hR,hR1,hRn⟩:=HTL6.o.root HM6.o.hd
 have hn3:s3.n=30:=by rw [HG2.o.n,HCm.o.n,HG1.o.n,HS0.o.2.2.2.1]
 have hsh:=HG2.o.show01 HM5.o.hd
 have hsh1:=HG1.o.show01 HM3.o.hd
 have hn1:t1.num=0:=by rw [HG1.o.num,HT0.o.1]
 have hnt3:t3.num=1:=by rw [HG2.o.num,HCm.o.num,hn1]
 have hlh:lastH (rdH (pad (s3.show 0)) s3.n) (rdH (pad (s3.show 1)) s3.n)=some (t3.num,R):=by
  rw [hsh.1,hsh.2,HCm.o.sh 0 (by rw [HG1.o.n,HS0.o.2.2.2.1];decide),HCm.o.sh 1 (by rw [HG1.o.n,HS0.o.2.2.2.1];decide),hn1,if_neg (by decide),if_pos (by decide),hsh1.1,HS0.o.2.2.2.2.2.1,aD6,hnt3,hR,Int.toNat_natCast,rdH_head (by decide) (by omega) hR1 (by omega) (by omega)]
  exact lastH_odd (by decide) rfl
 have hpg:=HTL6.o.pg HM6.o.hd
 have hsub:=jnS_sub (snP [(nb,now1)]) (jnP now1.pgs now1.pgs) (jnP_len hpg.1 hpg.1) (fun x hx=>by
  simp only [snP,List.map_cons,List.map_nil,List.mem_singleton] at hx
  subst hx
  exact hpg.1)
 have hPN:PgN s3 (jnS (jnP now1.pgs now1.pgs) (snP [(nb,now1)])):=by
  intro i hi hh
  have e1:jnS (jnP now1.pgs now1.pgs) (snP [(nb,now1)])=jnP (jnP now1.pgs now1.pgs) now1.pgs:=rfl
  rw [e1,hs_jn (jnP_len hpg.1 hpg.1) hpg.1 hi,hs_jn hpg.1 hpg.1 hi,Bool.or_self,Bool.or_self] at hh
  exact hpg.2 i hh
 have HRB:=zH (Rollback_ok hg0.out HM9.o HS9.o hPN (by omega) hlh (by rw [hnt3];decide) (by omega))
 have HTR9:Hid (Tr s3 (anew s3 t3.num R (jnS (jnP now1.pgs now1.pgs) (snP [(nb,now1)]))) now1 [tiA]):=HTL6.o.anew hPN (fun i hi hh=>hsub.2.1 i hi (by rw [hs_jn hpg.1 hpg.1 hi,hh];rfl))
 have HNM:Hid ((anew s3 t3.num R (jnS (jnP now1.pgs now1.pgs) (snP [(nb,now1)]))).num=1):=by
  show _=_
  rw [(aDq hPN).2.2.1,hnt3]
 generalize hta:anew s3 t3.num R (jnS (jnP now1.pgs now1.pgs) (snP [(nb,now1)]))=ta at *
 clear hbk9 hb9 HGT hR hR1 hRn hsh hsh1 hlh hpg hsub hPN hta
 go_wp2_with fail
 refine HRB.o.mono ?_
 rintro e w10 ⟨rfl,q2,hM10,hS10,hC10⟩
 obtain ⟨cg9,hcg9,_⟩:=HM9.o.tv
 have hv10:=ChF.bk HV9.o hC10 hcg9
 have hcv:=run_text hv10.1
 have HM10:=zH hM10
 have HB10:Hid (Below w.heap.size w w10):=HB9.o.trans hC10.1
 have hke:now1.keys=1:=HTR9.o.keys
 have HLE:=zH (Len_any hM10)
 rw [hke] at HLE
 have HNU:=zH (aHi hM10)
 rw [HNM.o] at HNU
 have HCK:=zH (Check_ok hM10 HTR9.o (by have:=HD1.o;omega) (by decide))
 have e97:str [97]=⟨#[97]⟩:=by decide
 rw [e97] at hcv
 clear hM10 hS10 hC10 HRB hcg9 hv10 hke e97
 go_wp2_with fail
 refine HLE.o.mono ?_
 rintro e w11 ⟨rfl,rfl⟩
 go_wp2_with fail
 refine HNU.o.mono ?_
 rintro e w12 ⟨rfl,rfl⟩
 go_wp2_with fail
 refine HCK.o.mono ?_
 rintro e w13 ⟨rfl,hb13⟩
 have HPA:=zH (Put_arg (HM10.o.later hb13) none none 0 0 0 0 (Or.inl rfl))
 have HB13:Hid (Below w.heap.size w w13):=HB10.o.trans (hb13.mono HB10.o.size)
 clear hb13 HCK
 go_wp2_with fail
 refine HPA.o.mono ?_
 rintro e w14 ⟨rfl,hb14⟩
 have HB14:Hid (Below w.heap.size w w14):=HB13.o.trans (hb14.mono HB13.o.size)
 clear hb14
 go_wp2
 go_ret
 exact ⟨rfl,HB14.o⟩
theorem new_facts (n:Nat) (s:DS) (h:s=DS.new n):s.down=false/\s.after<1/\s.life=0/\s.n=n/\s.m=0/\s.show 0=[]/\s.show 1=[]:=by
 subst h
 have hk:∀ b,(DS.new n).show b=[]:=by
  intro b
  have:(DS.new n).show b=(DS.new n).kept.getD b []:=rfl
  rw [this]
  show (List.replicate n ([]:List Nat)).getD b []=[]
  rw [List.getD_eq_getElem?_getD,List.getElem?_replicate]
  split<;>rfl
 exact ⟨rfl,(show (0:Int)<1 by decide),rfl,List.length_replicate,rfl,hk 0,hk 1⟩
theorem PRW.later {B B1:Nat} {w w':World} {v:Value} {F:List It} (h:PRW B B1 w v F) (hb:Below w.heap.size w w') (hB:B<=w.heap.size):PRW B B1 w' v F :=
 h.stay (FT.of hb hB) fun k cs _ e=>(hb.block k (lO e)).trans e
theorem PRW.at {B B1:Nat} {w:World} {v:Value} {F:List It} (h:PRW B B1 w v F) {j:Nat} {it:It} (hj:F[j]?=some it):∃ g c ka kc va vc,v=.slice (some ⟨g,0,none⟩) F.length c/\w.cell? ⟨g,j*3,none⟩=some (.int .i64 0)/\w.cell? ⟨g,j*3+1,none⟩=some (.slice ka it.1.length kc)/\w.cell? ⟨g,j*3+2,none⟩=some (.slice va it.2.length vc)/\BK B w ka it.1.length kc it.1/\BK B w va it.2.length vc it.2:=by
 obtain ⟨kf,hkl,hown,hall⟩:=h
 have hlt:=(lL hj)
 obtain ⟨x,hx⟩:∃ x,kf[j]?=some x:=⟨_,gE (by omega)⟩
 obtain ⟨⟨ka,kc,e1,b1⟩,⟨va,vc,e2,b2⟩⟩:=hall j it x hj hx
 obtain ⟨p0,p1,p2⟩:=prC_get hx
 rcases hown.2 with ⟨_,e0⟩ | ⟨g,cap,cur,e,_,hc,_,_,h4,h5⟩
 ·omega
 ·have get:∀ i u,(prC kf)[i]?=some u->w.cell? ⟨g,i,none⟩=some u:=by
   intro i u hi
   have hli:=(lL hi)
   rw [prC_len] at hli
   rw [aAa hc,<-Array.getElem?_toList]
   rw [<-h5,List.getElem?_take] at hi
   split at hi
   ·exact hi
   ·cases hi
  exact ⟨g,cap,ka,kc,va,vc,e,get _ _ p0,by rw [<-e1];exact get _ _ p1,by rw [<-e2];exact get _ _ p2,b1,b2⟩
theorem same_ok {B B1 B2:Nat} {w:World} {v u:Value} {F:List It} (h1:PRW B B1 w v F) (h2:PRW B B2 w u F) (hl:F.length<=100000) :
  Calls Tryz.prog 13 #[v,u] w fun e w'=>e=.returned (.bool true)/\Below w.heap.size w w':=by
 obtain ⟨a1,c1,e1⟩:=h1.form
 obtain ⟨a2,c2,e2⟩:=h2.form
 have H1:=zH h1
 have H2:=zH h2
 subst e1 e2
 clear h1 h2
 generalize hN:F.length=N at *
 go_enter Tryz.func13,Tryz.ntmps13
 go_wp2_with fail
 go_loopw [5] (fun i wx=>∃ j:Nat,j<=N/\i=.int .i64 j/\Below w.heap.size w wx/\wx.heap=w.heap) (fun i _=>N-(intOf i).toNat)
 case atStart=>exact ⟨0,by omega,rfl,Below.refl _ _,rfl⟩
 case round =>
  obtain ⟨j,hj,rfl,hbr,hhp⟩:=hrel
  have HBR:=zH hbr
  have HHP:=zH hhp
  clear hbr hhp
  by_cases hjn:j<N
  ·have xj:(j:Int)<(N:Int):=by omega
   obtain ⟨it,hit⟩:∃ it,F[j]?=some it:=⟨_,gE (by omega)⟩
   obtain ⟨g1,d1,ka1,kc1,va1,vc1,f1,q1,q2,q3,q4,q5⟩:=H1.o.at hit
   obtain ⟨g2,d2,ka2,kc2,va2,vc2,f2,r1,r2,r3,r4,r5⟩:=H2.o.at hit
   simp only [Value.slice.injEq] at f1 f2
   obtain ⟨rfl,z1,rfl⟩:=f1
   obtain ⟨rfl,z2,rfl⟩:=f2
   clear z1 z2
   have hbs:∀ {ww:World} {a:Option Addr} {n c:Nat} {xs:List Nat},BS w a n c xs->ww.heap=w.heap->BS ww a n c xs:=by
    intro ww a n c xs h9 hh
    exact ⟨h9.hlen,h9.hcap,h9.hroom,h9.hmax,h9.hbyte,h9.hnil,fun x hx i hi=>by rw [<-h9.hcell x hx i hi];exact World.cell?_of_block (by rw [hh])⟩
   obtain ⟨ks,hks⟩:∃ ks,str it.1=ks:=⟨_,rfl⟩
   obtain ⟨vs,hvs⟩:∃ vs,str it.2=vs:=⟨_,rfl⟩
   generalize it.1.length=kn at *
   generalize it.2.length=vn at *
   have HSS:Hid (∀ ww:World,ww.heap=w.heap->(fun wx=>wx.cell? ⟨g1,j*3,none⟩=some (.int .i64 0)/\wx.cell? ⟨g2,j*3,none⟩=some (.int .i64 0)/\wx.cell? ⟨g1,j*3+1,none⟩=some (.slice ka1 kn kc1)/\wx.cell? ⟨g2,j*3+1,none⟩=some (.slice ka2 kn kc2)/\wx.cell? ⟨g1,j*3+2,none⟩=some (.slice va1 vn vc1)/\wx.cell? ⟨g2,j*3+2,none⟩=some (.slice va2 vn vc2)/\(convert 27 9 (.slice ka1 kn kc1)).run Tryz.prog wx=.ok (.string ks) wx/\(convert 27 9 (.slice ka2 kn kc2)).run Tryz.prog wx=.ok (.string ks) wx/\(convert 27 9 (.slice va1 vn vc1)).run Tryz.prog wx=.ok (.string vs) wx/\(convert 27 9 (.slice va2 vn vc2)).run Tryz.prog wx=.ok (.string vs) wx) ww):=by
    intro ww hh
    have ce:∀ {g o:Nat} {x:Value},w.cell? ⟨g,o,none⟩=some x->ww.cell? ⟨g,o,none⟩=some x:=fun h9=>(World.cell?_of_block (by rw [hh])).trans h9
    exact ⟨ce q1,ce r1,ce q2,ce r2,ce q3,ce r3,by rw [<-hks];exact run_text (hbs q4.1 hh),by rw [<-hks];exact run_text (hbs r4.1 hh),by rw [<-hvs];exact run_text (hbs q5.1 hh),by rw [<-hvs];exact run_text (hbs r5.1 hh)⟩
   have HX0:Hid ((fun wx=>wx.cell? ⟨g1,j*3,none⟩=some (.int .i64 0)/\wx.cell? ⟨g2,j*3,none⟩=some (.int .i64 0)/\wx.cell? ⟨g1,j*3+1,none⟩=some (.slice ka1 kn kc1)/\wx.cell? ⟨g2,j*3+1,none⟩=some (.slice ka2 kn kc2)/\wx.cell? ⟨g1,j*3+2,none⟩=some (.slice va1 vn vc1)/\wx.cell? ⟨g2,j*3+2,none⟩=some (.slice va2 vn vc2)/\(convert 27 9 (.slice ka1 kn kc1)).run Tryz.prog wx=.ok (.string ks) wx/\(convert 27 9 (.slice ka2 kn kc2)).run Tryz.prog wx=.ok (.string ks) wx/\(convert 27 9 (.slice va1 vn vc1)).run Tryz.prog wx=.ok (.string vs) wx/\(convert 27 9 (.slice va2 vn vc2)).run Tryz.prog wx=.ok (.string vs) wx) wr.drew):=HSS.o _ HHP.o
   have dk:(ks != ks)=false:=by cases ks with | mk d=>show (!(d == d))=false;simp
   have dv:(vs != vs)=false:=by cases vs with | mk d=>show (!(d == d))=false;simp
   clear q1 q2 q3 q4 q5 r1 r2 r3 r4 r5 hbs HSS hks hvs hit
   go_upto_region 6 with fail
   refine wp_region_noPanic ?_
   refine wp_region_held_drew (S:=fun wx=>wx.cell? ⟨g1,j*3,none⟩=some (.int .i64 0)/\wx.cell? ⟨g2,j*3,none⟩=some (.int .i64 0)/\wx.cell? ⟨g1,j*3+1,none⟩=some (.slice ka1 kn kc1)/\wx.cell? ⟨g2,j*3+1,none⟩=some (.slice ka2 kn kc2)/\wx.cell? ⟨g1,j*3+2,none⟩=some (.slice va1 vn vc1)/\wx.cell? ⟨g2,j*3+2,none⟩=some (.slice va2 vn vc2)/\(convert 27 9 (.slice ka1 kn kc1)).run Tryz.prog wx=.ok (.string ks) wx/\(convert 27 9 (.slice ka2 kn kc2)).run Tryz.prog wx=.ok (.string ks) wx/\(convert 27 9 (.slice va1 vn vc1)).run Tryz.prog wx=.ok (.string vs) wx/\(convert 27 9 (.slice va2 vn vc2)).run Tryz.prog wx=.ok (.string vs) wx) (by kernel_rfl) HX0.o (fun hHeld=>?_)
   refine kT 0 17 ?_
   refine kT 1 18 ?_
   refine kT 2 19 ?_
   refine kT 3 20 ?_
   refine kT 4 21 ?_
   refine kT 5 22 ?_
   refine kT 6 23 ?_
   refine kT 7 24 ?_
   refine kT 8 25 ?_
   refine kT 9 26 ?_
   refine kT 10 27 ?_
   refine kT 11 28 ?_
   refine kT 12 29 ?_
   refine kT 13 30 ?_
   refine kT 14 31 ?_
   refine kT 15 32 ?_
   refine kT 16 33 ?_
   refine kT 17 34 ?_
   refine kT 18 35 ?_
   refine kT 19 36 ?_
   refine kT 20 37 ?_
   refine kT 21 38 ?_
   refine kT 22 39 ?_
   refine kT 23 40 ?_
   refine kT 24 41 ?_
   refine kT 25 42 ?_
   refine kT 26 43 ?_
   refine kT 27 44 ?_
   refine kT 28 45 ?_
   refine kT 29 46 ?_
   refine kT 30 47 ?_
   refine kT 31 48 ?_
   refine kT 32 49 ?_
   refine kT 33 50 ?_
   refine kT 34 51 ?_
   refine kT 35 52 ?_
   refine kT 36 53 ?_
   refine kT 37 54 ?_
   refine kT 38 55 ?_
   refine kT 39 56 ?_
   refine kT 40 57 ?_
   refine wpAnyH_done (by kernel_rfl) ?_ _
   refine NoPanic.normal ?_
   clear hHeld HX0
   go_wp2_with fail
   go_roundw
   case rel=>exact ⟨j+1,by omega,by go_num,HBR.o.drew,HHP.o⟩
   case measure=>simp [intOf];omega
  ·have xj:¬ (j:Int)<(N:Int):=by omega
   go_wp2
   go_ret
   exact ⟨rfl,HBR.o⟩
end Go.Proofs.YtfobcelkmopohaaGreat
