import Derived.Laws.StructEq
import Derived.Test.YtgckjkocmkedfabGreatZ56
set_option maxRecDepth 100000
set_option maxHeartbeats 16000000
set_option linter.unusedVariables false
namespace Go.Proofs.YtgckjkocmkedfabGreat
open Go.RowKit
theorem add_no {B db ls kn kc vn vc N rc:Nat} {r sp:Int} {gone:Bool} {ra ka va:Option Addr} {key val:List Nat} {cs:List Ch} {w:World} (h:DD B db ls (.slice ra N rc) cs w) (hk:BK B w ka kn kc key) (hv:BK B w va vn vc val) (HE:Hid (refE sp kn vn=r)) (hr:¬ r=0) :
  Calls Tryz.prog 141 #[.pointer (some ⟨db,0,none⟩),.agg #[.int .i64 sp,.slice ka kn kc,.slice va vn vc,.bool gone]] w fun e w'=>e=.returned (.int .i64 r)∧DD B db ls (.slice ra N rc) cs w'∧Below w.heap.size w w':=by
 have lt:∀ {k:Nat} {o:Obj} {ww:World},ww.heap[k]?=some o→k<ww.heap.size:=fun e=>(lO e)
 have HBX:Hid (Below w.heap.size w (w.alloc (.cells #[.int .i64 sp,.slice ka kn kc,.slice va vn vc,.bool gone] 127))):=aAh w _
 have HR1:Hid ((w.alloc (.cells #[.int .i64 sp,.slice ka kn kc,.slice va vn vc,.bool gone] 127)).heap[w.heap.size]?=some (.cells #[.int .i64 sp,.slice ka kn kc,.slice va vn vc,.bool gone] 127 (0,0))):=aAm [Obj.cells #[.int .i64 sp,.slice ka kn kc,.slice va vn vc,.bool gone] 127] w 0 _ rfl
 have HBB:Hid (B≤w.heap.size):=by show B≤_;have:=h.hB;have:=h.bw;omega
 have HDB:Hid (B≤db):=h.hB
 have HDW:Hid (db<w.heap.size):=h.bw
 have HD1:=hide (h.later HBX.out)
 have HK1:=hide (hk.later HBX.out HBB.out)
 have HV1:=hide (hv.later HBX.out HBB.out)
 have HRF:=hide (aFp (sp:=sp) (kn:=kn) (kc:=kc) (vn:=vn) (vc:=vc) (ka:=ka) (va:=va) (w:=w.alloc (.cells #[.int .i64 sp,.slice ka kn kc,.slice va vn vc,.bool gone] 127)))
 clear h hk hv
 go_enter Tryz.func141,Tryz.ntmps141
 go_upto_region 1 with fail
 generalize w.alloc (.cells #[.int .i64 sp,.slice ka kn kc,.slice va vn vc,.bool gone] 127)=w1 at *
 generalize hn0:w.heap.size=n0 at *
 have c0:w1.cell? ⟨n0,0,none⟩=some (.int .i64 sp):=aAc HR1.out
 have c1:w1.cell? ⟨n0,1,none⟩=some (.slice ka kn kc):=aAc HR1.out
 have c2:w1.cell? ⟨n0,2,none⟩=some (.slice va vn vc):=aAc HR1.out
 go_wp2_with fail
 refine HRF.out.mono ?_
 rintro e w2 ⟨rfl,hb2⟩
 rw [HE.out]
 have HR2:=hide ((hb2.block n0 (lt HR1.out)).trans HR1.out)
 have HBw1:Hid (B≤w1.heap.size):=by show B≤_;have:=HBX.out.size;have:=HBB.out;omega
 have HD2:=hide (HD1.out.later hb2)
 have HK2:=hide (HK1.out.later hb2 HBw1.out)
 have HV2:=hide (HV1.out.later hb2 HBw1.out)
 have HB2:Hid (Below n0 w w2):=HBX.out.trans (hb2.mono (by have:=HBX.out.size;omega))
 have HT2:=hide HD2.out.blk
 clear hb2 c0 c1 c2 HRF HD1 HK1 HV1 HR1
 go_wp2
 go_ret
 exact ⟨rfl,HD2.out,by rw [hn0];exact HB2.out⟩
theorem add_yes {B db ls kn kc vn vc N rc:Nat} {sp:Int} {gone:Bool} {ra ka va:Option Addr} {key val:List Nat} {cs:List Ch} {w:World} (h:DD B db ls (.slice ra N rc) cs w) (hk:BK B w ka kn kc key) (hv:BK B w va vn vc val) (HE:Hid (refE sp kn vn=0)) (hN:N=cs.length) (hl:N≤1000) :
  Calls Tryz.prog 141 #[.pointer (some ⟨db,0,none⟩),.agg #[.int .i64 sp,.slice ka kn kc,.slice va vn vc,.bool gone]] w fun e w'=>∃ v',e=.returned (.int .i64 0)∧DD B db ls v' (cs++[⟨sp,key,val,gone⟩]) w'∧DFr B db (.slice ra N rc) w v' w':=by
 have hOWN:=h
 have HNN:=hide hN
 have HLL:=hide hl
 have HKL:=hide hk.1.hlen
 have HVL:=hide hv.1.hlen
 clear hN hl
 have lt:∀ {k:Nat} {o:Obj} {ww:World},ww.heap[k]?=some o→k<ww.heap.size:=fun e=>(lO e)
 have HBX:Hid (Below w.heap.size w (w.alloc (.cells #[.int .i64 sp,.slice ka kn kc,.slice va vn vc,.bool gone] 127))):=aAh w _
 have HR1:Hid ((w.alloc (.cells #[.int .i64 sp,.slice ka kn kc,.slice va vn vc,.bool gone] 127)).heap[w.heap.size]?=some (.cells #[.int .i64 sp,.slice ka kn kc,.slice va vn vc,.bool gone] 127 (0,0))):=aAm [Obj.cells #[.int .i64 sp,.slice ka kn kc,.slice va vn vc,.bool gone] 127] w 0 _ rfl
 have HBB:Hid (B≤w.heap.size):=by show B≤_;have:=h.hB;have:=h.bw;omega
 have HDB:Hid (B≤db):=h.hB
 have HDW:Hid (db<w.heap.size):=h.bw
 have HD1:=hide (h.later HBX.out)
 have HK1:=hide (hk.later HBX.out HBB.out)
 have HV1:=hide (hv.later HBX.out HBB.out)
 have HRF:=hide (aFp (sp:=sp) (kn:=kn) (kc:=kc) (vn:=vn) (vc:=vc) (ka:=ka) (va:=va) (w:=w.alloc (.cells #[.int .i64 sp,.slice ka kn kc,.slice va vn vc,.bool gone] 127)))
 clear h hk hv
 go_enter Tryz.func141,Tryz.ntmps141
 go_upto_region 1 with fail
 generalize w.alloc (.cells #[.int .i64 sp,.slice ka kn kc,.slice va vn vc,.bool gone] 127)=w1 at *
 generalize hn0:w.heap.size=n0 at *
 have c0:w1.cell? ⟨n0,0,none⟩=some (.int .i64 sp):=aAc HR1.out
 have c1:w1.cell? ⟨n0,1,none⟩=some (.slice ka kn kc):=aAc HR1.out
 have c2:w1.cell? ⟨n0,2,none⟩=some (.slice va vn vc):=aAc HR1.out
 go_wp2_with fail
 refine HRF.out.mono ?_
 rintro e w2 ⟨rfl,hb2⟩
 rw [HE.out]
 have HR2:=hide ((hb2.block n0 (lt HR1.out)).trans HR1.out)
 have HBw1:Hid (B≤w1.heap.size):=by show B≤_;have:=HBX.out.size;have:=HBB.out;omega
 have HD2:=hide (HD1.out.later hb2)
 have HK2:=hide (HK1.out.later hb2 HBw1.out)
 have HV2:=hide (HV1.out.later hb2 HBw1.out)
 have HB2:Hid (Below n0 w w2):=HBX.out.trans (hb2.mono (by have:=HBX.out.size;omega))
 have HT2:=hide HD2.out.blk
 clear hb2 c0 c1 c2 HRF HD1 HK1 HV1 HR1
 have HBw2:Hid (B≤w2.heap.size):=by show B≤_;have:=HB2.out.size;have:=HBB.out;omega
 go_upto_region 4 with fail
 have HX2:Hid ((fun wx=>wx.cell? ⟨n0,0,none⟩=some (.int .i64 sp)∧wx.cell? ⟨n0,1,none⟩=some (.slice ka kn kc)∧wx.cell? ⟨n0,2,none⟩=some (.slice va vn vc)∧wx.cell? ⟨n0,3,none⟩=some (.bool gone)) w2.drew):=⟨aAc (show w2.drew.heap[n0]?=_ from HR2.out),aAc (show w2.drew.heap[n0]?=_ from HR2.out),aAc (show w2.drew.heap[n0]?=_ from HR2.out),aAc (show w2.drew.heap[n0]?=_ from HR2.out)⟩
 have hbd:Below w2.heap.size w2 w2.drew:=(Below.refl _ _).drew
 have HCP:=hide (aHk (sp:=sp) (gone:=gone) (HK2.out.later hbd HBw2.out) (HV2.out.later hbd HBw2.out) HBw2.out)
 clear hbd
 have HOWN:=hide hOWN
 clear hOWN
 refine wp_region_noPanic ?_
 refine wp_region_held_drew (S:=fun wx=>wx.cell? ⟨n0,0,none⟩=some (.int .i64 sp)∧wx.cell? ⟨n0,1,none⟩=some (.slice ka kn kc)∧wx.cell? ⟨n0,2,none⟩=some (.slice va vn vc)∧wx.cell? ⟨n0,3,none⟩=some (.bool gone)) (by kernel_rfl) HX2.out (fun hHeld=>?_)
 refine wpAnyH_tk 0 12 ?_
 refine wpAnyH_tk 1 13 ?_
 refine wpAnyH_tk 2 14 ?_
 refine wpAnyH_tk 3 15 ?_
 refine wpAnyH_tk 5 17 ?_
 refine aAl (i:=4) (j:=6) (by kernel_rfl) (by kernel_rfl) (by kernel_rfl) ?ba ?bb
 case ba =>
  have c2:w2.drew.cell? ⟨db,1,none⟩=some (.slice ra N rc):=aAc (show w2.drew.heap[db]?=_ from HT2.out)
  have c2':w2.cell? ⟨db,1,none⟩=some (.slice ra N rc):=c2
  intro o ho K hK
  simp only [List.getElem?_toArray,List.getElem?_cons_succ,List.getElem?_cons_zero,oI] at ho
  subst ho
  go_simp
  clear hHeld
  refine hK.out _ _ HX2.out (fun hHeld=>?_)
  clear hK K
  try simp only [Act.put,siT,scZ,scS]
  clear c2 c2'
  refine wpAnyH_cm 6 ?_;intro K hK
  go_simp
  refine HCP.out.mono ?_
  rintro e w3 ⟨a,d,b,g,rfl,hk3,hv3,hb3⟩
  have hb3:Below w2.heap.size w2 w3:=⟨hb3.os,hb3.tape,hb3.output,hb3.size,hb3.block⟩
  have HK3:=hide hk3
  have HV3:=hide hv3
  have HR3:=hide ((hb3.block n0 (lt HR2.out)).trans HR2.out)
  have HD3:=hide (HD2.out.later hb3)
  have HT3:=hide HD3.out.blk
  have HB3:Hid (Below n0 w w3):=HB2.out.trans (hb3.mono (by have:=HB2.out.size;omega))
  have HBw3:Hid (B≤w3.heap.size):=by show B≤_;have:=HB3.out.size;have:=HBB.out;omega
  have HX3:Hid ((fun wx=>wx.cell? ⟨n0,0,none⟩=some (.int .i64 sp)∧wx.cell? ⟨n0,1,none⟩=some (.slice ka kn kc)∧wx.cell? ⟨n0,2,none⟩=some (.slice va vn vc)∧wx.cell? ⟨n0,3,none⟩=some (.bool gone)) w3):=⟨aAc HR3.out,aAc HR3.out,aAc HR3.out,aAc HR3.out⟩
  clear hk3 hv3 hb3 hHeld HCP
  refine hK.out _ _ HX3.out (fun hHeld=>?_)
  clear hK K
  try simp only [Act.put,siT,scZ,scS]
  refine wpAnyH_cm 7 ?_;intro K hK
  go_simp
  have hb4:Below w3.heap.size w3 (w3.alloc (.cells #[.int .i64 sp,.slice a kn d,.slice b vn g,.bool gone] 127)):=aAh w3 _
  have HO4:Hid ((w3.alloc (.cells #[.int .i64 sp,.slice a kn d,.slice b vn g,.bool gone] 127)).heap[w3.heap.size]?=some (.cells #[.int .i64 sp,.slice a kn d,.slice b vn g,.bool gone] 127 (0,0))):=aAm [Obj.cells #[.int .i64 sp,.slice a kn d,.slice b vn g,.bool gone] 127] w3 0 _ rfl
  have HK4:=hide (HK3.out.later hb4 HBw3.out)
  have HV4:=hide (HV3.out.later hb4 HBw3.out)
  have HR4:=hide ((hb4.block n0 (lt HR3.out)).trans HR3.out)
  have HD4:=hide (HD3.out.later hb4)
  have HT4:=hide HD4.out.blk
  have HB4:Hid (Below n0 w (w3.alloc (.cells #[.int .i64 sp,.slice a kn d,.slice b vn g,.bool gone] 127))):=HB3.out.trans (hb4.mono (by have:=HB3.out.size;omega))
  have HX4:Hid ((fun wx=>wx.cell? ⟨n0,0,none⟩=some (.int .i64 sp)∧wx.cell? ⟨n0,1,none⟩=some (.slice ka kn kc)∧wx.cell? ⟨n0,2,none⟩=some (.slice va vn vc)∧wx.cell? ⟨n0,3,none⟩=some (.bool gone)) (w3.alloc (.cells #[.int .i64 sp,.slice a kn d,.slice b vn g,.bool gone] 127))):=⟨aAc HR4.out,aAc HR4.out,aAc HR4.out,aAc HR4.out⟩
  have HS4:Hid ((w3.alloc (.cells #[.int .i64 sp,.slice a kn d,.slice b vn g,.bool gone] 127)).heap.size=w3.heap.size+1):=by show _=_;simp
  clear hb4 hHeld
  generalize (w3.alloc (.cells #[.int .i64 sp,.slice a kn d,.slice b vn g,.bool gone] 127))=w4 at *
  generalize hn3:w3.heap.size=n3 at *
  refine hK.out _ _ HX4.out (fun hHeld=>?_)
  clear hK K
  try simp only [Act.put,siT,scZ,scS]
  refine wpAnyH_cm 8 ?_;intro K hK
  rw [if_pos (by rfl)]
  have hev:EvC B w4 (⟨sp,key,val,gone⟩,.slice a kn d,.slice b vn g) ⟨sp,key,val,gone⟩:=⟨rfl,⟨a,d,by show Value.slice a kn d=.slice a key.length d;rw [HKL.out],by show BK B w4 a key.length d key;rw [HKL.out];exact HK4.out⟩,⟨b,g,by show Value.slice b vn g=.slice b val.length g;rw [HVL.out],by show BK B w4 b val.length g val;rw [HVL.out];exact HV4.out⟩⟩
  refine aCr (.tmp 16) (.tmp 19) rfl (v:=(.slice ra N rc)) (u:=.slice (some ⟨n3,0,none⟩) 1 1) (F:=cs) (G:=[⟨sp,key,val,gone⟩]) rfl rfl HD4.out.row (RvK.one (x:=(⟨sp,key,val,gone⟩,.slice a kn d,.slice b vn g)) aBc HO4.out hev) (by have:=HDB.out;omega) (by have:=HB4.out.size;have:=HDW.out;omega) (by have:=HLL.out;have:=HNN.out;show cs.length+1≤_;omega) ?_
  intro v5 w5 hrow hft hblk hbel hown
  obtain ⟨a5,p5,hv5⟩:=hrow.form
  generalize (cs++[(⟨sp,key,val,gone⟩:Ch)]).length=m5 at hv5
  have HROW:=hide hrow
  have HFT5:=hide hft
  have HBK5:=hide hblk
  have HOW5:=hide hown
  have net:((.slice ra N rc):Value).ownBlock≠some db:=fun e=>by
   have:=(HD4.out.row.blk e).1
   omega
  have HT5:=hide ((hblk db (lt HT4.out) net).trans HT4.out)
  have ner:((.slice ra N rc):Value).ownBlock≠some n0∨((.slice ra N rc):Value).ownBlock=some n0:=by by_cases q:((.slice ra N rc):Value).ownBlock=some n0<;>simp [q]
  have ne0:((.slice ra N rc):Value).ownBlock≠some n0:=fun e=>by
   obtain ⟨q1,q2,cur,q3⟩:=HOWN.out.row.blk e
   omega
  have HR5:=hide ((hblk n0 (lt HR4.out) ne0).trans HR4.out)
  have HX5:Hid ((fun wx=>wx.cell? ⟨n0,0,none⟩=some (.int .i64 sp)∧wx.cell? ⟨n0,1,none⟩=some (.slice ka kn kc)∧wx.cell? ⟨n0,2,none⟩=some (.slice va vn vc)∧wx.cell? ⟨n0,3,none⟩=some (.bool gone)) w5):=⟨aAc HR5.out,aAc HR5.out,aAc HR5.out,aAc HR5.out⟩
  subst hv5
  clear hrow hft hblk hbel hown hev net ner ne0 hHeld
  refine hK.out _ _ HX5.out (fun hHeld=>?_)
  clear hK K
  try simp only [Act.put,siT,scZ,scS]
  refine wpAnyH_tk 9 21 ?_
  refine wpAnyH_tk 10 22 ?_
  have y1:w5.cell? ⟨db,1,none⟩=some (.slice ra N rc):=aAc HT5.out
  have yf1:w5.frozen? ⟨db,1,none⟩=false:=aAj HT5.out
  refine wpAnyH_cm 11 ?_;intro K hK
  go_simp
  have hne:n0≠db:=by have:=HDW.out;omega
  have HT6:Hid ((w5.setCell ⟨db,1,none⟩ (.slice a5 m5 p5)).heap[db]?=some (.cells #[.pointer (some ⟨ls,0,none⟩),(.slice a5 m5 p5)] 120 (0,0))):=heap_setCell_same _ _ _ _ _ _ HT5.out
  have HR6:=(heap_setCell_other w5 ⟨db,1,none⟩ n0 (.slice a5 m5 p5) hne).trans HR5.out
  have HX6:Hid ((fun wx=>wx.cell? ⟨n0,0,none⟩=some (.int .i64 sp)∧wx.cell? ⟨n0,1,none⟩=some (.slice ka kn kc)∧wx.cell? ⟨n0,2,none⟩=some (.slice va vn vc)∧wx.cell? ⟨n0,3,none⟩=some (.bool gone)) (w5.setCell ⟨db,1,none⟩ (.slice a5 m5 p5))):=⟨aAc HR6,aAc HR6,aAc HR6,aAc HR6⟩
  clear hHeld
  refine hK.out _ _ HX6.out (fun hHeld=>?_)
  clear hK K
  try simp only [Act.put,siT,scZ,scS]
  refine wpAnyH_done (by kernel_rfl) ?_ _
  refine NoPanic.normal ?_
  go_wp2
  go_ret
  have hf6:FT B w5 (w5.setCell ⟨db,1,none⟩ (.slice a5 m5 p5)):=ft1 HT5.out (by decide) HDB.out
  refine ⟨rfl,(.slice a5 m5 p5),⟨HT6.out,HROW.out.keep hf6 (fun i hi=>heap_setCell_other _ _ _ _ (by
   show i≠db
   have:=(HROW.out.blk hi).1
   omega)),HDB.out⟩,⟨((FT.of (show Below w.heap.size w w4 by rw [hn0];exact HB4.out) (by rw [hn0];exact HBB.out)).trans HFT5.out).trans hf6,fun i hi h1 h2=>?_,fun i hi=>?_⟩⟩
  ·rw [hn0] at hi
   rw [heap_setCell_other _ _ _ _ (show i≠db from h1),HBK5.out i (by have:=HB4.out.size;omega) h2]
   exact HB4.out.block i hi
  ·rcases HOW5.out with q | q
   ·exact Or.inl (q ▸ hi)
   ·rw [q] at hi
    cases hi
    refine Or.inr ?_
    have:=HB4.out.size
    omega
 case bb =>
  intro o ho K hK
  simp only [List.getElem?_toArray,List.getElem?_cons_succ,List.getElem?_cons_zero,oI] at ho
  subst ho
  go_simp
  refine HCP.out.mono ?_
  rintro e w3 ⟨a,d,b,g,rfl,hk3,hv3,hb3⟩
  have hb3:Below w2.heap.size w2 w3:=⟨hb3.os,hb3.tape,hb3.output,hb3.size,hb3.block⟩
  have HK3:=hide hk3
  have HV3:=hide hv3
  have HR3:=hide ((hb3.block n0 (lt HR2.out)).trans HR2.out)
  have HD3:=hide (HD2.out.later hb3)
  have HT3:=hide HD3.out.blk
  have HB3:Hid (Below n0 w w3):=HB2.out.trans (hb3.mono (by have:=HB2.out.size;omega))
  have HBw3:Hid (B≤w3.heap.size):=by show B≤_;have:=HB3.out.size;have:=HBB.out;omega
  have HX3:Hid ((fun wx=>wx.cell? ⟨n0,0,none⟩=some (.int .i64 sp)∧wx.cell? ⟨n0,1,none⟩=some (.slice ka kn kc)∧wx.cell? ⟨n0,2,none⟩=some (.slice va vn vc)∧wx.cell? ⟨n0,3,none⟩=some (.bool gone)) w3):=⟨aAc HR3.out,aAc HR3.out,aAc HR3.out,aAc HR3.out⟩
  clear hk3 hv3 hb3 hHeld HCP
  refine hK.out _ _ HX3.out (fun hHeld=>?_)
  clear hK K
  try simp only [Act.put,siT,scZ,scS]
  refine aAl (i:=4) (j:=7) (by kernel_rfl) (by kernel_rfl) (by kernel_rfl) ?bba ?bbb
  case bba =>
   have c2:w3.cell? ⟨db,1,none⟩=some (.slice ra N rc):=aAc HT3.out
   intro o ho K hK
   simp only [List.getElem?_toArray,List.getElem?_cons_succ,List.getElem?_cons_zero,oI] at ho
   subst ho
   go_simp
   clear hHeld
   refine hK.out _ _ HX3.out (fun hHeld=>?_)
   clear hK K
   try simp only [Act.put,siT,scZ,scS]
   clear c2
   refine wpAnyH_cm 7 ?_;intro K hK
   go_simp
   have hb4:Below w3.heap.size w3 (w3.alloc (.cells #[.int .i64 sp,.slice a kn d,.slice b vn g,.bool gone] 127)):=aAh w3 _
   have HO4:Hid ((w3.alloc (.cells #[.int .i64 sp,.slice a kn d,.slice b vn g,.bool gone] 127)).heap[w3.heap.size]?=some (.cells #[.int .i64 sp,.slice a kn d,.slice b vn g,.bool gone] 127 (0,0))):=aAm [Obj.cells #[.int .i64 sp,.slice a kn d,.slice b vn g,.bool gone] 127] w3 0 _ rfl
   have HK4:=hide (HK3.out.later hb4 HBw3.out)
   have HV4:=hide (HV3.out.later hb4 HBw3.out)
   have HR4:=hide ((hb4.block n0 (lt HR3.out)).trans HR3.out)
   have HD4:=hide (HD3.out.later hb4)
   have HT4:=hide HD4.out.blk
   have HB4:Hid (Below n0 w (w3.alloc (.cells #[.int .i64 sp,.slice a kn d,.slice b vn g,.bool gone] 127))):=HB3.out.trans (hb4.mono (by have:=HB3.out.size;omega))
   have HX4:Hid ((fun wx=>wx.cell? ⟨n0,0,none⟩=some (.int .i64 sp)∧wx.cell? ⟨n0,1,none⟩=some (.slice ka kn kc)∧wx.cell? ⟨n0,2,none⟩=some (.slice va vn vc)∧wx.cell? ⟨n0,3,none⟩=some (.bool gone)) (w3.alloc (.cells #[.int .i64 sp,.slice a kn d,.slice b vn g,.bool gone] 127))):=⟨aAc HR4.out,aAc HR4.out,aAc HR4.out,aAc HR4.out⟩
   have HS4:Hid ((w3.alloc (.cells #[.int .i64 sp,.slice a kn d,.slice b vn g,.bool gone] 127)).heap.size=w3.heap.size+1):=by show _=_;simp
   clear hb4 hHeld
   generalize (w3.alloc (.cells #[.int .i64 sp,.slice a kn d,.slice b vn g,.bool gone] 127))=w4 at *
   generalize hn3:w3.heap.size=n3 at *
   refine hK.out _ _ HX4.out (fun hHeld=>?_)
   clear hK K
   try simp only [Act.put,siT,scZ,scS]
   refine wpAnyH_cm 8 ?_;intro K hK
   rw [if_pos (by rfl)]
   have hev:EvC B w4 (⟨sp,key,val,gone⟩,.slice a kn d,.slice b vn g) ⟨sp,key,val,gone⟩:=⟨rfl,⟨a,d,by show Value.slice a kn d=.slice a key.length d;rw [HKL.out],by show BK B w4 a key.length d key;rw [HKL.out];exact HK4.out⟩,⟨b,g,by show Value.slice b vn g=.slice b val.length g;rw [HVL.out],by show BK B w4 b val.length g val;rw [HVL.out];exact HV4.out⟩⟩
   refine aCr (.tmp 16) (.tmp 19) rfl (v:=(.slice ra N rc)) (u:=.slice (some ⟨n3,0,none⟩) 1 1) (F:=cs) (G:=[⟨sp,key,val,gone⟩]) rfl rfl HD4.out.row (RvK.one (x:=(⟨sp,key,val,gone⟩,.slice a kn d,.slice b vn g)) aBc HO4.out hev) (by have:=HDB.out;omega) (by have:=HB4.out.size;have:=HDW.out;omega) (by have:=HLL.out;have:=HNN.out;show cs.length+1≤_;omega) ?_
   intro v5 w5 hrow hft hblk hbel hown
   obtain ⟨a5,p5,hv5⟩:=hrow.form
   generalize (cs++[(⟨sp,key,val,gone⟩:Ch)]).length=m5 at hv5
   have HROW:=hide hrow
   have HFT5:=hide hft
   have HBK5:=hide hblk
   have HOW5:=hide hown
   have net:((.slice ra N rc):Value).ownBlock≠some db:=fun e=>by
    have:=(HD4.out.row.blk e).1
    omega
   have HT5:=hide ((hblk db (lt HT4.out) net).trans HT4.out)
   have ner:((.slice ra N rc):Value).ownBlock≠some n0∨((.slice ra N rc):Value).ownBlock=some n0:=by by_cases q:((.slice ra N rc):Value).ownBlock=some n0<;>simp [q]
   have ne0:((.slice ra N rc):Value).ownBlock≠some n0:=fun e=>by
    obtain ⟨q1,q2,cur,q3⟩:=HOWN.out.row.blk e
    omega
   have HR5:=hide ((hblk n0 (lt HR4.out) ne0).trans HR4.out)
   have HX5:Hid ((fun wx=>wx.cell? ⟨n0,0,none⟩=some (.int .i64 sp)∧wx.cell? ⟨n0,1,none⟩=some (.slice ka kn kc)∧wx.cell? ⟨n0,2,none⟩=some (.slice va vn vc)∧wx.cell? ⟨n0,3,none⟩=some (.bool gone)) w5):=⟨aAc HR5.out,aAc HR5.out,aAc HR5.out,aAc HR5.out⟩
   subst hv5
   clear hrow hft hblk hbel hown hev net ner ne0 hHeld
   refine hK.out _ _ HX5.out (fun hHeld=>?_)
   clear hK K
   try simp only [Act.put,siT,scZ,scS]
   refine wpAnyH_tk 9 21 ?_
   refine wpAnyH_tk 10 22 ?_
   have y1:w5.cell? ⟨db,1,none⟩=some (.slice ra N rc):=aAc HT5.out
   have yf1:w5.frozen? ⟨db,1,none⟩=false:=aAj HT5.out
   refine wpAnyH_cm 11 ?_;intro K hK
   go_simp
   have hne:n0≠db:=by have:=HDW.out;omega
   have HT6:Hid ((w5.setCell ⟨db,1,none⟩ (.slice a5 m5 p5)).heap[db]?=some (.cells #[.pointer (some ⟨ls,0,none⟩),(.slice a5 m5 p5)] 120 (0,0))):=heap_setCell_same _ _ _ _ _ _ HT5.out
   have HR6:=(heap_setCell_other w5 ⟨db,1,none⟩ n0 (.slice a5 m5 p5) hne).trans HR5.out
   have HX6:Hid ((fun wx=>wx.cell? ⟨n0,0,none⟩=some (.int .i64 sp)∧wx.cell? ⟨n0,1,none⟩=some (.slice ka kn kc)∧wx.cell? ⟨n0,2,none⟩=some (.slice va vn vc)∧wx.cell? ⟨n0,3,none⟩=some (.bool gone)) (w5.setCell ⟨db,1,none⟩ (.slice a5 m5 p5))):=⟨aAc HR6,aAc HR6,aAc HR6,aAc HR6⟩
   clear hHeld
   refine hK.out _ _ HX6.out (fun hHeld=>?_)
   clear hK K
   try simp only [Act.put,siT,scZ,scS]
   refine wpAnyH_done (by kernel_rfl) ?_ _
   refine NoPanic.normal ?_
   go_wp2
   go_ret
   have hf6:FT B w5 (w5.setCell ⟨db,1,none⟩ (.slice a5 m5 p5)):=ft1 HT5.out (by decide) HDB.out
   refine ⟨rfl,(.slice a5 m5 p5),⟨HT6.out,HROW.out.keep hf6 (fun i hi=>heap_setCell_other _ _ _ _ (by
    show i≠db
    have:=(HROW.out.blk hi).1
    omega)),HDB.out⟩,⟨((FT.of (show Below w.heap.size w w4 by rw [hn0];exact HB4.out) (by rw [hn0];exact HBB.out)).trans HFT5.out).trans hf6,fun i hi h1 h2=>?_,fun i hi=>?_⟩⟩
   ·rw [hn0] at hi
    rw [heap_setCell_other _ _ _ _ (show i≠db from h1),HBK5.out i (by have:=HB4.out.size;omega) h2]
    exact HB4.out.block i hi
   ·rcases HOW5.out with q | q
    ·exact Or.inl (q ▸ hi)
    ·rw [q] at hi
     cases hi
     refine Or.inr ?_
     have:=HB4.out.size
     omega
  case bbb =>
   intro o ho K hK
   simp only [List.getElem?_toArray,List.getElem?_cons_succ,List.getElem?_cons_zero,oI] at ho
   subst ho
   go_simp
   have hb4:Below w3.heap.size w3 (w3.alloc (.cells #[.int .i64 sp,.slice a kn d,.slice b vn g,.bool gone] 127)):=aAh w3 _
   have HO4:Hid ((w3.alloc (.cells #[.int .i64 sp,.slice a kn d,.slice b vn g,.bool gone] 127)).heap[w3.heap.size]?=some (.cells #[.int .i64 sp,.slice a kn d,.slice b vn g,.bool gone] 127 (0,0))):=aAm [Obj.cells #[.int .i64 sp,.slice a kn d,.slice b vn g,.bool gone] 127] w3 0 _ rfl
   have HK4:=hide (HK3.out.later hb4 HBw3.out)
   have HV4:=hide (HV3.out.later hb4 HBw3.out)
   have HR4:=hide ((hb4.block n0 (lt HR3.out)).trans HR3.out)
   have HD4:=hide (HD3.out.later hb4)
   have HT4:=hide HD4.out.blk
   have HB4:Hid (Below n0 w (w3.alloc (.cells #[.int .i64 sp,.slice a kn d,.slice b vn g,.bool gone] 127))):=HB3.out.trans (hb4.mono (by have:=HB3.out.size;omega))
   have HX4:Hid ((fun wx=>wx.cell? ⟨n0,0,none⟩=some (.int .i64 sp)∧wx.cell? ⟨n0,1,none⟩=some (.slice ka kn kc)∧wx.cell? ⟨n0,2,none⟩=some (.slice va vn vc)∧wx.cell? ⟨n0,3,none⟩=some (.bool gone)) (w3.alloc (.cells #[.int .i64 sp,.slice a kn d,.slice b vn g,.bool gone] 127))):=⟨aAc HR4.out,aAc HR4.out,aAc HR4.out,aAc HR4.out⟩
   have HS4:Hid ((w3.alloc (.cells #[.int .i64 sp,.slice a kn d,.slice b vn g,.bool gone] 127)).heap.size=w3.heap.size+1):=by show _=_;simp
   clear hb4 hHeld
   generalize (w3.alloc (.cells #[.int .i64 sp,.slice a kn d,.slice b vn g,.bool gone] 127))=w4 at *
   generalize hn3:w3.heap.size=n3 at *
   refine hK.out _ _ HX4.out (fun hHeld=>?_)
   clear hK K
   try simp only [Act.put,siT,scZ,scS]
   have c2:w4.cell? ⟨db,1,none⟩=some (.slice ra N rc):=aAc HT4.out
   refine wpAnyH_cm 4 ?_;intro K hK
   go_simp
   clear hHeld
   refine hK.out _ _ HX4.out (fun hHeld=>?_)
   clear hK K
   try simp only [Act.put,siT,scZ,scS]
   clear c2
   refine wpAnyH_cm 8 ?_;intro K hK
   rw [if_pos (by rfl)]
   have hev:EvC B w4 (⟨sp,key,val,gone⟩,.slice a kn d,.slice b vn g) ⟨sp,key,val,gone⟩:=⟨rfl,⟨a,d,by show Value.slice a kn d=.slice a key.length d;rw [HKL.out],by show BK B w4 a key.length d key;rw [HKL.out];exact HK4.out⟩,⟨b,g,by show Value.slice b vn g=.slice b val.length g;rw [HVL.out],by show BK B w4 b val.length g val;rw [HVL.out];exact HV4.out⟩⟩
   refine aCr (.tmp 16) (.tmp 19) rfl (v:=(.slice ra N rc)) (u:=.slice (some ⟨n3,0,none⟩) 1 1) (F:=cs) (G:=[⟨sp,key,val,gone⟩]) rfl rfl HD4.out.row (RvK.one (x:=(⟨sp,key,val,gone⟩,.slice a kn d,.slice b vn g)) aBc HO4.out hev) (by have:=HDB.out;omega) (by have:=HB4.out.size;have:=HDW.out;omega) (by have:=HLL.out;have:=HNN.out;show cs.length+1≤_;omega) ?_
   intro v5 w5 hrow hft hblk hbel hown
   obtain ⟨a5,p5,hv5⟩:=hrow.form
   generalize (cs++[(⟨sp,key,val,gone⟩:Ch)]).length=m5 at hv5
   have HROW:=hide hrow
   have HFT5:=hide hft
   have HBK5:=hide hblk
   have HOW5:=hide hown
   have net:((.slice ra N rc):Value).ownBlock≠some db:=fun e=>by
    have:=(HD4.out.row.blk e).1
    omega
   have HT5:=hide ((hblk db (lt HT4.out) net).trans HT4.out)
   have ner:((.slice ra N rc):Value).ownBlock≠some n0∨((.slice ra N rc):Value).ownBlock=some n0:=by by_cases q:((.slice ra N rc):Value).ownBlock=some n0<;>simp [q]
   have ne0:((.slice ra N rc):Value).ownBlock≠some n0:=fun e=>by
    obtain ⟨q1,q2,cur,q3⟩:=HOWN.out.row.blk e
    omega
   have HR5:=hide ((hblk n0 (lt HR4.out) ne0).trans HR4.out)
   have HX5:Hid ((fun wx=>wx.cell? ⟨n0,0,none⟩=some (.int .i64 sp)∧wx.cell? ⟨n0,1,none⟩=some (.slice ka kn kc)∧wx.cell? ⟨n0,2,none⟩=some (.slice va vn vc)∧wx.cell? ⟨n0,3,none⟩=some (.bool gone)) w5):=⟨aAc HR5.out,aAc HR5.out,aAc HR5.out,aAc HR5.out⟩
   subst hv5
   clear hrow hft hblk hbel hown hev net ner ne0 hHeld
   refine hK.out _ _ HX5.out (fun hHeld=>?_)
   clear hK K
   try simp only [Act.put,siT,scZ,scS]
   refine wpAnyH_tk 9 21 ?_
   refine wpAnyH_tk 10 22 ?_
   have y1:w5.cell? ⟨db,1,none⟩=some (.slice ra N rc):=aAc HT5.out
   have yf1:w5.frozen? ⟨db,1,none⟩=false:=aAj HT5.out
   refine wpAnyH_cm 11 ?_;intro K hK
   go_simp
   have hne:n0≠db:=by have:=HDW.out;omega
   have HT6:Hid ((w5.setCell ⟨db,1,none⟩ (.slice a5 m5 p5)).heap[db]?=some (.cells #[.pointer (some ⟨ls,0,none⟩),(.slice a5 m5 p5)] 120 (0,0))):=heap_setCell_same _ _ _ _ _ _ HT5.out
   have HR6:=(heap_setCell_other w5 ⟨db,1,none⟩ n0 (.slice a5 m5 p5) hne).trans HR5.out
   have HX6:Hid ((fun wx=>wx.cell? ⟨n0,0,none⟩=some (.int .i64 sp)∧wx.cell? ⟨n0,1,none⟩=some (.slice ka kn kc)∧wx.cell? ⟨n0,2,none⟩=some (.slice va vn vc)∧wx.cell? ⟨n0,3,none⟩=some (.bool gone)) (w5.setCell ⟨db,1,none⟩ (.slice a5 m5 p5))):=⟨aAc HR6,aAc HR6,aAc HR6,aAc HR6⟩
   clear hHeld
   refine hK.out _ _ HX6.out (fun hHeld=>?_)
   clear hK K
   try simp only [Act.put,siT,scZ,scS]
   refine wpAnyH_done (by kernel_rfl) ?_ _
   refine NoPanic.normal ?_
   go_wp2
   go_ret
   have hf6:FT B w5 (w5.setCell ⟨db,1,none⟩ (.slice a5 m5 p5)):=ft1 HT5.out (by decide) HDB.out
   refine ⟨rfl,(.slice a5 m5 p5),⟨HT6.out,HROW.out.keep hf6 (fun i hi=>heap_setCell_other _ _ _ _ (by
    show i≠db
    have:=(HROW.out.blk hi).1
    omega)),HDB.out⟩,⟨((FT.of (show Below w.heap.size w w4 by rw [hn0];exact HB4.out) (by rw [hn0];exact HBB.out)).trans HFT5.out).trans hf6,fun i hi h1 h2=>?_,fun i hi=>?_⟩⟩
   ·rw [hn0] at hi
    rw [heap_setCell_other _ _ _ _ (show i≠db from h1),HBK5.out i (by have:=HB4.out.size;omega) h2]
    exact HB4.out.block i hi
   ·rcases HOW5.out with q | q
    ·exact Or.inl (q ▸ hi)
    ·rw [q] at hi
     cases hi
     refine Or.inr ?_
     have:=HB4.out.size
     omega
def addC (cs:List Ch) (c:Ch):List Ch:=if refE c.sp c.key.length c.val.length=0 then cs++[c] else cs
theorem add_any {B db ls kn kc vn vc:Nat} {sp:Int} {gone:Bool} {v:Value} {ka va:Option Addr} {key val:List Nat} {cs:List Ch} {w:World} (h:DD B db ls v cs w) (hk:BK B w ka kn kc key) (hv:BK B w va vn vc val) (hl:cs.length≤1000) :
  Calls Tryz.prog 141 #[.pointer (some ⟨db,0,none⟩),.agg #[.int .i64 sp,.slice ka kn kc,.slice va vn vc,.bool gone]] w fun e w'=>∃ v',e=.returned (.int .i64 (refE sp kn vn))∧DD B db ls v' (addC cs ⟨sp,key,val,gone⟩) w'∧DFr B db v w v' w':=by
 obtain ⟨ra,rc,e⟩:=h.slice
 subst e
 have e1:=hk.1.hlen
 have e2:=hv.1.hlen
 have hB:B≤w.heap.size:=by have:=h.hB;have:=h.bw;omega
 by_cases hr:refE sp kn vn=0
 ·refine (add_yes (gone:=gone) h hk hv (HE:=hr) rfl hl).mono ?_
  rintro e w' ⟨v',rfl,h1,h2⟩
  refine ⟨v',by rw [hr],?_,h2⟩
  unfold addC
  rw [if_pos (by show refE sp key.length val.length=0;rw [e1,e2];exact hr)]
  exact h1
 ·refine (add_no (gone:=gone) h hk hv (HE:=rfl) hr).mono ?_
  rintro e w' ⟨rfl,h1,h2⟩
  refine ⟨_,rfl,?_,DFr.of h2 hB⟩
  unfold addC
  rw [if_neg (by show ¬ refE sp key.length val.length=0;rw [e1,e2];exact hr)]
  exact h1
theorem dput_any {B db ls kn kc vn vc:Nat} {sp:Int} {v:Value} {ka va:Option Addr} {key val:List Nat} {cs:List Ch} {w:World} (h:DD B db ls v cs w) (hk:BK B w ka kn kc key) (hv:BK B w va vn vc val) (hl:cs.length≤1000) :
  Calls Tryz.prog 79 #[.pointer (some ⟨db,0,none⟩),.int .i64 sp,.slice ka kn kc,.slice va vn vc] w fun e w'=>∃ v',e=.returned (.int .i64 (refE sp kn vn))∧DD B db ls v' (addC cs ⟨sp,key,val,false⟩) w'∧DFr B db v w v' w':=by
 have HC:=hide (add_any (sp:=sp) (gone:=false) h hk hv hl)
 clear h hk hv
 generalize refE sp kn vn=r at *
 generalize addC cs ⟨sp,key,val,false⟩=cs' at *
 go_enter Tryz.func79,Tryz.ntmps79
 go_wp2_with fail
 refine HC.out.mono ?_
 rintro e w2 ⟨v',rfl,h1,h2⟩
 go_wp2
 go_ret
 exact ⟨v',rfl,h1,h2⟩
theorem ddel_any {B db ls kn kc:Nat} {sp:Int} {v:Value} {ka:Option Addr} {key:List Nat} {cs:List Ch} {w:World} (h:DD B db ls v cs w) (hk:BK B w ka kn kc key) (hl:cs.length≤1000) :
  Calls Tryz.prog 143 #[.pointer (some ⟨db,0,none⟩),.int .i64 sp,.slice ka kn kc] w fun e w'=>∃ v',e=.returned (.int .i64 (refE sp kn 0))∧DD B db ls v' (addC cs ⟨sp,key,[],true⟩) w'∧DFr B db v w v' w':=by
 have HC:=hide (add_any (sp:=sp) (gone:=true) h hk (BK.nil B w) hl)
 clear h hk
 generalize refE sp kn 0=r at *
 generalize addC cs ⟨sp,key,[],true⟩=cs' at *
 go_enter Tryz.func143,Tryz.ntmps143
 go_wp2_with fail
 refine HC.out.mono ?_
 rintro e w2 ⟨v',rfl,h1,h2⟩
 go_wp2
 go_ret
 exact ⟨v',rfl,h1,h2⟩
theorem dnew_ok [Gd] {B p q g ls N c u:Nat} {l:List It} {W w:World} (h:LS B p q g ls N c u l W w) :
  Calls Tryz.prog 33 #[.pointer (some ⟨ls,0,none⟩)] w fun e w'=>∃ w0,e=.returned (.tuple #[.pointer (some ⟨w0.heap.size,0,none⟩),.int .i64 0])∧Below w.heap.size w w0∧w'=w0.alloc (.cells #[.pointer (some ⟨ls,0,none⟩),.slice none 0 0] 120):=by
 have HD:=hide h.dead
 clear h
 go_enter Tryz.func33,Tryz.ntmps33
 go_wp2_with fail
 refine HD.out.mono ?_
 rintro e w1 ⟨rfl,hb1⟩
 have HB1:=hide hb1
 clear hb1 HD
 go_wp2
 go_ret2
 exact ⟨w1,rfl,HB1.out,rfl⟩
structure DR [Gd] (B p q g ls db:Nat) (v:Value) (cs:List Ch) (W w0 w:World):Prop where
 st:LS B p q g ls 1000 0 0 [] W w0
 be:Below w0.heap.size w0 w
 dd:DD B db ls v cs w
 hd:w0.heap.size≤db
section
variable [Gd] {B p q g ls db:Nat} {v v':Value} {cs cs':List Ch} {W w0 w w':World}
theorem DR.now (h:DR B p q g ls db v cs W w0 w):LS B p q g ls 1000 0 0 [] W w:=h.st.later h.be
theorem DR.later (h:DR B p q g ls db v cs W w0 w) (hb:Below w.heap.size w w'):DR B p q g ls db v cs W w0 w' :=
 ⟨h.st,h.be.trans (hb.mono h.be.size),h.dd.later hb,h.hd⟩
theorem DR.fr (h:DR B p q g ls db v cs W w0 w) (d:DD B db ls v' cs' w') (f:DFr B db v w v' w'):DR B p q g ls db v' cs' W w0 w':=by
 refine ⟨h.st,h.be.trans ⟨f.ft.1.os,f.ft.1.tape,f.ft.1.output,f.ft.1.size,fun i hi=>f.blk i (Nat.lt_of_lt_of_le hi h.be.size) (by have:=h.hd;omega) fun q=>?_⟩,d,h.hd⟩
 have:=(h.dd.row.blk q).1
 have:=h.hd
 omega
theorem DR.bw (h:DR B p q g ls db v cs W w0 w):B≤w.heap.size:=h.now.bw
theorem DR.bel (h:DR B p q g ls db v cs W w0 w):Below B W w:=h.now.kx.be
end
theorem lnew_ok [Gd] (w:World) (hg0:∀ k,Gd.s k→FBk w k) :
  Calls Tryz.prog 9 #[] w fun e w'=>∃ p q g ls db w0,e=.returned (.tuple #[.pointer (some ⟨db,0,none⟩),.pointer (some ⟨ls,0,none⟩)])∧DR w.heap.size p q g ls db (.slice none 0 0) [] w w0 w'∧Below w.heap.size w w':=by
 obtain ⟨s0,hs0⟩:∃ s,s=DS.new 1000:=⟨_,rfl⟩
 have HS0:=hide hs0
 have HNW:=hide (new_any w.heap.size 1000 w (by omega) (by omega) (nR _) hg0)
 rw [←hs0] at HNW
 clear hs0
 generalize hB:w.heap.size=B at *
 have HB:=hide hB
 clear hB
 go_enter Tryz.func9,Tryz.ntmps9
 go_wp2_with fail
 refine HNW.out.mono ?_
 rintro e w1 ⟨p,rfl,hD,hb1⟩
 have HOP:=hide (lopen_new (W:=w) (n:=1000) HS0.out hD (by have:=hb1.size;have:=HB.out;omega) (by rw [←HB.out];rw [HB.out];exact hb1) (by decide) (by decide))
 clear hD hb1 HNW
 go_wp2_with fail
 refine HOP.out.mono ?_
 rintro e w2 ⟨q,g,ls,rfl,h2⟩
 have H2:=hide h2
 have HDN:=hide (dnew_ok h2)
 clear h2 HOP
 go_wp2_with fail
 refine HDN.out.mono ?_
 rintro e w3 ⟨w0,rfl,hb3,hw3⟩
 have H0:=hide (H2.out.later hb3)
 have HDR:Hid (DR B p q g ls w0.heap.size (.slice none 0 0) [] w w0 w3):=by
  rw [hw3]
  refine ⟨H0.out,aAh w0 _,⟨heap_alloc_new w0 _,RwK.nil _ _ _ _ _ _,H0.out.bw⟩,nR _⟩
 clear hb3 hw3 HDN H2
 generalize w0.heap.size=db at *
 go_wp2
 go_ret2
 exact ⟨p,q,g,ls,db,w0,rfl,HDR.out,HDR.out.bel⟩
def mkC (c:Ch):Ch:=if c.gone=true then ⟨c.sp,c.key,[],true⟩ else ⟨c.sp,c.key,c.val,false⟩
theorem refE_less {sp:Int} {kn vn:Nat} (h:refE sp kn vn=0):refE sp kn 0=0:=by
 unfold refE at h ⊢
 split at h
 ·cases h
 ·rename_i h1
  rw [if_neg h1]
  split at h
  ·cases h
  ·rw [if_neg (by omega)]
theorem aJn {cs:List Ch} {c:Ch} (h:refE c.sp c.key.length c.val.length=0):addC cs c=cs++[c]:=if_pos h
theorem makeOne_ok {B db ls kn kc vn vc:Nat} {sp:Int} {gone:Bool} {v:Value} {ka va:Option Addr} {key val:List Nat} {cs:List Ch} {w:World} (h:DD B db ls v cs w) (hk:BK B w ka kn kc key) (hv:BK B w va vn vc val) (hl:cs.length≤1000) (hr:refE sp key.length val.length=0) :
  Calls Tryz.prog 85 #[.pointer (some ⟨db,0,none⟩),.agg #[.int .i64 sp,.slice ka kn kc,.slice va vn vc,.bool gone]] w fun e w'=>∃ v',e=.returned (.int .i64 0)∧DD B db ls v' (cs++[mkC ⟨sp,key,val,gone⟩]) w'∧DFr B db v w v' w':=by
 have hB:B≤w.heap.size:=by have:=h.hB;have:=h.bw;omega
 have e1:=hk.1.hlen
 have e2:=hv.1.hlen
 obtain ⟨w1,hw1⟩:∃ w1,w1=w.alloc (.cells #[.int .i64 sp,.slice ka kn kc,.slice va vn vc,.bool gone] 127):=⟨_,rfl⟩
 have hb1:Below w.heap.size w w1:=by rw [hw1];exact aAh w _
 have HR1:Hid (w1.heap[w.heap.size]?=some (.cells #[.int .i64 sp,.slice ka kn kc,.slice va vn vc,.bool gone] 127 (0,0))):=by show _=_;rw [hw1];exact heap_alloc_new w _
 have HD1:=hide (h.later hb1)
 have HK1:=hide (hk.later hb1 hB)
 have HV1:=hide (hv.later hb1 hB)
 have HF1:=hide (DFr.of (db:=db) (v:=v) hb1 hB)
 have HLN:=hide hl
 rw [e1,e2] at hr
 have HRE:=hide hr
 have HRZ:=hide (refE_less hr)
 have HE:=hide (And.intro e1 e2)
 have x0:w1.cell? ⟨w.heap.size,0,none⟩=some (.int .i64 sp):=aAc HR1.out
 have x1:w1.cell? ⟨w.heap.size,1,none⟩=some (.slice ka kn kc):=aAc HR1.out
 have x2:w1.cell? ⟨w.heap.size,2,none⟩=some (.slice va vn vc):=aAc HR1.out
 have x3:w1.cell? ⟨w.heap.size,3,none⟩=some (.bool gone):=aAc HR1.out
 have HW:=hide hw1
 clear h hk hv hl hr hb1 hw1 hB e1 e2
 generalize hN:w.heap.size=N at *
 cases gone with
 | true =>
  have HC:=hide (ddel_any (sp:=sp) HD1.out HK1.out HLN.out)
  have HA:Hid (addC cs ⟨sp,key,[],true⟩=cs++[mkC ⟨sp,key,val,true⟩]):=by
   show _=_
   rw [aJn (by show refE sp key.length 0=0;rw [HE.out.1];exact HRZ.out)]
   rfl
  rw [HA.out,HRZ.out] at HC
  go_enter Tryz.func85,Tryz.ntmps85
  go_upto_region 1 with fail
  rw [←HW.out]
  try simp only [hN]
  go_wp2_with fail
  refine HC.out.mono ?_
  rintro e w2 ⟨v',rfl,h1,h2⟩
  have HF2:=hide (HF1.out.trans h2)
  clear h2
  go_wp2
  go_ret
  exact ⟨v',rfl,h1,HF2.out⟩
 | false =>
  have HC:=hide (dput_any (sp:=sp) HD1.out HK1.out HV1.out HLN.out)
  have HA:Hid (addC cs ⟨sp,key,val,false⟩=cs++[mkC ⟨sp,key,val,false⟩]):=by
   show _=_
   rw [aJn (by show refE sp key.length val.length=0;rw [HE.out.1,HE.out.2];exact HRE.out)]
   rfl
  rw [HA.out,HRE.out] at HC
  go_enter Tryz.func85,Tryz.ntmps85
  go_upto_region 1 with fail
  rw [←HW.out]
  try simp only [hN]
  go_wp2_with fail
  refine HC.out.mono ?_
  rintro e w2 ⟨v',rfl,h1,h2⟩
  have HF2:=hide (HF1.out.trans h2)
  clear h2
  go_wp2
  go_ret
  exact ⟨v',rfl,h1,HF2.out⟩
theorem RwK.dfr {te k:Nat} {f:CE→List Value} {B B1 db:Nat} {w w':World} {v v' vl:Value} {F:List Ch} (h:RwK te k f B B1 w vl F) (d:DFr B db v w v' w') (hne:∀ i,vl.ownBlock=some i→v.ownBlock≠some i∧i≠db):RwK te k f B B1 w' vl F :=
 h.keep d.ft fun i hi=>d.blk i (h.blk hi).2.1 (hne i hi).2 (hne i hi).1
theorem makeAll_ok {B B1 db ls N c:Nat} {a:Option Addr} {v:Value} {cs F:List Ch} {w:World} (h:DD B db ls v cs w) (hF:CRW B B1 w (.slice a N c) F) (hN:F.length=N) (hne:∀ i,(Value.slice a N c).ownBlock=some i→v.ownBlock≠some i∧i≠db) (hl:cs.length+N≤1000) (hr:∀ c∈F,refE c.sp c.key.length c.val.length=0) :
  Calls Tryz.prog 39 #[.pointer (some ⟨db,0,none⟩),.slice a N c] w fun e w'=>∃ v',e=.returned (.int .i64 0)∧DD B db ls v' (cs++F.map mkC) w'∧DFr B db v w v' w':=by
 have lt:∀ {k:Nat} {o:Obj} {ww:World},ww.heap[k]?=some o→k<ww.heap.size:=fun e=>(lO e)
 have HD:=hide h
 have HF:=hide hF
 have HNE:=hide hne
 have HR:=hide hr
 have HN:=hide hN
 have HBB:Hid (B≤w.heap.size):=by show B≤_;have:=h.hB;have:=h.bw;omega
 have HMK:=hide (mark_ok h)
 clear h hF hne hr hN
 go_enter Tryz.func39,Tryz.ntmps39
 go_wp2_with fail
 refine HMK.out.mono ?_
 rintro e w9 ⟨rfl,hw⟩
 have hw:=hw.symm
 subst hw
 clear HMK
 go_wp2_with fail
 go_loopg [13] N (fun gh s13 wx=>∃ j:Nat,j+gh=N∧s13=.int .i64 (j:Int)∧∃ v1,DD B db ls v1 (cs++(F.take j).map mkC) wx∧DFr B db v w v1 wx)
 case atStart=>exact ⟨0,by omega,rfl,v,by rw [List.take_zero,List.map_nil,List.append_nil];exact HD.out,DFr.of (Below.refl _ _) HBB.out⟩
 case round =>
  obtain ⟨j,hj,rfl,v1,h1,hf1⟩:=hrel
  have H1:=hide h1
  have HF1:=hide hf1
  clear h1 hf1
  by_cases hjn:j<N
  ·have xj:(j:Int)<(N:Int):=by omega
   have xj0:(0:Int)≤(j:Int):=by omega
   obtain ⟨ch,hch⟩:∃ c,F[j]?=some c:=⟨_,gE (by rw [HN.out];exact hjn)⟩
   have hrw:=HF.out.dfr HF1.out HNE.out
   obtain ⟨g,cap,x,e1,hev,hcell⟩:=hrw.at aBc hch
   have HRE:=hide (HR.out ch (mG hch))
   have HTK:Hid ((F.take (j+1)).map mkC=(F.take j).map mkC++[mkC ch]):=by
    show _=_
    rw [List.take_add_one,hch,List.map_append]
    rfl
   have HLE:Hid ((cs++(F.take j).map mkC).length≤1000):=by
    show _≤_
    rw [lA,List.length_map,List.length_take]
    omega
   obtain ⟨xc,xk,xv⟩:=x
   obtain ⟨ex,⟨ka,kc,e3,hbk⟩,⟨va,vc,e4,hbv⟩⟩:=hev
   dsimp only at ex e3 e4
   subst ex
   simp only [Value.slice.injEq] at e1
   obtain ⟨rfl,zz1,rfl⟩:=e1
   clear zz1
   have hg:g<wr.heap.size:=aAk (hcell 0 (by omega))
   have c0:wr.cell? ⟨g,j*4,none⟩=some (.int .i64 xc.sp):=hcell 0 (by omega)
   have c1:wr.cell? ⟨g,j*4+1,none⟩=some xk:=hcell 1 (by omega)
   have c2:wr.cell? ⟨g,j*4+2,none⟩=some xv:=hcell 2 (by omega)
   have c3:wr.cell? ⟨g,j*4+3,none⟩=some (.bool xc.gone):=hcell 3 (by omega)
   subst e3 e4
   have hcn:N≤c:=by
    obtain ⟨kv,_,⟨_,ho⟩,_⟩:=hrw
    rcases ho with ⟨e,h0⟩ | ⟨g',cap',cur',e,_,_,h7,_⟩
    ·rw [HN.out] at h0;omega
    ·simp only [Value.slice.injEq] at e
     have:=HN.out
     omega
   have hbx:=aAh wr (.cells #[.int .i64 xc.sp,.slice ka xc.key.length kc,.slice va xc.val.length vc,.bool xc.gone] 127)
   have HBW:Hid (B≤wr.heap.size):=by show B≤_;have:=H1.out.hB;have:=H1.out.bw;omega
   have H3:=hide (H1.out.later hbx)
   have HF3:=hide (HF1.out.trans (DFr.of hbx HBW.out))
   have HK3:=hide (hbk.later hbx HBW.out)
   have HV3:=hide (hbv.later hbx HBW.out)
   have HR3:Hid ((wr.alloc (.cells #[.int .i64 xc.sp,.slice ka xc.key.length kc,.slice va xc.val.length vc,.bool xc.gone] 127)).heap[wr.heap.size]?=some (.cells #[.int .i64 xc.sp,.slice ka xc.key.length kc,.slice va xc.val.length vc,.bool xc.gone] 127 (0,0))):=heap_alloc_new wr _
   clear hbx hbk hbv hrw hcell hch
   have HMC:Hid (mkC xc=mkC ⟨xc.sp,xc.key,xc.val,xc.gone⟩):=rfl
   go_upto_region 5 with fail
   clear c0 c1 c2 c3
   generalize wr.alloc (.cells #[.int .i64 xc.sp,.slice ka xc.key.length kc,.slice va xc.val.length vc,.bool xc.gone] 127)=w3 at *
   generalize wr.heap.size=G at *
   have z0:w3.cell? ⟨G,0,none⟩=some (.int .i64 xc.sp):=aAc HR3.out
   have z1:w3.cell? ⟨G,1,none⟩=some (.slice ka xc.key.length kc):=aAc HR3.out
   have z2:w3.cell? ⟨G,2,none⟩=some (.slice va xc.val.length vc):=aAc HR3.out
   have z3:w3.cell? ⟨G,3,none⟩=some (.bool xc.gone):=aAc HR3.out
   have HMO:=hide (makeOne_ok (gone:=xc.gone) H3.out HK3.out HV3.out HLE.out HRE.out)
   go_wp2_with fail
   refine HMO.out.mono ?_
   rintro e w4 ⟨v4,rfl,hd4,hf4⟩
   have H4:=hide hd4
   have HF4:=hide (HF3.out.trans hf4)
   clear hd4 hf4 HMO H3 HF3 HK3 HV3 HR3 z0 z1 z2 z3 H1 HF1
   go_wp2
   go_roundg (gk-1)
   case measure=>omega
   case rel=>exact ⟨j+1,by omega,rfl,v4,by rw [HTK.out,←List.append_assoc];exact H4.out,HF4.out⟩
  ·have ej:j=N:=by omega
   subst ej
   have xj:¬ (j:Int)<(j:Int):=by omega
   have HAL:Hid (F.take j=F):=by show _=_;rw [←HN.out,List.take_length]
   go_wp2
   go_ret
   exact ⟨rfl,v1,by have:=H1.out;rw [HAL.out] at this;exact this,HF1.out⟩
end Go.Proofs.YtgckjkocmkedfabGreat
