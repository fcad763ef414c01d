import Derived.Test.YtdpdjpkmndnaaaaGreatY55
import Derived.Laws.StructEq
set_option maxRecDepth 100000
set_option maxHeartbeats 16000000
set_option linter.unusedVariables false
namespace Go.Proofs.YtdpdjpkmndnaaaaGreat
open Go.RowKit Tryz
variable {B B1 N c db g k kc kn ls p q te u vc vn:Nat} {W w w':World} {a ka va:Option Addr} {cs:List Ch} {gone:Bool} {key val:List Nat} {l:List It} {sp:Int} {v:Value}
theorem add_no {rc:Nat} {r:Int} {ra:Option Addr} (h:DD B db ls (.slice ra N rc) cs w) (hk:BK B w ka kn kc key) (hv:BK B w va vn vc val) (HE:Hid (refE sp kn vn=r)) (hr:¬ r=0) :
  Calls prog 144 #[.pointer (some ⟨db,0,none⟩),.agg #[.int .i64 sp,.slice ka kn kc,.slice va vn vc,.bool gone]] w fun e w'=>e=.returned (.int .i64 r)/\DD B db ls (.slice ra N rc) cs w'/\Below w.heap.size w w':=by
 have HBX:Hid (Below w.heap.size w (w.alloc (.cells #[.int .i64 sp,.slice ka kn kc,.slice va vn vc,.bool gone] 164))):=aAk w _;have HR1:Hid ((w.alloc (.cells #[.int .i64 sp,.slice ka kn kc,.slice va vn vc,.bool gone] 164)).heap[w.heap.size]?=some (.cells #[.int .i64 sp,.slice ka kn kc,.slice va vn vc,.bool gone] 164 (0,0))):=aAp [Obj.cells #[.int .i64 sp,.slice ka kn kc,.slice va vn vc,.bool gone] 164] w 0 _ rfl;have HBB:Hid (B<=w.heap.size):=by show B<=_;have:=h.hB;have:=h.bw;omega
 have HDB:Hid (B<=db):=h.hB;have HDW:Hid (db<w.heap.size):=h.bw;have HD1:=zH (h.later HBX.o);have HK1:=zH (hk.later HBX.o HBB.o);have HV1:=zH (hv.later HBX.o HBB.o);have HRF:=zH (aGl (sp:=sp) (kn:=kn) (kc:=kc) (vn:=vn) (vc:=vc) (ka:=ka) (va:=va) (w:=w.alloc (.cells #[.int .i64 sp,.slice ka kn kc,.slice va vn vc,.bool gone] 164)));clear h hk hv;go_enter func144,ntmps144;go_upto_region 1 with fail;generalize w.alloc (.cells #[.int .i64 sp,.slice ka kn kc,.slice va vn vc,.bool gone] 164)=w1 at *
 generalize hn0:w.heap.size=n0 at *
 have c0:w1.cell? ⟨n0,0,none⟩=some (.int .i64 sp):=aAd HR1.o;have c1:w1.cell? ⟨n0,1,none⟩=some (.slice ka kn kc):=aAd HR1.o;have c2:w1.cell? ⟨n0,2,none⟩=some (.slice va vn vc):=aAd HR1.o;go_wp2_with fail;refine HRF.o.mono ?_;rintro e w2 ⟨rfl,hb2⟩;rw [HE.o];have HR2:=zH ((hb2.block n0 (lO HR1.o)).trans HR1.o);have HBw1:Hid (B<=w1.heap.size):=by show B<=_;have:=HBX.o.size;have:=HBB.o;omega
 have HD2:=zH (HD1.o.later hb2);have HK2:=zH (HK1.o.later hb2 HBw1.o);have HV2:=zH (HV1.o.later hb2 HBw1.o);have HB2:Hid (Below n0 w w2):=HBX.o.trans (hb2.mono (by have:=HBX.o.size;omega));have HT2:=zH HD2.o.blk;clear hb2 c0 c1 c2 HRF HD1 HK1 HV1 HR1;go_wp2;go_ret;exact ⟨rfl,HD2.o,by rw [hn0];exact HB2.o⟩
theorem add_yes {rc:Nat} {ra:Option Addr} (h:DD B db ls (.slice ra N rc) cs w) (hk:BK B w ka kn kc key) (hv:BK B w va vn vc val) (HE:Hid (refE sp kn vn=0)) (hN:N=cs.length) (hl:N<=1000) :
  Calls prog 144 #[.pointer (some ⟨db,0,none⟩),.agg #[.int .i64 sp,.slice ka kn kc,.slice va vn vc,.bool gone]] w fun e w'=>∃ v',e=.returned (.int .i64 0)/\DD B db ls v' (cs++[⟨sp,key,val,gone⟩]) w'/\DFr B db (.slice ra N rc) w v' w':=by
 have hOWN:=h;have HNN:=zH hN;have HLL:=zH hl;have HKL:=zH hk.1.hlen;have HVL:=zH hv.1.hlen;clear hN hl;have HBX:Hid (Below w.heap.size w (w.alloc (.cells #[.int .i64 sp,.slice ka kn kc,.slice va vn vc,.bool gone] 164))):=aAk w _;have HR1:Hid ((w.alloc (.cells #[.int .i64 sp,.slice ka kn kc,.slice va vn vc,.bool gone] 164)).heap[w.heap.size]?=some (.cells #[.int .i64 sp,.slice ka kn kc,.slice va vn vc,.bool gone] 164 (0,0))):=aAp [Obj.cells #[.int .i64 sp,.slice ka kn kc,.slice va vn vc,.bool gone] 164] w 0 _ rfl;have HBB:Hid (B<=w.heap.size):=by show B<=_;have:=h.hB;have:=h.bw;omega
 have HDB:Hid (B<=db):=h.hB;have HDW:Hid (db<w.heap.size):=h.bw;have HD1:=zH (h.later HBX.o);have HK1:=zH (hk.later HBX.o HBB.o);have HV1:=zH (hv.later HBX.o HBB.o);have HRF:=zH (aGl (sp:=sp) (kn:=kn) (kc:=kc) (vn:=vn) (vc:=vc) (ka:=ka) (va:=va) (w:=w.alloc (.cells #[.int .i64 sp,.slice ka kn kc,.slice va vn vc,.bool gone] 164)));clear h hk hv;go_enter func144,ntmps144;go_upto_region 1 with fail;generalize w.alloc (.cells #[.int .i64 sp,.slice ka kn kc,.slice va vn vc,.bool gone] 164)=w1 at *
 generalize hn0:w.heap.size=n0 at *
 have c0:w1.cell? ⟨n0,0,none⟩=some (.int .i64 sp):=aAd HR1.o;have c1:w1.cell? ⟨n0,1,none⟩=some (.slice ka kn kc):=aAd HR1.o;have c2:w1.cell? ⟨n0,2,none⟩=some (.slice va vn vc):=aAd HR1.o;go_wp2_with fail;refine HRF.o.mono ?_;rintro e w2 ⟨rfl,hb2⟩;rw [HE.o];have HR2:=zH ((hb2.block n0 (lO HR1.o)).trans HR1.o);have HBw1:Hid (B<=w1.heap.size):=by show B<=_;have:=HBX.o.size;have:=HBB.o;omega
 have HD2:=zH (HD1.o.later hb2);have HK2:=zH (HK1.o.later hb2 HBw1.o);have HV2:=zH (HV1.o.later hb2 HBw1.o);have HB2:Hid (Below n0 w w2):=HBX.o.trans (hb2.mono (by have:=HBX.o.size;omega));have HT2:=zH HD2.o.blk;clear hb2 c0 c1 c2 HRF HD1 HK1 HV1 HR1;have HBw2:Hid (B<=w2.heap.size):=by show B<=_;have:=HB2.o.size;have:=HBB.o;omega
 go_upto_region 4 with fail;have HX2:Hid ((fun wx=>wx.cell? ⟨n0,0,none⟩=some (.int .i64 sp)/\wx.cell? ⟨n0,1,none⟩=some (.slice ka kn kc)/\wx.cell? ⟨n0,2,none⟩=some (.slice va vn vc)/\wx.cell? ⟨n0,3,none⟩=some (.bool gone)) w2.drew):=⟨aAd (show w2.drew.heap[n0]?=_ from HR2.o),aAd (show w2.drew.heap[n0]?=_ from HR2.o),aAd (show w2.drew.heap[n0]?=_ from HR2.o),aAd (show w2.drew.heap[n0]?=_ from HR2.o)⟩;have hbd:Below w2.heap.size w2 w2.drew:=(Below.refl _ _).drew;have HCP:=zH (aIq (sp:=sp) (gone:=gone) (HK2.o.later hbd HBw2.o) (HV2.o.later hbd HBw2.o) HBw2.o);clear hbd;have HOWN:=zH hOWN;clear hOWN;refine wp_region_noPanic ?_;refine wp_region_held_drew (S:=fun wx=>wx.cell? ⟨n0,0,none⟩=some (.int .i64 sp)/\wx.cell? ⟨n0,1,none⟩=some (.slice ka kn kc)/\wx.cell? ⟨n0,2,none⟩=some (.slice va vn vc)/\wx.cell? ⟨n0,3,none⟩=some (.bool gone)) (by kernel_rfl) HX2.o (fun hHeld=>?_);refine aAb 0 12 ?_;refine aAb 1 13 ?_;refine aAb 2 14 ?_;refine aAb 3 15 ?_;refine aAb 5 17 ?_;refine aAo (i:=4) (j:=6) (by kernel_rfl) (by kernel_rfl) (by kernel_rfl) ?ba ?bb
 case ba =>
  have c2:w2.drew.cell? ⟨db,1,none⟩=some (.slice ra N rc):=aAd (show w2.drew.heap[db]?=_ from HT2.o);have c2':w2.cell? ⟨db,1,none⟩=some (.slice ra N rc):=c2;intro o ho K hK;simp only [tG,sG,zG,oI] at ho;subst ho;go_simp;clear hHeld;refine hK.out _ _ HX2.o (fun hHeld=>?_);clear hK K
  try simp only [Act.put,siT,scZ,scS]
  clear c2 c2';refine aAf 6 ?_;intro K hK;go_simp;refine HCP.o.mono ?_;rintro e w3 ⟨a,d,b,g,rfl,hk3,hv3,hb3⟩;have hb3:Below w2.heap.size w2 w3:=⟨hb3.os,hb3.tape,hb3.output,hb3.size,hb3.block⟩;have HK3:=zH hk3;have HV3:=zH hv3;have HR3:=zH ((hb3.block n0 (lO HR2.o)).trans HR2.o);have HD3:=zH (HD2.o.later hb3);have HT3:=zH HD3.o.blk;have HB3:Hid (Below n0 w w3):=HB2.o.trans (hb3.mono (by have:=HB2.o.size;omega));have HBw3:Hid (B<=w3.heap.size):=by show B<=_;have:=HB3.o.size;have:=HBB.o;omega
  have HX3:Hid ((fun wx=>wx.cell? ⟨n0,0,none⟩=some (.int .i64 sp)/\wx.cell? ⟨n0,1,none⟩=some (.slice ka kn kc)/\wx.cell? ⟨n0,2,none⟩=some (.slice va vn vc)/\wx.cell? ⟨n0,3,none⟩=some (.bool gone)) w3):=⟨aAd HR3.o,aAd HR3.o,aAd HR3.o,aAd HR3.o⟩;clear hk3 hv3 hb3 hHeld HCP;refine hK.out _ _ HX3.o (fun hHeld=>?_);clear hK K
  try simp only [Act.put,siT,scZ,scS]
  refine aAf 7 ?_;intro K hK;go_simp;have hb4:Below w3.heap.size w3 (w3.alloc (.cells #[.int .i64 sp,.slice a kn d,.slice b vn g,.bool gone] 164)):=aAk w3 _;have HO4:Hid ((w3.alloc (.cells #[.int .i64 sp,.slice a kn d,.slice b vn g,.bool gone] 164)).heap[w3.heap.size]?=some (.cells #[.int .i64 sp,.slice a kn d,.slice b vn g,.bool gone] 164 (0,0))):=aAp [Obj.cells #[.int .i64 sp,.slice a kn d,.slice b vn g,.bool gone] 164] w3 0 _ rfl;have HK4:=zH (HK3.o.later hb4 HBw3.o);have HV4:=zH (HV3.o.later hb4 HBw3.o);have HR4:=zH ((hb4.block n0 (lO HR3.o)).trans HR3.o);have HD4:=zH (HD3.o.later hb4);have HT4:=zH HD4.o.blk;have HB4:Hid (Below n0 w (w3.alloc (.cells #[.int .i64 sp,.slice a kn d,.slice b vn g,.bool gone] 164))):=HB3.o.trans (hb4.mono (by have:=HB3.o.size;omega));have HX4:Hid ((fun wx=>wx.cell? ⟨n0,0,none⟩=some (.int .i64 sp)/\wx.cell? ⟨n0,1,none⟩=some (.slice ka kn kc)/\wx.cell? ⟨n0,2,none⟩=some (.slice va vn vc)/\wx.cell? ⟨n0,3,none⟩=some (.bool gone)) (w3.alloc (.cells #[.int .i64 sp,.slice a kn d,.slice b vn g,.bool gone] 164))):=⟨aAd HR4.o,aAd HR4.o,aAd HR4.o,aAd HR4.o⟩;have HS4:Hid ((w3.alloc (.cells #[.int .i64 sp,.slice a kn d,.slice b vn g,.bool gone] 164)).heap.size=w3.heap.size+1):=by show _=_;simp
  clear hb4 hHeld;generalize (w3.alloc (.cells #[.int .i64 sp,.slice a kn d,.slice b vn g,.bool gone] 164))=w4 at *
  generalize hn3:w3.heap.size=n3 at *
  refine hK.out _ _ HX4.o (fun hHeld=>?_);clear hK K
  try simp only [Act.put,siT,scZ,scS]
  refine aAf 8 ?_;intro K hK;rw [if_pos (by rfl)];have hev:EvC B w4 (⟨sp,key,val,gone⟩,.slice a kn d,.slice b vn g) ⟨sp,key,val,gone⟩:=⟨rfl,⟨a,d,by show Value.slice a kn d=.slice a key.length d;rw [HKL.o],by show BK B w4 a key.length d key;rw [HKL.o];exact HK4.o⟩,⟨b,g,by show Value.slice b vn g=.slice b val.length g;rw [HVL.o],by show BK B w4 b val.length g val;rw [HVL.o];exact HV4.o⟩⟩;refine aCc (.tmp 16) (.tmp 19) rfl (v:=(.slice ra N rc)) (u:=.slice (some ⟨n3,0,none⟩) 1 1) (F:=cs) (G:=[⟨sp,key,val,gone⟩]) rfl rfl HD4.o.row (RvK.one (x:=(⟨sp,key,val,gone⟩,.slice a kn d,.slice b vn g)) aBi HO4.o hev) (by have:=HDB.o;omega) (by have:=HB4.o.size;have:=HDW.o;omega) (by have:=HLL.o;have:=HNN.o;show cs.length+1<=_;omega) ?_;intro v5 w5 hrow hft hblk hbel hown;obtain ⟨a5,p5,hv5⟩:=hrow.form;generalize (cs++[(⟨sp,key,val,gone⟩:Ch)]).length=m5 at hv5;have HROW:=zH hrow;have HFT5:=zH hft;have HBK5:=zH hblk;have HOW5:=zH hown;have net:((.slice ra N rc):Value).ownBlock≠some db:=fun e=>by
   have:=(HD4.o.row.blk e).1;omega
  have HT5:=zH ((hblk db (lO HT4.o) net).trans HT4.o);have ner:((.slice ra N rc):Value).ownBlock≠some n0\/((.slice ra N rc):Value).ownBlock=some n0:=by by_cases q:((.slice ra N rc):Value).ownBlock=some n0<;>simp [q]
  have ne0:((.slice ra N rc):Value).ownBlock≠some n0:=fun e=>by
   obtain ⟨q1,q2,cur,q3⟩:=HOWN.o.row.blk e;omega
  have HR5:=zH ((hblk n0 (lO HR4.o) ne0).trans HR4.o);have HX5:Hid ((fun wx=>wx.cell? ⟨n0,0,none⟩=some (.int .i64 sp)/\wx.cell? ⟨n0,1,none⟩=some (.slice ka kn kc)/\wx.cell? ⟨n0,2,none⟩=some (.slice va vn vc)/\wx.cell? ⟨n0,3,none⟩=some (.bool gone)) w5):=⟨aAd HR5.o,aAd HR5.o,aAd HR5.o,aAd HR5.o⟩;subst hv5;clear hrow hft hblk hbel hown hev net ner ne0 hHeld;refine hK.out _ _ HX5.o (fun hHeld=>?_);clear hK K
  try simp only [Act.put,siT,scZ,scS]
  refine aAb 9 21 ?_;refine aAb 10 22 ?_;have y1:w5.cell? ⟨db,1,none⟩=some (.slice ra N rc):=aAd HT5.o;have yf1:w5.frozen? ⟨db,1,none⟩=false:=aAm HT5.o;refine aAf 11 ?_;intro K hK;go_simp;have hne:n0≠db:=by have:=HDW.o;omega
  have HT6:Hid ((w5.setCell ⟨db,1,none⟩ (.slice a5 m5 p5)).heap[db]?=some (.cells #[.pointer (some ⟨ls,0,none⟩),(.slice a5 m5 p5)] 124 (0,0))):=heap_setCell_same _ _ _ _ _ _ HT5.o;have HR6:=(heap_setCell_other w5 ⟨db,1,none⟩ n0 (.slice a5 m5 p5) hne).trans HR5.o;have HX6:Hid ((fun wx=>wx.cell? ⟨n0,0,none⟩=some (.int .i64 sp)/\wx.cell? ⟨n0,1,none⟩=some (.slice ka kn kc)/\wx.cell? ⟨n0,2,none⟩=some (.slice va vn vc)/\wx.cell? ⟨n0,3,none⟩=some (.bool gone)) (w5.setCell ⟨db,1,none⟩ (.slice a5 m5 p5))):=⟨aAd HR6,aAd HR6,aAd HR6,aAd HR6⟩;clear hHeld;refine hK.out _ _ HX6.o (fun hHeld=>?_);clear hK K
  try simp only [Act.put,siT,scZ,scS]
  refine wpAnyH_done (by kernel_rfl) ?_ _;refine NoPanic.normal ?_;go_wp2;go_ret;have hf6:FT B w5 (w5.setCell ⟨db,1,none⟩ (.slice a5 m5 p5)):=ft1 HT5.o (by decide) HDB.o
  refine ⟨rfl,(.slice a5 m5 p5),⟨HT6.o,HROW.o.keep hf6 (fun i hi=>heap_setCell_other _ _ _ _ (by
   show i≠db;have:=(HROW.o.blk hi).1
   omega)),HDB.o⟩,⟨((FT.of (show Below w.heap.size w w4 by rw [hn0];exact HB4.o) (by rw [hn0];exact HBB.o)).trans HFT5.o).trans hf6,fun i hi h1 h2=>?_,fun i hi=>?_⟩⟩
  ·rw [hn0] at hi;rw [heap_setCell_other _ _ _ _ (show i≠db from h1),HBK5.o i (by have:=HB4.o.size;omega) h2];exact HB4.o.block i hi
  ·rcases HOW5.o with q | q
   ·exact Or.inl (q ▸ hi)
   ·rw [q] at hi;cases hi;refine Or.inr ?_;have:=HB4.o.size;omega
 case bb =>
  intro o ho K hK;simp only [tG,sG,zG,oI] at ho;subst ho;go_simp;refine HCP.o.mono ?_;rintro e w3 ⟨a,d,b,g,rfl,hk3,hv3,hb3⟩;have hb3:Below w2.heap.size w2 w3:=⟨hb3.os,hb3.tape,hb3.output,hb3.size,hb3.block⟩;have HK3:=zH hk3;have HV3:=zH hv3;have HR3:=zH ((hb3.block n0 (lO HR2.o)).trans HR2.o);have HD3:=zH (HD2.o.later hb3);have HT3:=zH HD3.o.blk;have HB3:Hid (Below n0 w w3):=HB2.o.trans (hb3.mono (by have:=HB2.o.size;omega));have HBw3:Hid (B<=w3.heap.size):=by show B<=_;have:=HB3.o.size;have:=HBB.o;omega
  have HX3:Hid ((fun wx=>wx.cell? ⟨n0,0,none⟩=some (.int .i64 sp)/\wx.cell? ⟨n0,1,none⟩=some (.slice ka kn kc)/\wx.cell? ⟨n0,2,none⟩=some (.slice va vn vc)/\wx.cell? ⟨n0,3,none⟩=some (.bool gone)) w3):=⟨aAd HR3.o,aAd HR3.o,aAd HR3.o,aAd HR3.o⟩;clear hk3 hv3 hb3 hHeld HCP;refine hK.out _ _ HX3.o (fun hHeld=>?_);clear hK K
  try simp only [Act.put,siT,scZ,scS]
  refine aAo (i:=4) (j:=7) (by kernel_rfl) (by kernel_rfl) (by kernel_rfl) ?bba ?bbb
  case bba =>
   have c2:w3.cell? ⟨db,1,none⟩=some (.slice ra N rc):=aAd HT3.o;intro o ho K hK;simp only [tG,sG,zG,oI] at ho;subst ho;go_simp;clear hHeld;refine hK.out _ _ HX3.o (fun hHeld=>?_);clear hK K
   try simp only [Act.put,siT,scZ,scS]
   clear c2;refine aAf 7 ?_;intro K hK;go_simp;have hb4:Below w3.heap.size w3 (w3.alloc (.cells #[.int .i64 sp,.slice a kn d,.slice b vn g,.bool gone] 164)):=aAk w3 _;have HO4:Hid ((w3.alloc (.cells #[.int .i64 sp,.slice a kn d,.slice b vn g,.bool gone] 164)).heap[w3.heap.size]?=some (.cells #[.int .i64 sp,.slice a kn d,.slice b vn g,.bool gone] 164 (0,0))):=aAp [Obj.cells #[.int .i64 sp,.slice a kn d,.slice b vn g,.bool gone] 164] w3 0 _ rfl;have HK4:=zH (HK3.o.later hb4 HBw3.o);have HV4:=zH (HV3.o.later hb4 HBw3.o);have HR4:=zH ((hb4.block n0 (lO HR3.o)).trans HR3.o);have HD4:=zH (HD3.o.later hb4);have HT4:=zH HD4.o.blk;have HB4:Hid (Below n0 w (w3.alloc (.cells #[.int .i64 sp,.slice a kn d,.slice b vn g,.bool gone] 164))):=HB3.o.trans (hb4.mono (by have:=HB3.o.size;omega));have HX4:Hid ((fun wx=>wx.cell? ⟨n0,0,none⟩=some (.int .i64 sp)/\wx.cell? ⟨n0,1,none⟩=some (.slice ka kn kc)/\wx.cell? ⟨n0,2,none⟩=some (.slice va vn vc)/\wx.cell? ⟨n0,3,none⟩=some (.bool gone)) (w3.alloc (.cells #[.int .i64 sp,.slice a kn d,.slice b vn g,.bool gone] 164))):=⟨aAd HR4.o,aAd HR4.o,aAd HR4.o,aAd HR4.o⟩;have HS4:Hid ((w3.alloc (.cells #[.int .i64 sp,.slice a kn d,.slice b vn g,.bool gone] 164)).heap.size=w3.heap.size+1):=by show _=_;simp
   clear hb4 hHeld;generalize (w3.alloc (.cells #[.int .i64 sp,.slice a kn d,.slice b vn g,.bool gone] 164))=w4 at *
   generalize hn3:w3.heap.size=n3 at *
   refine hK.out _ _ HX4.o (fun hHeld=>?_);clear hK K
   try simp only [Act.put,siT,scZ,scS]
   refine aAf 8 ?_;intro K hK;rw [if_pos (by rfl)];have hev:EvC B w4 (⟨sp,key,val,gone⟩,.slice a kn d,.slice b vn g) ⟨sp,key,val,gone⟩:=⟨rfl,⟨a,d,by show Value.slice a kn d=.slice a key.length d;rw [HKL.o],by show BK B w4 a key.length d key;rw [HKL.o];exact HK4.o⟩,⟨b,g,by show Value.slice b vn g=.slice b val.length g;rw [HVL.o],by show BK B w4 b val.length g val;rw [HVL.o];exact HV4.o⟩⟩;refine aCc (.tmp 16) (.tmp 19) rfl (v:=(.slice ra N rc)) (u:=.slice (some ⟨n3,0,none⟩) 1 1) (F:=cs) (G:=[⟨sp,key,val,gone⟩]) rfl rfl HD4.o.row (RvK.one (x:=(⟨sp,key,val,gone⟩,.slice a kn d,.slice b vn g)) aBi HO4.o hev) (by have:=HDB.o;omega) (by have:=HB4.o.size;have:=HDW.o;omega) (by have:=HLL.o;have:=HNN.o;show cs.length+1<=_;omega) ?_;intro v5 w5 hrow hft hblk hbel hown;obtain ⟨a5,p5,hv5⟩:=hrow.form;generalize (cs++[(⟨sp,key,val,gone⟩:Ch)]).length=m5 at hv5;have HROW:=zH hrow;have HFT5:=zH hft;have HBK5:=zH hblk;have HOW5:=zH hown;have net:((.slice ra N rc):Value).ownBlock≠some db:=fun e=>by
    have:=(HD4.o.row.blk e).1;omega
   have HT5:=zH ((hblk db (lO HT4.o) net).trans HT4.o);have ner:((.slice ra N rc):Value).ownBlock≠some n0\/((.slice ra N rc):Value).ownBlock=some n0:=by by_cases q:((.slice ra N rc):Value).ownBlock=some n0<;>simp [q]
   have ne0:((.slice ra N rc):Value).ownBlock≠some n0:=fun e=>by
    obtain ⟨q1,q2,cur,q3⟩:=HOWN.o.row.blk e;omega
   have HR5:=zH ((hblk n0 (lO HR4.o) ne0).trans HR4.o);have HX5:Hid ((fun wx=>wx.cell? ⟨n0,0,none⟩=some (.int .i64 sp)/\wx.cell? ⟨n0,1,none⟩=some (.slice ka kn kc)/\wx.cell? ⟨n0,2,none⟩=some (.slice va vn vc)/\wx.cell? ⟨n0,3,none⟩=some (.bool gone)) w5):=⟨aAd HR5.o,aAd HR5.o,aAd HR5.o,aAd HR5.o⟩;subst hv5;clear hrow hft hblk hbel hown hev net ner ne0 hHeld;refine hK.out _ _ HX5.o (fun hHeld=>?_);clear hK K
   try simp only [Act.put,siT,scZ,scS]
   refine aAb 9 21 ?_;refine aAb 10 22 ?_;have y1:w5.cell? ⟨db,1,none⟩=some (.slice ra N rc):=aAd HT5.o;have yf1:w5.frozen? ⟨db,1,none⟩=false:=aAm HT5.o;refine aAf 11 ?_;intro K hK;go_simp;have hne:n0≠db:=by have:=HDW.o;omega
   have HT6:Hid ((w5.setCell ⟨db,1,none⟩ (.slice a5 m5 p5)).heap[db]?=some (.cells #[.pointer (some ⟨ls,0,none⟩),(.slice a5 m5 p5)] 124 (0,0))):=heap_setCell_same _ _ _ _ _ _ HT5.o;have HR6:=(heap_setCell_other w5 ⟨db,1,none⟩ n0 (.slice a5 m5 p5) hne).trans HR5.o;have HX6:Hid ((fun wx=>wx.cell? ⟨n0,0,none⟩=some (.int .i64 sp)/\wx.cell? ⟨n0,1,none⟩=some (.slice ka kn kc)/\wx.cell? ⟨n0,2,none⟩=some (.slice va vn vc)/\wx.cell? ⟨n0,3,none⟩=some (.bool gone)) (w5.setCell ⟨db,1,none⟩ (.slice a5 m5 p5))):=⟨aAd HR6,aAd HR6,aAd HR6,aAd HR6⟩;clear hHeld;refine hK.out _ _ HX6.o (fun hHeld=>?_);clear hK K
   try simp only [Act.put,siT,scZ,scS]
   refine wpAnyH_done (by kernel_rfl) ?_ _;refine NoPanic.normal ?_;go_wp2;go_ret;have hf6:FT B w5 (w5.setCell ⟨db,1,none⟩ (.slice a5 m5 p5)):=ft1 HT5.o (by decide) HDB.o
   refine ⟨rfl,(.slice a5 m5 p5),⟨HT6.o,HROW.o.keep hf6 (fun i hi=>heap_setCell_other _ _ _ _ (by
    show i≠db;have:=(HROW.o.blk hi).1
    omega)),HDB.o⟩,⟨((FT.of (show Below w.heap.size w w4 by rw [hn0];exact HB4.o) (by rw [hn0];exact HBB.o)).trans HFT5.o).trans hf6,fun i hi h1 h2=>?_,fun i hi=>?_⟩⟩
   ·rw [hn0] at hi;rw [heap_setCell_other _ _ _ _ (show i≠db from h1),HBK5.o i (by have:=HB4.o.size;omega) h2];exact HB4.o.block i hi
   ·rcases HOW5.o with q | q
    ·exact Or.inl (q ▸ hi)
    ·rw [q] at hi;cases hi;refine Or.inr ?_;have:=HB4.o.size;omega
  case bbb =>
   intro o ho K hK;simp only [tG,sG,zG,oI] at ho;subst ho;go_simp;have hb4:Below w3.heap.size w3 (w3.alloc (.cells #[.int .i64 sp,.slice a kn d,.slice b vn g,.bool gone] 164)):=aAk w3 _;have HO4:Hid ((w3.alloc (.cells #[.int .i64 sp,.slice a kn d,.slice b vn g,.bool gone] 164)).heap[w3.heap.size]?=some (.cells #[.int .i64 sp,.slice a kn d,.slice b vn g,.bool gone] 164 (0,0))):=aAp [Obj.cells #[.int .i64 sp,.slice a kn d,.slice b vn g,.bool gone] 164] w3 0 _ rfl;have HK4:=zH (HK3.o.later hb4 HBw3.o);have HV4:=zH (HV3.o.later hb4 HBw3.o);have HR4:=zH ((hb4.block n0 (lO HR3.o)).trans HR3.o);have HD4:=zH (HD3.o.later hb4);have HT4:=zH HD4.o.blk;have HB4:Hid (Below n0 w (w3.alloc (.cells #[.int .i64 sp,.slice a kn d,.slice b vn g,.bool gone] 164))):=HB3.o.trans (hb4.mono (by have:=HB3.o.size;omega));have HX4:Hid ((fun wx=>wx.cell? ⟨n0,0,none⟩=some (.int .i64 sp)/\wx.cell? ⟨n0,1,none⟩=some (.slice ka kn kc)/\wx.cell? ⟨n0,2,none⟩=some (.slice va vn vc)/\wx.cell? ⟨n0,3,none⟩=some (.bool gone)) (w3.alloc (.cells #[.int .i64 sp,.slice a kn d,.slice b vn g,.bool gone] 164))):=⟨aAd HR4.o,aAd HR4.o,aAd HR4.o,aAd HR4.o⟩;have HS4:Hid ((w3.alloc (.cells #[.int .i64 sp,.slice a kn d,.slice b vn g,.bool gone] 164)).heap.size=w3.heap.size+1):=by show _=_;simp
   clear hb4 hHeld;generalize (w3.alloc (.cells #[.int .i64 sp,.slice a kn d,.slice b vn g,.bool gone] 164))=w4 at *
   generalize hn3:w3.heap.size=n3 at *
   refine hK.out _ _ HX4.o (fun hHeld=>?_);clear hK K
   try simp only [Act.put,siT,scZ,scS]
   have c2:w4.cell? ⟨db,1,none⟩=some (.slice ra N rc):=aAd HT4.o;refine aAf 4 ?_;intro K hK;go_simp;clear hHeld;refine hK.out _ _ HX4.o (fun hHeld=>?_);clear hK K
   try simp only [Act.put,siT,scZ,scS]
   clear c2;refine aAf 8 ?_;intro K hK;rw [if_pos (by rfl)];have hev:EvC B w4 (⟨sp,key,val,gone⟩,.slice a kn d,.slice b vn g) ⟨sp,key,val,gone⟩:=⟨rfl,⟨a,d,by show Value.slice a kn d=.slice a key.length d;rw [HKL.o],by show BK B w4 a key.length d key;rw [HKL.o];exact HK4.o⟩,⟨b,g,by show Value.slice b vn g=.slice b val.length g;rw [HVL.o],by show BK B w4 b val.length g val;rw [HVL.o];exact HV4.o⟩⟩;refine aCc (.tmp 16) (.tmp 19) rfl (v:=(.slice ra N rc)) (u:=.slice (some ⟨n3,0,none⟩) 1 1) (F:=cs) (G:=[⟨sp,key,val,gone⟩]) rfl rfl HD4.o.row (RvK.one (x:=(⟨sp,key,val,gone⟩,.slice a kn d,.slice b vn g)) aBi HO4.o hev) (by have:=HDB.o;omega) (by have:=HB4.o.size;have:=HDW.o;omega) (by have:=HLL.o;have:=HNN.o;show cs.length+1<=_;omega) ?_;intro v5 w5 hrow hft hblk hbel hown;obtain ⟨a5,p5,hv5⟩:=hrow.form;generalize (cs++[(⟨sp,key,val,gone⟩:Ch)]).length=m5 at hv5;have HROW:=zH hrow;have HFT5:=zH hft;have HBK5:=zH hblk;have HOW5:=zH hown;have net:((.slice ra N rc):Value).ownBlock≠some db:=fun e=>by
    have:=(HD4.o.row.blk e).1;omega
   have HT5:=zH ((hblk db (lO HT4.o) net).trans HT4.o);have ner:((.slice ra N rc):Value).ownBlock≠some n0\/((.slice ra N rc):Value).ownBlock=some n0:=by by_cases q:((.slice ra N rc):Value).ownBlock=some n0<;>simp [q]
   have ne0:((.slice ra N rc):Value).ownBlock≠some n0:=fun e=>by
    obtain ⟨q1,q2,cur,q3⟩:=HOWN.o.row.blk e;omega
   have HR5:=zH ((hblk n0 (lO HR4.o) ne0).trans HR4.o);have HX5:Hid ((fun wx=>wx.cell? ⟨n0,0,none⟩=some (.int .i64 sp)/\wx.cell? ⟨n0,1,none⟩=some (.slice ka kn kc)/\wx.cell? ⟨n0,2,none⟩=some (.slice va vn vc)/\wx.cell? ⟨n0,3,none⟩=some (.bool gone)) w5):=⟨aAd HR5.o,aAd HR5.o,aAd HR5.o,aAd HR5.o⟩;subst hv5;clear hrow hft hblk hbel hown hev net ner ne0 hHeld;refine hK.out _ _ HX5.o (fun hHeld=>?_);clear hK K
   try simp only [Act.put,siT,scZ,scS]
   refine aAb 9 21 ?_;refine aAb 10 22 ?_;have y1:w5.cell? ⟨db,1,none⟩=some (.slice ra N rc):=aAd HT5.o;have yf1:w5.frozen? ⟨db,1,none⟩=false:=aAm HT5.o;refine aAf 11 ?_;intro K hK;go_simp;have hne:n0≠db:=by have:=HDW.o;omega
   have HT6:Hid ((w5.setCell ⟨db,1,none⟩ (.slice a5 m5 p5)).heap[db]?=some (.cells #[.pointer (some ⟨ls,0,none⟩),(.slice a5 m5 p5)] 124 (0,0))):=heap_setCell_same _ _ _ _ _ _ HT5.o;have HR6:=(heap_setCell_other w5 ⟨db,1,none⟩ n0 (.slice a5 m5 p5) hne).trans HR5.o;have HX6:Hid ((fun wx=>wx.cell? ⟨n0,0,none⟩=some (.int .i64 sp)/\wx.cell? ⟨n0,1,none⟩=some (.slice ka kn kc)/\wx.cell? ⟨n0,2,none⟩=some (.slice va vn vc)/\wx.cell? ⟨n0,3,none⟩=some (.bool gone)) (w5.setCell ⟨db,1,none⟩ (.slice a5 m5 p5))):=⟨aAd HR6,aAd HR6,aAd HR6,aAd HR6⟩;clear hHeld;refine hK.out _ _ HX6.o (fun hHeld=>?_);clear hK K
   try simp only [Act.put,siT,scZ,scS]
   refine wpAnyH_done (by kernel_rfl) ?_ _;refine NoPanic.normal ?_;go_wp2;go_ret;have hf6:FT B w5 (w5.setCell ⟨db,1,none⟩ (.slice a5 m5 p5)):=ft1 HT5.o (by decide) HDB.o
   refine ⟨rfl,(.slice a5 m5 p5),⟨HT6.o,HROW.o.keep hf6 (fun i hi=>heap_setCell_other _ _ _ _ (by
    show i≠db;have:=(HROW.o.blk hi).1
    omega)),HDB.o⟩,⟨((FT.of (show Below w.heap.size w w4 by rw [hn0];exact HB4.o) (by rw [hn0];exact HBB.o)).trans HFT5.o).trans hf6,fun i hi h1 h2=>?_,fun i hi=>?_⟩⟩
   ·rw [hn0] at hi;rw [heap_setCell_other _ _ _ _ (show i≠db from h1),HBK5.o i (by have:=HB4.o.size;omega) h2];exact HB4.o.block i hi
   ·rcases HOW5.o with q | q
    ·exact Or.inl (q ▸ hi)
    ·rw [q] at hi;cases hi;refine Or.inr ?_;have:=HB4.o.size;omega
def addC (cs:List Ch) (c:Ch):List Ch:=if refE c.sp c.key.length c.val.length=0 then cs++[c] else cs
theorem add_any (h:DD B db ls v cs w) (hk:BK B w ka kn kc key) (hv:BK B w va vn vc val) (hl:cs.length<=1000) :
  Calls prog 144 #[.pointer (some ⟨db,0,none⟩),.agg #[.int .i64 sp,.slice ka kn kc,.slice va vn vc,.bool gone]] w fun e w'=>∃ v',e=.returned (.int .i64 (refE sp kn vn))/\DD B db ls v' (addC cs ⟨sp,key,val,gone⟩) w'/\DFr B db v w v' w':=by
 obtain ⟨ra,rc,e⟩:=h.slice;subst e;have e1:=hk.1.hlen;have e2:=hv.1.hlen;have hB:B<=w.heap.size:=by have:=h.hB;have:=h.bw;omega
 by_cases hr:refE sp kn vn=0
 ·refine (add_yes (gone:=gone) h hk hv (HE:=hr) rfl hl).mono ?_;rintro e w' ⟨v',rfl,h1,h2⟩;refine ⟨v',by rw [hr],?_,h2⟩;unfold addC;rw [if_pos (by show refE sp key.length val.length=0;rw [e1,e2];exact hr)];exact h1
 ·refine (add_no (gone:=gone) h hk hv (HE:=rfl) hr).mono ?_;rintro e w' ⟨rfl,h1,h2⟩;refine ⟨_,rfl,?_,DFr.of h2 hB⟩;unfold addC;rw [if_neg (by show ¬ refE sp key.length val.length=0;rw [e1,e2];exact hr)];exact h1
theorem dput_any (h:DD B db ls v cs w) (hk:BK B w ka kn kc key) (hv:BK B w va vn vc val) (hl:cs.length<=1000) :
  Calls prog 103 #[.pointer (some ⟨db,0,none⟩),.int .i64 sp,.slice ka kn kc,.slice va vn vc] w fun e w'=>∃ v',e=.returned (.int .i64 (refE sp kn vn))/\DD B db ls v' (addC cs ⟨sp,key,val,false⟩) w'/\DFr B db v w v' w':=by
 have HC:=zH (add_any (sp:=sp) (gone:=false) h hk hv hl);clear h hk hv;generalize refE sp kn vn=r at *
 generalize addC cs ⟨sp,key,val,false⟩=cs' at *
 go_enter func103,ntmps103;go_wp2_with fail;refine HC.o.mono ?_;rintro e w2 ⟨v',rfl,h1,h2⟩;go_wp2;go_ret;exact ⟨v',rfl,h1,h2⟩
theorem ddel_any (h:DD B db ls v cs w) (hk:BK B w ka kn kc key) (hl:cs.length<=1000) :
  Calls prog 137 #[.pointer (some ⟨db,0,none⟩),.int .i64 sp,.slice ka kn kc] w fun e w'=>∃ v',e=.returned (.int .i64 (refE sp kn 0))/\DD B db ls v' (addC cs ⟨sp,key,[],true⟩) w'/\DFr B db v w v' w':=by
 have HC:=zH (add_any (sp:=sp) (gone:=true) h hk (BK.nil B w) hl);clear h hk;generalize refE sp kn 0=r at *
 generalize addC cs ⟨sp,key,[],true⟩=cs' at *
 go_enter func137,ntmps137;go_wp2_with fail;refine HC.o.mono ?_;rintro e w2 ⟨v',rfl,h1,h2⟩;go_wp2;go_ret;exact ⟨v',rfl,h1,h2⟩
theorem dnew_ok [Gd] (h:LS B p q g ls N c u l W w) :
  Calls prog 33 #[.pointer (some ⟨ls,0,none⟩)] w fun e w'=>∃ w0,e=.returned (.tuple #[.pointer (some ⟨w0.heap.size,0,none⟩),.int .i64 0])/\Below w.heap.size w w0/\w'=w0.alloc (.cells #[.pointer (some ⟨ls,0,none⟩),.slice none 0 0] 124):=by
 have HD:=zH h.dead;clear h;go_enter func33,ntmps33;go_wp2_with fail;refine HD.o.mono ?_;rintro e w1 ⟨rfl,hb1⟩;have HB1:=zH hb1;clear hb1 HD;go_wp2;go_ret2;exact ⟨w1,rfl,HB1.o,rfl⟩
structure DR [Gd] (B p q g ls db:Nat) (v:Value) (cs:List Ch) (W w0 w:World):Prop where
 st:LS B p q g ls 1000 0 0 [] W w0
 be:Below w0.heap.size w0 w
 dd:DD B db ls v cs w
 hd:w0.heap.size<=db
section
variable [Gd] {B p q g ls db:Nat} {v v':Value} {cs cs':List Ch} {W w0 w w':World}
theorem DR.now (h:DR B p q g ls db v cs W w0 w):LS B p q g ls 1000 0 0 [] W w:=h.st.later h.be
theorem DR.later (h:DR B p q g ls db v cs W w0 w) (hb:Below w.heap.size w w'):DR B p q g ls db v cs W w0 w' :=
 ⟨h.st,h.be.trans (hb.mono h.be.size),h.dd.later hb,h.hd⟩
theorem DR.fr (h:DR B p q g ls db v cs W w0 w) (d:DD B db ls v' cs' w') (f:DFr B db v w v' w'):DR B p q g ls db v' cs' W w0 w':=by
 refine ⟨h.st,h.be.trans ⟨f.ft.1.os,f.ft.1.tape,f.ft.1.output,f.ft.1.size,fun i hi=>f.blk i (Nat.lt_of_lt_of_le hi h.be.size) (by have:=h.hd;omega) fun q=>?_⟩,d,h.hd⟩;have:=(h.dd.row.blk q).1;have:=h.hd;omega
theorem DR.bw (h:DR B p q g ls db v cs W w0 w):B<=w.heap.size:=h.now.bw
theorem DR.bel (h:DR B p q g ls db v cs W w0 w):Below B W w:=h.now.kx.be
end
theorem lnew_ok [Gd] (w:World) (hg0:∀ k,Gd.s k->FBk w k) :
  Calls prog 9 #[] w fun e w'=>∃ p q g ls db w0,e=.returned (.tuple #[.pointer (some ⟨db,0,none⟩),.pointer (some ⟨ls,0,none⟩)])/\DR w.heap.size p q g ls db (.slice none 0 0) [] w w0 w'/\Below w.heap.size w w':=by
 obtain ⟨s0,hs0⟩:∃ s,s=DS.new 1000:=⟨_,rfl⟩;have HS0:=zH hs0;have HNW:=zH (new_any w.heap.size 1000 w (by omega) (by omega) (nR _) hg0);rw [<-hs0] at HNW;clear hs0;generalize hB:w.heap.size=B at *
 have HB:=zH hB;clear hB;go_enter func9,ntmps9;go_wp2_with fail;refine HNW.o.mono ?_;rintro e w1 ⟨p,rfl,hD,hb1⟩;have HOP:=zH (lopen_new (W:=w) (n:=1000) HS0.o hD (by have:=hb1.size;have:=HB.o;omega) (by rw [<-HB.o];rw [HB.o];exact hb1) (by decide) (by decide));clear hD hb1 HNW;go_wp2_with fail;refine HOP.o.mono ?_;rintro e w2 ⟨q,g,ls,rfl,h2⟩;have H2:=zH h2;have HDN:=zH (dnew_ok h2);clear h2 HOP;go_wp2_with fail;refine HDN.o.mono ?_;rintro e w3 ⟨w0,rfl,hb3,hw3⟩;have H0:=zH (H2.o.later hb3);have HDR:Hid (DR B p q g ls w0.heap.size (.slice none 0 0) [] w w0 w3):=by
  rw [hw3];refine ⟨H0.o,aAk w0 _,⟨heap_alloc_new w0 _,RwK.nil _ _ _ _ _ _,H0.o.bw⟩,nR _⟩
 clear hb3 hw3 HDN H2;generalize w0.heap.size=db at *
 go_wp2;go_ret2;exact ⟨p,q,g,ls,db,w0,rfl,HDR.o,HDR.o.bel⟩
def mkC (c:Ch):Ch:=if c.gone=true then ⟨c.sp,c.key,[],true⟩ else ⟨c.sp,c.key,c.val,false⟩
theorem refE_less (h:refE sp kn vn=0):refE sp kn 0=0:=by
 unfold refE at h ⊢
 split at h
 ·cases h
 ·rename_i h1
  rw [if_neg h1]
  split at h
  ·cases h
  ·rw [if_neg (by omega)]
theorem aKx {c:Ch} (h:refE c.sp c.key.length c.val.length=0):addC cs c=cs++[c]:=if_pos h
theorem makeOne_ok (h:DD B db ls v cs w) (hk:BK B w ka kn kc key) (hv:BK B w va vn vc val) (hl:cs.length<=1000) (hr:refE sp key.length val.length=0) :
  Calls prog 93 #[.pointer (some ⟨db,0,none⟩),.agg #[.int .i64 sp,.slice ka kn kc,.slice va vn vc,.bool gone]] w fun e w'=>∃ v',e=.returned (.int .i64 0)/\DD B db ls v' (cs++[mkC ⟨sp,key,val,gone⟩]) w'/\DFr B db v w v' w':=by
 have hB:B<=w.heap.size:=by have:=h.hB;have:=h.bw;omega
 have e1:=hk.1.hlen;have e2:=hv.1.hlen;obtain ⟨w1,hw1⟩:∃ w1,w1=w.alloc (.cells #[.int .i64 sp,.slice ka kn kc,.slice va vn vc,.bool gone] 164):=⟨_,rfl⟩;have hb1:Below w.heap.size w w1:=by rw [hw1];exact aAk w _
 have HR1:Hid (w1.heap[w.heap.size]?=some (.cells #[.int .i64 sp,.slice ka kn kc,.slice va vn vc,.bool gone] 164 (0,0))):=by show _=_;rw [hw1];exact heap_alloc_new w _
 have HD1:=zH (h.later hb1);have HK1:=zH (hk.later hb1 hB);have HV1:=zH (hv.later hb1 hB);have HF1:=zH (DFr.of (db:=db) (v:=v) hb1 hB);have HLN:=zH hl;rw [e1,e2] at hr;have HRE:=zH hr;have HRZ:=zH (refE_less hr);have HE:=zH (And.intro e1 e2);have x0:w1.cell? ⟨w.heap.size,0,none⟩=some (.int .i64 sp):=aAd HR1.o;have x1:w1.cell? ⟨w.heap.size,1,none⟩=some (.slice ka kn kc):=aAd HR1.o;have x2:w1.cell? ⟨w.heap.size,2,none⟩=some (.slice va vn vc):=aAd HR1.o;have x3:w1.cell? ⟨w.heap.size,3,none⟩=some (.bool gone):=aAd HR1.o;have HW:=zH hw1;clear h hk hv hl hr hb1 hw1 hB e1 e2;generalize hN:w.heap.size=N at *
 cases gone with
 | true =>
  have HC:=zH (ddel_any (sp:=sp) HD1.o HK1.o HLN.o);have HA:Hid (addC cs ⟨sp,key,[],true⟩=cs++[mkC ⟨sp,key,val,true⟩]):=by
   show _=_;rw [aKx (by show refE sp key.length 0=0;rw [HE.o.1];exact HRZ.o)];rfl
  rw [HA.o,HRZ.o] at HC;go_enter func93,ntmps93;go_upto_region 1 with fail;rw [<-HW.o]
  try simp only [hN]
  go_wp2_with fail;refine HC.o.mono ?_;rintro e w2 ⟨v',rfl,h1,h2⟩;have HF2:=zH (HF1.o.trans h2);clear h2;go_wp2;go_ret;exact ⟨v',rfl,h1,HF2.o⟩
 | false =>
  have HC:=zH (dput_any (sp:=sp) HD1.o HK1.o HV1.o HLN.o);have HA:Hid (addC cs ⟨sp,key,val,false⟩=cs++[mkC ⟨sp,key,val,false⟩]):=by
   show _=_;rw [aKx (by show refE sp key.length val.length=0;rw [HE.o.1,HE.o.2];exact HRE.o)];rfl
  rw [HA.o,HRE.o] at HC;go_enter func93,ntmps93;go_upto_region 1 with fail;rw [<-HW.o]
  try simp only [hN]
  go_wp2_with fail;refine HC.o.mono ?_;rintro e w2 ⟨v',rfl,h1,h2⟩;have HF2:=zH (HF1.o.trans h2);clear h2;go_wp2;go_ret;exact ⟨v',rfl,h1,HF2.o⟩
theorem RwK.dfr {f:CE->List Value} {v' vl:Value} {F:List Ch} (h:RwK te k f B B1 w vl F) (d:DFr B db v w v' w') (hne:∀ i,vl.ownBlock=some i->v.ownBlock≠some i/\i≠db):RwK te k f B B1 w' vl F :=
 h.keep d.ft fun i hi=>d.blk i (h.blk hi).2.1 (hne i hi).2 (hne i hi).1
theorem makeAll_ok {F:List Ch} (h:DD B db ls v cs w) (hF:CRW B B1 w (.slice a N c) F) (hN:F.length=N) (hne:∀ i,(Value.slice a N c).ownBlock=some i->v.ownBlock≠some i/\i≠db) (hl:cs.length+N<=1000) (hr:∀ c∈F,refE c.sp c.key.length c.val.length=0) :
  Calls prog 56 #[.pointer (some ⟨db,0,none⟩),.slice a N c] w fun e w'=>∃ v',e=.returned (.int .i64 0)/\DD B db ls v' (cs++F.map mkC) w'/\DFr B db v w v' w':=by
 have HD:=zH h;have HF:=zH hF;have HNE:=zH hne;have HR:=zH hr;have HN:=zH hN;have HBB:Hid (B<=w.heap.size):=by show B<=_;have:=h.hB;have:=h.bw;omega
 have HMK:=zH (mark_ok h);clear h hF hne hr hN;go_enter func56,ntmps56;go_wp2_with fail;refine HMK.o.mono ?_;rintro e w9 ⟨rfl,hw⟩;have hw:=hw.symm;subst hw;clear HMK;go_wp2_with fail;go_loopg [13] N (fun gh s13 wx=>∃ j:Nat,j+gh=N/\s13=.int .i64 (j:Int)/\∃ v1,DD B db ls v1 (cs++(F.take j).map mkC) wx/\DFr B db v w v1 wx)
 case atStart=>exact ⟨0,by omega,rfl,v,by rw [List.take_zero,List.map_nil,List.append_nil];exact HD.o,DFr.of (Below.refl _ _) HBB.o⟩
 case round =>
  obtain ⟨j,hj,rfl,v1,h1,hf1⟩:=hrel;have H1:=zH h1;have HF1:=zH hf1;clear h1 hf1;by_cases hjn:j<N
  ·have xj:(j:Int)<(N:Int):=by omega
   have xj0:(0:Int)<=(j:Int):=by omega
   obtain ⟨ch,hch⟩:∃ c,F[j]?=some c:=⟨_,gE (by rw [HN.o];exact hjn)⟩;have hrw:=HF.o.dfr HF1.o HNE.o;obtain ⟨g,cap,x,e1,hev,hcell⟩:=hrw.at aBi hch;have HRE:=zH (HR.o ch (mG hch));have HTK:Hid ((F.take (j+1)).map mkC=(F.take j).map mkC++[mkC ch]):=by
    show _=_;rw [List.take_add_one,hch,List.map_append];rfl
   have HLE:Hid ((cs++(F.take j).map mkC).length<=1000):=by
    show _<=_;rw [lA,List.length_map,List.length_take];omega
   obtain ⟨xc,xk,xv⟩:=x;obtain ⟨ex,⟨ka,kc,e3,hbk⟩,⟨va,vc,e4,hbv⟩⟩:=hev;dsimp only at ex e3 e4;subst ex;simp only [Value.slice.injEq] at e1;obtain ⟨rfl,zz1,rfl⟩:=e1;clear zz1;have hg:g<wr.heap.size:=aAn (hcell 0 (by omega));have c0:wr.cell? ⟨g,j*4,none⟩=some (.int .i64 xc.sp):=hcell 0 (by omega);have c1:wr.cell? ⟨g,j*4+1,none⟩=some xk:=hcell 1 (by omega);have c2:wr.cell? ⟨g,j*4+2,none⟩=some xv:=hcell 2 (by omega);have c3:wr.cell? ⟨g,j*4+3,none⟩=some (.bool xc.gone):=hcell 3 (by omega);subst e3 e4;have hcn:N<=c:=by
    obtain ⟨kv,_,⟨_,ho⟩,_⟩:=hrw;rcases ho with ⟨e,h0⟩ | ⟨g',cap',cur',e,_,_,h7,_⟩
    ·rw [HN.o] at h0;omega
    ·simp only [Value.slice.injEq] at e;have:=HN.o;omega
   have hbx:=aAk wr (.cells #[.int .i64 xc.sp,.slice ka xc.key.length kc,.slice va xc.val.length vc,.bool xc.gone] 164);have HBW:Hid (B<=wr.heap.size):=by show B<=_;have:=H1.o.hB;have:=H1.o.bw;omega
   have H3:=zH (H1.o.later hbx);have HF3:=zH (HF1.o.trans (DFr.of hbx HBW.o));have HK3:=zH (hbk.later hbx HBW.o);have HV3:=zH (hbv.later hbx HBW.o);have HR3:Hid ((wr.alloc (.cells #[.int .i64 xc.sp,.slice ka xc.key.length kc,.slice va xc.val.length vc,.bool xc.gone] 164)).heap[wr.heap.size]?=some (.cells #[.int .i64 xc.sp,.slice ka xc.key.length kc,.slice va xc.val.length vc,.bool xc.gone] 164 (0,0))):=heap_alloc_new wr _;clear hbx hbk hbv hrw hcell hch;have HMC:Hid (mkC xc=mkC ⟨xc.sp,xc.key,xc.val,xc.gone⟩):=rfl;go_upto_region 5 with fail;clear c0 c1 c2 c3;generalize wr.alloc (.cells #[.int .i64 xc.sp,.slice ka xc.key.length kc,.slice va xc.val.length vc,.bool xc.gone] 164)=w3 at *
   generalize wr.heap.size=G at *
   have z0:w3.cell? ⟨G,0,none⟩=some (.int .i64 xc.sp):=aAd HR3.o;have z1:w3.cell? ⟨G,1,none⟩=some (.slice ka xc.key.length kc):=aAd HR3.o;have z2:w3.cell? ⟨G,2,none⟩=some (.slice va xc.val.length vc):=aAd HR3.o;have z3:w3.cell? ⟨G,3,none⟩=some (.bool xc.gone):=aAd HR3.o;have HMO:=zH (makeOne_ok (gone:=xc.gone) H3.o HK3.o HV3.o HLE.o HRE.o);go_wp2_with fail;refine HMO.o.mono ?_;rintro e w4 ⟨v4,rfl,hd4,hf4⟩;have H4:=zH hd4;have HF4:=zH (HF3.o.trans hf4);clear hd4 hf4 HMO H3 HF3 HK3 HV3 HR3 z0 z1 z2 z3 H1 HF1;go_wp2;go_roundg (gk-1)
   case measure=>omega
   case rel=>exact ⟨j+1,by omega,rfl,v4,by rw [HTK.o,<-List.append_assoc];exact H4.o,HF4.o⟩
  ·have ej:j=N:=by omega
   subst ej;have xj:¬ (j:Int)<(j:Int):=by omega
   have HAL:Hid (F.take j=F):=by show _=_;rw [<-HN.o,List.take_length]
   go_wp2;go_ret;exact ⟨rfl,v1,by have:=H1.o;rw [HAL.o] at this;exact this,HF1.o⟩
end Go.Proofs.YtdpdjpkmndnaaaaGreat
