import Derived.Test.YtdfjjhlhnfindaaGreatY29
set_option maxRecDepth 100000
set_option maxHeartbeats 16000000
set_option linter.unusedVariables false
namespace Go.Proofs.YtdfjjhlhnfindaaGreat
open Go.RowKit Tryz
variable {B B1 g h n p px q:Nat} {d:Int} {gone:List Nat} {l:List It} {s:DS} {t:PS} {w:World}
def cntN (n:Int) (b:Bool):Int:=if b then n+1 else n
def EPut (B:Nat) (w:World) (px q:Nat) (d n:Int) (gone:List Nat) (h:Nat) (e:ED h) (w':World):Prop:=∃ rv S,EV B w' px q rv (if 4<(itE e).length then d+1 else d) n gone/\NV B w.heap.size w' (rootE h e).1 (rootE h e).2 S rv/\S.Nodup/\FE B w w'
theorem put_some [Gd] {n:Int} (hg0:True) (hlf:s.life=t.life) (hdn:s.down=false) (b:BT h) (hE:EV B w px q (plV b.id) d n gone) (hdh:d=((h+1:Nat):Int)) (hST:ST B p q s t w) (hB:B<=w.heap.size) (hlen:gone.length+h<900) (hn0:0<=n) (hn1:n<1000000) (hb:OnD s t h b) (hsh:ShB h b) (it:It) {ka va:Option Addr} {kn kc vn vc:Nat} (hkn:it.1.length=kn) (hvn:it.2.length=vn) (hk:BK B w ka kn kc it.1) (hv:BK B w va vn vc it.2) :
  Calls prog 155 #[.pointer (some ⟨px,0,none⟩),.agg #[.slice ka kn kc,.slice va vn vc]] w fun e w'=>e=.returned (.bool true)/\EPut B w px q d (cntN n (nwB h b it.1)) (gone++pthB h b it.1) h (putE h (old b) it) w':=by
 have HPX:=zH (hE.cellsx);obtain ⟨p0,p1,p2',p3,fz⟩:=HPX.o;have HBX:=zH (aAc w (.cells #[.slice ka kn kc,.slice va vn vc] 245));have HNX:Hid ((w.alloc (.cells #[.slice ka kn kc,.slice va vn vc] 245)).heap[w.heap.size]?=some (.cells #[.slice ka kn kc,.slice va vn vc] 245 (0,0))):=heap_alloc_new w _;have HE1:=zH (hE.later HBX.o);have HB:=zH hB;have HK:=zH hk;have HV:=zH hv;have HST:=zH hST;have HON:=zH hb;have HSH:=zH hsh;have hpxs:px<w.heap.size:=by obtain ⟨gv,h1,_⟩:=hE.hx;exact (lO h1)
 have hd:(d == 0)=false:=by simp;omega
 have HRC:=zH (putIn_ok (B:=B) (p:=p) (q:=q) (px:=px) hg0 hlf hdn h (w.alloc (.cells #[.slice ka kn kc,.slice va vn vc] 245)).drew (plV b.id) d n gone b it ka va kc vc ((hST.later HBX.o).later (Below.refl _ _).drew) (nT hB HBX.o.size) (HE1.o.later (Below.refl _ _).drew) hlen hn0 hn1 hb hsh (by rw [hkn];exact (hk.later HBX.o hB).later (Below.refl _ _).drew (nT hB HBX.o.size)) (by rw [hvn];exact (hv.later HBX.o hB).later (Below.refl _ _).drew (nT hB HBX.o.size)));rw [hkn,hvn,<-hdh] at HRC;unfold plV at HRC;have HDH:=zH hdh;clear hE hB hk hv hST hb hsh p0 p1 p2' p3 fz HPX hdh;go_enter func155,ntmps155;go_upto_region 1 with fail;generalize hG:w.heap.size=G at *
 generalize hwz:w.alloc (.cells #[.slice ka kn kc,.slice va vn vc] 245)=wz at *
 clear hwz;obtain ⟨p0,p1,p2,p3,fz⟩:=HE1.o.cellsx;unfold plV at p1;have y1:wz.cell? ⟨G,0,none⟩=some (.slice ka kn kc):=aAa HNX.o;have y2:wz.cell? ⟨G,1,none⟩=some (.slice va vn vc):=aAa HNX.o;go_upto_region 3 with fail;have HX0:Hid ((fun wx=>wx.cell? ⟨px,2,none⟩=some (.int .i64 d)/\wx.cell? ⟨G,0,none⟩=some (.slice ka kn kc)/\wx.cell? ⟨G,1,none⟩=some (.slice va vn vc)) wz.drew):=⟨p2,y1,y2⟩;refine wp_region_noPanic ?_;refine wp_region_held_drew (S:=fun wx=>wx.cell? ⟨px,2,none⟩=some (.int .i64 d)/\wx.cell? ⟨G,0,none⟩=some (.slice ka kn kc)/\wx.cell? ⟨G,1,none⟩=some (.slice va vn vc)) (by kernel_rfl) HX0.o (fun hHeld=>?_);refine kT 0 19 ?_;refine kT 1 20 ?_;refine kT 2 21 ?_;refine kT 3 22 ?_;refine kT 4 23 ?_;refine kT 6 25 ?_;refine kT 7 26 ?_;refine kT 8 27 ?_;refine kT 9 28 ?_;refine kT 10 29 ?_;refine kC 5 ?_;intro K hK;go_simp;refine hK.out _ _ HX0.o (fun hHeld=>?_);clear hK K;refine kC 11 ?_;intro K hK;go_simp;refine HRC.o.mono ?_;rintro e w5 ⟨v5,rfl,⟨SS,hNV5,hND5⟩,hEV5,hFE5⟩;obtain ⟨⟨vt,vv⟩,hve⟩:=NV.cells hNV5;subst hve;obtain ⟨gv5,hpx5,hgr5⟩:=hEV5.hx;have hn5:(if nwB h b it.1 then n+1 else n)=cntN n (nwB h b it.1):=rfl;rw [hn5] at hEV5 hpx5;clear hn5;generalize hn5:cntN n (nwB h b it.1)=n5 at *
 have HPX5:Hid (w5.heap[px]?=some (.cells (edV q (.iface 217 (.int .i64 (b.id:Int))) d n5 gv5 (.slice none 0 0)) 279 (0,0))):=hpx5;have HNX5:Hid (w5.heap[G]?=some (.cells #[.slice ka kn kc,.slice va vn vc] 245 (0,0))):=hFE5.2 _ _ _ _ (show wz.drew.heap[G]?=_ from HNX.o) (by decide) (by decide);have HNV5:=zH hNV5;have HND5:=zH hND5;have HEV5:=zH hEV5;have HFE5:=zH hFE5;clear hNV5 hND5 hEV5 hFE5 hpx5 hgr5;have HX5:Hid ((fun wx=>wx.cell? ⟨px,2,none⟩=some (.int .i64 d)/\wx.cell? ⟨G,0,none⟩=some (.slice ka kn kc)/\wx.cell? ⟨G,1,none⟩=some (.slice va vn vc)) w5):=⟨aAa HPX5.o,aAa HNX5.o,aAa HNX5.o⟩;clear hHeld;refine hK.out _ _ HX5.o (fun hHeld=>?_);clear hK K;refine kT 12 31 ?_;refine kT 13 32 ?_;have hpxG:G≠px:=by
  intro q9;have h9:=HNX5.o;rw [q9,HPX5.o] at h9;simp only [oI,cI] at h9;exact absurd h9.2.1 (by decide)
 have q1:w5.cell? ⟨px,1,none⟩=some (.iface 217 (.int .i64 (b.id:Int))):=aAa HPX5.o;have f1:w5.frozen? ⟨px,1,none⟩=false:=aAb HPX5.o;have HX6:Hid ((fun wx=>wx.cell? ⟨px,2,none⟩=some (.int .i64 d)/\wx.cell? ⟨G,0,none⟩=some (.slice ka kn kc)/\wx.cell? ⟨G,1,none⟩=some (.slice va vn vc)) (w5.setCell ⟨px,1,none⟩ (.iface vt vv))):=by
  have e6:(w5.setCell ⟨px,1,none⟩ (.iface vt vv)).heap[px]?=some (.cells (edV q (.iface vt vv) d n5 gv5 (.slice none 0 0)) 279 (0,0)):=by
   rw [heap_setCell_same _ _ _ _ _ _ HPX5.o];rfl
  have e7:(w5.setCell ⟨px,1,none⟩ (.iface vt vv)).heap[G]?=some (.cells #[.slice ka kn kc,.slice va vn vc] 245 (0,0)):=by
   rw [heap_setCell_other _ _ _ _ (by exact hpxG)];exact HNX5.o
  exact ⟨aAa e6,aAa e7,aAa e7⟩
 refine kC 14 ?_;intro K hK;go_simp;refine hK.out _ _ HX6.o (fun hHeld=>?_);clear hK K
 try simp only [Act.put,siT,scZ,scS]
 refine wpAnyH_done (by kernel_rfl) ?_ _;refine NoPanic.normal ?_;clear hHeld q1 f1 HX0 HX5 HX6;have HEV6:=zH (HEV5.o.root (rv':=.iface vt vv));have HSZ:Hid ((w5.setCell ⟨px,1,none⟩ (.iface vt vv)).heap.size=w5.heap.size):=by show _=_;simp [World.setCell]
 have hzz:G<=wz.heap.size:=by have:=HBX.o.size;omega
 have hz5:wz.heap.size<=w5.heap.size:=HFE5.o.1.size;have HNV6:Hid (NV B G (w5.setCell ⟨px,1,none⟩ (.iface vt vv)) h (putE h (old b) it) SS (.iface vt vv)):=NV.up HEV6.o.2.ft (fun k hk _=>heap_setCell_other _ _ _ _ (by show k≠px;have h8:wz.drew.heap.size<=k:=hk;have h7:wz.drew.heap.size=wz.heap.size:=rfl;omega)) hzz HNV5.o;have hsE:=aCy b HSH.o;have h1e:1<=(itE (putE h (old b) it)).length:=by
  have h9:=(aBz (old b) it hsE).1;rw [aFs] at h9;have:1<=(BT.it b).length:=by
   match h,b,HON.o with
   | 0,b,⟨_,hq⟩=>exact hq.n1
   | h+1,b,⟨_,hq,_⟩=>exact hq.n1
  omega
 have hpxG2:px<G:=by omega
 have HSR:=zH (aDl HEV6.o.1 HNV6.o (isNew_put b it (by
  match h,b,HSH.o with
  | 0,_,_=>exact trivial
  | h+1,_,hq=>exact hq.2.1)) h1e (aG3 _ it hsE) HND5.o HB.o (by rw [HSZ.o];omega) hpxG2 (by rw [HDH.o];omega) (by rw [HDH.o];omega))
 have HFE6:Hid (FE B w (w5.setCell ⟨px,1,none⟩ (.iface vt vv))):=((FE.of (by rw [hG];exact HBX.o) (by rw [hG];exact HB.o)).trans ((FE.of (Below.refl _ _).drew (nT HB.o hzz)).trans HFE5.o)).trans HEV6.o.2;generalize w5.setCell ⟨px,1,none⟩ (.iface vt vv)=w6 at *
 go_wp2_with fail;refine HSR.o.mono ?_;rintro e w7 ⟨rfl,rv7,S7,z1,z2,z3,z4⟩;have HZ1:=zH z1;have HZ2:=zH z2;have HZ3:=zH z3;have HZ4:=zH z4;clear z1 z2 z3 z4 HSR;go_wp2;go_ret;refine ⟨rfl,?_⟩;refine ⟨rv7,S7,by rw [hn5];exact HZ1.o,by rw [hG];exact HZ2.o,HZ3.o,HFE6.o.trans HZ4.o⟩
theorem put_none {n:Int} (hE:EV B w px q (plV 0) 0 n gone) (hB:B<=w.heap.size) (hn0:0<=n) (hn1:n<1000000) (it:It) {ka va:Option Addr} {kn kc vn vc:Nat} (hkn:it.1.length=kn) (hvn:it.2.length=vn) (hk:BK B w ka kn kc it.1) (hv:BK B w va vn vc it.2) :
  Calls prog 155 #[.pointer (some ⟨px,0,none⟩),.agg #[.slice ka kn kc,.slice va vn vc]] w fun e w'=>e=.returned (.bool true)/\EPut B w px q 1 (n+1) gone 0 (.inr [it]) w':=by
 have HBX0:=zH (aAc w (.cells #[.slice ka kn kc,.slice va vn vc] 245));have HNX0:Hid ((w.alloc (.cells #[.slice ka kn kc,.slice va vn vc] 245)).heap[w.heap.size]?=some (.cells #[.slice ka kn kc,.slice va vn vc] 245 (0,0))):=heap_alloc_new w _;have HE0:=zH (hE.later HBX0.o);have HB:=zH hB;have HK:=zH hk;have HV:=zH hv;have hpxs:px<w.heap.size:=by obtain ⟨gv,h1,_⟩:=hE.hx;exact (lO h1)
 clear hE hB hk hv;go_enter func155,ntmps155;go_upto_region 1 with fail;generalize hG:w.heap.size=G at *
 generalize hwz:w.alloc (.cells #[.slice ka kn kc,.slice va vn vc] 245)=wy at *
 clear hwz;obtain ⟨p0,p1,p2,p3,fz⟩:=HE0.o.cellsx;have f1:=fz 1;have f2:=fz 2;have HBL:=zH (aAc wy (.cells #[.slice none 0 0] 267));have HLF:Hid ((wy.alloc (.cells #[.slice none 0 0] 267)).heap[wy.heap.size]?=some (.cells #[.slice none 0 0] 267 (0,0))):=heap_alloc_new wy _;have HE1:=zH ((HE0.o.later HBL.o).turn (rv':=lfP wy.heap.size) (d':=1));obtain ⟨a0,a1,a2,a3,faz⟩:=(HE0.o.later HBL.o).cellsx;have fa1:=faz 1;have fa2:=faz 2;unfold plV at p1 a1;unfold lfP at HE1;clear fz faz;go_upto_region 3 with fail;have hGy:G<wy.heap.size:=(lO HNX0.o);have HSZy:Hid ((wy.alloc (.cells #[.slice none 0 0] 267)).heap.size=wy.heap.size+1):=by show _=_;simp
 have HGLz:Hid ((((wy.alloc (.cells #[.slice none 0 0] 267)).setCell ⟨px,1,none⟩ (.iface 268 (.pointer (some ⟨wy.heap.size,0,none⟩)))).setCell ⟨px,2,none⟩ (.int .i64 1)).heap[wy.heap.size]?=some (.cells #[.slice none 0 0] 267 (0,0))):=by
  show _=_;rw [heap_setCell_other _ _ _ _ (by show wy.heap.size≠px;omega),heap_setCell_other _ _ _ _ (by show wy.heap.size≠px;omega)];exact HLF.o
 have HNXz:Hid ((((wy.alloc (.cells #[.slice none 0 0] 267)).setCell ⟨px,1,none⟩ (.iface 268 (.pointer (some ⟨wy.heap.size,0,none⟩)))).setCell ⟨px,2,none⟩ (.int .i64 1)).heap[G]?=some (.cells #[.slice ka kn kc,.slice va vn vc] 245 (0,0))):=by
  show _=_;rw [heap_setCell_other _ _ _ _ (by show G≠px;omega),heap_setCell_other _ _ _ _ (by show G≠px;omega),HBL.o.block G hGy];exact HNX0.o
 have HSZz:Hid ((((wy.alloc (.cells #[.slice none 0 0] 267)).setCell ⟨px,1,none⟩ (.iface 268 (.pointer (some ⟨wy.heap.size,0,none⟩)))).setCell ⟨px,2,none⟩ (.int .i64 1)).heap.size=wy.heap.size+1):=by
  show _=_;rw [<-HSZy.o];simp [World.setCell]
 have HFEz:Hid (FE B w (((wy.alloc (.cells #[.slice none 0 0] 267)).setCell ⟨px,1,none⟩ (.iface 268 (.pointer (some ⟨wy.heap.size,0,none⟩)))).setCell ⟨px,2,none⟩ (.int .i64 1))):=((FE.of (by rw [hG];exact HBX0.o) (by rw [hG];exact HB.o)).trans (FE.of HBL.o (by have:=HB.o;omega))).trans HE1.o.2;have HEz:=zH HE1.o.1;clear p0 p1 p2 p3 a0 a1 a2 a3 f1 f2 fa1 fa2 HE1 HLF HBL;generalize hgl:wy.heap.size=gl at *
 generalize ((wy.alloc (.cells #[.slice none 0 0] 267)).setCell ⟨px,1,none⟩ (.iface 268 (.pointer (some ⟨gl,0,none⟩)))).setCell ⟨px,2,none⟩ (.int .i64 1)=wz at *
 obtain ⟨p0,p1,p2,p3,fz⟩:=HEz.o.cellsx;have y1:wz.cell? ⟨G,0,none⟩=some (.slice ka kn kc):=aAa HNXz.o;have y2:wz.cell? ⟨G,1,none⟩=some (.slice va vn vc):=aAa HNXz.o;have hBz:B<=wz.heap.size:=by have:=HSZz.o;have:=HB.o;omega
 have HRC:=zH (putIn_nil (ka:=ka) (kn:=kn) (kc:=kc) (va:=va) (vn:=vn) (vc:=vc) hn1 hn0 (HEz.o.later (Below.refl _ _).drew) (show wz.drew.heap[gl]?=_ from HGLz.o) hBz (by have:=HB.o;omega));unfold lfP at HRC;have HX0:Hid ((fun wx=>wx.cell? ⟨px,2,none⟩=some (.int .i64 1)/\wx.cell? ⟨G,0,none⟩=some (.slice ka kn kc)/\wx.cell? ⟨G,1,none⟩=some (.slice va vn vc)) wz.drew):=⟨p2,y1,y2⟩;refine wp_region_noPanic ?_;refine wp_region_held_drew (S:=fun wx=>wx.cell? ⟨px,2,none⟩=some (.int .i64 1)/\wx.cell? ⟨G,0,none⟩=some (.slice ka kn kc)/\wx.cell? ⟨G,1,none⟩=some (.slice va vn vc)) (by kernel_rfl) HX0.o (fun hHeld=>?_);refine kT 0 19 ?_;refine kT 1 20 ?_;refine kT 2 21 ?_;refine kT 3 22 ?_;refine kT 4 23 ?_;refine kT 6 25 ?_;refine kT 7 26 ?_;refine kT 8 27 ?_;refine kT 9 28 ?_;refine kT 10 29 ?_;refine kC 5 ?_;intro K hK;go_simp;refine hK.out _ _ HX0.o (fun hHeld=>?_);clear hK K;refine kC 11 ?_;intro K hK;go_simp;refine HRC.o.mono ?_;rintro e w5 ⟨rfl,⟨gn,c5,h51,h52,h53,h54,h55⟩,hEV5,hEx5⟩;obtain ⟨gv5,hpx5,hgr5⟩:=hEV5.hx;have HPX5:Hid (w5.heap[px]?=some (.cells (edV q (.iface 268 (.pointer (some ⟨gl,0,none⟩))) 1 (n+1) gv5 (.slice none 0 0)) 279 (0,0))):=hpx5;have HNX5:Hid (w5.heap[G]?=some (.cells #[.slice ka kn kc,.slice va vn vc] 245 (0,0))):=(hEx5.2 G (lO HNXz.o) (by simp only [List.mem_cons,List.not_mem_nil,or_false,not_or];omega)).trans HNXz.o;have HEV5:=zH hEV5;have HEX5:=zH hEx5;have H51:=zH h51;have H55:=zH h55;clear hEV5 hEx5 hpx5 hgr5 h51 h55;have HX5:Hid ((fun wx=>wx.cell? ⟨px,2,none⟩=some (.int .i64 1)/\wx.cell? ⟨G,0,none⟩=some (.slice ka kn kc)/\wx.cell? ⟨G,1,none⟩=some (.slice va vn vc)) w5):=⟨aAa HPX5.o,aAa HNX5.o,aAa HNX5.o⟩;clear hHeld;refine hK.out _ _ HX5.o (fun hHeld=>?_);clear hK K;refine kT 12 31 ?_;refine kT 13 32 ?_;have hpxG:G≠px:=by
  intro q9;have h9:=HNX5.o;rw [q9,HPX5.o] at h9;simp only [oI,cI] at h9;exact absurd h9.2.1 (by decide)
 have q1:w5.cell? ⟨px,1,none⟩=some (.iface 268 (.pointer (some ⟨gl,0,none⟩))):=aAa HPX5.o;have f1:w5.frozen? ⟨px,1,none⟩=false:=aAb HPX5.o;have HX6:Hid ((fun wx=>wx.cell? ⟨px,2,none⟩=some (.int .i64 1)/\wx.cell? ⟨G,0,none⟩=some (.slice ka kn kc)/\wx.cell? ⟨G,1,none⟩=some (.slice va vn vc)) (w5.setCell ⟨px,1,none⟩ (.iface 268 (.pointer (some ⟨gl,0,none⟩))))):=by
  have e6:(w5.setCell ⟨px,1,none⟩ (.iface 268 (.pointer (some ⟨gl,0,none⟩)))).heap[px]?=some (.cells (edV q (.iface 268 (.pointer (some ⟨gl,0,none⟩))) 1 (n+1) gv5 (.slice none 0 0)) 279 (0,0)):=by
   rw [heap_setCell_same _ _ _ _ _ _ HPX5.o];rfl
  have e7:(w5.setCell ⟨px,1,none⟩ (.iface 268 (.pointer (some ⟨gl,0,none⟩)))).heap[G]?=some (.cells #[.slice ka kn kc,.slice va vn vc] 245 (0,0)):=by
   rw [heap_setCell_other _ _ _ _ (by exact hpxG)];exact HNX5.o
  exact ⟨aAa e6,aAa e7,aAa e7⟩
 refine kC 14 ?_;intro K hK;go_simp;refine hK.out _ _ HX6.o (fun hHeld=>?_);clear hK K
 try simp only [Act.put,siT,scZ,scS]
 refine wpAnyH_done (by kernel_rfl) ?_ _;refine NoPanic.normal ?_;clear hHeld q1 f1 HX0 HX5 HX6;have HEV6:=zH (HEV5.o.root (rv':=(.iface 268 (.pointer (some ⟨gl,0,none⟩)))));have hpz:px<wz.heap.size:=by have:=HSZz.o;omega
 obtain ⟨gvz,hpxz,_⟩:=HEz.o.hx;have HFE5:Hid (FE B w w5):=HEX5.o.fe (HFEz.o.trans (FE.of (Below.refl _ _).drew hBz)) (show wz.drew.heap[px]?=_ from hpxz) (by omega);have HFT5:Hid (FT B w w5):=HFE5.o.ft;have hk5:=HK.o.ft HFT5.o;have hv5:=HV.o.ft HFT5.o;have HIC:Hid (ItC B w5 [.slice ka kn kc,.slice va vn vc] [it]):=by
  have:=ItC.insert (i:=0) (it:=it) (a:=ka) (b:=va) (c:=kc) (d:=vc) (ItC.nil B w5) (nR _) (by rw [hkn];exact hk5) (by rw [hvn];exact hv5);rw [hkn,hvn] at this;exact this
 have HNV5:Hid (NV B G w5 0 (.inr [it]) [gl] (lfP gl)):=⟨gl,_,rfl,rfl,by omega,H51.o,IV.row (l:=[it]) H55.o HIC.o (by have h9:wz.drew.heap.size<=gn:=h52;have h8:wz.drew.heap.size=wz.heap.size:=rfl;have h7:=HSZz.o;omega) h53 h54⟩;have HNV6:Hid (NV B G (w5.setCell ⟨px,1,none⟩ (.iface 268 (.pointer (some ⟨gl,0,none⟩)))) 0 (.inr [it]) [gl] (lfP gl)):=NV.up HEV6.o.2.ft (fun k hk _=>heap_setCell_other _ _ _ _ (by show k≠px;omega)) (nR _) HNV5.o;have hs5:wz.heap.size<=w5.heap.size:=HEX5.o.1.size;have HSZ:Hid ((w5.setCell ⟨px,1,none⟩ (.iface 268 (.pointer (some ⟨gl,0,none⟩)))).heap.size=w5.heap.size):=by show _=_;simp [World.setCell]
 have HSR:=zH (aDl (h:=0) (e:=.inr [it]) (S:=[gl]) HEV6.o.1 HNV6.o trivial (by show 1<=1;omega) (by show 1<=5;omega) (by simp) HB.o (by rw [HSZ.o];have:=HSZz.o;omega) (by omega) (by omega) (by omega));have HFE6:Hid (FE B w (w5.setCell ⟨px,1,none⟩ (.iface 268 (.pointer (some ⟨gl,0,none⟩))))):=HFE5.o.trans HEV6.o.2;generalize w5.setCell ⟨px,1,none⟩ (.iface 268 (.pointer (some ⟨gl,0,none⟩)))=w6 at *
 go_wp2_with fail;refine HSR.o.mono ?_;rintro e w7 ⟨rfl,rv7,S7,z1,z2,z3,z4⟩;have HZ1:=zH z1;have HZ2:=zH z2;have HZ3:=zH z3;have HZ4:=zH z4;clear z1 z2 z3 z4 HSR;go_wp2;go_ret;refine ⟨rfl,?_⟩;exact ⟨rv7,S7,HZ1.o,by rw [hG];exact HZ2.o,HZ3.o,HFE6.o.trans HZ4.o⟩
theorem bytesOf_leaf {iv:Value} (hg:w.heap[g]?=some (.cells #[iv] 267 (0,0))) (hI:IV B B1 w iv l) (hB:B<=w.heap.size) (hl:l.length<=5) (hok:∀ x∈l,ItOk x) {N:Nat} (hN:(leafB l).length=N) :
  Calls prog 199 #[lfP g] w fun e w'=>∃ v',e=.returned v'/\w'.ownsRow w.heap.size 5 1 v' N (cellsOf (leafB l))/\Below w.heap.size w w':=by
 have t1:=aAx (.pointer (some ⟨g,0,none⟩)) w;have t2:=aEa (.pointer (some ⟨g,0,none⟩)) w;have r0:w.cell? ⟨g,0,none⟩=some iv:=aAa hg;have HI:=zH (aEu 1 l iv hI hB (by omega) hl hok hN);unfold lfP;clear hg hI hok;go_enter func199,ntmps199;go_wp2_with fail;refine HI.o.mono ?_;rintro e w1 ⟨v1,rfl,ho,hb⟩;have HO:=zH ho;have HB:=zH hb;clear ho hb;go_wp2;go_ret;exact ⟨v1,rfl,HO.o,HB.o⟩
theorem aH0:∀ {ids:List Nat},(∀ x∈ids,x<9223372036854775808)->(ids.flatMap enc).length<=ids.length*9
 | [],_=>by simp
 | x::l,h=>by
  have h1:=aH0 (ids:=l) fun y hy=>h y (by simp [hy])
  have h2:=aAj x (by have:=(aAi x (h x (by simp))).1;omega)
  have h3:=(aAi x (h x (by simp))).2.1
  rw [List.flatMap_cons,lA,List.length_cons,h2]
  omega
theorem aGd {gc oc cc:Nat} {iv:Value} {ids:List Nat} (hg:w.heap[g]?=some (.cells #[iv,.slice (some ⟨gc,oc,none⟩) n cc] 251 (0,0))) (hI:IV B B1 w iv l) (hB:B<=w.heap.size) (hl:l.length<=5) (hok:∀ x∈l,ItOk x) (hn:ids.length=n) (hn6:n<=6) (hid:∀ x∈ids,x<9223372036854775808) (hc:∀ (j:Nat) x,ids[j]?=some x->w.cell? ⟨gc,oc+j,none⟩=some (plV x)) {N:Nat} (hN:(branB l ids).length=N) :
  Calls prog 199 #[brP g] w fun e w'=>∃ v',e=.returned v'/\w'.ownsRow w.heap.size 5 1 v' N (cellsOf (branB l ids))/\Below w.heap.size w w':=by
 have t1:=aAy (.pointer (some ⟨g,0,none⟩)) w;have r0:w.cell? ⟨g,0,none⟩=some iv:=aAa hg;have r1:w.cell? ⟨g,1,none⟩=some (.slice (some ⟨gc,oc,none⟩) n cc):=aAa hg;obtain ⟨M,hM⟩:∃ M,(itsB 2 l).length=M:=⟨_,rfl⟩;have HI:=zH (aEu 2 l iv hI hB (by omega) hl hok hM);have HHG:=zH hg;have HC:=zH hc;have HID:=zH hid;have HNN:=zH hN;have HL:=zH hn;have HMM:=zH hM;have HMB:Hid (M<=20000):=by
  show _<=_;rw [<-hM];unfold itsB;have h1:=aFa hok;have h2:=aAj 2 (by have:=(aAi 2 (by omega)).1;omega);have h3:=aAj l.length (by have:=(aAi l.length (by omega)).1;omega);have h4:=(aAi 2 (by omega)).2.1;have h5:=(aAi l.length (by omega)).2.1;rw [lA,lA,h2,h3];omega
 unfold brP;clear hg hI hok hc hid hN hn hM;generalize hib:itsB 2 l=ib at *
 have HIB:=zH hib;clear hib;go_enter func199,ntmps199;go_wp2_with fail;refine HI.o.mono ?_;rintro e w1 ⟨v1,rfl,ho1,hb1⟩;have HO1:=zH ho1;have HB1:=zH hb1;have q1:w1.cell? ⟨g,1,none⟩=some (.slice (some ⟨gc,oc,none⟩) n cc):=(hb1.cell (p:=⟨g,1,none⟩) (block_lt_of_cell r1)).trans r1;clear ho1 hb1 r0 r1 t1 HI;go_wp2_with fail;go_loopw [31,5] (fun i vb wx=>∃ j:Nat,j<=n/\i=.int .i64 j/\wx.ownsRow w.heap.size 5 1 vb (M+(posP ids j).length) (cellsOf (ib++posP ids j))/\Below w.heap.size w wx) (fun i _ _=>n-(intOf i).toNat)
 case atStart=>exact ⟨0,by omega,rfl,by simp only [posP,List.take_zero,List.flatMap_nil,List.append_nil,List.length_nil,Nat.add_zero];exact HO1.o,HB1.o⟩
 case round =>
  clear HO1 HB1 q1;obtain ⟨j,hj,rfl,hO,hBl⟩:=hrel;have HO:=zH hO;have HBl:=zH hBl;obtain ⟨va,vc,rfl⟩:=aAg hO;clear hO hBl;by_cases hjn:j<n
  ·have x1:(j:Int)<(n:Int):=by omega
   obtain ⟨x,hx⟩:∃ x,ids[j]?=some x:=⟨_,gE (by rw [HL.o];exact hjn)⟩;have hx63:=HID.o x (mG hx);have c0:=HC.o j x hx;have r2:wr.cell? ⟨gc,oc+j,none⟩=some (.iface 217 (.int .i64 (x:Int))):=(HBl.o.cell (p:=⟨gc,oc+j,none⟩) (block_lt_of_cell c0)).trans c0;have ta:=aF5 (.int .i64 (x:Int)) wr;have HU:=zH (aA9 x wr hx63);have HPL:=zH (posP_succ hx);have HPB:Hid ((posP ids j).length<=100):=by
    show _<=_;have h1:=aH0 (ids:=ids.take j) fun y hy=>HID.o y (List.mem_of_mem_take hy)
    rw [List.length_take] at h1;have:=HL.o;unfold posP;omega
   have HGX:=zH (aAi x hx63).2.1;have HEX:=zH (aAj x (by have:=(aAi x hx63).1;omega));have HEB:=zH (aAw x);clear hx c0;generalize posP ids j=P at *
   go_wp2_with fail;refine HU.o.mono ?_;rintro e w5 ⟨g5,c5,rfl,ho5,hb5⟩;have HO5:=zH (aAh HO.o hb5);have HBS5:=zH (BS.ofOwns ho5 (by have:=HGX.o;omega) HEB.o);have HB5:=zH (HBl.o.trans (hb5.mono HBl.o.size));clear ho5 hb5 r2 ta HU;go_wp2_with (at_builtin;refine aAt rfl (.tmp 35) (.tmp 38) rfl w.heap.size _ (M+P.length) (ib++P) rfl HO5.o (some ⟨g5,0,none⟩) (grp x) c5 (enc x) rfl HBS5.o (by have:=HGX.o;have:=HPB.o;have:=HMB.o;omega) w HB5.o HB5.o.size ?_;intro v6 w6 ho6 hb6 hs6;obtain ⟨a6,c6,rfl⟩:=aAg ho6;have HO6:=zH ho6;have HB6:=zH hb6;clear ho6 hb6 hs6);go_roundw
   case rel =>
    refine ⟨j+1,by omega,by go_num,?_,HB6.o⟩;rw [HPL.o,lA,HEX.o,<-Nat.add_assoc,<-List.append_assoc];exact HO6.o
   case measure=>simp [intOf];omega
  ·have x1:¬ (j:Int)<(n:Int):=by omega
   have e:j=n:=by omega
   subst e;go_wp2;go_ret;have e9:posP ids j=ids.flatMap enc:=by unfold posP;rw [List.take_of_length_le (Nat.le_of_eq HL.o)]
   have h8:=HO.o;rw [e9] at h8;have e7:branB l ids=ib++ids.flatMap enc:=by unfold branB;rw [HIB.o]
   have e6:M+(ids.flatMap enc).length=N:=by rw [<-HNN.o,e7,lA,HMM.o]
   rw [e6] at h8;refine ⟨_,rfl,?_,HBl.o⟩;show wr.ownsRow w.heap.size 5 1 (.slice va (M+(posP ids j).length) vc) N (cellsOf (branB l ids));rw [e7,e9,e6];exact h8
end Go.Proofs.YtdfjjhlhnfindaaGreat
