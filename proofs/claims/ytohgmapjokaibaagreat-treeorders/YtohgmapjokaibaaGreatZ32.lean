import Derived.Test.YtohgmapjokaibaaGreatZ31
set_option maxRecDepth 100000
set_option maxHeartbeats 16000000
set_option linter.unusedVariables false
namespace Go.Proofs.YtohgmapjokaibaaGreat
open Go.RowKit
def cntN (n:Int) (b:Bool):Int:=if b then n+1 else n
def EPut (B:Nat) (w:World) (px q:Nat) (d n:Int) (gone:List Nat) (h:Nat) (e:ED h) (w':World):Prop:=∃ rv S,EV B w' px q rv (if 4<(itE e).length then d+1 else d) n gone∧NV B w.heap.size w' (rootE h e).1 (rootE h e).2 S rv∧S.Nodup∧FE B w w'
theorem put_some [Gd] {B p q px h:Nat} {s:DS} {t:PS} {w:World} {d n:Int} {gone:List Nat} (hg0:True) (hlf:s.life=t.life) (hdn:s.down=false) (b:BT h) (hE:EV B w px q (plV b.id) d n gone) (hdh:d=((h+1:Nat):Int)) (hST:ST B p q s t w) (hB:B≤w.heap.size) (hlen:gone.length+h<900) (hn0:0≤n) (hn1:n<1000000) (hb:OnD s t h b) (hsh:ShB h b) (it:It) {ka va:Option Addr} {kn kc vn vc:Nat} (hkn:it.1.length=kn) (hvn:it.2.length=vn) (hk:BK B w ka kn kc it.1) (hv:BK B w va vn vc it.2) :
  Calls Tryz.prog 18 #[.pointer (some ⟨px,0,none⟩),.agg #[.slice ka kn kc,.slice va vn vc]] w fun e w'=>e=.returned (.bool true)∧EPut B w px q d (cntN n (nwB h b it.1)) (gone++pthB h b it.1) h (putE h (old b) it) w':=by
 have HPX:=hide (hE.cellsx)
 obtain ⟨p0,p1,p2',p3,fz⟩:=HPX.out
 have HBX:=hide (aAb w (.cells #[.slice ka kn kc,.slice va vn vc] 50))
 have HNX:Hid ((w.alloc (.cells #[.slice ka kn kc,.slice va vn vc] 50)).heap[w.heap.size]?=some (.cells #[.slice ka kn kc,.slice va vn vc] 50 (0,0))):=heap_alloc_new w _
 have HE1:=hide (hE.later HBX.out)
 have HB:=hide hB
 have HK:=hide hk
 have HV:=hide hv
 have HST:=hide hST
 have HON:=hide hb
 have HSH:=hide hsh
 have hpxs:px<w.heap.size:=by obtain ⟨gv,h1,_⟩:=hE.hx;exact (lO h1)
 have hd:(d == 0)=false:=by simp;omega
 have HRC:=hide (putIn_ok (B:=B) (p:=p) (q:=q) (px:=px) hg0 hlf hdn h (w.alloc (.cells #[.slice ka kn kc,.slice va vn vc] 50)).drew (plV b.id) d n gone b it ka va kc vc ((hST.later HBX.out).later (Below.refl _ _).drew) (nT hB HBX.out.size) (HE1.out.later (Below.refl _ _).drew) hlen hn0 hn1 hb hsh (by rw [hkn];exact (hk.later HBX.out hB).later (Below.refl _ _).drew (nT hB HBX.out.size)) (by rw [hvn];exact (hv.later HBX.out hB).later (Below.refl _ _).drew (nT hB HBX.out.size)))
 rw [hkn,hvn,←hdh] at HRC
 unfold plV at HRC
 have HDH:=hide hdh
 clear hE hB hk hv hST hb hsh p0 p1 p2' p3 fz HPX hdh
 go_enter Tryz.func18,Tryz.ntmps18
 go_upto_region 1 with fail
 generalize hG:w.heap.size=G at *
 generalize hwz:w.alloc (.cells #[.slice ka kn kc,.slice va vn vc] 50)=wz at *
 clear hwz
 obtain ⟨p0,p1,p2,p3,fz⟩:=HE1.out.cellsx
 unfold plV at p1
 have y1:wz.cell? ⟨G,0,none⟩=some (.slice ka kn kc):=aAa HNX.out
 have y2:wz.cell? ⟨G,1,none⟩=some (.slice va vn vc):=aAa HNX.out
 go_upto_region 3 with fail
 have HX0:Hid ((fun wx=>wx.cell? ⟨px,2,none⟩=some (.int .i64 d)∧wx.cell? ⟨G,0,none⟩=some (.slice ka kn kc)∧wx.cell? ⟨G,1,none⟩=some (.slice va vn vc)) wz.drew):=⟨p2,y1,y2⟩
 refine wp_region_noPanic ?_
 refine wp_region_held_drew (S:=fun wx=>wx.cell? ⟨px,2,none⟩=some (.int .i64 d)∧wx.cell? ⟨G,0,none⟩=some (.slice ka kn kc)∧wx.cell? ⟨G,1,none⟩=some (.slice va vn vc)) (by kernel_rfl) HX0.out (fun hHeld=>?_)
 refine wpAnyH_tk 0 19 ?_
 refine wpAnyH_tk 1 20 ?_
 refine wpAnyH_tk 2 21 ?_
 refine wpAnyH_tk 3 22 ?_
 refine wpAnyH_tk 4 23 ?_
 refine wpAnyH_tk 6 25 ?_
 refine wpAnyH_tk 7 26 ?_
 refine wpAnyH_tk 8 27 ?_
 refine wpAnyH_tk 9 28 ?_
 refine wpAnyH_tk 10 29 ?_
 refine wpAnyH_cm 5 ?_;intro K hK
 go_simp
 refine hK.out _ _ HX0.out (fun hHeld=>?_)
 clear hK K
 refine wpAnyH_cm 11 ?_;intro K hK
 go_simp
 refine HRC.out.mono ?_
 rintro e w5 ⟨v5,rfl,⟨SS,hNV5,hND5⟩,hEV5,hFE5⟩
 obtain ⟨⟨vt,vv⟩,hve⟩:=NV.cells hNV5
 subst hve
 obtain ⟨gv5,hpx5,hgr5⟩:=hEV5.hx
 have hn5:(if nwB h b it.1 then n+1 else n)=cntN n (nwB h b it.1):=rfl
 rw [hn5] at hEV5 hpx5
 clear hn5
 generalize hn5:cntN n (nwB h b it.1)=n5 at *
 have HPX5:Hid (w5.heap[px]?=some (.cells (edV q (.iface 89 (.int .i64 (b.id:Int))) d n5 gv5 (.slice none 0 0)) 94 (0,0))):=hpx5
 have HNX5:Hid (w5.heap[G]?=some (.cells #[.slice ka kn kc,.slice va vn vc] 50 (0,0))):=hFE5.2 _ _ _ _ (show wz.drew.heap[G]?=_ from HNX.out) (by decide) (by decide)
 have HNV5:=hide hNV5
 have HND5:=hide hND5
 have HEV5:=hide hEV5
 have HFE5:=hide hFE5
 clear hNV5 hND5 hEV5 hFE5 hpx5 hgr5
 have HX5:Hid ((fun wx=>wx.cell? ⟨px,2,none⟩=some (.int .i64 d)∧wx.cell? ⟨G,0,none⟩=some (.slice ka kn kc)∧wx.cell? ⟨G,1,none⟩=some (.slice va vn vc)) w5):=⟨aAa HPX5.out,aAa HNX5.out,aAa HNX5.out⟩
 clear hHeld
 refine hK.out _ _ HX5.out (fun hHeld=>?_)
 clear hK K
 refine wpAnyH_tk 12 31 ?_
 refine wpAnyH_tk 13 32 ?_
 have hpxG:G≠px:=by
  intro q9
  have h9:=HNX5.out
  rw [q9,HPX5.out] at h9
  simp only [oI,cI] at h9
  exact absurd h9.2.1 (by decide)
 have q1:w5.cell? ⟨px,1,none⟩=some (.iface 89 (.int .i64 (b.id:Int))):=aAa HPX5.out
 have f1:w5.frozen? ⟨px,1,none⟩=false:=aAc HPX5.out
 have HX6:Hid ((fun wx=>wx.cell? ⟨px,2,none⟩=some (.int .i64 d)∧wx.cell? ⟨G,0,none⟩=some (.slice ka kn kc)∧wx.cell? ⟨G,1,none⟩=some (.slice va vn vc)) (w5.setCell ⟨px,1,none⟩ (.iface vt vv))):=by
  have e6:(w5.setCell ⟨px,1,none⟩ (.iface vt vv)).heap[px]?=some (.cells (edV q (.iface vt vv) d n5 gv5 (.slice none 0 0)) 94 (0,0)):=by
   rw [heap_setCell_same _ _ _ _ _ _ HPX5.out];rfl
  have e7:(w5.setCell ⟨px,1,none⟩ (.iface vt vv)).heap[G]?=some (.cells #[.slice ka kn kc,.slice va vn vc] 50 (0,0)):=by
   rw [heap_setCell_other _ _ _ _ (by exact hpxG)];exact HNX5.out
  exact ⟨aAa e6,aAa e7,aAa e7⟩
 refine wpAnyH_cm 14 ?_;intro K hK
 go_simp
 refine hK.out _ _ HX6.out (fun hHeld=>?_)
 clear hK K
 try simp only [Act.put,siT,scZ,scS]
 refine wpAnyH_done (by kernel_rfl) ?_ _
 refine NoPanic.normal ?_
 clear hHeld q1 f1 HX0 HX5 HX6
 have HEV6:=hide (HEV5.out.root (rv':=.iface vt vv))
 have HSZ:Hid ((w5.setCell ⟨px,1,none⟩ (.iface vt vv)).heap.size=w5.heap.size):=by show _=_;simp [World.setCell]
 have hzz:G≤wz.heap.size:=by have:=HBX.out.size;omega
 have hz5:wz.heap.size≤w5.heap.size:=HFE5.out.1.size
 have HNV6:Hid (NV B G (w5.setCell ⟨px,1,none⟩ (.iface vt vv)) h (putE h (old b) it) SS (.iface vt vv)):=NV.up HEV6.out.2.ft (fun k hk _=>heap_setCell_other _ _ _ _ (by show k≠px;have h8:wz.drew.heap.size≤k:=hk;have h7:wz.drew.heap.size=wz.heap.size:=rfl;omega)) hzz HNV5.out
 have hsE:=aBg b HSH.out
 have h1e:1≤(itE (putE h (old b) it)).length:=by
  have h9:=(aB5 (old b) it hsE).1
  rw [aCd] at h9
  have:1≤(BT.it b).length:=by
   match h,b,HON.out with
   | 0,b,⟨_,hq⟩=>exact hq.n1
   | h+1,b,⟨_,hq,_⟩=>exact hq.n1
  omega
 have hpxG2:px<G:=by omega
 have HSR:=hide (aB1 HEV6.out.1 HNV6.out (isNew_put b it (by
  match h,b,HSH.out with
  | 0,_,_=>exact trivial
  | h+1,_,hq=>exact hq.2.1)) h1e (aG9 _ it hsE) HND5.out HB.out (by rw [HSZ.out];omega) hpxG2 (by rw [HDH.out];omega) (by rw [HDH.out];omega))
 have HFE6:Hid (FE B w (w5.setCell ⟨px,1,none⟩ (.iface vt vv))):=((FE.of (by rw [hG];exact HBX.out) (by rw [hG];exact HB.out)).trans ((FE.of (Below.refl _ _).drew (nT HB.out hzz)).trans HFE5.out)).trans HEV6.out.2
 generalize w5.setCell ⟨px,1,none⟩ (.iface vt vv)=w6 at *
 go_wp2_with fail
 refine HSR.out.mono ?_
 rintro e w7 ⟨rfl,rv7,S7,z1,z2,z3,z4⟩
 have HZ1:=hide z1
 have HZ2:=hide z2
 have HZ3:=hide z3
 have HZ4:=hide z4
 clear z1 z2 z3 z4 HSR
 go_wp2
 go_ret
 refine ⟨rfl,?_⟩
 refine ⟨rv7,S7,by rw [hn5];exact HZ1.out,by rw [hG];exact HZ2.out,HZ3.out,HFE6.out.trans HZ4.out⟩
theorem put_none {B px q:Nat} {w:World} {n:Int} {gone:List Nat} (hE:EV B w px q (plV 0) 0 n gone) (hB:B≤w.heap.size) (hn0:0≤n) (hn1:n<1000000) (it:It) {ka va:Option Addr} {kn kc vn vc:Nat} (hkn:it.1.length=kn) (hvn:it.2.length=vn) (hk:BK B w ka kn kc it.1) (hv:BK B w va vn vc it.2) :
  Calls Tryz.prog 18 #[.pointer (some ⟨px,0,none⟩),.agg #[.slice ka kn kc,.slice va vn vc]] w fun e w'=>e=.returned (.bool true)∧EPut B w px q 1 (n+1) gone 0 (.inr [it]) w':=by
 have HBX0:=hide (aAb w (.cells #[.slice ka kn kc,.slice va vn vc] 50))
 have HNX0:Hid ((w.alloc (.cells #[.slice ka kn kc,.slice va vn vc] 50)).heap[w.heap.size]?=some (.cells #[.slice ka kn kc,.slice va vn vc] 50 (0,0))):=heap_alloc_new w _
 have HE0:=hide (hE.later HBX0.out)
 have HB:=hide hB
 have HK:=hide hk
 have HV:=hide hv
 have hpxs:px<w.heap.size:=by obtain ⟨gv,h1,_⟩:=hE.hx;exact (lO h1)
 clear hE hB hk hv
 go_enter Tryz.func18,Tryz.ntmps18
 go_upto_region 1 with fail
 generalize hG:w.heap.size=G at *
 generalize hwz:w.alloc (.cells #[.slice ka kn kc,.slice va vn vc] 50)=wy at *
 clear hwz
 obtain ⟨p0,p1,p2,p3,fz⟩:=HE0.out.cellsx
 have f1:=fz 1
 have f2:=fz 2
 have HBL:=hide (aAb wy (.cells #[.slice none 0 0] 101))
 have HLF:Hid ((wy.alloc (.cells #[.slice none 0 0] 101)).heap[wy.heap.size]?=some (.cells #[.slice none 0 0] 101 (0,0))):=heap_alloc_new wy _
 have HE1:=hide ((HE0.out.later HBL.out).turn (rv':=lfP wy.heap.size) (d':=1))
 obtain ⟨a0,a1,a2,a3,faz⟩:=(HE0.out.later HBL.out).cellsx
 have fa1:=faz 1
 have fa2:=faz 2
 unfold plV at p1 a1
 unfold lfP at HE1
 clear fz faz
 go_upto_region 3 with fail
 have hGy:G<wy.heap.size:=(lO HNX0.out)
 have HSZy:Hid ((wy.alloc (.cells #[.slice none 0 0] 101)).heap.size=wy.heap.size+1):=by show _=_;simp
 have HGLz:Hid ((((wy.alloc (.cells #[.slice none 0 0] 101)).setCell ⟨px,1,none⟩ (.iface 98 (.pointer (some ⟨wy.heap.size,0,none⟩)))).setCell ⟨px,2,none⟩ (.int .i64 1)).heap[wy.heap.size]?=some (.cells #[.slice none 0 0] 101 (0,0))):=by
  show _=_
  rw [heap_setCell_other _ _ _ _ (by show wy.heap.size≠px;omega),heap_setCell_other _ _ _ _ (by show wy.heap.size≠px;omega)]
  exact HLF.out
 have HNXz:Hid ((((wy.alloc (.cells #[.slice none 0 0] 101)).setCell ⟨px,1,none⟩ (.iface 98 (.pointer (some ⟨wy.heap.size,0,none⟩)))).setCell ⟨px,2,none⟩ (.int .i64 1)).heap[G]?=some (.cells #[.slice ka kn kc,.slice va vn vc] 50 (0,0))):=by
  show _=_
  rw [heap_setCell_other _ _ _ _ (by show G≠px;omega),heap_setCell_other _ _ _ _ (by show G≠px;omega),HBL.out.block G hGy]
  exact HNX0.out
 have HSZz:Hid ((((wy.alloc (.cells #[.slice none 0 0] 101)).setCell ⟨px,1,none⟩ (.iface 98 (.pointer (some ⟨wy.heap.size,0,none⟩)))).setCell ⟨px,2,none⟩ (.int .i64 1)).heap.size=wy.heap.size+1):=by
  show _=_
  rw [←HSZy.out]
  simp [World.setCell]
 have HFEz:Hid (FE B w (((wy.alloc (.cells #[.slice none 0 0] 101)).setCell ⟨px,1,none⟩ (.iface 98 (.pointer (some ⟨wy.heap.size,0,none⟩)))).setCell ⟨px,2,none⟩ (.int .i64 1))):=((FE.of (by rw [hG];exact HBX0.out) (by rw [hG];exact HB.out)).trans (FE.of HBL.out (by have:=HB.out;omega))).trans HE1.out.2
 have HEz:=hide HE1.out.1
 clear p0 p1 p2 p3 a0 a1 a2 a3 f1 f2 fa1 fa2 HE1 HLF HBL
 generalize hgl:wy.heap.size=gl at *
 generalize ((wy.alloc (.cells #[.slice none 0 0] 101)).setCell ⟨px,1,none⟩ (.iface 98 (.pointer (some ⟨gl,0,none⟩)))).setCell ⟨px,2,none⟩ (.int .i64 1)=wz at *
 obtain ⟨p0,p1,p2,p3,fz⟩:=HEz.out.cellsx
 have y1:wz.cell? ⟨G,0,none⟩=some (.slice ka kn kc):=aAa HNXz.out
 have y2:wz.cell? ⟨G,1,none⟩=some (.slice va vn vc):=aAa HNXz.out
 have hBz:B≤wz.heap.size:=by have:=HSZz.out;have:=HB.out;omega
 have HRC:=hide (putIn_nil (ka:=ka) (kn:=kn) (kc:=kc) (va:=va) (vn:=vn) (vc:=vc) hn1 hn0 (HEz.out.later (Below.refl _ _).drew) (show wz.drew.heap[gl]?=_ from HGLz.out) hBz (by have:=HB.out;omega))
 unfold lfP at HRC
 have HX0:Hid ((fun wx=>wx.cell? ⟨px,2,none⟩=some (.int .i64 1)∧wx.cell? ⟨G,0,none⟩=some (.slice ka kn kc)∧wx.cell? ⟨G,1,none⟩=some (.slice va vn vc)) wz.drew):=⟨p2,y1,y2⟩
 refine wp_region_noPanic ?_
 refine wp_region_held_drew (S:=fun wx=>wx.cell? ⟨px,2,none⟩=some (.int .i64 1)∧wx.cell? ⟨G,0,none⟩=some (.slice ka kn kc)∧wx.cell? ⟨G,1,none⟩=some (.slice va vn vc)) (by kernel_rfl) HX0.out (fun hHeld=>?_)
 refine wpAnyH_tk 0 19 ?_
 refine wpAnyH_tk 1 20 ?_
 refine wpAnyH_tk 2 21 ?_
 refine wpAnyH_tk 3 22 ?_
 refine wpAnyH_tk 4 23 ?_
 refine wpAnyH_tk 6 25 ?_
 refine wpAnyH_tk 7 26 ?_
 refine wpAnyH_tk 8 27 ?_
 refine wpAnyH_tk 9 28 ?_
 refine wpAnyH_tk 10 29 ?_
 refine wpAnyH_cm 5 ?_;intro K hK
 go_simp
 refine hK.out _ _ HX0.out (fun hHeld=>?_)
 clear hK K
 refine wpAnyH_cm 11 ?_;intro K hK
 go_simp
 refine HRC.out.mono ?_
 rintro e w5 ⟨rfl,⟨gn,c5,h51,h52,h53,h54,h55⟩,hEV5,hEx5⟩
 obtain ⟨gv5,hpx5,hgr5⟩:=hEV5.hx
 have HPX5:Hid (w5.heap[px]?=some (.cells (edV q (.iface 98 (.pointer (some ⟨gl,0,none⟩))) 1 (n+1) gv5 (.slice none 0 0)) 94 (0,0))):=hpx5
 have HNX5:Hid (w5.heap[G]?=some (.cells #[.slice ka kn kc,.slice va vn vc] 50 (0,0))):=(hEx5.2 G (lO HNXz.out) (by simp only [List.mem_cons,List.not_mem_nil,or_false,not_or];omega)).trans HNXz.out
 have HEV5:=hide hEV5
 have HEX5:=hide hEx5
 have H51:=hide h51
 have H55:=hide h55
 clear hEV5 hEx5 hpx5 hgr5 h51 h55
 have HX5:Hid ((fun wx=>wx.cell? ⟨px,2,none⟩=some (.int .i64 1)∧wx.cell? ⟨G,0,none⟩=some (.slice ka kn kc)∧wx.cell? ⟨G,1,none⟩=some (.slice va vn vc)) w5):=⟨aAa HPX5.out,aAa HNX5.out,aAa HNX5.out⟩
 clear hHeld
 refine hK.out _ _ HX5.out (fun hHeld=>?_)
 clear hK K
 refine wpAnyH_tk 12 31 ?_
 refine wpAnyH_tk 13 32 ?_
 have hpxG:G≠px:=by
  intro q9
  have h9:=HNX5.out
  rw [q9,HPX5.out] at h9
  simp only [oI,cI] at h9
  exact absurd h9.2.1 (by decide)
 have q1:w5.cell? ⟨px,1,none⟩=some (.iface 98 (.pointer (some ⟨gl,0,none⟩))):=aAa HPX5.out
 have f1:w5.frozen? ⟨px,1,none⟩=false:=aAc HPX5.out
 have HX6:Hid ((fun wx=>wx.cell? ⟨px,2,none⟩=some (.int .i64 1)∧wx.cell? ⟨G,0,none⟩=some (.slice ka kn kc)∧wx.cell? ⟨G,1,none⟩=some (.slice va vn vc)) (w5.setCell ⟨px,1,none⟩ (.iface 98 (.pointer (some ⟨gl,0,none⟩))))):=by
  have e6:(w5.setCell ⟨px,1,none⟩ (.iface 98 (.pointer (some ⟨gl,0,none⟩)))).heap[px]?=some (.cells (edV q (.iface 98 (.pointer (some ⟨gl,0,none⟩))) 1 (n+1) gv5 (.slice none 0 0)) 94 (0,0)):=by
   rw [heap_setCell_same _ _ _ _ _ _ HPX5.out];rfl
  have e7:(w5.setCell ⟨px,1,none⟩ (.iface 98 (.pointer (some ⟨gl,0,none⟩)))).heap[G]?=some (.cells #[.slice ka kn kc,.slice va vn vc] 50 (0,0)):=by
   rw [heap_setCell_other _ _ _ _ (by exact hpxG)];exact HNX5.out
  exact ⟨aAa e6,aAa e7,aAa e7⟩
 refine wpAnyH_cm 14 ?_;intro K hK
 go_simp
 refine hK.out _ _ HX6.out (fun hHeld=>?_)
 clear hK K
 try simp only [Act.put,siT,scZ,scS]
 refine wpAnyH_done (by kernel_rfl) ?_ _
 refine NoPanic.normal ?_
 clear hHeld q1 f1 HX0 HX5 HX6
 have HEV6:=hide (HEV5.out.root (rv':=(.iface 98 (.pointer (some ⟨gl,0,none⟩)))))
 have hpz:px<wz.heap.size:=by have:=HSZz.out;omega
 obtain ⟨gvz,hpxz,_⟩:=HEz.out.hx
 have HFE5:Hid (FE B w w5):=HEX5.out.fe (HFEz.out.trans (FE.of (Below.refl _ _).drew hBz)) (show wz.drew.heap[px]?=_ from hpxz) (by omega)
 have HFT5:Hid (FT B w w5):=HFE5.out.ft
 have hk5:=HK.out.ft HFT5.out
 have hv5:=HV.out.ft HFT5.out
 have HIC:Hid (ItC B w5 [.slice ka kn kc,.slice va vn vc] [it]):=by
  have:=ItC.insert (i:=0) (it:=it) (a:=ka) (b:=va) (c:=kc) (d:=vc) (ItC.nil B w5) (nR _) (by rw [hkn];exact hk5) (by rw [hvn];exact hv5)
  rw [hkn,hvn] at this
  exact this
 have HNV5:Hid (NV B G w5 0 (.inr [it]) [gl] (lfP gl)):=⟨gl,_,rfl,rfl,by omega,H51.out,IV.row (l:=[it]) H55.out HIC.out (by have h9:wz.drew.heap.size≤gn:=h52;have h8:wz.drew.heap.size=wz.heap.size:=rfl;have h7:=HSZz.out;omega) h53 h54⟩
 have HNV6:Hid (NV B G (w5.setCell ⟨px,1,none⟩ (.iface 98 (.pointer (some ⟨gl,0,none⟩)))) 0 (.inr [it]) [gl] (lfP gl)):=NV.up HEV6.out.2.ft (fun k hk _=>heap_setCell_other _ _ _ _ (by show k≠px;omega)) (nR _) HNV5.out
 have hs5:wz.heap.size≤w5.heap.size:=HEX5.out.1.size
 have HSZ:Hid ((w5.setCell ⟨px,1,none⟩ (.iface 98 (.pointer (some ⟨gl,0,none⟩)))).heap.size=w5.heap.size):=by show _=_;simp [World.setCell]
 have HSR:=hide (aB1 (h:=0) (e:=.inr [it]) (S:=[gl]) HEV6.out.1 HNV6.out trivial (by show 1≤1;omega) (by show 1≤5;omega) (by simp) HB.out (by rw [HSZ.out];have:=HSZz.out;omega) (by omega) (by omega) (by omega))
 have HFE6:Hid (FE B w (w5.setCell ⟨px,1,none⟩ (.iface 98 (.pointer (some ⟨gl,0,none⟩))))):=HFE5.out.trans HEV6.out.2
 generalize w5.setCell ⟨px,1,none⟩ (.iface 98 (.pointer (some ⟨gl,0,none⟩)))=w6 at *
 go_wp2_with fail
 refine HSR.out.mono ?_
 rintro e w7 ⟨rfl,rv7,S7,z1,z2,z3,z4⟩
 have HZ1:=hide z1
 have HZ2:=hide z2
 have HZ3:=hide z3
 have HZ4:=hide z4
 clear z1 z2 z3 z4 HSR
 go_wp2
 go_ret
 refine ⟨rfl,?_⟩
 exact ⟨rv7,S7,HZ1.out,by rw [hG];exact HZ2.out,HZ3.out,HFE6.out.trans HZ4.out⟩
theorem bytesOf_leaf {B B1 g:Nat} {w:World} {iv:Value} {l:List It} (hg:w.heap[g]?=some (.cells #[iv] 101 (0,0))) (hI:IV B B1 w iv l) (hB:B≤w.heap.size) (hl:l.length≤5) (hok:∀ x∈l,ItOk x) {N:Nat} (hN:(leafB l).length=N) :
  Calls Tryz.prog 71 #[lfP g] w fun e w'=>∃ v',e=.returned v'∧w'.ownsRow w.heap.size 5 1 v' N (cellsOf (leafB l))∧Below w.heap.size w w':=by
 have t1:=aAm (.pointer (some ⟨g,0,none⟩)) w
 have t2:=aCi (.pointer (some ⟨g,0,none⟩)) w
 have r0:w.cell? ⟨g,0,none⟩=some iv:=aAa hg
 have HI:=hide (aE0 1 l iv hI hB (by omega) hl hok hN)
 unfold lfP
 clear hg hI hok
 go_enter Tryz.func71,Tryz.ntmps71
 go_wp2_with fail
 refine HI.out.mono ?_
 rintro e w1 ⟨v1,rfl,ho,hb⟩
 have HO:=hide ho
 have HB:=hide hb
 clear ho hb
 go_wp2
 go_ret
 exact ⟨v1,rfl,HO.out,HB.out⟩
theorem aH3:∀ {ids:List Nat},(∀ x∈ids,x<9223372036854775808)→(ids.flatMap enc).length≤ids.length*9
 | [],_=>by simp
 | x::l,h=>by
  have h1:=aH3 (ids:=l) fun y hy=>h y (by simp [hy])
  have h2:=aAo x (by have:=(aAl x (h x (by simp))).1;omega)
  have h3:=(aAl x (h x (by simp))).2.1
  rw [List.flatMap_cons,lA,List.length_cons,h2]
  omega
theorem aGj {B B1 g gc oc cc n:Nat} {w:World} {iv:Value} {l:List It} {ids:List Nat} (hg:w.heap[g]?=some (.cells #[iv,.slice (some ⟨gc,oc,none⟩) n cc] 134 (0,0))) (hI:IV B B1 w iv l) (hB:B≤w.heap.size) (hl:l.length≤5) (hok:∀ x∈l,ItOk x) (hn:ids.length=n) (hn6:n≤6) (hid:∀ x∈ids,x<9223372036854775808) (hc:∀ (j:Nat) x,ids[j]?=some x→w.cell? ⟨gc,oc+j,none⟩=some (plV x)) {N:Nat} (hN:(branB l ids).length=N) :
  Calls Tryz.prog 71 #[brP g] w fun e w'=>∃ v',e=.returned v'∧w'.ownsRow w.heap.size 5 1 v' N (cellsOf (branB l ids))∧Below w.heap.size w w':=by
 have t1:=aAk (.pointer (some ⟨g,0,none⟩)) w
 have r0:w.cell? ⟨g,0,none⟩=some iv:=aAa hg
 have r1:w.cell? ⟨g,1,none⟩=some (.slice (some ⟨gc,oc,none⟩) n cc):=aAa hg
 obtain ⟨M,hM⟩:∃ M,(itsB 2 l).length=M:=⟨_,rfl⟩
 have HI:=hide (aE0 2 l iv hI hB (by omega) hl hok hM)
 have HHG:=hide hg
 have HC:=hide hc
 have HID:=hide hid
 have HNN:=hide hN
 have HL:=hide hn
 have HMM:=hide hM
 have HMB:Hid (M≤20000):=by
  show _≤_
  rw [←hM]
  unfold itsB
  have h1:=aFd hok
  have h2:=aAo 2 (by have:=(aAl 2 (by omega)).1;omega)
  have h3:=aAo l.length (by have:=(aAl l.length (by omega)).1;omega)
  have h4:=(aAl 2 (by omega)).2.1
  have h5:=(aAl l.length (by omega)).2.1
  rw [lA,lA,h2,h3]
  omega
 unfold brP
 clear hg hI hok hc hid hN hn hM
 generalize hib:itsB 2 l=ib at *
 have HIB:=hide hib
 clear hib
 go_enter Tryz.func71,Tryz.ntmps71
 go_wp2_with fail
 refine HI.out.mono ?_
 rintro e w1 ⟨v1,rfl,ho1,hb1⟩
 have HO1:=hide ho1
 have HB1:=hide hb1
 have q1:w1.cell? ⟨g,1,none⟩=some (.slice (some ⟨gc,oc,none⟩) n cc):=(hb1.cell (p:=⟨g,1,none⟩) (block_lt_of_cell r1)).trans r1
 clear ho1 hb1 r0 r1 t1 HI
 go_wp2_with fail
 go_loopw [31,5] (fun i vb wx=>∃ j:Nat,j≤n∧i=.int .i64 j∧wx.ownsRow w.heap.size 5 1 vb (M+(posP ids j).length) (cellsOf (ib++posP ids j))∧Below w.heap.size w wx) (fun i _ _=>n-(intOf i).toNat)
 case atStart=>exact ⟨0,by omega,rfl,by simp only [posP,List.take_zero,List.flatMap_nil,List.append_nil,List.length_nil,Nat.add_zero];exact HO1.out,HB1.out⟩
 case round =>
  clear HO1 HB1 q1
  obtain ⟨j,hj,rfl,hO,hBl⟩:=hrel
  have HO:=hide hO
  have HBl:=hide hBl
  obtain ⟨va,vc,rfl⟩:=aAf hO
  clear hO hBl
  by_cases hjn:j<n
  ·have x1:(j:Int)<(n:Int):=by omega
   obtain ⟨x,hx⟩:∃ x,ids[j]?=some x:=⟨_,gE (by rw [HL.out];exact hjn)⟩
   have hx63:=HID.out x (mG hx)
   have c0:=HC.out j x hx
   have r2:wr.cell? ⟨gc,oc+j,none⟩=some (.iface 89 (.int .i64 (x:Int))):=(HBl.out.cell (p:=⟨gc,oc+j,none⟩) (block_lt_of_cell c0)).trans c0
   have ta:=aC7 (.int .i64 (x:Int)) wr
   have HU:=hide (aDp x wr hx63)
   have HPL:=hide (posP_succ hx)
   have HPB:Hid ((posP ids j).length≤100):=by
    show _≤_
    have h1:=aH3 (ids:=ids.take j) fun y hy=>HID.out y (List.mem_of_mem_take hy)
    rw [List.length_take] at h1
    have:=HL.out
    unfold posP
    omega
   have HGX:=hide (aAl x hx63).2.1
   have HEX:=hide (aAo x (by have:=(aAl x hx63).1;omega))
   have HEB:=hide (aBy x)
   clear hx c0
   generalize posP ids j=P at *
   go_wp2_with fail
   refine HU.out.mono ?_
   rintro e w5 ⟨g5,c5,rfl,ho5,hb5⟩
   have HO5:=hide (aAg HO.out hb5)
   have HBS5:=hide (BS.ofOwns ho5 (by have:=HGX.out;omega) HEB.out)
   have HB5:=hide (HBl.out.trans (hb5.mono HBl.out.size))
   clear ho5 hb5 r2 ta HU
   go_wp2_with (at_builtin;refine aAu rfl (.tmp 35) (.tmp 38) rfl w.heap.size _ (M+P.length) (ib++P) rfl HO5.out (some ⟨g5,0,none⟩) (grp x) c5 (enc x) rfl HBS5.out (by have:=HGX.out;have:=HPB.out;have:=HMB.out;omega) w HB5.out HB5.out.size ?_;intro v6 w6 ho6 hb6 hs6;obtain ⟨a6,c6,rfl⟩:=aAf ho6;have HO6:=hide ho6;have HB6:=hide hb6;clear ho6 hb6 hs6)
   go_roundw
   case rel =>
    refine ⟨j+1,by omega,by go_num,?_,HB6.out⟩
    rw [HPL.out,lA,HEX.out,←Nat.add_assoc,←List.append_assoc]
    exact HO6.out
   case measure=>simp [intOf];omega
  ·have x1:¬ (j:Int)<(n:Int):=by omega
   have e:j=n:=by omega
   subst e
   go_wp2
   go_ret
   have e9:posP ids j=ids.flatMap enc:=by unfold posP;rw [List.take_of_length_le (Nat.le_of_eq HL.out)]
   have h8:=HO.out
   rw [e9] at h8
   have e7:branB l ids=ib++ids.flatMap enc:=by unfold branB;rw [HIB.out]
   have e6:M+(ids.flatMap enc).length=N:=by rw [←HNN.out,e7,lA,HMM.out]
   rw [e6] at h8
   refine ⟨_,rfl,?_,HBl.out⟩
   show wr.ownsRow w.heap.size 5 1 (.slice va (M+(posP ids j).length) vc) N (cellsOf (branB l ids))
   rw [e7,e9,e6]
   exact h8
def StC (gb gc n i:Nat) (vl vr:Value) (wx:World):Prop:=wx.cell? ⟨gb,1,none⟩=some (.slice (some ⟨gc,0,none⟩) n n)∧wx.cell? ⟨gc,i,none⟩=some vl∧wx.cell? ⟨gc,i+1,none⟩=some vr
theorem settleM_walk {px gb gc n i i1 L0 c0 L:Nat} {hh:Int} {w:World} {v vl vr:Value} {a0:Option Addr} {Q1:Value→World→Prop} {Q2:Value→Value→World→Prop} {Q3 Q4:World→Prop} (hi1:i1=i-1) (hin:i1+1<n) (hn10:n≤10) (hil:i<n)
  (hSC:StC gb gc n i1 vl vr w) (rv:w.cell? ⟨gc,i,none⟩=some v) (hIO:Calls Tryz.prog 77 #[v] w fun e w'=>e=.returned (.slice a0 L0 c0)∧w'=w) (hL0:L0<2)
  (hL:Calls Tryz.prog 73 #[.pointer (some ⟨px,0,none⟩),vl,.int .i64 hh] w.drew fun e w'=>∃ v1,e=.returned v1∧Q1 v1 w')
  (hR:∀ v1 w1,Q1 v1 w1→Calls Tryz.prog 73 #[.pointer (some ⟨px,0,none⟩),vr,.int .i64 hh] w1 fun e w'=>∃ v2,e=.returned v2∧Q2 v1 v2 w')
  (hQ1:∀ v1 w1,Q1 v1 w1→StC gb gc n i1 vl vr w1) (hQ2:∀ v1 v2 w2,Q2 v1 v2 w2→StC gb gc n i1 vl vr w2)
  (hM:∀ v1 v2 w2,Q2 v1 v2 w2→Calls Tryz.prog 104 #[.pointer (some ⟨gb,0,none⟩),.int .i64 (i1:Int),v1,v2] w2 fun e w'=>e=.returned (.tuple #[])∧Q3 w')
  (hI3:∀ w3,Q3 w3→∃ one a c,w3.cell? ⟨gb,1,none⟩=some (.slice (some ⟨gc,0,none⟩) (n-1) n)∧w3.cell? ⟨gc,i1,none⟩=some one∧Calls Tryz.prog 77 #[one] w3 fun e w'=>e=.returned (.slice a L c)∧w'=w3)
  (hS:4<L→∀ w3,Q3 w3→Calls Tryz.prog 78 #[.pointer (some ⟨gb,0,none⟩),.int .i64 (i1:Int)] w3 fun e w'=>e=.returned (.tuple #[])∧Q4 w') :
  Calls Tryz.prog 76 #[.pointer (some ⟨px,0,none⟩),.pointer (some ⟨gb,0,none⟩),.int .i64 (i:Int),.int .i64 hh] w fun e w'=>e=.returned (.tuple #[])∧if 4<L then Q4 w' else Q3 w':=by
 have HSC:=hide hSC
 obtain ⟨r1,rl,rr⟩:=hSC
 have HIO:=hide hIO
 have HL:=hide hL
 have HR:=hide hR
 have HQ1:=hide hQ1
 have HQ2:=hide hQ2
 have HM:=hide hM
 have HI3:=hide hI3
 have HS:=hide hS
 have xi:(i:Int)<(n:Int):=by omega
 have xi1:(i1:Int)<(n:Int):=by omega
 have xi2:(i1:Int)+1<(n:Int):=by omega
 have xi3:(0:Int)≤(i1:Int)+1:=by omega
 have xi0:(0:Int)≤(i1:Int):=by omega
 have x0:((L0:Nat):Int)<2:=by omega
 have htn:((i1:Int)+1).toNat=i1+1:=by omega
 have hwr:IntKind.i64.wrap ((i:Int)-1)=(i:Int)-1:=by rw [IntKind.wrap_i64];omega
 have hwr1:IntKind.i64.wrap ((i1:Int)+1)=(i1:Int)+1:=by rw [IntKind.wrap_i64];omega
 have hn1:i1<n-1:=by omega
 have xn:(i1:Int)<((n-1:Nat):Int):=by omega
 have HX0:Hid (StC gb gc n i1 vl vr w.drew):=⟨r1,rl,rr⟩
 have hmax:max ((i:Int)-1) 0=(i1:Int):=by omega
 clear hIO hL hR hQ1 hQ2 hM hI3 hS hi1
 go_enter Tryz.func76,Tryz.ntmps76
 go_wp2_with fail
 refine HIO.out.mono ?_
 rintro e w1 ⟨rfl,hw⟩
 have hw:=hw.symm
 subst hw
 go_upto_region 2 with fail
 try rw [hmax]
 refine wp_region_noPanic ?_
 refine wp_region_held_drew (S:=fun wx=>StC gb gc n i1 vl vr wx) (by kernel_rfl) HX0.out (fun hHeld=>?_)
 refine aAd (i:=0) (d:=23) (v:=?va0) (by kernel_rfl) (by kernel_rfl) (by kernel_rfl) (by kernel_rfl) (fun _ _ _ h=>h) ?hya0 (by assumption) ?resta0
 case hya0 =>
  intro oi ho
  simp only [List.getElem?_toArray,List.getElem?_cons_zero,oI] at ho
  subst ho
  refine Or.inl ⟨by rfl,?_⟩
  intro wx hSw
  obtain ⟨s1,s2,s3⟩:=hSw
  go_simp
  try rfl
 try simp only [Act.put,siT,scZ,scS]
 refine aAd (i:=1) (d:=24) (v:=?va1) (by kernel_rfl) (by kernel_rfl) (by kernel_rfl) (by kernel_rfl) (fun _ _ _ h=>h) ?hya1 (by assumption) ?resta1
 case hya1 =>
  intro oi ho
  simp only [List.getElem?_toArray,List.getElem?_cons_succ,List.getElem?_cons_zero,oI] at ho
  subst ho
  refine Or.inl ⟨by rfl,?_⟩
  intro wx hSw
  obtain ⟨s1,s2,s3⟩:=hSw
  go_simp
  try rfl
 try simp only [Act.put,siT,scZ,scS]
 refine aAd (i:=2) (d:=25) (v:=?va2) (by kernel_rfl) (by kernel_rfl) (by kernel_rfl) (by kernel_rfl) (fun _ _ _ h=>h) ?hya2 (by assumption) ?resta2
 case hya2 =>
  intro oi ho
  simp only [List.getElem?_toArray,List.getElem?_cons_succ,List.getElem?_cons_zero,oI] at ho
  subst ho
  refine Or.inl ⟨by rfl,?_⟩
  intro wx hSw
  obtain ⟨s1,s2,s3⟩:=hSw
  go_simp
  try rfl
 try simp only [Act.put,siT,scZ,scS]
 refine aAd (i:=3) (d:=26) (v:=?va3) (by kernel_rfl) (by kernel_rfl) (by kernel_rfl) (by kernel_rfl) (fun _ _ _ h=>h) ?hya3 (by assumption) ?resta3
 case hya3 =>
  intro oi ho
  simp only [List.getElem?_toArray,List.getElem?_cons_succ,List.getElem?_cons_zero,oI] at ho
  subst ho
  refine Or.inl ⟨by rfl,?_⟩
  intro wx hSw
  obtain ⟨s1,s2,s3⟩:=hSw
  go_simp
  try rfl
 try simp only [Act.put,siT,scZ,scS]
 refine aAd (i:=4) (d:=27) (v:=?va4) (by kernel_rfl) (by kernel_rfl) (by kernel_rfl) (by kernel_rfl) (fun _ _ _ h=>h) ?hya4 (by assumption) ?resta4
 case hya4 =>
  intro oi ho
  simp only [List.getElem?_toArray,List.getElem?_cons_succ,List.getElem?_cons_zero,oI] at ho
  subst ho
  refine Or.inl ⟨by rfl,?_⟩
  intro wx hSw
  obtain ⟨s1,s2,s3⟩:=hSw
  go_simp
  try rfl
 try simp only [Act.put,siT,scZ,scS]
 refine aAd (i:=5) (d:=28) (v:=?va5) (by kernel_rfl) (by kernel_rfl) (by kernel_rfl) (by kernel_rfl) (fun _ _ _ h=>h) ?hya5 (by assumption) ?resta5
 case hya5 =>
  intro oi ho
  simp only [List.getElem?_toArray,List.getElem?_cons_succ,List.getElem?_cons_zero,oI] at ho
  subst ho
  refine Or.inl ⟨by rfl,?_⟩
  intro wx hSw
  obtain ⟨s1,s2,s3⟩:=hSw
  go_simp
  try rfl
 try simp only [Act.put,siT,scZ,scS]
 refine aAd (i:=6) (d:=29) (v:=?va6) (by kernel_rfl) (by kernel_rfl) (by kernel_rfl) (by kernel_rfl) (fun _ _ _ h=>h) ?hya6 (by assumption) ?resta6
 case hya6 =>
  intro oi ho
  simp only [List.getElem?_toArray,List.getElem?_cons_succ,List.getElem?_cons_zero,oI] at ho
  subst ho
  refine Or.inl ⟨by rfl,?_⟩
  intro wx hSw
  obtain ⟨s1,s2,s3⟩:=hSw
  go_simp
  try rfl
 try simp only [Act.put,siT,scZ,scS]
 refine aAd (i:=7) (d:=30) (v:=?va7) (by kernel_rfl) (by kernel_rfl) (by kernel_rfl) (by kernel_rfl) (fun _ _ _ h=>h) ?hya7 (by assumption) ?resta7
 case hya7 =>
  intro oi ho
  simp only [List.getElem?_toArray,List.getElem?_cons_succ,List.getElem?_cons_zero,oI] at ho
  subst ho
  refine Or.inl ⟨by rfl,?_⟩
  intro wx hSw
  obtain ⟨s1,s2,s3⟩:=hSw
  go_simp
  try rfl
 try simp only [Act.put,siT,scZ,scS]
 refine aAd (i:=8) (d:=31) (v:=?va8) (by kernel_rfl) (by kernel_rfl) (by kernel_rfl) (by kernel_rfl) (fun _ _ _ h=>h) ?hya8 (by assumption) ?resta8
 case hya8 =>
  intro oi ho
  simp only [List.getElem?_toArray,List.getElem?_cons_succ,List.getElem?_cons_zero,oI] at ho
  subst ho
  refine Or.inl ⟨by rfl,?_⟩
  intro wx hSw
  obtain ⟨s1,s2,s3⟩:=hSw
  go_simp
  try rfl
 try simp only [Act.put,siT,scZ,scS]
 refine aAd (i:=10) (d:=33) (v:=?va10) (by kernel_rfl) (by kernel_rfl) (by kernel_rfl) (by kernel_rfl) (fun _ _ _ h=>h) ?hya10 (by assumption) ?resta10
 case hya10 =>
  intro oi ho
  simp only [List.getElem?_toArray,List.getElem?_cons_succ,List.getElem?_cons_zero,oI] at ho
  subst ho
  refine Or.inl ⟨by rfl,?_⟩
  intro wx hSw
  obtain ⟨s1,s2,s3⟩:=hSw
  go_simp
  try rfl
 try simp only [Act.put,siT,scZ,scS]
 refine aAd (i:=11) (d:=34) (v:=?va11) (by kernel_rfl) (by kernel_rfl) (by kernel_rfl) (by kernel_rfl) (fun _ _ _ h=>h) ?hya11 (by assumption) ?resta11
 case hya11 =>
  intro oi ho
  simp only [List.getElem?_toArray,List.getElem?_cons_succ,List.getElem?_cons_zero,oI] at ho
  subst ho
  refine Or.inl ⟨by rfl,?_⟩
  intro wx hSw
  obtain ⟨s1,s2,s3⟩:=hSw
  go_simp
  try rfl
 try simp only [Act.put,siT,scZ,scS]
 refine aAd (i:=12) (d:=35) (v:=?va12) (by kernel_rfl) (by kernel_rfl) (by kernel_rfl) (by kernel_rfl) (fun _ _ _ h=>h) ?hya12 (by assumption) ?resta12
 case hya12 =>
  intro oi ho
  simp only [List.getElem?_toArray,List.getElem?_cons_succ,List.getElem?_cons_zero,oI] at ho
  subst ho
  refine Or.inl ⟨by rfl,?_⟩
  intro wx hSw
  obtain ⟨s1,s2,s3⟩:=hSw
  go_simp
  try rfl
 try simp only [Act.put,siT,scZ,scS]
 refine aAd (i:=13) (d:=36) (v:=?va13) (by kernel_rfl) (by kernel_rfl) (by kernel_rfl) (by kernel_rfl) (fun _ _ _ h=>h) ?hya13 (by assumption) ?resta13
 case hya13 =>
  intro oi ho
  simp only [List.getElem?_toArray,List.getElem?_cons_succ,List.getElem?_cons_zero,oI] at ho
  subst ho
  refine Or.inl ⟨by rfl,?_⟩
  intro wx hSw
  obtain ⟨s1,s2,s3⟩:=hSw
  go_simp
  try rfl
 try simp only [Act.put,siT,scZ,scS]
 refine aAd (i:=14) (d:=37) (v:=?va14) (by kernel_rfl) (by kernel_rfl) (by kernel_rfl) (by kernel_rfl) (fun _ _ _ h=>h) ?hya14 (by assumption) ?resta14
 case hya14 =>
  intro oi ho
  simp only [List.getElem?_toArray,List.getElem?_cons_succ,List.getElem?_cons_zero,oI] at ho
  subst ho
  refine Or.inl ⟨by rfl,?_⟩
  intro wx hSw
  obtain ⟨s1,s2,s3⟩:=hSw
  go_simp
  try rfl
 try simp only [Act.put,siT,scZ,scS]
 refine aAd (i:=15) (d:=38) (v:=?va15) (by kernel_rfl) (by kernel_rfl) (by kernel_rfl) (by kernel_rfl) (fun _ _ _ h=>h) ?hya15 (by assumption) ?resta15
 case hya15 =>
  intro oi ho
  simp only [List.getElem?_toArray,List.getElem?_cons_succ,List.getElem?_cons_zero,oI] at ho
  subst ho
  refine Or.inl ⟨by rfl,?_⟩
  intro wx hSw
  obtain ⟨s1,s2,s3⟩:=hSw
  go_simp
  try rfl
 try simp only [Act.put,siT,scZ,scS]
 refine aAd (i:=16) (d:=39) (v:=?va16) (by kernel_rfl) (by kernel_rfl) (by kernel_rfl) (by kernel_rfl) (fun _ _ _ h=>h) ?hya16 (by assumption) ?resta16
 case hya16 =>
  intro oi ho
  simp only [List.getElem?_toArray,List.getElem?_cons_succ,List.getElem?_cons_zero,oI] at ho
  subst ho
  refine Or.inl ⟨by rfl,?_⟩
  intro wx hSw
  obtain ⟨s1,s2,s3⟩:=hSw
  go_simp
  try rfl
 try simp only [Act.put,siT,scZ,scS]
 refine aAd (i:=17) (d:=40) (v:=?va17) (by kernel_rfl) (by kernel_rfl) (by kernel_rfl) (by kernel_rfl) (fun _ _ _ h=>h) ?hya17 (by assumption) ?resta17
 case hya17 =>
  intro oi ho
  simp only [List.getElem?_toArray,List.getElem?_cons_succ,List.getElem?_cons_zero,oI] at ho
  subst ho
  refine Or.inl ⟨by rfl,?_⟩
  intro wx hSw
  obtain ⟨s1,s2,s3⟩:=hSw
  go_simp
  try rfl
 try simp only [Act.put,siT,scZ,scS]
 refine aAd (i:=18) (d:=41) (v:=?va18) (by kernel_rfl) (by kernel_rfl) (by kernel_rfl) (by kernel_rfl) (fun _ _ _ h=>h) ?hya18 (by assumption) ?resta18
 case hya18 =>
  intro oi ho
  simp only [List.getElem?_toArray,List.getElem?_cons_succ,List.getElem?_cons_zero,oI] at ho
  subst ho
  refine Or.inl ⟨by rfl,?_⟩
  intro wx hSw
  obtain ⟨s1,s2,s3⟩:=hSw
  go_simp
  try rfl
 try simp only [Act.put,siT,scZ,scS]
 refine aAd (i:=19) (d:=42) (v:=?va19) (by kernel_rfl) (by kernel_rfl) (by kernel_rfl) (by kernel_rfl) (fun _ _ _ h=>h) ?hya19 (by assumption) ?resta19
 case hya19 =>
  intro oi ho
  simp only [List.getElem?_toArray,List.getElem?_cons_succ,List.getElem?_cons_zero,oI] at ho
  subst ho
  refine Or.inl ⟨by rfl,?_⟩
  intro wx hSw
  obtain ⟨s1,s2,s3⟩:=hSw
  go_simp
  try rfl
 try simp only [Act.put,siT,scZ,scS]
 refine wpAnyH_cm 9 ?_;intro K hK
 go_simp
 refine HL.out.mono ?_
 rintro e w1 ⟨v1,rfl,hq⟩
 have HA1:=hide hq
 clear hHeld hq
 refine hK.out _ _ (HQ1.out _ _ HA1.out) (fun hHeld=>?_)
 clear hK K
 try simp only [Act.put,siT,scZ,scS]
 refine wpAnyH_cm 20 ?_;intro K hK
 go_simp
 refine (HR.out _ _ HA1.out).mono ?_
 rintro e w2 ⟨v2,rfl,hq⟩
 have HA2:=hide hq
 clear hHeld hq
 refine hK.out _ _ (HQ2.out _ _ _ HA2.out) (fun hHeld=>?_)
 clear hK K
 try simp only [Act.put,siT,scZ,scS]
 refine aAd (i:=21) (d:=8) (v:=?va21) (by kernel_rfl) (by kernel_rfl) (by kernel_rfl) (by kernel_rfl) (fun _ _ _ h=>h) ?hya21 (by assumption) ?resta21
 case hya21 =>
  intro oi ho
  simp only [List.getElem?_toArray,List.getElem?_cons_succ,List.getElem?_cons_zero,oI] at ho
  subst ho
  refine Or.inl ⟨by rfl,?_⟩
  intro wx hSw
  obtain ⟨s1,s2,s3⟩:=hSw
  go_simp
  try rfl
 try simp only [Act.put,siT,scZ,scS]
 refine aAd (i:=22) (d:=9) (v:=?va22) (by kernel_rfl) (by kernel_rfl) (by kernel_rfl) (by kernel_rfl) (fun _ _ _ h=>h) ?hya22 (by assumption) ?resta22
 case hya22 =>
  intro oi ho
  simp only [List.getElem?_toArray,List.getElem?_cons_succ,List.getElem?_cons_zero,oI] at ho
  subst ho
  refine Or.inl ⟨by rfl,?_⟩
  intro wx hSw
  obtain ⟨s1,s2,s3⟩:=hSw
  go_simp
  try rfl
 try simp only [Act.put,siT,scZ,scS]
 refine wpAnyH_done (by kernel_rfl) ?_ _
 refine NoPanic.normal ?_
 clear hHeld r1 rl rr rv HX0 HSC
 have HMM:=hide (HM.out _ _ _ HA2.out)
 go_wp2_with fail
 refine HMM.out.mono ?_
 rintro e w3 ⟨rfl,hq3⟩
 obtain ⟨one,a3,c3,y1,y2,hIO3⟩:=HI3.out _ hq3
 have HQ3:=hide hq3
 have HIO3:=hide hIO3
 clear hq3 hIO3 HMM
 go_wp2_with fail
 refine HIO3.out.mono ?_
 rintro e w4 ⟨rfl,hw⟩
 have hw:=hw.symm
 subst hw
 by_cases h4:4<L
 ·have x4:(4:Int)<(L:Int):=by omega
  have HSP:=hide (HS.out h4 _ HQ3.out)
  go_wp2_with fail
  refine HSP.out.mono ?_
  rintro e w5 ⟨rfl,hq⟩
  have HQ:=hide hq
  clear hq
  go_wp2
  go_end0
  exact ⟨rfl,HQ.out⟩
 ·have x4:¬ (4:Int)<(L:Int):=by omega
  go_wp2
  go_end0
  exact ⟨rfl,HQ3.out⟩
end Go.Proofs.YtohgmapjokaibaaGreat
