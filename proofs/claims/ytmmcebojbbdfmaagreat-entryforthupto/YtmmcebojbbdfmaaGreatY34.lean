import Derived.Test.YtmmcebojbbdfmaaGreatY33
set_option maxRecDepth 100000
set_option maxHeartbeats 16000000
set_option linter.unusedVariables false
namespace Go.Proofs.YtmmcebojbbdfmaaGreat
open Go.RowKit
variable {B b c cl g i j k n p rb te xl:Nat} {a:Option Addr} {u v:Value} {w w':World} {xs:List Nat}
structure RP (xs:List Nat) (s:Sch) (P0:Nat) (PC PX:Nat->Nat):Prop where
 nm:str (rbS xs 0 8)=s.nm
 p0:rbP xs 0 8=P0
 cn:min (ruN xs (P0:Int)) 3=s.cs.length
 c0:ruP xs (P0:Int)=PC 0
 col:∀ (j:Nat) (c:Col),s.cs[j]?=some c->∃ kk mm p1 p2:Nat,str (rbS xs ((PC j:Nat):Int) 8)=c.1/\rbP xs ((PC j:Nat):Int) 8=p1/\ruN xs (p1:Int)=kk/\ruP xs (p1:Int)=p2/\ruN xs (p2:Int)=mm/\ruP xs (p2:Int)=PC (j+1)/\c.2.1=(kk:Int)/\c.2.2=(mm:Int)
 xn:min (ruN xs ((PC s.cs.length:Nat):Int)) 3=s.xs.length
 x0:ruP xs ((PC s.cs.length:Nat):Int)=PX 0
 ix:∀ (j:Nat) (x:Idx),s.xs[j]?=some x->∃ kk mm p1:Nat,ruN xs ((PX j:Nat):Int)=kk/\ruP xs ((PX j:Nat):Int)=p1/\ruN xs (p1:Int)=mm/\ruP xs (p1:Int)=PX (j+1)/\x.1=(kk:Int)/\((mm:Int) == 1)=x.2
def stepC (xs:List Nat) (p:Nat):Nat:=ruP xs ((ruP xs ((rbP xs (p:Int) 8:Nat):Int):Nat):Int)
def stepX (xs:List Nat) (p:Nat):Nat:=ruP xs ((ruP xs (p:Int):Nat):Int)
def posn (f:Nat->Nat) (p:Nat):Nat->Nat
 | 0=>p
 | j+1=>f (posn f p j)
theorem rp_ex (xs:List Nat):∃ s P0 PC PX,RP xs s P0 PC PX:=by
 obtain ⟨P0,hP0⟩:∃ p,rbP xs 0 8=p:=⟨_,rfl⟩;obtain ⟨PC,hPC⟩:∃ f,f=posn (stepC xs) (ruP xs (P0:Int)):=⟨_,rfl⟩;obtain ⟨cl,hcl⟩:∃ k,min (ruN xs (P0:Int)) 3=k:=⟨_,rfl⟩;obtain ⟨PX,hPX⟩:∃ f,f=posn (stepX xs) (ruP xs ((PC cl:Nat):Int)):=⟨_,rfl⟩;obtain ⟨xl,hxl⟩:∃ k,min (ruN xs ((PC cl:Nat):Int)) 3=k:=⟨_,rfl⟩;refine ⟨⟨str (rbS xs 0 8),(List.range cl).map (fun j=>(str (rbS xs ((PC j:Nat):Int) 8),((ruN xs ((rbP xs ((PC j:Nat):Int) 8:Nat):Int):Nat):Int),((ruN xs ((ruP xs ((rbP xs ((PC j:Nat):Int) 8:Nat):Int):Nat):Int):Nat):Int))),(List.range xl).map (fun j=>(((ruN xs ((PX j:Nat):Int):Nat):Int),(((ruN xs ((ruP xs ((PX j:Nat):Int):Nat):Int):Nat):Int) == 1)))⟩,P0,PC,PX,⟨rfl,hP0,by simpa using hcl,by rw [hPC];rfl,fun j c hc=>?_,by simpa using hxl,by rw [hPX];simp [posn],fun j x hx=>?_⟩⟩
 ·dsimp only at hc;rw [List.getElem?_map] at hc;obtain ⟨i,hi,rfl⟩:=Option.map_eq_some_iff.1 hc;have e:i=j:=by
   have:=(List.getElem?_eq_some_iff.1 hi).2;simpa using this.symm
  subst e;refine ⟨_,_,_,_,rfl,rfl,rfl,rfl,rfl,?_,rfl,rfl⟩;rw [hPC];rfl
 ·dsimp only at hx;rw [List.getElem?_map] at hx;obtain ⟨i,hi,rfl⟩:=Option.map_eq_some_iff.1 hx;have e:i=j:=by
   have:=(List.getElem?_eq_some_iff.1 hi).2;simpa using this.symm
  subst e;refine ⟨_,_,_,rfl,rfl,rfl,?_,rfl,rfl⟩;rw [hPX];rfl
theorem BS.zero (h:BS w a 0 c xs):BS w' a 0 c xs:=⟨h.hlen,h.hcap,h.hroom,h.hmax,h.hbyte,h.hnil,fun x hx i hi=>by omega⟩
theorem aAj (h:BS w a n c xs) (hf:RdF rb w w') (ha:∀ b o,a=some ⟨b,o,none⟩->0<n->b≠rb):BS w' a n c xs:=by
 cases n with
 | zero=>exact h.zero
 | succ n=>exact bs_rd h hf fun b o q=>ha b o q (by omega)
theorem aDn (h:BS w a n c xs) (ha:∀ b' o,a=some ⟨b',o,none⟩->0<n->b'≠b):BS (w.setCell ⟨b,i,none⟩ u) a n c xs:=by
 cases n with
 | zero=>exact h.zero
 | succ n=>exact bs_put h fun b o q=>ha b o q (by omega)
structure ID (rb N S0 g cl n c:Nat) (a:Option Addr) (s:Sch) (xs:List Nat) (PC:Nat->Nat) (w:World) (j:Nat) (wx:World):Prop where
 rd:RDR rb a n c ((PC j:Nat):Int) wx
 sb:wx.heap[S0]?=some (.cells #[.string s.nm,.slice (some ⟨g,0,none⟩) cl cl,.slice none 0 0] 71 (0,0))
 zb:wx.heap[N]?=some (.cells #[.string ⟨#[]⟩,.slice none 0 0,.slice none 0 0] 71 (0,0))
 ow:wx.ownsRow g 109 3 (.slice (some ⟨g,0,none⟩) cl cl) cl ((rowJ z1 s.cs j).flatMap fC)
 fr:RdF rb w wx
 bs:BS wx a n c xs
theorem ID.drew {N S0:Nat} {s:Sch} {PC:Nat->Nat} {wx:World} (h:ID rb N S0 g cl n c a s xs PC w j wx):ID rb N S0 g cl n c a s xs PC w j wx.drew:=⟨h.rd,h.sb,h.zb,aAm h.ow (Below.refl _ _).drew,⟨⟨h.fr.bel.os,h.fr.bel.tape,h.fr.bel.output,h.fr.bel.size,h.fr.bel.block⟩,h.fr.oth⟩,h.bs.later (Below.refl _ _).drew (nR _)⟩
structure IY (rb N S0 g g2 cl xl n c:Nat) (a:Option Addr) (s:Sch) (xs:List Nat) (PX:Nat->Nat) (w:World) (j:Nat) (wx:World):Prop where
 rd:RDR rb a n c ((PX j:Nat):Int) wx
 sb:wx.heap[S0]?=some (.cells #[.string s.nm,.slice (some ⟨g,0,none⟩) cl cl,.slice (some ⟨g2,0,none⟩) xl xl] 71 (0,0))
 zb:wx.heap[N]?=some (.cells #[.string ⟨#[]⟩,.slice none 0 0,.slice none 0 0] 71 (0,0))
 oc:wx.ownsRow g 109 3 (.slice (some ⟨g,0,none⟩) cl cl) cl (s.cs.flatMap fC)
 ow:wx.ownsRow g2 111 2 (.slice (some ⟨g2,0,none⟩) xl xl) xl ((rowJ zx s.xs j).flatMap fX)
 fr:RdF rb w wx
 bs:BS wx a n c xs
theorem IY.drew {N S0 g2:Nat} {s:Sch} {PX:Nat->Nat} {wx:World} (h:IY rb N S0 g g2 cl xl n c a s xs PX w j wx):IY rb N S0 g g2 cl xl n c a s xs PX w j wx.drew:=⟨h.rd,h.sb,h.zb,aAm h.oc (Below.refl _ _).drew,aAm h.ow (Below.refl _ _).drew,⟨⟨h.fr.bel.os,h.fr.bel.tape,h.fr.bel.output,h.fr.bel.size,h.fr.bel.block⟩,h.fr.oth⟩,h.bs.later (Below.refl _ _).drew (nR _)⟩
theorem rschema_any {s:Sch} {P0:Nat} {PC PX:Nat->Nat} (h:RDR rb a n c 0 w) (hb:BS w a n c xs) (hrp:RP xs s P0 PC PX) (har:∀ b o,a=some ⟨b,o,none⟩->0<n->b≠rb) :
  Calls Tryz.prog 114 #[.pointer (some ⟨rb,0,none⟩)] w fun e w'=>∃ ca cc xa xc,e=.returned (.agg #[.string s.nm,.slice ca s.cs.length cc,.slice xa s.xs.length xc])/\SC w' ca s.cs.length cc xa s.xs.length xc s/\RdF rb w w'/\(∀ b o,ca=some ⟨b,o,none⟩->w.heap.size<=b)/\∀ b o,xa=some ⟨b,o,none⟩->w.heap.size<=b:=by
 have HRP:=zH hrp;have HBY:=zH hb;have HAR:=zH har;have HAN:Hid (∀ b o,a=some ⟨b,o,none⟩->0<n->b<w.heap.size):=by
  intro b o q hpos;have:=aBe (hb.hcell _ q 0 hpos);simpa [Addr.add] using this
 obtain ⟨cl,hcl⟩:∃ k,s.cs.length=k:=⟨_,rfl⟩;obtain ⟨xl,hxl⟩:∃ k,s.xs.length=k:=⟨_,rfl⟩;have HCL:=zH hcl;have HXL:=zH hxl;have hcl3:cl<=3:=by rw [<-hcl,<-HRP.o.cn];omega
 have hxl3:xl<=3:=by rw [<-hxl,<-HRP.o.xn];omega
 have HRB:Hid (rb<w.heap.size):=aAb h;have hbz:=aAc w (.cells #[.string ⟨#[]⟩,.slice none 0 0,.slice none 0 0] 71);have HZ1:Hid ((w.alloc (.cells #[.string ⟨#[]⟩,.slice none 0 0,.slice none 0 0] 71)).heap[w.heap.size]?=some (.cells #[.string ⟨#[]⟩,.slice none 0 0,.slice none 0 0] 71 (0,0))):=boxed w _;have HR1:Hid (RDR rb a n c 0 (w.alloc (.cells #[.string ⟨#[]⟩,.slice none 0 0,.slice none 0 0] 71))):=(hbz.block rb (aAb h)).trans h;have HB1:=zH (hb.later hbz (nR _));have HF1:Hid (RdF rb w (w.alloc (.cells #[.string ⟨#[]⟩,.slice none 0 0,.slice none 0 0] 71))):=RdF.of hbz (by have:=HRB.o;omega);rw [hcl,hxl];clear h hb hrp har hbz hcl hxl;go_enter Tryz.func114,Tryz.ntmps114;go_upto_region 1 with fail;generalize w.alloc (.cells #[.string ⟨#[]⟩,.slice none 0 0,.slice none 0 0] 71)=w1 at *
 generalize hN:w.heap.size=N at *
 have HC1:=zH (rname_any HR1.o HB1.o);rw [HRP.o.nm,HRP.o.p0] at HC1;go_wp2_with fail;refine HC1.o.mono ?_;rintro e w2 ⟨rfl,hr2,hf2⟩;have HF2:=zH (HF1.o.trans hf2);have HR2:=zH hr2;have HB2:=zH (aAj HB1.o hf2 HAR.o);have HZ2:=zH ((hf2.oth N (aAb HZ1.o) (by have:=HRB.o;omega)).trans HZ1.o);clear hr2 hf2 HC1 HR1 HB1 HZ1;have hb3:=aAc w2 (.cells #[.string s.nm,.slice none 0 0,.slice none 0 0] 71);have HS3:Hid ((w2.alloc (.cells #[.string s.nm,.slice none 0 0,.slice none 0 0] 71)).heap[w2.heap.size]?=some (.cells #[.string s.nm,.slice none 0 0,.slice none 0 0] 71 (0,0))):=boxed w2 _;have HR3:Hid (RDR rb a n c (P0:Int) (w2.alloc (.cells #[.string s.nm,.slice none 0 0,.slice none 0 0] 71))):=(hb3.block rb (aAb HR2.o)).trans HR2.o;have HZ3:=zH ((hb3.block N (aAb HZ2.o)).trans HZ2.o);have HB3:=zH (HB2.o.later hb3 (nR _));have HF3:=zH (HF2.o.trans (RdF.of hb3 (by have:=aAb HR2.o;omega)));have HNS:Hid (N<w2.heap.size/\rb<w2.heap.size):=⟨aAb HZ2.o,aAb HR2.o⟩;clear hb3 HR2 HB2 HZ2;go_upto_region 2 with fail;generalize w2.alloc (.cells #[.string s.nm,.slice none 0 0,.slice none 0 0] 71)=w3 at *
 generalize w2.heap.size=S0 at *
 have HC3:=zH (aFi HR3.o HB3.o);rw [HRP.o.cn,HCL.o,HRP.o.c0] at HC3;go_wp2_with fail;refine HC3.o.mono ?_;rintro e w4 ⟨rfl,hr4,hf4⟩;have HF4:=zH (HF3.o.trans hf4);have HR4:=zH hr4;have HB4:=zH (aAj HB3.o hf4 HAR.o);have HS4:=zH ((hf4.oth S0 (aAb HS3.o) (by have:=HNS.o;omega)).trans HS3.o);have HZ4:=zH ((hf4.oth N (aAb HZ3.o) (by have:=HRB.o;omega)).trans HZ3.o);clear hr4 hf4 HC3 HR3 HB3 HS3 HZ3;obtain ⟨i0,hi,hz0,hz1',hz2⟩:=info_parts info_col;go_upto_region 3 with (refine wpList_make_full w4 rfl _ _ 68 rfl w4.heap.size 109 i0 (.agg #[.string ⟨#[]⟩,.int .i64 0,.int .i64 0]) 3 Tryz.underlying68 hi hz0 hz1' .i64 .i64 (cl:Int) (cl:Int) cl rfl rfl rfl rfl (by rw [hz2];omega) (by unfold maxLen;omega) (nR _) ?_;intro w5 ho5 hg5;rw [made_col hcl3] at ho5;have HO5:=zH ho5;have HG5:=zH ((Below.refl w4.heap.size w4).grown hg5 (nR _) (fun k hk=>by cases hk));clear ho5 hg5;have x1:w5.cell? ⟨S0,1,none⟩=some (.slice none 0 0):=aAa ((HG5.o.block S0 (aAb HS4.o)).trans HS4.o);have xf1:w5.frozen? ⟨S0,1,none⟩=false:=aAg ((HG5.o.block S0 (aAb HS4.o)).trans HS4.o));clear x1 xf1;have hgs:S0<w4.heap.size:=aAb HS4.o;have hgr:rb<w4.heap.size:=aAb HR4.o;have hgn:N<w4.heap.size:=aAb HZ4.o;have HIC:Hid (ID rb N S0 w4.heap.size cl n c a s xs PC w 0 (w5.setCell ⟨S0,1,none⟩ (.slice (some ⟨w4.heap.size,0,none⟩) cl cl))):=by
  have hg5:=HG5.o;have hns:=HNS.o;refine ⟨?_,heap_setCell_same _ _ _ _ _ _ ((hg5.block S0 hgs).trans HS4.o),?_,?_,?_,?_⟩
  ·exact (heap_setCell_other _ _ _ _ (show rb≠S0 by omega)).trans ((hg5.block rb hgr).trans HR4.o)
  ·exact (heap_setCell_other _ _ _ _ (show N≠S0 by omega)).trans ((hg5.block N hgn).trans HZ4.o)
  ·have h9:=HO5.o;rw [rowJ_zero,HCL.o];exact ownsRow_setCell_other h9 (by show some w4.heap.size≠some S0;simp;omega) _
  ·exact (HF4.o.trans (RdF.of hg5 (by omega))).put (by rw [hN];omega) (by omega) 1 _
  ·refine aDn (HB4.o.later hg5 (nR _)) fun b' o q hpz=>?_
   have h8:=HAN.o b' o q hpz
   first | omega | (rw [hN] at h8;omega)
 clear HO5 HG5 HR4 HS4 HZ4 HB4 HF4 hi hz0 hz1' hz2;generalize (w5.setCell ⟨S0,1,none⟩ (.slice (some ⟨w4.heap.size,0,none⟩) cl cl))=w6 at *
 generalize w4.heap.size=g at *
 have HSG:Hid (S0≠g):=by show S0≠g;omega
 have HSR:Hid (S0≠rb):=by show S0≠rb;have:=HNS.o;omega
 have HGR:Hid (rb<g/\N<g/\N<=S0):=⟨hgr,hgn,by have:=HNS.o;omega⟩;have x1:w6.cell? ⟨S0,1,none⟩=some (.slice (some ⟨g,0,none⟩) cl cl):=aAa HIC.o.sb;go_wp2_with fail;clear x1;go_loopg [16] cl (fun gh s16 wx=>∃ j:Nat,j+gh=cl/\s16=.int .i64 (j:Int)/\ID rb N S0 g cl n c a s xs PC w j wx)
 case atStart=>exact ⟨0,by omega,rfl,HIC.o⟩
 case round =>
  obtain ⟨j,hj,rfl,hic⟩:=hrel;have HI:=zH hic;clear hic;by_cases hjn:j<cl
  ·have xj:(j:Int)<(cl:Int):=by omega
   have xj4:(j:Int)<4:=by omega
   obtain ⟨cj,hcj⟩:∃ c,s.cs[j]?=some c:=⟨_,gE (by rw [HCL.o];exact hjn)⟩;obtain ⟨kk,mm,p1,p2,n1,n2,n3,n4,n5,n6,n7,n8⟩:=HRP.o.col j cj hcj;have HNX:=zH (rowJ_next (z:=z1) hcj);have HATZ:Hid ((rowJ z1 s.cs j)[j]?=some z1):=rowJ_at (by rw [HCL.o];exact hjn);obtain ⟨cn,ck,cm⟩:=cj;dsimp only at n1 n7 n8;subst n7 n8;have HNM:Hid (str (rbS xs ((PC j:Nat):Int) 8)=cn/\rbP xs ((PC j:Nat):Int) 8=p1):=⟨n1,n2⟩;have HKN:Hid (ruN xs (p1:Int)=kk/\ruP xs (p1:Int)=p2):=⟨n3,n4⟩;have HMN:Hid (ruN xs (p2:Int)=mm/\ruP xs (p2:Int)=PC (j+1)):=⟨n5,n6⟩;clear n1 n2 n3 n4 n5 n6;have HRD:=zH HI.o.drew.rd;have HBD:=zH HI.o.drew.bs;have HSD:=zH HI.o.drew.sb;have HOD:=zH HI.o.drew.ow;have HX:Hid ((fun wx=>wx.cell? ⟨S0,1,none⟩=some (.slice (some ⟨g,0,none⟩) cl cl)) wr.drew):=aAa HSD.o;clear hcj;go_upto_region 6 with fail;refine wp_region_noPanic ?_;refine wp_region_held_drew (S:=fun wx=>wx.cell? ⟨S0,1,none⟩=some (.slice (some ⟨g,0,none⟩) cl cl)) (by kernel_rfl) HX.o (fun hHeld=>?_);refine aAe 0 19 ?_;refine aAe 1 20 ?_;refine aAe 2 21 ?_;refine aAe 3 22 ?_;refine aAe 5 24 ?_;refine aAe 7 26 ?_;refine aAf 4 ?_;intro K hK;go_simp;refine (rname_any HRD.o HBD.o).mono ?_;rintro e w1 ⟨rfl,hr1,hf1⟩;rw [HNM.o.1];rw [HNM.o.2] at hr1;have HR1:=zH hr1;have HF1:=zH hf1;have HS1:=zH ((hf1.oth S0 (aAb HSD.o) HSR.o).trans HSD.o);have HB1:=zH (aAj HBD.o hf1 HAR.o);have HO1:=zH (aD9 HOD.o hf1 (by have:=HGR.o;omega));clear hr1 hf1 hHeld;refine hK.out _ _ (aAa HS1.o) (fun hHeld=>?_);clear hK K
   try simp only [Act.put,siT,scZ,scS]
   refine aAf 6 ?_;intro K hK;go_simp;refine (aDw HR1.o HB1.o).mono ?_;rintro e w2 ⟨rfl,hr2,hf2⟩;rw [HKN.o.1];rw [HKN.o.2] at hr2;have HR2:=zH hr2;have HF2:=zH (HF1.o.trans hf2);have HS2:=zH ((hf2.oth S0 (aAb HS1.o) HSR.o).trans HS1.o);have HB2:=zH (aAj HB1.o hf2 HAR.o);have HO2:=zH (aD9 HO1.o hf2 (by have:=HGR.o;omega));clear hr2 hf2 hHeld;refine hK.out _ _ (aAa HS2.o) (fun hHeld=>?_);clear hK K
   try simp only [Act.put,siT,scZ,scS]
   refine aAf 8 ?_;intro K hK;go_simp;refine (aDw HR2.o HB2.o).mono ?_;rintro e w3 ⟨rfl,hr3,hf3⟩;rw [HMN.o.1];rw [HMN.o.2] at hr3;have HR3:=zH hr3;have HF3:=zH (HF2.o.trans hf3);have HS3:=zH ((hf3.oth S0 (aAb HS2.o) HSR.o).trans HS2.o);have HO3:=zH (aD9 HO2.o hf3 (by have:=HGR.o;omega));have HB3:=zH (aAj HB2.o hf3 HAR.o);clear hr3 hf3 hHeld;refine hK.out _ _ (aAa HS3.o) (fun hHeld=>?_);clear hK K
   try simp only [Act.put,siT,scZ,scS]
   refine aAe 9 28 ?_;refine aAe 10 29 ?_;obtain ⟨cur,hcur,hold⟩:=own_cells aEa HO3.o HATZ.o;have q0:w3.cell? ⟨g,j*3,none⟩=some (.string ⟨#[]⟩):=hold 0 (by omega);have q1:w3.cell? ⟨g,j*3+1,none⟩=some (.int .i64 0):=hold 1 (by omega);have q2:w3.cell? ⟨g,j*3+2,none⟩=some (.int .i64 0):=hold 2 (by omega);clear hold;have f0:w3.frozen? ⟨g,j*3,none⟩=false:=aAg hcur;have f1:w3.frozen? ⟨g,j*3+1,none⟩=false:=aAg hcur;have f2:w3.frozen? ⟨g,j*3+2,none⟩=false:=aAg hcur;refine aAf 11 ?_;intro K hK;go_simp;clear hHeld hcur;refine hK.out _ _ ?_ (fun hHeld=>?_)
   ·exact aAa ((aA6 (show S0≠g from HSG.o)).trans HS3.o)
   clear q0 q1 q2 f0 f1 f2;clear hK K
   try simp only [Act.put,siT,scZ,scS]
   refine wpAnyH_done (by kernel_rfl) ?_ _;refine NoPanic.normal ?_;have HIN:Hid (ID rb N S0 g cl n c a s xs PC w (j+1) (((w3.setCell ⟨g,j*3,none⟩ (.string cn)).setCell ⟨g,j*3+1,none⟩ (.int .i64 (kk:Int))).setCell ⟨g,j*3+2,none⟩ (.int .i64 (mm:Int)))):=by
    have hgr:=HGR.o;have hfr:RdF rb w w3:=HI.o.drew.fr.trans HF3.o;have hab:∀ b' o,a=some ⟨b',o,none⟩->0<n->b'≠g:=fun b' o q hpz=>by
     have h8:=HAN.o b' o q hpz
     first | omega | (rw [hN] at h8;omega)
    refine ⟨(aA6 (show rb≠g by omega)).trans HR3.o,(aA6 HSG.o).trans HS3.o,(aA6 (show N≠g by omega)).trans ?_,?_,?_,aDn (aDn (aDn HB3.o hab) hab) hab⟩
    ·have h7:=HF3.o.oth N (aAb HI.o.drew.zb) (by have:=HRB.o;omega);exact h7.trans HI.o.drew.zb
    ·have h9:=set_row3 (x':=(cn,(kk:Int),(mm:Int))) HO3.o HATZ.o hjn;rw [HNX.o] at h9;exact h9
    ·exact ((hfr.put (by rw [hN];omega) (by omega) _ _).put (by rw [hN];omega) (by omega) _ _).put (by rw [hN];omega) (by omega) _ _
   clear HR3 HS3 HF3 HO3 HB3 HRD HBD HSD HOD HX hHeld;go_wp2;go_roundg (gk-1)
   case measure=>omega
   case rel=>exact ⟨j+1,by omega,rfl,HIN.o⟩
  ·have xj:¬ (j:Int)<(cl:Int):=by omega
   have ej:j=cl:=by omega
   subst ej;have HOC:Hid (wr.ownsRow g 109 3 (.slice (some ⟨g,0,none⟩) j j) j (s.cs.flatMap fC)):=by
    have h9:=HI.o.ow;rw [show rowJ z1 s.cs j=s.cs from by rw [<-HCL.o];exact rowJ_all _ _] at h9;exact h9
   have HC8:=zH (aFi HI.o.rd HI.o.bs);rw [show ((PC j:Nat):Int)=((PC s.cs.length:Nat):Int) from by rw [HCL.o],HRP.o.xn,HXL.o,HRP.o.x0] at HC8;go_wp2_with fail;refine HC8.o.mono ?_;rintro e w8 ⟨rfl,hr8,hf8⟩;have HF8:=zH (HI.o.fr.trans hf8);have HR8:=zH hr8;have HB8:=zH (aAj HI.o.bs hf8 HAR.o);have HS8:=zH ((hf8.oth S0 (aAb HI.o.sb) HSR.o).trans HI.o.sb);have HZ8:=zH ((hf8.oth N (aAb HI.o.zb) (by have:=HRB.o;omega)).trans HI.o.zb);have HO8:=zH (aD9 HOC.o hf8 (by have:=HGR.o;omega));clear hr8 hf8 HC8 HOC;obtain ⟨i0,hi,hz0,hz1',hz2⟩:=info_parts info_ix;go_upto_region 9 with (refine wpList_make_full w8 rfl _ _ 69 rfl w8.heap.size 111 i0 (.agg #[.int .i64 0,.bool false]) 2 Tryz.underlying69 hi hz0 hz1' .i64 .i64 (xl:Int) (xl:Int) xl rfl rfl rfl rfl (by rw [hz2];omega) (by unfold maxLen;omega) (nR _) ?_;intro w9 ho9 hg9;rw [made_ix hxl3] at ho9;have HO9:=zH ho9;have HG9:=zH ((Below.refl w8.heap.size w8).grown hg9 (nR _) (fun k hk=>by cases hk));clear ho9 hg9;have x1:w9.cell? ⟨S0,2,none⟩=some (.slice none 0 0):=aAa ((HG9.o.block S0 (aAb HS8.o)).trans HS8.o);have xf1:w9.frozen? ⟨S0,2,none⟩=false:=aAg ((HG9.o.block S0 (aAb HS8.o)).trans HS8.o));clear x1 xf1;have hgs2:S0<w8.heap.size:=aAb HS8.o;have hgr2:rb<w8.heap.size:=aAb HR8.o;have hgn2:N<w8.heap.size:=aAb HZ8.o;obtain ⟨hgg,hggx⟩:g<w8.heap.size/\True:=by
    rcases HO8.o.2 with ⟨e,_⟩ | ⟨g',cap',cur,e,_,h6,_⟩
    ·cases e
    ·simp only [Value.slice.injEq,oI,Addr.mk.injEq] at e;rw [e.1.1];exact ⟨aAb h6,trivial⟩
   have HIX:Hid (IY rb N S0 g w8.heap.size j xl n c a s xs PX w 0 (w9.setCell ⟨S0,2,none⟩ (.slice (some ⟨w8.heap.size,0,none⟩) xl xl))):=by
    have hg9:=HG9.o;have hns:=HNS.o;have hsg:=HSG.o;refine ⟨?_,heap_setCell_same _ _ _ _ _ _ ((hg9.block S0 hgs2).trans HS8.o),?_,?_,?_,?_,?_⟩
    ·exact (heap_setCell_other _ _ _ _ (show rb≠S0 by omega)).trans ((hg9.block rb hgr2).trans HR8.o)
    ·exact (heap_setCell_other _ _ _ _ (show N≠S0 by omega)).trans ((hg9.block N hgn2).trans HZ8.o)
    ·exact ownsRow_setCell_other (aAm HO8.o hg9) (by show some g≠some S0;simp;omega) _
    ·have h9:=HO9.o;rw [rowJ_zero,HXL.o];exact ownsRow_setCell_other h9 (by show some w8.heap.size≠some S0;simp;omega) _
    ·exact (HF8.o.trans (RdF.of hg9 (by omega))).put (by rw [hN];omega) (by omega) 2 _
    ·refine aDn (HB8.o.later hg9 (nR _)) fun b' o q hpz=>?_
     have h8:=HAN.o b' o q hpz
     first | omega | (rw [hN] at h8;omega)
   clear HO9 HG9 HR8 HS8 HZ8 HB8 HF8 HO8 hi hz0 hz1' hz2 HI hggx;generalize (w9.setCell ⟨S0,2,none⟩ (.slice (some ⟨w8.heap.size,0,none⟩) xl xl))=w10 at *
   generalize w8.heap.size=g2 at *
   have HSG2:Hid (S0≠g2):=by show S0≠g2;omega
   have HGR2:Hid (rb<g2/\N<g2/\g<g2):=⟨hgr2,hgn2,hgg⟩;have x1:w10.cell? ⟨S0,2,none⟩=some (.slice (some ⟨g2,0,none⟩) xl xl):=aAa HIX.o.sb;have HCJ:=HCL;generalize hjc:j=cl at *
   go_wp2_with fail;clear x1;go_loopg [38] xl (fun gh s38 wx=>∃ j:Nat,j+gh=xl/\s38=.int .i64 (j:Int)/\IY rb N S0 g g2 cl xl n c a s xs PX w j wx)
   case atStart=>exact ⟨0,by omega,rfl,HIX.o⟩
   case round =>
    obtain ⟨j,hj,rfl,hix⟩:=hrel;have HI:=zH hix;clear hix;by_cases hjn:j<xl
    ·have xj:(j:Int)<(xl:Int):=by omega
     have xj4:(j:Int)<4:=by omega
     obtain ⟨cj,hcj⟩:∃ c,s.xs[j]?=some c:=⟨_,gE (by rw [HXL.o];exact hjn)⟩;obtain ⟨kk,mm,p1,n1,n2,n3,n4,n5,n6⟩:=HRP.o.ix j cj hcj;have HNX:=zH (rowJ_next (z:=zx) hcj);have HATZ:Hid ((rowJ zx s.xs j)[j]?=some zx):=rowJ_at (by rw [HXL.o];exact hjn);obtain ⟨ck,ub⟩:=cj;dsimp only at n5 n6;subst n5;have hbe:((mm:Int) == 1)=ub:=n6;have HKN:Hid (ruN xs ((PX j:Nat):Int)=kk/\ruP xs ((PX j:Nat):Int)=p1):=⟨n1,n2⟩;have HMN:Hid (ruN xs (p1:Int)=mm/\ruP xs (p1:Int)=PX (j+1)):=⟨n3,n4⟩;clear n1 n2 n3 n4 n6;have HRD:=zH HI.o.drew.rd;have HBD:=zH HI.o.drew.bs;have HSD:=zH HI.o.drew.sb;have HOD:=zH HI.o.drew.ow;have HCD:=zH HI.o.drew.oc;have HX:Hid ((fun wx=>wx.cell? ⟨S0,2,none⟩=some (.slice (some ⟨g2,0,none⟩) xl xl)) wr.drew):=aAa HSD.o;clear hcj;go_upto_region 12 with fail;refine wp_region_noPanic ?_;refine wp_region_held_drew (S:=fun wx=>wx.cell? ⟨S0,2,none⟩=some (.slice (some ⟨g2,0,none⟩) xl xl)) (by kernel_rfl) HX.o (fun hHeld=>?_);refine aAe 0 41 ?_;refine aAe 1 42 ?_;refine aAe 2 43 ?_;refine aAe 3 44 ?_;refine aAe 5 46 ?_;refine aAf 4 ?_;intro K hK;go_simp;refine (aDw HRD.o HBD.o).mono ?_;rintro e w1 ⟨rfl,hr1,hf1⟩;rw [HKN.o.1];rw [HKN.o.2] at hr1;have HR1:=zH hr1;have HF1:=zH hf1;have HS1:=zH ((hf1.oth S0 (aAb HSD.o) HSR.o).trans HSD.o);have HB1:=zH (aAj HBD.o hf1 HAR.o);have HO1:=zH (aD9 HOD.o hf1 (by have:=HGR2.o;omega));have HC1:=zH (aD9 HCD.o hf1 (by have:=HGR.o;omega));clear hr1 hf1 hHeld;refine hK.out _ _ (aAa HS1.o) (fun hHeld=>?_);clear hK K
     try simp only [Act.put,siT,scZ,scS]
     refine aAf 6 ?_;intro K hK;go_simp;refine (aDw HR1.o HB1.o).mono ?_;rintro e w2 ⟨rfl,hr2,hf2⟩;rw [HMN.o.1];rw [HMN.o.2] at hr2;have HR3:=zH hr2;have HF3:=zH (HF1.o.trans hf2);have HS3:=zH ((hf2.oth S0 (aAb HS1.o) HSR.o).trans HS1.o);have HB3:=zH (aAj HB1.o hf2 HAR.o);have HO3:=zH (aD9 HO1.o hf2 (by have:=HGR2.o;omega));have HC3:=zH (aD9 HC1.o hf2 (by have:=HGR.o;omega));clear hr2 hf2 hHeld;refine hK.out _ _ (aAa HS3.o) (fun hHeld=>?_);clear hK K
     try simp only [Act.put,siT,scZ,scS]
     refine aAf 7 ?_;intro K hK;go_simp;refine (bit_any true w2).mono ?_;rintro e w3 ⟨rfl,hw3⟩;have hw3:=hw3.symm;subst hw3;clear hw3;refine hK.out _ _ (aAa HS3.o) (fun hHeld=>?_);clear hK K;refine aAe 8 49 ?_;refine aAe 9 50 ?_;refine aAe 10 51 ?_;obtain ⟨cur,hcur,hold⟩:=own_cells aEw HO3.o HATZ.o;have q0:w2.cell? ⟨g2,j*2,none⟩=some (.int .i64 0):=hold 0 (by omega);have q1:w2.cell? ⟨g2,j*2+1,none⟩=some (.bool false):=hold 1 (by omega);clear hold;have f0:w2.frozen? ⟨g2,j*2,none⟩=false:=aAg hcur;have f1:w2.frozen? ⟨g2,j*2+1,none⟩=false:=aAg hcur;refine aAf 11 ?_;intro K hK;go_simp;clear hHeld hcur;refine hK.out _ _ ?_ (fun hHeld=>?_)
     ·exact aAa ((aEg (show S0≠g2 from HSG2.o)).trans HS3.o)
     clear q0 q1 f0 f1;clear hK K
     try simp only [Act.put,siT,scZ,scS]
     refine wpAnyH_done (by kernel_rfl) ?_ _;refine NoPanic.normal ?_;have HIN:Hid (IY rb N S0 g g2 cl xl n c a s xs PX w (j+1) ((w2.setCell ⟨g2,j*2,none⟩ (.int .i64 (kk:Int))).setCell ⟨g2,j*2+1,none⟩ (.bool ub))):=by
      have hgr:=HGR2.o;have hfr:RdF rb w w2:=HI.o.drew.fr.trans HF3.o;have hab:∀ b' o,a=some ⟨b',o,none⟩->0<n->b'≠g2:=fun b' o q hpz=>by
       have h8:=HAN.o b' o q hpz
       first | omega | (rw [hN] at h8;omega)
      refine ⟨(aEg (show rb≠g2 by omega)).trans HR3.o,(aEg HSG2.o).trans HS3.o,(aEg (show N≠g2 by omega)).trans ?_,?_,?_,?_,aDn (aDn HB3.o hab) hab⟩
      ·have h7:=HF3.o.oth N (aAb HI.o.drew.zb) (by have:=HRB.o;omega);exact h7.trans HI.o.drew.zb
      ·exact ownsRow_setCell_other (ownsRow_setCell_other HC3.o (by show some g≠some g2;simp;omega) _) (by show some g≠some g2;simp;omega) _
      ·have h9:=set_row2 (x':=((kk:Int),ub)) HO3.o HATZ.o hjn;rw [HNX.o] at h9;exact h9
      ·exact (hfr.put (by rw [hN];omega) (by omega) _ _).put (by rw [hN];omega) (by omega) _ _
     clear HR3 HS3 HF3 HO3 HB3 HC3 HRD HBD HSD HOD HCD HX hHeld;go_wp2;go_roundg (gk-1)
     case measure=>omega
     case rel=>exact ⟨j+1,by omega,rfl,HIN.o⟩
    ·have xj:¬ (j:Int)<(xl:Int):=by omega
     have ex:j=xl:=by omega
     have HRX:Hid (rowJ zx s.xs j=s.xs):=by show _=_;rw [ex,<-HXL.o];exact rowJ_all _ _
     have HZB:=zH HI.o.zb;have y0:wr.cell? ⟨S0,0,none⟩=some (.string s.nm):=aAa HI.o.sb;have y1:wr.cell? ⟨S0,1,none⟩=some (.slice (some ⟨g,0,none⟩) cl cl):=aAa HI.o.sb;have y2:wr.cell? ⟨S0,2,none⟩=some (.slice (some ⟨g2,0,none⟩) xl xl):=aAa HI.o.sb;have t0:wr.cell? ⟨N,0,none⟩=some (.string ⟨#[]⟩):=aAa HZB.o;have tf0:wr.frozen? ⟨N,0,none⟩=false:=aAg HZB.o;have t1:wr.cell? ⟨N,1,none⟩=some (.slice none 0 0):=aAa HZB.o;have tf1:wr.frozen? ⟨N,1,none⟩=false:=aAg HZB.o;have t2:wr.cell? ⟨N,2,none⟩=some (.slice none 0 0):=aAa HZB.o;have tf2:wr.frozen? ⟨N,2,none⟩=false:=aAg HZB.o;clear ex;go_wp2;(try simp only [Exit.inBlock,Exit.then]);refine bodyPost_ret (results_cell_row Tryz.results114 _ _ N _ _ _ _ rfl (set3 HZB.o) Tryz.underlying71 rfl aF0) rfl ?_;have hgr:=HGR.o;have hgr2:=HGR2.o;have hrb:=HRB.o;obtain ⟨ga,gc,ge,hsv⟩:=aAo aEa HI.o.oc HCL.o;have h9:=HI.o.ow;rw [HRX.o] at h9;obtain ⟨xa,xc,xe,hsx⟩:=aAo aEw h9 HXL.o;simp only [Value.slice.injEq] at ge xe;obtain ⟨rfl,_,rfl⟩:=ge;obtain ⟨rfl,_,rfl⟩:=xe;have hfr:=((HI.o.fr.put (b:=N) (by omega) (by omega) 0 (.string s.nm)).put (b:=N) (by omega) (by omega) 1 (.slice (some ⟨g,0,none⟩) cl cl)).put (b:=N) (by omega) (by omega) 2 (.slice (some ⟨g2,0,none⟩) xl xl);have hsz:wr.heap.size<=(((wr.setCell ⟨N,0,none⟩ (.string s.nm)).setCell ⟨N,1,none⟩ (.slice (some ⟨g,0,none⟩) cl cl)).setCell ⟨N,2,none⟩ (.slice (some ⟨g2,0,none⟩) xl xl)).heap.size:=((((Below.refl 0 wr).setCell (p:=⟨N,0,none⟩) (Nat.zero_le _) _).setCell (p:=⟨N,1,none⟩) (Nat.zero_le _) _).setCell (p:=⟨N,2,none⟩) (Nat.zero_le _) _).size;refine ⟨some ⟨g,0,none⟩,cl,some ⟨g2,0,none⟩,xl,rfl,⟨hsv.blk hsz fun b o e=>aA6 ?_,hsx.blk hsz fun b o e=>aA6 ?_⟩,hfr,fun b o e=>?_,fun b o e=>?_⟩
     ·simp only [oI,Addr.mk.injEq] at e;omega
     ·simp only [oI,Addr.mk.injEq] at e;omega
     ·simp only [oI,Addr.mk.injEq] at e;omega
     ·simp only [oI,Addr.mk.injEq] at e;omega
theorem aBc {xs:List Value} (h:w.ownsRow B te k v n xs) (hk:∀ g,v.ownBlock=some g->w'.heap[g]?=w.heap[g]?):w'.ownsRow B te k v n xs:=by
 refine ⟨h.1,?_⟩;rcases h.2 with ⟨e,h2⟩ | ⟨g',cap',cur,e,h5,h6,h7⟩
 ·exact Or.inl ⟨e,h2⟩
 ·exact Or.inr ⟨g',cap',cur,e,h5,(hk g' (by rw [e];rfl)).trans h6,h7⟩
theorem bs_blk0 (h:BS w a n c xs) (hb:∀ b o,a=some ⟨b,o,none⟩->0<n->w'.heap[b]?=w.heap[b]?):BS w' a n c xs:=by
 rcases Nat.eq_zero_or_pos n with q | q
 ·subst q;exact h.zero
 ·refine ⟨h.hlen,h.hcap,h.hroom,h.hmax,h.hbyte,h.hnil,fun x hx i hi=>?_⟩;rw [<-h.hcell x hx i hi];refine World.cell?_of_block ?_;have e:(x.add i).block=x.block:=by unfold Addr.add;split<;>rfl
  rw [e];obtain ⟨b,o,sp⟩:=x;have hsp:sp=none:=by
   have:=World.cell?_spot (h.hcell _ hx 0 (by omega));simpa [Addr.add] using this
  subst hsp;exact hb b o hx q
structure RI {α γ:Type} (f:α->List Value) (k te:Nat) (blks:α->List Nat) (M:World->α->Prop) (ct:α->γ) (OK:α->Prop) (T:TypeId) (hd:Value->Array Value) (zc:Array Value) (rb N S0 n c:Nat) (a:Option Addr) (xs:List Nat) (w:World) (p:Nat) (gs:List γ) (v:Value) (ls:List α) (wx:World):Prop where
 rd:EDR rb a n c (p:Int) wx
 sb:wx.heap[S0]?=some (.cells (hd v) T (0,0))
 ow:OwnR f k te blks M (S0+1) wx v ls
 zb:wx.heap[N]?=some (.cells zc T (0,0))
 ct_:ls.map ct=gs
 fr:RdF rb w wx
 bs:BS wx a n c xs
 new:∀ x∈ls,∀ b∈blks x,S0<b
 ok:∀ x∈ls,OK x
 lt:rb<w.heap.size/\w.heap.size<=N/\N<S0
 far:∀ b o,a=some ⟨b,o,none⟩->0<n->b<w.heap.size/\b≠rb
section
variable {α γ:Type} {f:α->List Value} {k te:Nat} {blks:α->List Nat} {M:World->α->Prop} {ct:α->γ} {OK:α->Prop} {T:TypeId} {hd:Value->Array Value} {zc:Array Value} {rb N S0 n c:Nat} {a:Option Addr} {xs:List Nat} {w:World} {p:Nat} {gs:List γ} {v:Value} {ls:List α} {wx wy:World}
theorem RI.later (hM:Stay blks M) (h:RI f k te blks M ct OK T hd zc rb N S0 n c a xs w p gs v ls wx) (hb:Below wx.heap.size wx wy):RI f k te blks M ct OK T hd zc rb N S0 n c a xs w p gs v ls wy :=
 ⟨(hb.block rb (aAb h.rd)).trans h.rd,(hb.block S0 (aAb h.sb)).trans h.sb,h.ow.later hM hb,(hb.block N (aAb h.zb)).trans h.zb,h.ct_,h.fr.trans (RdF.of hb (by have:=aAb h.rd;omega)),h.bs.later hb (nR _),h.new,h.ok,h.lt,h.far⟩
theorem RI.nrb (h:RI f k te blks M ct OK T hd zc rb N S0 n c a xs w p gs v ls wx):∀ g,v.ownBlock=some g->g≠rb/\g≠S0/\g<wx.heap.size:=fun g e=>by
 have h1:=h.ow.own.lt g e
 have:=h.lt
 omega
theorem RI.read (hM:Stay blks M) {q:Nat} (h:RI f k te blks M ct OK T hd zc rb N S0 n c a xs w p gs v ls wx) (hr:EDR rb a n c (q:Int) wy) (hf:RdF rb wx wy):RI f k te blks M ct OK T hd zc rb N S0 n c a xs w q gs v ls wy:=by
 have hl:=h.lt;refine ⟨hr,(hf.oth S0 (aAb h.sb) (by omega)).trans h.sb,h.ow.keep hM hf.bel.size (aBc h.ow.own fun g e=>hf.oth g (h.nrb g e).2.2 (h.nrb g e).1) (fun i hi ⟨x,hx,hb⟩=>hf.oth i hi (by have:=h.new x hx i hb;omega)),(hf.oth N (aAb h.zb) (by omega)).trans h.zb,h.ct_,h.fr.trans hf,aAj h.bs hf (fun b o q hp=>(h.far b o q hp).2),h.new,h.ok,hl,h.far⟩
theorem RI.push (hM:Stay blks M) (hhd:∀ v u,(hd v).setIfInBounds 2 u=hd u) {x:α} {g:γ} {v':Value} (h:RI f k te blks M ct OK T hd zc rb N S0 n c a xs w p gs v ls wx) (hx:M wx x) (hxb:∀ b∈blks x,v.ownBlock≠some b/\S0<b/\b<wx.heap.size) (hc:ct x=g) (hok:OK x)
  (ho:wy.ownsRow (S0+1) te k v' (ls++[x]).length ((ls++[x]).flatMap f)) (hb:Below (S0+1) wx wy) (hk:∀ i,i<wx.heap.size->v.ownBlock≠some i->wy.heap[i]?=wx.heap[i]?) (hv:v'.ownBlock=v.ownBlock\/v'.ownBlock=some wx.heap.size) :
  wy.heap[S0]?=some (.cells (hd v) T (0,0))/\RI f k te blks M ct OK T hd zc rb N S0 n c a xs w p (gs++[g]) v' (ls++[x]) (wy.setCell ⟨S0,2,none⟩ v'):=by
 have hl:=h.lt;have hS:=aAb h.sb;have h1:wy.heap[S0]?=some (.cells (hd v) T (0,0)):=(hk S0 hS (fun e=>(h.nrb S0 e).2.1 rfl)).trans h.sb;have hrb:wy.heap[rb]?=wx.heap[rb]?:=hk rb (aAb h.rd) (fun e=>(h.nrb rb e).1 rfl);have hadd:OwnR f k te blks M (S0+1) wy v' (ls++[x]):=h.ow.add hM hx (fun b hb1=>⟨(hxb b hb1).1,(hxb b hb1).2.2⟩) ho hb.size hk hv;have hne:∀ i,i≠S0->(wy.setCell ⟨S0,2,none⟩ v').heap[i]?=wy.heap[i]?:=fun i hi=>heap_setCell_other _ _ _ _ (show i≠S0 from hi)
 have hsz:wy.heap.size<=(wy.setCell ⟨S0,2,none⟩ v').heap.size:=((Below.refl 0 wy).setCell (p:=⟨S0,2,none⟩) (Nat.zero_le _) v').size;have hnew:∀ y∈ls++[x],∀ b∈blks y,S0<b:=by
  intro y hy b hb1;rcases List.mem_append.1 hy with hy | hy
  ·exact h.new y hy b hb1
  ·obtain rfl:y=x:=by simpa using hy
   exact (hxb b hb1).2.1
 have hv'ne:∀ g',v'.ownBlock=some g'->g'≠S0:=fun g' e=>by have:=ho.lt g' e;omega
 have hbase:∀ i,i<w.heap.size->(wy.setCell ⟨S0,2,none⟩ v').heap[i]?=wx.heap[i]?:=fun i hi=>(hne i (by omega)).trans (hk i (by have:=h.fr.bel.size;omega) (fun e=>by have:=h.ow.own.lt i e;omega))
 refine ⟨h1,⟨(hne rb (by omega)).trans (hrb.trans h.rd),?_,hadd.keep hM hsz (ownsRow_setCell_other ho (fun e=>hv'ne _ e rfl) _) (fun i hi ⟨y,hy,hb1⟩=>hne i (by have:=hnew y hy i hb1;omega)),(hne N (by omega)).trans ((hk N (aAb h.zb) (fun e=>by have:=h.ow.own.lt N e;omega)).trans h.zb),by rw [List.map_append,h.ct_,List.map_cons,List.map_nil,hc],?_,?_,hnew,?_,hl,h.far⟩⟩
 ·rw [heap_setCell_same _ _ _ _ _ _ h1,hhd]
 ·exact ⟨(h.fr.bel.trans (hb.mono (by omega))).setCell (p:=⟨S0,2,none⟩) (show rb<=S0 by omega) v',fun i hi hn=>(hbase i hi).trans (h.fr.oth i hi hn)⟩
 ·exact bs_blk0 h.bs (fun b o q hp=>hbase b (h.far b o q hp).1)
 ·intro y hy;rcases List.mem_append.1 hy with hy | hy
  ·exact h.ok y hy
  ·obtain rfl:y=x:=by simpa using hy
   exact hok
end
def stR (xs:List Nat) (q:Nat):List Val×Nat:=(dR (rbS xs (q:Int) 120),rbP xs (q:Int) 120)
def RwOk (x:RwV):Prop:=∀ y∈x.l,ValQ y
theorem erow_ec (h:EDR rb a n c (p:Int) w) (hb:BS w a n c xs) (har:∀ b o,a=some ⟨b,o,none⟩->0<n->b≠rb) :
  Calls Tryz.prog 56 #[.pointer (some ⟨rb,0,none⟩)] w fun e w'=>∃ x:RwV,e=.returned (.slice x.a x.n x.c)/\RwM w' x/\x.l=(stR xs p).1/\(∀ b∈x.blks,w.heap.size<=b/\b<w'.heap.size)/\RwOk x/\EDR rb a n c ((stR xs p).2:Int) w'/\RdF rb w w':=by
 refine (aEk h hb).mono ?_;rintro e w' ⟨va,vc,rfl,h1,h2,h3,h4,h5⟩;refine ⟨⟨va,_,vc,_⟩,rfl,h1,rfl,fun b hb1=>?_,h2,h4,h5⟩
 cases va with
 | none=>cases hb1
 | some ad =>
  obtain rfl:b=ad.block:=by simpa [RwV.blks,oblk] using hb1
  exact h3.lt ad.block rfl
theorem rreply_any (h:EDR rb a n c (p:Int) w) (hb:BS w a n c xs) (har:∀ b o,a=some ⟨b,o,none⟩->0<n->b≠rb) :
  Calls Tryz.prog 35 #[.pointer (some ⟨rb,0,none⟩)] w fun e w'=>∃ (va:Option Addr) (vc:Nat) (ls:List RwV),e=.returned (.agg #[.int .i64 (ruN xs (p:Int):Int),.int .i64 (ruN xs (ruP xs (p:Int):Int):Int),.slice va ls.length vc])/\SV fR 1 w' va ls.length vc ls/\(∀ x∈ls,RwM w' x)/\ls.map RwV.l=rowsA (stR xs) (ruP xs (ruP xs (ruP xs (p:Int):Int):Int)) (min (ruN xs (ruP xs (ruP xs (p:Int):Int):Int)) 12)/\(∀ x∈ls,RwOk x)/\(∀ b∈oblk va,w.heap.size<=b/\b<w'.heap.size)/\(∀ x∈ls,∀ b∈RwV.blks x,w.heap.size<=b/\b<w'.heap.size)/\EDR rb a n c ((posA (stR xs) (ruP xs (ruP xs (ruP xs (p:Int):Int):Int)) (min (ruN xs (ruP xs (ruP xs (p:Int):Int):Int)) 12):Nat):Int) w'/\RdF rb w w':=by
 have HRB:Hid (rb<w.heap.size):=aAb h;have HAR:=zH har;have HAN:Hid (∀ b o,a=some ⟨b,o,none⟩->0<n->b<w.heap.size/\b≠rb):=by
  intro b o q hpos;have:=aBe (hb.hcell _ q 0 hpos);exact ⟨by simpa [Addr.add] using this,har b o q hpos⟩
 obtain ⟨h0,hh0⟩:∃ k,ruN xs (p:Int)=k:=⟨_,rfl⟩;obtain ⟨q0,hq0⟩:∃ k,ruP xs (p:Int)=k:=⟨_,rfl⟩;rw [hh0,hq0];obtain ⟨h1,hh1⟩:∃ k,ruN xs (q0:Int)=k:=⟨_,rfl⟩;obtain ⟨q1,hq1⟩:∃ k,ruP xs (q0:Int)=k:=⟨_,rfl⟩;rw [hh1,hq1];obtain ⟨cn,hcn⟩:∃ k,min (ruN xs (q1:Int)) 12=k:=⟨_,rfl⟩;obtain ⟨q9,hq9⟩:∃ k,ruP xs (q1:Int)=k:=⟨_,rfl⟩;rw [hcn,hq9];have HCN:Hid (cn<=12):=by show _<=_;rw [<-hcn];exact Nat.min_le_right _ _
 have hbz:=aAc w (.cells #[.int .i64 0,.int .i64 0,.slice none 0 0] 37);have HZ1:Hid ((w.alloc (.cells #[.int .i64 0,.int .i64 0,.slice none 0 0] 37)).heap[w.heap.size]?=some (.cells #[.int .i64 0,.int .i64 0,.slice none 0 0] 37 (0,0))):=boxed w _;have HR1:Hid (EDR rb a n c (p:Int) (w.alloc (.cells #[.int .i64 0,.int .i64 0,.slice none 0 0] 37))):=(hbz.block rb (aAb h)).trans h;have HB1:=zH (hb.later hbz (nR _));have HF1:Hid (RdF rb w (w.alloc (.cells #[.int .i64 0,.int .i64 0,.slice none 0 0] 37))):=RdF.of hbz (by have:=HRB.o;omega);have HCE:=zH hcn;have HP9:=zH hq9;have HH0:Hid (ruN xs (p:Int)=h0/\ruP xs (p:Int)=q0):=⟨hh0,hq0⟩;have HH1:Hid (ruN xs (q0:Int)=h1/\ruP xs (q0:Int)=q1):=⟨hh1,hq1⟩;clear h hb har hbz hcn hq9 hh0 hq0 hh1 hq1;go_enter Tryz.func35,Tryz.ntmps35;go_upto_region 1 with fail;generalize w.alloc (.cells #[.int .i64 0,.int .i64 0,.slice none 0 0] 37)=w1 at *
 generalize hN:w.heap.size=N at *
 have HC0:=zH (aAp HR1.o HB1.o);go_wp2_with fail;refine HC0.o.mono ?_;rintro e wh0 ⟨rfl,hr,hf⟩;rw [HH0.o.1];rw [HH0.o.2] at hr;have HF2:=zH (HF1.o.trans hf);have HR2:=zH hr;have HB2:=zH (aAj HB1.o hf HAR.o);have HZ2:=zH ((hf.oth N (aAb HZ1.o) (by have:=HRB.o;omega)).trans HZ1.o);clear hr hf HC0 HR1 HB1 HZ1;have HC1:=zH (aAp HR2.o HB2.o);go_wp2_with fail;refine HC1.o.mono ?_;rintro e wh1 ⟨rfl,hr,hf⟩;rw [HH1.o.1];rw [HH1.o.2] at hr;have HF3:=zH (HF2.o.trans hf);have HR3:=zH hr;have HB3:=zH (aAj HB2.o hf HAR.o);have HZ3:=zH ((hf.oth N (aAb HZ2.o) (by have:=HRB.o;omega)).trans HZ2.o);clear hr hf HC1 HR2 HB2 HZ2;have hb3:=aAc wh1 (.cells #[.int .i64 (h0:Int),.int .i64 (h1:Int),.slice none 0 0] 37);have HS3:Hid ((wh1.alloc (.cells #[.int .i64 (h0:Int),.int .i64 (h1:Int),.slice none 0 0] 37)).heap[wh1.heap.size]?=some (.cells #[.int .i64 (h0:Int),.int .i64 (h1:Int),.slice none 0 0] 37 (0,0))):=boxed wh1 _;have HRs:Hid (EDR rb a n c (q1:Int) (wh1.alloc (.cells #[.int .i64 (h0:Int),.int .i64 (h1:Int),.slice none 0 0] 37))):=(hb3.block rb (aAb HR3.o)).trans HR3.o;have HZs:=zH ((hb3.block N (aAb HZ3.o)).trans HZ3.o);have HBs:=zH (HB3.o.later hb3 (nR _));have HFs:=zH (HF3.o.trans (RdF.of hb3 (by have:=aAb HR3.o;omega)));have HNS:Hid (N<wh1.heap.size/\rb<wh1.heap.size):=⟨aAb HZ3.o,aAb HR3.o⟩;clear hb3;go_upto_region 2 with fail;generalize wh1.alloc (.cells #[.int .i64 (h0:Int),.int .i64 (h1:Int),.slice none 0 0] 37)=w3 at *
 generalize wh1.heap.size=S0 at *
 have HCs:=zH (aC9 (m0:=12) HRs.o HBs.o);go_wp2_with fail;refine HCs.o.mono ?_;rintro e w4 ⟨rfl,hr4,hf4⟩;rw [HP9.o] at hr4;rw [HCE.o];have HI4:Hid (RI fR 1 62 RwV.blks RwM RwV.l RwOk 37 (fun v=>#[.int .i64 (h0:Int),.int .i64 (h1:Int),v]) #[.int .i64 0,.int .i64 0,.slice none 0 0] rb N S0 n c a xs w q9 [] (.slice none 0 0) [] w4):=by
  refine ⟨hr4,(hf4.oth S0 (aAb HS3.o) (by have:=HNS.o;omega)).trans HS3.o,OwnR.nil _ _ _ _ _ _ _,(hf4.oth N (aAb HZs.o) (by have:=HRB.o;omega)).trans HZs.o,rfl,HFs.o.trans hf4,aAj HBs.o hf4 HAR.o,by simp,by simp,⟨by rw [hN];exact HRB.o,Nat.le_of_eq hN,HNS.o.1⟩,fun b o q hp=>by rw [hN];exact HAN.o b o q hp⟩
 clear hr4 hf4 HCs HRs HBs HS3 HZs HFs HCE;go_wp2_with fail;go_loopg [11] cn (fun gh sx wx=>∃ (j:Nat) (v:Value) (ls:List RwV),j+gh=cn/\sx=.int .i64 (j:Int)/\RI fR 1 62 RwV.blks RwM RwV.l RwOk 37 (fun v=>#[.int .i64 (h0:Int),.int .i64 (h1:Int),v]) #[.int .i64 0,.int .i64 0,.slice none 0 0] rb N S0 n c a xs w (posA (stR xs) q9 j) (rowsA (stR xs) q9 j) v ls wx)
 case atStart=>exact ⟨0,_,[],by omega,rfl,HI4.o⟩
 case round =>
  obtain ⟨j,v,ls,hj,rfl,hri⟩:=hrel;have HI:=zH hri;clear hri;by_cases hjn:j<cn
  ·have xj:(j:Int)<(cn:Int):=by omega
   have xj4:(j:Int)<1000000:=by have:=HCN.o;omega
   have HLL:Hid (ls.length<=12):=by
    show _<=_;have:=congrArg List.length HI.o.ct_;rw [List.length_map,aDt] at this;have:=HCN.o;omega
   have HID:=zH (HI.o.later aA9 (Below.refl _ _).drew);obtain ⟨P,hP⟩:∃ P,posA (stR xs) q9 j=P:=⟨_,rfl⟩;have HEC:=zH (erow_ec HID.o.rd HID.o.bs HAR.o);rw [hP] at HEC HID;have HPN:Hid (posA (stR xs) q9 (j+1)=(stR xs P).2/\rowsA (stR xs) q9 (j+1)=rowsA (stR xs) q9 j++[(stR xs P).1]):=by
    refine ⟨?_,?_⟩
    ·show (stR xs (posA (stR xs) q9 j)).2=_;rw [hP]
    ·show rowsA (stR xs) q9 j++[(stR xs (posA (stR xs) q9 j)).1]=_;rw [hP]
   clear hP;go_upto_region 4 with fail;refine wp_region_noPanic ?_;refine wp_region_held_drew (S:=fun wx=>True) (by kernel_rfl) trivial (fun hHeld=>?_);refine aAe 0 13 ?_;refine aAe 2 15 ?_;refine aAn (i:=1) (j:=3) (by kernel_rfl) (by kernel_rfl) (by kernel_rfl) ?ba ?bb
   case ba =>
    have y0:wr.drew.cell? ⟨S0,2,none⟩=some v:=aAa (show wr.drew.heap[S0]?=_ from HID.o.sb);have y0':wr.cell? ⟨S0,2,none⟩=some v:=y0;intro o ho K hK;simp only [tG,sG,zG,oI] at ho;subst ho;go_simp;clear hHeld;refine hK.out _ _ trivial (fun hHeld=>?_);clear hK K
    try simp only [Act.put,siT,scZ,scS]
    clear y0 y0';refine aAf 3 ?_;intro K hK;go_simp;refine HEC.o.mono ?_;rintro e w5 ⟨x,rfl,hm5,hc5,hn5,hok5,hr5,hf5⟩;have HI5:=zH (HID.o.read aA9 hr5 hf5);have HM5:=zH hm5;have HC5:=zH hc5;have HOK5:=zH hok5;have HNW5:Hid (∀ b∈RwV.blks x,v.ownBlock≠some b/\S0<b/\b<w5.heap.size):=fun b hb=>by
     have h1:=hn5 b hb;refine ⟨fun e=>?_,?_,h1.2⟩
     ·have:=(HID.o.nrb b e).2.2;omega
     ·have:=aAb HID.o.sb;omega
    clear hm5 hc5 hn5 hok5 hr5 hf5 hHeld HEC;refine hK.out _ _ trivial (fun hHeld=>?_);clear hK K
    try simp only [Act.put,siT,scZ,scS]
    refine aAf 4 ?_;intro K hK;go_simp;clear hHeld;refine hK.out _ _ trivial (fun hHeld=>?_);clear hK K
    try simp only [Act.put,siT,scZ,scS]
    have hb6:=aAc w5 (.cells #[.slice x.a x.n x.c] 62);have HI6:=zH (HI5.o.later aA9 hb6);have HM6:=zH (aA9 _ _ x HM5.o hb6.size (fun b _ hb=>hb6.block b hb));have HG6:Hid (SV fR 1 (w5.alloc (.cells #[.slice x.a x.n x.c] 62)) (some ⟨w5.heap.size,0,none⟩) 1 1 [x]):=SV.whole aCq rfl (by omega) (boxed w5 _);have HNW6:Hid (∀ b∈RwV.blks x,v.ownBlock≠some b/\S0<b/\b<(w5.alloc (.cells #[.slice x.a x.n x.c] 62)).heap.size):=fun b hb=>⟨(HNW5.o b hb).1,(HNW5.o b hb).2.1,Nat.lt_of_lt_of_le (HNW5.o b hb).2.2 hb6.size⟩
    clear hb6 HI5 HM5 HNW5;generalize w5.alloc (.cells #[.slice x.a x.n x.c] 62)=w6 at *
    generalize w5.heap.size=g5 at *
    refine aAf 5 ?_;intro K hK;rw [if_pos (by rfl)];refine aA3 (f:=fR) aCq (by omega) fR_one Tryz.underlying35 aEs rfl (.tmp 14) (.tmp 17) rfl (B1:=S0+1) (F:=ls) (G:=[x]) rfl rfl HI6.o.ow.own HG6.o (by have:=aAb HI6.o.sb;omega) (by have:=HLL.o;omega) (by omega) ?_;intro v7 w7 ho7 hb7 hk7 hv7;have hst:=HI6.o.push aA9 (fun _ _=>rfl) HM6.o HNW6.o HC5.o HOK5.o ho7 hb7 hk7 hv7;obtain ⟨a7,c7,e7,_⟩:=aAo aCq ho7 rfl;generalize (ls++[x]).length=m7 at e7;subst e7;have y0:w7.cell? ⟨S0,2,none⟩=some v:=aAa hst.1;have yf:w7.frozen? ⟨S0,2,none⟩=false:=aAg hst.1;have HI7:=zH hst.2;clear ho7 hb7 hk7 hv7 hst hHeld;refine hK.out _ _ trivial (fun hHeld=>?_);clear hK K
    try simp only [Act.put,siT,scZ,scS]
    refine aAe 6 19 ?_;refine aAf 7 ?_;intro K hK;go_simp;clear hHeld;refine hK.out _ _ trivial (fun hHeld=>?_);clear y0 yf;clear hK K
    try simp only [Act.put,siT,scZ,scS]
    refine wpAnyH_done (by kernel_rfl) ?_ _;refine NoPanic.normal ?_;clear hHeld;go_wp2;go_roundg (gk-1)
    case measure=>omega
    case rel=>exact ⟨j+1,_,_,by omega,rfl,by rw [HPN.o.1,HPN.o.2];exact HI7.o⟩
   case bb =>
    intro o ho K hK;simp only [tG,sG,zG,oI] at ho;subst ho;go_simp;refine HEC.o.mono ?_;rintro e w5 ⟨x,rfl,hm5,hc5,hn5,hok5,hr5,hf5⟩;have HI5:=zH (HID.o.read aA9 hr5 hf5);have HM5:=zH hm5;have HC5:=zH hc5;have HOK5:=zH hok5;have HNW5:Hid (∀ b∈RwV.blks x,v.ownBlock≠some b/\S0<b/\b<w5.heap.size):=fun b hb=>by
     have h1:=hn5 b hb;refine ⟨fun e=>?_,?_,h1.2⟩
     ·have:=(HID.o.nrb b e).2.2;omega
     ·have:=aAb HID.o.sb;omega
    clear hm5 hc5 hn5 hok5 hr5 hf5 hHeld HEC;refine hK.out _ _ trivial (fun hHeld=>?_);clear hK K
    try simp only [Act.put,siT,scZ,scS]
    refine aAn (i:=1) (j:=4) (by kernel_rfl) (by kernel_rfl) (by kernel_rfl) ?bba ?bbb
    case bba =>
     have y0:w5.cell? ⟨S0,2,none⟩=some v:=aAa HI5.o.sb;intro o ho K hK;simp only [tG,sG,zG,oI] at ho;subst ho;go_simp;clear hHeld;refine hK.out _ _ trivial (fun hHeld=>?_);clear hK K
     try simp only [Act.put,siT,scZ,scS]
     clear y0;refine aAf 4 ?_;intro K hK;go_simp;clear hHeld;refine hK.out _ _ trivial (fun hHeld=>?_);clear hK K
     try simp only [Act.put,siT,scZ,scS]
     have hb6:=aAc w5 (.cells #[.slice x.a x.n x.c] 62);have HI6:=zH (HI5.o.later aA9 hb6);have HM6:=zH (aA9 _ _ x HM5.o hb6.size (fun b _ hb=>hb6.block b hb));have HG6:Hid (SV fR 1 (w5.alloc (.cells #[.slice x.a x.n x.c] 62)) (some ⟨w5.heap.size,0,none⟩) 1 1 [x]):=SV.whole aCq rfl (by omega) (boxed w5 _);have HNW6:Hid (∀ b∈RwV.blks x,v.ownBlock≠some b/\S0<b/\b<(w5.alloc (.cells #[.slice x.a x.n x.c] 62)).heap.size):=fun b hb=>⟨(HNW5.o b hb).1,(HNW5.o b hb).2.1,Nat.lt_of_lt_of_le (HNW5.o b hb).2.2 hb6.size⟩
     clear hb6 HI5 HM5 HNW5;generalize w5.alloc (.cells #[.slice x.a x.n x.c] 62)=w6 at *
     generalize w5.heap.size=g5 at *
     refine aAf 5 ?_;intro K hK;rw [if_pos (by rfl)];refine aA3 (f:=fR) aCq (by omega) fR_one Tryz.underlying35 aEs rfl (.tmp 14) (.tmp 17) rfl (B1:=S0+1) (F:=ls) (G:=[x]) rfl rfl HI6.o.ow.own HG6.o (by have:=aAb HI6.o.sb;omega) (by have:=HLL.o;omega) (by omega) ?_;intro v7 w7 ho7 hb7 hk7 hv7;have hst:=HI6.o.push aA9 (fun _ _=>rfl) HM6.o HNW6.o HC5.o HOK5.o ho7 hb7 hk7 hv7;obtain ⟨a7,c7,e7,_⟩:=aAo aCq ho7 rfl;generalize (ls++[x]).length=m7 at e7;subst e7;have y0:w7.cell? ⟨S0,2,none⟩=some v:=aAa hst.1;have yf:w7.frozen? ⟨S0,2,none⟩=false:=aAg hst.1;have HI7:=zH hst.2;clear ho7 hb7 hk7 hv7 hst hHeld;refine hK.out _ _ trivial (fun hHeld=>?_);clear hK K
     try simp only [Act.put,siT,scZ,scS]
     refine aAe 6 19 ?_;refine aAf 7 ?_;intro K hK;go_simp;clear hHeld;refine hK.out _ _ trivial (fun hHeld=>?_);clear y0 yf;clear hK K
     try simp only [Act.put,siT,scZ,scS]
     refine wpAnyH_done (by kernel_rfl) ?_ _;refine NoPanic.normal ?_;clear hHeld;go_wp2;go_roundg (gk-1)
     case measure=>omega
     case rel=>exact ⟨j+1,_,_,by omega,rfl,by rw [HPN.o.1,HPN.o.2];exact HI7.o⟩
    case bbb =>
     intro o ho K hK;simp only [tG,sG,zG,oI] at ho;subst ho;go_simp;clear hHeld;refine hK.out _ _ trivial (fun hHeld=>?_);clear hK K
     try simp only [Act.put,siT,scZ,scS]
     have hb6:=aAc w5 (.cells #[.slice x.a x.n x.c] 62);have HI6:=zH (HI5.o.later aA9 hb6);have HM6:=zH (aA9 _ _ x HM5.o hb6.size (fun b _ hb=>hb6.block b hb));have HG6:Hid (SV fR 1 (w5.alloc (.cells #[.slice x.a x.n x.c] 62)) (some ⟨w5.heap.size,0,none⟩) 1 1 [x]):=SV.whole aCq rfl (by omega) (boxed w5 _);have HNW6:Hid (∀ b∈RwV.blks x,v.ownBlock≠some b/\S0<b/\b<(w5.alloc (.cells #[.slice x.a x.n x.c] 62)).heap.size):=fun b hb=>⟨(HNW5.o b hb).1,(HNW5.o b hb).2.1,Nat.lt_of_lt_of_le (HNW5.o b hb).2.2 hb6.size⟩
     clear hb6 HI5 HM5 HNW5;generalize w5.alloc (.cells #[.slice x.a x.n x.c] 62)=w6 at *
     generalize w5.heap.size=g5 at *
     have y0:w6.cell? ⟨S0,2,none⟩=some v:=aAa HI6.o.sb;refine aAf 1 ?_;intro K hK;go_simp;clear hHeld;refine hK.out _ _ trivial (fun hHeld=>?_);clear hK K
     try simp only [Act.put,siT,scZ,scS]
     clear y0;refine aAf 5 ?_;intro K hK;rw [if_pos (by rfl)];refine aA3 (f:=fR) aCq (by omega) fR_one Tryz.underlying35 aEs rfl (.tmp 14) (.tmp 17) rfl (B1:=S0+1) (F:=ls) (G:=[x]) rfl rfl HI6.o.ow.own HG6.o (by have:=aAb HI6.o.sb;omega) (by have:=HLL.o;omega) (by omega) ?_;intro v7 w7 ho7 hb7 hk7 hv7;have hst:=HI6.o.push aA9 (fun _ _=>rfl) HM6.o HNW6.o HC5.o HOK5.o ho7 hb7 hk7 hv7;obtain ⟨a7,c7,e7,_⟩:=aAo aCq ho7 rfl;generalize (ls++[x]).length=m7 at e7;subst e7;have y0:w7.cell? ⟨S0,2,none⟩=some v:=aAa hst.1;have yf:w7.frozen? ⟨S0,2,none⟩=false:=aAg hst.1;have HI7:=zH hst.2;clear ho7 hb7 hk7 hv7 hst hHeld;refine hK.out _ _ trivial (fun hHeld=>?_);clear hK K
     try simp only [Act.put,siT,scZ,scS]
     refine aAe 6 19 ?_;refine aAf 7 ?_;intro K hK;go_simp;clear hHeld;refine hK.out _ _ trivial (fun hHeld=>?_);clear y0 yf;clear hK K
     try simp only [Act.put,siT,scZ,scS]
     refine wpAnyH_done (by kernel_rfl) ?_ _;refine NoPanic.normal ?_;clear hHeld;go_wp2;go_roundg (gk-1)
     case measure=>omega
     case rel=>exact ⟨j+1,_,_,by omega,rfl,by rw [HPN.o.1,HPN.o.2];exact HI7.o⟩
  ·have xj:¬ (j:Int)<(cn:Int):=by omega
   have ex:j=cn:=by omega
   subst ex;obtain ⟨a9,c9,e9,_⟩:=aAo aCq HI.o.ow.own rfl;obtain ⟨m9,hm9⟩:∃ m,ls.length=m:=⟨_,rfl⟩;rw [hm9] at e9;subst e9;have HML:=zH hm9;clear hm9;have y0:wr.cell? ⟨S0,0,none⟩=some (.int .i64 (h0:Int)):=aAa HI.o.sb;have t0:wr.cell? ⟨N,0,none⟩=some (.int .i64 0):=aAa HI.o.zb;have tf0:wr.frozen? ⟨N,0,none⟩=false:=aAg HI.o.zb;have y1:wr.cell? ⟨S0,1,none⟩=some (.int .i64 (h1:Int)):=aAa HI.o.sb;have t1:wr.cell? ⟨N,1,none⟩=some (.int .i64 0):=aAa HI.o.zb;have tf1:wr.frozen? ⟨N,1,none⟩=false:=aAg HI.o.zb;have y2:wr.cell? ⟨S0,2,none⟩=some (.slice a9 m9 c9):=aAa HI.o.sb;have t2:wr.cell? ⟨N,2,none⟩=some (.slice none 0 0):=aAa HI.o.zb;have tf2:wr.frozen? ⟨N,2,none⟩=false:=aAg HI.o.zb;go_wp2;(try simp only [Exit.inBlock,Exit.then]);refine bodyPost_ret (results_cell_row Tryz.results35 _ _ N _ _ _ _ rfl (set3 HI.o.zb) Tryz.underlying37 rfl (by kernel_rfl)) rfl ?_;have hlt:=HI.o.lt;have hne:∀ i,i≠N->(((wr.setCell ⟨N,0,none⟩ (.int .i64 (h0:Int))).setCell ⟨N,1,none⟩ (.int .i64 (h1:Int))).setCell ⟨N,2,none⟩ (.slice a9 m9 c9)).heap[i]?=wr.heap[i]?:=fun i hi=>aA6 (show i≠N from hi)
   have hsz:wr.heap.size<=(((wr.setCell ⟨N,0,none⟩ (.int .i64 (h0:Int))).setCell ⟨N,1,none⟩ (.int .i64 (h1:Int))).setCell ⟨N,2,none⟩ (.slice a9 m9 c9)).heap.size:=((((Below.refl 0 wr).setCell (p:=⟨N,0,none⟩) (Nat.zero_le _) _).setCell (p:=⟨N,1,none⟩) (Nat.zero_le _) _).setCell (p:=⟨N,2,none⟩) (Nat.zero_le _) _).size;have hown:=HI.o.ow.keep (w':=(((wr.setCell ⟨N,0,none⟩ (.int .i64 (h0:Int))).setCell ⟨N,1,none⟩ (.int .i64 (h1:Int))).setCell ⟨N,2,none⟩ (.slice a9 m9 c9))) aA9 hsz (aBc HI.o.ow.own fun g e=>hne g (by have:=HI.o.ow.own.lt g e;omega)) (fun i hi ⟨y,hy,hb1⟩=>hne i (by have:=HI.o.new y hy i hb1;omega));obtain ⟨a8,c8,e8,hsv⟩:=aAo aCq hown.own rfl;rw [HML.o] at e8;simp only [Value.slice.injEq,true_and] at e8;obtain ⟨rfl,rfl⟩:=e8;refine ⟨a9,c9,ls,by rw [HML.o],hsv,hown.mem,HI.o.ct_,HI.o.ok,fun b hb1=>?_,fun y hy b hb1=>⟨by have:=HI.o.new y hy b hb1;omega,(hown.ap y hy b hb1).2⟩,?_,?_⟩
   ·cases a9 with
    | none=>cases hb1
    | some ad =>
     obtain rfl:b=ad.block:=by simpa [oblk] using hb1
     have:=hown.own.lt ad.block rfl;omega
   ·exact (hne rb (by omega)).trans HI.o.rd
   ·exact (((HI.o.fr.put (b:=N) (by omega) (by omega) 0 _).put (b:=N) (by omega) (by omega) 1 _).put (b:=N) (by omega) (by omega) 2 _)
theorem aAt {fn:Func} {p u:Tmp} {ty:TypeId} (h:fn.results=#[.cell p ty,.tmp u]) (tmps:Array Value) (w:World) (g:Nat) (t:TypeId) (cs:Array Value) (fr:Nat×Nat) (d:TypeDesc)
    (hp:tmps.getD p undef=.pointer (some ⟨g,0,none⟩)) (hg:w.heap[g]?=some (.cells cs t fr))
    (hu:Tryz.prog.underlying ty=some d) (hd:(match (generalizing:=false) d with | .struct _ | .array _ _=>true | _=>false)=true) (hi:(Tryz.prog.info? ty).map (·.size)=some cs.size) :
    (results fn tmps).run Tryz.prog w=.ok (.tuple #[.agg cs,tmps.getD u undef]) w:=by
  rw [results_cell_tmp h,hp];simp only [asAddr,Sem.run_pure,Result.andThen_ok,run_loadVar_row w g t ty cs fr d hg hu (by cases d<;>first | rfl | (simp at hd)) hi]
def rpE (xs:List Nat):Nat:=ruN xs ((0:Nat):Int)
def rpA (xs:List Nat):Nat:=ruN xs (ruP xs ((0:Nat):Int):Int)
def rpRows (xs:List Nat):List (List Val):=rowsA (stR xs) (ruP xs (ruP xs (ruP xs ((0:Nat):Int):Int):Int)) (min (ruN xs (ruP xs (ruP xs ((0:Nat):Int):Int):Int)) 12)
theorem encR_lt (er at_:Int) (rs:List RwV):∀ x∈encR er at_ rs,x<256:=by
  intro x hx;unfold encR at hx;rcases List.mem_append.1 hx with h | h
  · rcases List.mem_append.1 h with h | h
    · exact aAr _ x h
    · rcases List.mem_append.1 h with h | h
      · exact aAr _ x h
      · exact aAr _ x h
  · obtain ⟨y,_,hy⟩:=List.mem_flatMap.1 h
    unfold encRow pt at hy;rcases List.mem_append.1 hy with h | h
    · exact aAr _ x h
    · exact aCn _ x h
theorem rpOk_parts {er at_:Int} {rs:List RwV} (h:rpOk er at_ rs=true):(0<=er/\er<=65536)/\(0<=at_/\at_<=2)/\rs.length<=12/\∀ x∈rs,rowE x.l=0:=by
  unfold rpOk rpHd at h;simp only [Bool.and_eq_true,decide_eq_true_eq,List.all_eq_true] at h;exact ⟨h.1.1.1,h.1.1.2,h.1.2,h.2⟩
theorem encR_len {er at_:Int} {rs:List RwV} (h:rpOk er at_ rs=true):(encR er at_ rs).length<=1600:=by
  obtain ⟨h1,h2,h3,h4⟩:=rpOk_parts h;unfold encR;rw [lA,lA,lA];have h9:=aBs (f:=encRow) (m:=129) (l:=rs) (fun y hy=>aFn (h4 y hy));have h6:rs.length*129<=12*129:=Nat.mul_le_mul_right _ h3;have:=aAh er.toNat (by omega);have:=aAh at_.toNat (by omega);have:=aAh rs.length (by omega);omega
theorem aDm {er at_:Int} {ra:Option Addr} {rl rc:Nat} {rs:List RwV} (h:Rws w ra rl rc rs) (hv:∀ x∈rs,RwOk x) :
    Calls Tryz.prog 14 #[.agg #[.int .i64 er,.int .i64 at_,.slice ra rl rc]] w fun e w'=>∃ ax nx cx,e=.returned (.tuple #[.slice ax nx cx,.int .i64 (if rpOk er at_ rs=true then 0 else 1)])/\(rpOk er at_ rs=true->BS w' ax nx cx (encR er at_ rs))/\(rpOk er at_ rs=false->nx=0)/\Below w.heap.size w w':=by
  refine (encreply_any h hv).mono ?_;rintro e w' ⟨h1,h2⟩;unfold EncP at h1
  cases hok:rpOk er at_ rs with
  | true =>
    rw [hok,if_pos rfl] at h1;obtain ⟨v,rfl,ho⟩:=h1;obtain ⟨a,c,rfl⟩:=ho.form;exact ⟨a,_,c,rfl,fun _=>OB.bs ho (encR_lt _ _ _) (by have:=encR_len hok;omega),(fun q=>by cases q),h2⟩
  | false =>
    rw [hok,if_neg (by decide)] at h1;exact ⟨none,0,0,h1,(fun q=>by cases q),fun _=>rfl,h2⟩
def DrpR (xs:List Nat) (w':World) (e:Ending):Prop:=∃ (ra:Option Addr) (rc:Nat) (rs:List RwV),rs.map RwV.l=rpRows xs/\(∀ x∈rs,RwOk x) /\
  ((rpOk (rpE xs) (rpA xs) rs=true/\encR (rpE xs) (rpA xs) rs=xs/\e=.returned (.tuple #[.agg #[.int .i64 (rpE xs:Int),.int .i64 (rpA xs:Int),.slice ra rs.length rc],.int .i64 0])/\Rws w' ra rs.length rc rs) \/
   (¬ (rpOk (rpE xs) (rpA xs) rs=true/\encR (rpE xs) (rpA xs) rs=xs)/\e=.returned (.tuple #[.agg #[.int .i64 0,.int .i64 0,.slice none 0 0],.int .i64 11])))
theorem aCu (hb:BS w a n c xs) :
    Calls Tryz.prog 16 #[.slice a n c] w fun e w'=>DrpR xs w' e/\Below w.heap.size w w':=by
  have HZC:Hid (∀ x∈xs,x<256):=hb.hbyte;obtain ⟨N,hN⟩:∃ N,w.heap.size=N:=⟨_,rfl⟩;obtain ⟨w1,hw1⟩:∃ w1,w1=(w.alloc (.cells #[.int .i64 0,.int .i64 0,.slice none 0 0] 37)).alloc (.cells #[.slice a n c,.int .i64 0] 56):=⟨_,rfl⟩;have HZ1:Hid (w1.heap[N]?=some (.cells #[.int .i64 0,.int .i64 0,.slice none 0 0] 37 (0,0))):=by show _=_;rw [hw1,<-hN];exact heap_alloc2_old w _ _
  have HR1:Hid (EDR (N+1) a n c ((0:Nat):Int) w1):=by show _=_;rw [hw1,<-hN];exact heap_alloc2_new w _ _
  have hb1:Below w.heap.size w w1:=by rw [hw1];exact (aAc w _).trans ((aAc _ _).mono (aAc w _).size)
  have HB1:=zH (hb.later hb1 (nR _));have HW1:Hid (Below N w w1):=by show Below N w w1;rw [<-hN];exact hb1
  have HAN:Hid (∀ b o,a=some ⟨b,o,none⟩->0<n->b<N):=by
    intro b o q hpos;have:=aBe (hb.hcell _ q 0 hpos);rw [<-hN];simpa [Addr.add] using this
  have HSC:=zH (rreply_any (p:=0) HR1.o HB1.o fun b o q hp=>by have:=HAN.o b o q hp;omega);have HE1:=zH hw1;have e1:ruN xs ((0:Nat):Int)=rpE xs:=rfl;have e2:ruN xs (ruP xs ((0:Nat):Int):Int)=rpA xs:=rfl;have e3:rowsA (stR xs) (ruP xs (ruP xs (ruP xs ((0:Nat):Int):Int):Int)) (min (ruN xs (ruP xs (ruP xs ((0:Nat):Int):Int):Int)) 12)=rpRows xs:=rfl;rw [e1,e2,e3] at HSC;rw [hN];have HNN:=zH hN;unfold DrpR;obtain ⟨En,hEn⟩:∃ k,rpE xs=k:=⟨_,rfl⟩;obtain ⟨An,hAn⟩:∃ k,rpA xs=k:=⟨_,rfl⟩;obtain ⟨Rn,hRn⟩:∃ k,rpRows xs=k:=⟨_,rfl⟩;rw [hEn,hAn,hRn] at HSC ⊢;clear hb hb1 hw1 e1 e2 e3 hEn hAn hRn;go_enter Tryz.func16,Tryz.ntmps16;go_upto_region 2 with fail;rw [<-HE1.o]
  try simp only [hN]
  go_wp2_with fail;refine HSC.o.mono ?_;rintro e w2 ⟨va,vc,rs,rfl,hsv,hmem,hct,hok,hva,hblk,_,hf⟩;have HMP:=zH hct;have HOK:=zH hok;have HSV2:=zH (Rws.mk hsv hmem);have HNV:Hid ((∀ b∈oblk va,N<b)/\∀ x∈rs,∀ b∈x.blks,N<b):=⟨fun b hb=>by have:=hva b hb;have:=aAb HR1.o;omega,fun x hx b hb=>by have:=hblk x hx b hb;have:=aAb HR1.o;omega⟩;clear hct hok hsv hmem hva hblk;obtain ⟨m,hm⟩:∃ m,rs.length=m:=⟨_,rfl⟩;have HM:=zH hm;rw [hm] at HSV2;rw [hm];clear hm;have hbx:=aAc w2 (.cells #[.int .i64 (En:Int),.int .i64 (An:Int),.slice va m vc] 37);have HV3:Hid ((w2.alloc (.cells #[.int .i64 (En:Int),.int .i64 (An:Int),.slice va m vc] 37)).heap[w2.heap.size]?=some (.cells #[.int .i64 (En:Int),.int .i64 (An:Int),.slice va m vc] 37 (0,0))):=boxed w2 _;have HSV3:=zH (HSV2.o.later hbx);have HZ3:Hid ((w2.alloc (.cells #[.int .i64 (En:Int),.int .i64 (An:Int),.slice va m vc] 37)).heap[N]?=some (.cells #[.int .i64 0,.int .i64 0,.slice none 0 0] 37 (0,0))):=(hbx.block N (by have:=aAb HZ1.o;have:=hf.bel.size;omega)).trans ((hf.oth N (aAb HZ1.o) (by omega)).trans HZ1.o);have HB3:=zH ((aAj HB1.o hf fun b o q hp=>by have:=HAN.o b o q hp;omega).later hbx (nR _));have HW3:Hid (Below N w (w2.alloc (.cells #[.int .i64 (En:Int),.int .i64 (An:Int),.slice va m vc] 37))):=HW1.o.trans ((hf.bel.mono (by omega)).trans (hbx.mono (by have:=aAb HZ1.o;have:=hf.bel.size;omega)));clear hf hbx HSC HSV2;go_upto_region 3 with fail;generalize (w2.alloc (.cells #[.int .i64 (En:Int),.int .i64 (An:Int),.slice va m vc] 37))=w3 at *
  generalize w2.heap.size=V at *
  have y0:w3.cell? ⟨V,0,none⟩=some (.int .i64 (En:Int)):=aAa HV3.o;have y1:w3.cell? ⟨V,1,none⟩=some (.int .i64 (An:Int)):=aAa HV3.o;have y2:w3.cell? ⟨V,2,none⟩=some (.slice va m vc):=aAa HV3.o;have HEN:=zH (aDm (er:=(En:Int)) (at_:=(An:Int)) HSV3.o HOK.o);go_wp2_with fail;refine HEN.o.mono ?_;rintro e w4 ⟨a4,n4,c4,rfl,hx4,_,hb4⟩;have HX4:=zH hx4;have HB4:=zH (HB3.o.later hb4 (nR _));have HV4:=zH ((hb4.block V (aAb HV3.o)).trans HV3.o);have HZ4:=zH ((hb4.block N (aAb HZ3.o)).trans HZ3.o);have HSV4:=zH (HSV3.o.later hb4);have HW4:Hid (Below N w w4):=HW3.o.trans (hb4.mono (by have:=aAb HZ3.o;omega));clear hx4 hb4 HEN y0 y1 y2;have t0:w4.cell? ⟨N,0,none⟩=some (.int .i64 0):=aAa HZ4.o;have tf0:w4.frozen? ⟨N,0,none⟩=false:=aAg HZ4.o;have t1:w4.cell? ⟨N,1,none⟩=some (.int .i64 0):=aAa HZ4.o;have tf1:w4.frozen? ⟨N,1,none⟩=false:=aAg HZ4.o;have t2:w4.cell? ⟨N,2,none⟩=some (.slice none 0 0):=aAa HZ4.o;have tf2:w4.frozen? ⟨N,2,none⟩=false:=aAg HZ4.o
  cases hok:rpOk (En:Int) (An:Int) rs with
  | false =>
    rw [if_neg (by decide)];have HNQ:Hid (¬ (rpOk (En:Int) (An:Int) rs=true/\encR (En:Int) (An:Int) rs=xs)):=by
      show ¬ _;rw [hok];simp
    clear hok;go_wp2;(try simp only [Exit.inBlock,Exit.then]);refine bodyPost_ret (aAt Tryz.results16 _ _ N _ _ _ _ rfl (set3 HZ4.o) Tryz.underlying37 rfl (by kernel_rfl)) rfl ?_;exact ⟨⟨none,0,rs,HMP.o,HOK.o,Or.inr ⟨HNQ.o,rfl⟩⟩,((HW4.o.setCell (p:=⟨N,0,none⟩) (nR _) _).setCell (p:=⟨N,1,none⟩) (nR _) _).setCell (p:=⟨N,2,none⟩) (nR _) _⟩
  | true =>
    rw [if_pos rfl];have HEQ:=zH (aBn a4 a n4 c4 n c (encR (En:Int) (An:Int) rs) xs w4 (HX4.o hok) HB4.o);have HOKT:=zH hok;clear hok;go_wp2_with fail;refine HEQ.o.mono ?_;rintro e w9 ⟨rfl,hw⟩;have hw:=hw.symm;subst hw;clear hw HEQ;by_cases hq:encR (En:Int) (An:Int) rs=xs
    · have HEQS:=zH hq
      rw [decide_eq_true hq];clear hq;have z0:w4.cell? ⟨V,0,none⟩=some (.int .i64 (En:Int)):=aAa HV4.o;have z1:w4.cell? ⟨V,1,none⟩=some (.int .i64 (An:Int)):=aAa HV4.o;have z2:w4.cell? ⟨V,2,none⟩=some (.slice va m vc):=aAa HV4.o;go_wp2;(try simp only [Exit.inBlock,Exit.then]);refine bodyPost_ret (aAt Tryz.results16 _ _ N _ _ _ _ rfl (set3 HZ4.o) Tryz.underlying37 rfl (by kernel_rfl)) rfl ?_;have hsz:w4.heap.size<=(((w4.setCell ⟨N,0,none⟩ (.int .i64 (En:Int))).setCell ⟨N,1,none⟩ (.int .i64 (An:Int))).setCell ⟨N,2,none⟩ (.slice va m vc)).heap.size:=((((Below.refl 0 w4).setCell (p:=⟨N,0,none⟩) (Nat.zero_le _) _).setCell (p:=⟨N,1,none⟩) (Nat.zero_le _) _).setCell (p:=⟨N,2,none⟩) (Nat.zero_le _) _).size;have hoth:∀ b,b≠N->(((w4.setCell ⟨N,0,none⟩ (.int .i64 (En:Int))).setCell ⟨N,1,none⟩ (.int .i64 (An:Int))).setCell ⟨N,2,none⟩ (.slice va m vc)).heap[b]?=w4.heap[b]?:=fun b hb=>aA6 (show b≠N from hb)
      refine ⟨⟨va,vc,rs,HMP.o,HOK.o,Or.inl ⟨HOKT.o,HEQS.o,by rw [HM.o];rfl,?_⟩⟩,((HW4.o.setCell (p:=⟨N,0,none⟩) (nR _) _).setCell (p:=⟨N,1,none⟩) (nR _) _).setCell (p:=⟨N,2,none⟩) (nR _) _⟩;rw [HM.o];exact ⟨SV.stay HSV4.o.sv hsz (fun b hb _=>hoth b (by have:=HNV.o.1 b hb;omega)),fun x hx=>aA9 _ _ x (HSV4.o.mem x hx) hsz (fun b hb _=>hoth b (by have:=HNV.o.2 x hx b hb;omega))⟩
    · rw [decide_eq_false hq]
      have HNQ:Hid (¬ (rpOk (En:Int) (An:Int) rs=true/\encR (En:Int) (An:Int) rs=xs)):=fun q=>hq q.2
      clear hq;go_wp2;(try simp only [Exit.inBlock,Exit.then]);refine bodyPost_ret (aAt Tryz.results16 _ _ N _ _ _ _ rfl (set3 HZ4.o) Tryz.underlying37 rfl (by kernel_rfl)) rfl ?_;exact ⟨⟨none,0,rs,HMP.o,HOK.o,Or.inr ⟨HNQ.o,rfl⟩⟩,((HW4.o.setCell (p:=⟨N,0,none⟩) (nR _) _).setCell (p:=⟨N,1,none⟩) (nR _) _).setCell (p:=⟨N,2,none⟩) (nR _) _⟩
end Go.Proofs.YtmmcebojbbdfmaaGreat
set_option linter.unusedVariables false
namespace Go.Proofs.YtmmcebojbbdfmaaGreat
open Go.ChangeShapes Go.WideShapes Go.ChangeAt Go.RowKit
variable {H:Type} {W:World} {j:Nat} {v:Value}
def OpL (y:OpV):Prop:=y.cl<=1048576/\y.xl<=1048576/\y.rl<=1048576
def CmdL (c:CmdV):Prop:=c.on<=1048576/\∀ y∈c.ops,OpL y
def EntL (e:EntV):Prop:=e.cl<=1048576/\∀ c∈e.cmds,CmdL c
theorem aBz {α:Type} [Inhabited α] {f:α->List Value} {k:Nat} (hk0:0<k) (hk:∀ x,(f x).length=k) {ts te:TypeId} (hu:Tryz.prog.underlying ts=some (.slice te)) (hce:Tryz.prog.cellsOf te=k) {H:Type} {enc:TypeId×Value->H} {W:World} (P:α->Prop)
  (hel:∀ n cs x,cs.length=k->DataW.trod enc Tryz.prog W 0 (fun _=>true) true n te cs=some x->Rows.uptoBulk x.1<=1048576->∃ y,cs=f y/\P y)
  {fuel:Nat} {v:Value} {x0:DataW H×List MemPlace} (hb:Rows.uptoBulk x0.1<=1048576) (hfu:DataW.trod enc Tryz.prog W 0 (fun _=>true) true fuel ts [v]=some x0):∃ a0 len0 cap0 xs,v=.slice a0 len0 cap0/\SV f k W a0 len0 cap0 xs/\(∀ x∈xs,P x)/\len0<=1048576:=by
 rcases Deep.open_slice hu hfu with ⟨hcs,_⟩ | ⟨a,len,cap,m,n,D,Pl,hcs,hbb,hl,hm,hmm,hx,each⟩
 ·simp only [List.cons.injEq,and_true] at hcs;subst hcs;exact ⟨none,0,0,[],rfl,⟨rfl,by omega,by omega,fun _=>rfl,fun h=>by omega⟩,by simp,by omega⟩
 ·simp only [List.cons.injEq,and_true] at hcs;subst hcs;simp only [if_true] at hmm;subst hx;dsimp only at hb;unfold maxLen at hm;have hbl:=aE6 ((List.range len).map D);simp only [Rows.uptoBulk,List.length_map,List.length_range] at hb hbl;have hval:∀ i,i<len->∃ q:α,(∀ t,t<k->W.cell? (a.add (i*k+t))=(f q)[t]?)/\P q:=by
   intro i hi;obtain ⟨cs',h1,h2⟩:=each i (by omega);rw [hce] at h1;obtain ⟨_,hlen,hcell⟩:=World.cells?_some h1;have hmem:D i∈(List.range len).map D:=List.mem_map.2 ⟨i,List.mem_range.2 hi,rfl⟩;have hbm:=bulk_mem hmem;obtain ⟨y,e,hp⟩:=hel _ _ _ hlen h2 (by show Rows.uptoBulk (D i)<=_;omega);refine ⟨y,fun t ht=>?_,hp⟩;have:=hcell t ht;rw [Deep.add_add] at this;rw [this,e]
  obtain ⟨q,hq⟩:=Deep.choose_lt hval;have hplain:0<len->∃ b o,a=⟨b,o,none⟩/\b<W.heap.size:=by
   intro hp;obtain ⟨b,o,s⟩:=a;have hc:=(hq 0 hp).1 0 hk0;rw [gE (by rw [hk];exact hk0)] at hc;have hs2:s=none:=by simpa [Addr.add] using World.cell?_spot hc
   subst hs2;refine ⟨b,o,rfl,?_⟩;have:=aBe hc;simpa [Addr.add] using this
  refine ⟨some a,len,cap,(List.range len).map q,rfl,⟨by simp,hl,by omega,(fun e=>by cases e),fun hp=>?_⟩,fun x hx=>?_,by omega⟩
  ·obtain ⟨b,o,e,hlt⟩:=hplain hp;refine ⟨b,o,by rw [e],hlt,fun i x hxi t ht=>?_⟩;have hi:i<len:=by
    have:=(lL hxi);simpa using this
   have hqx:q i=x:=by
    rw [List.getElem?_map,List.getElem?_range hi] at hxi;simpa using hxi
   have:=(hq i hi).1 t ht;rw [e,add_plain,hqx,<-Nat.add_assoc] at this;exact this
  ·simp only [List.mem_map,List.mem_range] at hx;obtain ⟨i,hi,rfl⟩:=hx;exact (hq i hi).2
theorem open_schL {encK:TypeId×Value->H} (n:Nat) (cs:List Value) (x:DataW H×List MemPlace) (hl:cs.length=3)
  (h:DataW.trod encK Tryz.prog W 0 (fun _=>true) true n 71 cs=some x) (hb:Rows.uptoBulk x.1<=1048576) :
  ∃ (s:Sch) (ca:Option Addr) (cl cc:Nat) (xa:Option Addr) (xl xc:Nat),cs=[.string s.nm,.slice ca cl cc,.slice xa xl xc]/\SC W ca cl cc xa xl xc s/\SchP s/\cl<=1048576/\xl<=1048576:=by
 have c1:Tryz.prog.cellsOf 9=1:=by kernel_rfl
 have c2:Tryz.prog.cellsOf 68=1:=by kernel_rfl
 have c3:Tryz.prog.cellsOf 69=1:=by kernel_rfl
 obtain ⟨u0,u1,u2,rfl⟩:=lst3 hl;obtain ⟨xs,k,_,hxy,_,hxl,hff⟩:=DataW.trod_struct under_sch h;obtain ⟨f0,g0,t0,o0⟩:=aAk aC4 (i:=0) rfl;obtain ⟨f1,g1,t1,o1⟩:=aAk aC4 (i:=1) rfl;obtain ⟨f2,g2,t2,o2⟩:=aAk aC4 (i:=2) rfl;have hsz:xs.length=3:=by
  rw [hxl];have:=congrArg List.length aC4;simpa using this
 obtain ⟨y0,y1,y2,rfl⟩:=lst3 hsz;have s0:=hff 0 f0 g0;have s1:=hff 1 f1 g1;have s2:=hff 2 f2 g2;rw [t0,o0,c1] at s0;rw [t1,o1,c2] at s1;rw [t2,o2,c3] at s2;simp at s0 s1 s2;have hd:x.1=.agg [y0.1,y1.1,y2.1]:=by rw [hxy];simp
 rw [hd] at hb;obtain ⟨z0,hz0,e0,_⟩:=DataW.trod_string Tryz.underlying9 s0;simp only [List.cons.injEq,and_true] at hz0;subst hz0;have b0:=aB8 (j:=0) rfl hb;rw [e0] at b0;obtain ⟨ca,cl,cc,ds,rfl,hc,pc,lc⟩:=aBz (f:=fC) (by omega) aEa Tryz.underlying68 (by kernel_rfl) ColP (fun n cs x hl h hb=>open_col n cs x hl h hb) (aB8 (j:=1) rfl hb) s1;obtain ⟨xa,xl,xc,es,rfl,hx,px,lx⟩:=aBz (f:=fX) (by omega) aEw Tryz.underlying69 (by kernel_rfl) IdxP (fun n cs x hl h hb=>open_ix n cs x hl h hb) (aB8 (j:=2) rfl hb) s2;exact ⟨⟨z0,ds,es⟩,ca,cl,cc,xa,xl,xc,rfl,⟨hc,hx⟩,⟨str_le b0,pc,px⟩,lc,lx⟩
theorem open_opL {encK:TypeId×Value->H} (n:Nat) (cs:List Value) (x:DataW H×List MemPlace) (hl:cs.length=17)
  (h:DataW.trod encK Tryz.prog W 0 (fun _=>true) true n 75 cs=some x) (hb:Rows.uptoBulk x.1<=1048576):∃ y,cs=fO y/\OpP W y/\OpL y:=by
 have ci:Tryz.prog.cellsOf 3=1:=by kernel_rfl
 have ct:Tryz.prog.cellsOf 9=1:=by kernel_rfl
 have cv:Tryz.prog.cellsOf 73=3:=by kernel_rfl
 have cr:Tryz.prog.cellsOf 62=1:=by kernel_rfl
 have ch:Tryz.prog.cellsOf 71=3:=by kernel_rfl
 obtain ⟨u0,u1,u2,u3,u4,u5,u6,u7,u8,u9,u10,u11,u12,u13,u14,u15,u16,rfl⟩:=lst17 hl;obtain ⟨xs,k,_,hxy,_,hxl,hff⟩:=DataW.trod_struct under_op h;obtain ⟨f0,g0,t0,o0⟩:=aAk aA5 (i:=0) rfl;obtain ⟨f1,g1,t1,o1⟩:=aAk aA5 (i:=1) rfl;obtain ⟨f2,g2,t2,o2⟩:=aAk aA5 (i:=2) rfl;obtain ⟨f3,g3,t3,o3⟩:=aAk aA5 (i:=3) rfl;obtain ⟨f4,g4,t4,o4⟩:=aAk aA5 (i:=4) rfl;obtain ⟨f5,g5,t5,o5⟩:=aAk aA5 (i:=5) rfl;obtain ⟨f6,g6,t6,o6⟩:=aAk aA5 (i:=6) rfl;obtain ⟨f7,g7,t7,o7⟩:=aAk aA5 (i:=7) rfl;obtain ⟨f8,g8,t8,o8⟩:=aAk aA5 (i:=8) rfl;have hsz:xs.length=9:=by
  rw [hxl];have:=congrArg List.length aA5;simpa using this
 obtain ⟨y0,y1,y2,y3,y4,y5,y6,y7,y8,rfl⟩:=lst9 hsz;have s0:=hff 0 f0 g0;have s1:=hff 1 f1 g1;have s2:=hff 2 f2 g2;have s3:=hff 3 f3 g3;have s4:=hff 4 f4 g4;have s5:=hff 5 f5 g5;have s6:=hff 6 f6 g6;have s7:=hff 7 f7 g7;have s8:=hff 8 f8 g8;rw [t0,o0,ci] at s0;rw [t1,o1,ct] at s1;rw [t2,o2,ch] at s2;rw [t3,o3,cr] at s3;rw [t4,o4,cv] at s4;rw [t5,o5,ci] at s5;rw [t6,o6,cv] at s6;rw [t7,o7,cv] at s7;rw [t8,o8,ci] at s8;simp at s0 s1 s2 s3 s4 s5 s6 s7 s8;have hd:x.1=.agg [y0.1,y1.1,y2.1,y3.1,y4.1,y5.1,y6.1,y7.1,y8.1]:=by rw [hxy];simp
 rw [hd] at hb;obtain ⟨z0,hz0,_,w0⟩:=DataW.trod_int Tryz.underlying3 s0;obtain ⟨z1,hz1,e1,_⟩:=DataW.trod_string Tryz.underlying9 s1;obtain ⟨z5,hz5,_,w5⟩:=DataW.trod_int Tryz.underlying3 s5;obtain ⟨z8,hz8,_,w8⟩:=DataW.trod_int Tryz.underlying3 s8;simp only [List.cons.injEq,and_true] at hz0 hz1 hz5 hz8;subst hz0 hz1 hz5 hz8;have b1:=aB8 (j:=1) rfl hb;rw [e1] at b1;obtain ⟨s,ca,cl,cc,xa,xl,xc,e2,hsc,hsp,hcl,hxl⟩:=open_schL _ _ _ rfl s2 (aB8 (j:=2) rfl hb);obtain ⟨ra,rl,rc,row,e3,hr,pr,lr⟩:=aBz (f:=fV) (by omega) aDa Tryz.underlying62 (by kernel_rfl) ValP (fun n cs x hl h hb=>aEh n cs x hl h hb) (aB8 (j:=3) rfl hb) s3;obtain ⟨key,e4,pk⟩:=aEh _ _ _ rfl s4 (aB8 (j:=4) rfl hb);obtain ⟨lo,e6,pl⟩:=aEh _ _ _ rfl s6 (aB8 (j:=6) rfl hb);obtain ⟨hi,e7,ph⟩:=aEh _ _ _ rfl s7 (aB8 (j:=7) rfl hb);unfold fV at e4 e6 e7;simp only [List.cons.injEq,and_true] at e2 e4 e6 e7;obtain ⟨rfl,rfl,rfl⟩:=e2;subst e3;obtain ⟨rfl,rfl,rfl⟩:=e4;obtain ⟨rfl,rfl,rfl⟩:=e6;obtain ⟨rfl,rfl,rfl⟩:=e7;exact ⟨⟨z0,z1,s,ca,cl,cc,xa,xl,xc,ra,rl,rc,row,key,z5,lo,hi,z8⟩,rfl,⟨aB2 w0,str_le b1,hsc,hsp,hr,pr,pk,aB2 w5,pl,ph,aB2 w8⟩,hcl,hxl,lr⟩
theorem open_cmdL {encK:TypeId×Value->H} (n:Nat) (cs:List Value) (x:DataW H×List MemPlace) (hl:cs.length=3)
  (h:DataW.trod encK Tryz.prog W 0 (fun _=>true) true n 46 cs=some x) (hb:Rows.uptoBulk x.1<=1048576):∃ y,cs=fCm y/\CmdP W y/\CmdL y:=by
 have c1:Tryz.prog.cellsOf 3=1:=by kernel_rfl
 have c2:Tryz.prog.cellsOf 44=1:=by kernel_rfl
 obtain ⟨u0,u1,u2,rfl⟩:=lst3 hl;obtain ⟨xs,k,_,hxy,_,hxl,hff⟩:=DataW.trod_struct under_cmd h;obtain ⟨f0,g0,t0,o0⟩:=aAk aC6 (i:=0) rfl;obtain ⟨f1,g1,t1,o1⟩:=aAk aC6 (i:=1) rfl;obtain ⟨f2,g2,t2,o2⟩:=aAk aC6 (i:=2) rfl;have hsz:xs.length=3:=by
  rw [hxl];have:=congrArg List.length aC6;simpa using this
 obtain ⟨y0,y1,y2,rfl⟩:=lst3 hsz;have s0:=hff 0 f0 g0;have s1:=hff 1 f1 g1;have s2:=hff 2 f2 g2;rw [t0,o0,c1] at s0;rw [t1,o1,c1] at s1;rw [t2,o2,c2] at s2;simp at s0 s1 s2;have hd:x.1=.agg [y0.1,y1.1,y2.1]:=by rw [hxy];simp
 rw [hd] at hb;obtain ⟨z0,hz0,_,w0⟩:=DataW.trod_int Tryz.underlying3 s0;obtain ⟨z1,hz1,_,w1⟩:=DataW.trod_int Tryz.underlying3 s1;simp only [List.cons.injEq,and_true] at hz0 hz1;subst hz0 hz1;obtain ⟨oa,ol,oc,ops,rfl,hc,pc,lc⟩:=aBz (f:=fO) (by omega) aBl Tryz.underlying44 (by kernel_rfl) (fun y=>OpP W y/\OpL y) (fun n cs x hl h hb=>open_opL n cs x hl h hb) (aB8 (j:=2) rfl hb) s2;exact ⟨⟨z0,z1,oa,ol,oc,ops⟩,rfl,⟨aB2 w0,aB2 w1,hc,fun y hy=>(pc y hy).1⟩,lc,fun y hy=>(pc y hy).2⟩
theorem open_entCL {encK:TypeId×Value->H} (n:Nat) (cs:List Value) (x:DataW H×List MemPlace) (hl:cs.length=4)
  (h:DataW.trod encK Tryz.prog W 0 (fun _=>true) true n 24 cs=some x) (hb:Rows.uptoBulk x.1<=1048576):∃ e:EntV,cs=[.int .i64 e.kind,.int .i64 e.srv,.slice e.ca e.cl e.cc,.int .i64 e.n]/\EntP W e/\EntL e:=by
 have c1:Tryz.prog.cellsOf 3=1:=by kernel_rfl
 have c2:Tryz.prog.cellsOf 22=1:=by kernel_rfl
 obtain ⟨u0,u1,u2,u3,rfl⟩:=lst4 hl;obtain ⟨xs,k,_,hxy,_,hxl,hff⟩:=DataW.trod_struct under_ent h;obtain ⟨f0,g0,t0,o0⟩:=aAk aB4 (i:=0) rfl;obtain ⟨f1,g1,t1,o1⟩:=aAk aB4 (i:=1) rfl;obtain ⟨f2,g2,t2,o2⟩:=aAk aB4 (i:=2) rfl;obtain ⟨f3,g3,t3,o3⟩:=aAk aB4 (i:=3) rfl;have hsz:xs.length=4:=by
  rw [hxl];have:=congrArg List.length aB4;simpa using this
 obtain ⟨y0,y1,y2,y3,rfl⟩:=lst4 hsz;have s0:=hff 0 f0 g0;have s1:=hff 1 f1 g1;have s2:=hff 2 f2 g2;have s3:=hff 3 f3 g3;rw [t0,o0,c1] at s0;rw [t1,o1,c1] at s1;rw [t2,o2,c2] at s2;rw [t3,o3,c1] at s3;simp at s0 s1 s2 s3;have hd:x.1=.agg [y0.1,y1.1,y2.1,y3.1]:=by rw [hxy];simp
 rw [hd] at hb;obtain ⟨z0,hz0,_,w0⟩:=DataW.trod_int Tryz.underlying3 s0;obtain ⟨z1,hz1,_,w1⟩:=DataW.trod_int Tryz.underlying3 s1;obtain ⟨z3,hz3,_,w3⟩:=DataW.trod_int Tryz.underlying3 s3;simp only [List.cons.injEq,and_true] at hz0 hz1 hz3;subst hz0 hz1 hz3;obtain ⟨ca,cl,cc,cmds,rfl,hc,pc,lc⟩:=aBz (f:=fCm) (by omega) aAy Tryz.underlying22 (by kernel_rfl) (fun y=>CmdP W y/\CmdL y) (fun n cs x hl h hb=>open_cmdL n cs x hl h hb) (aB8 (j:=2) rfl hb) s2;exact ⟨⟨z0,z1,ca,cl,cc,cmds,z3⟩,rfl,⟨aB2 w0,aB2 w1,aB2 w3,hc,fun y hy=>(pc y hy).1⟩,lc,fun y hy=>(pc y hy).2⟩
theorem open_entL {encK:TypeId×Value->H} {base:Nat} {d:DataW H} {p:List MemPlace} {ds:List (DataW H)} (hk:Rows.uptoSmall H ds=true) (hd:ds[j]?=some d)
  (hv:Value.okWide Tryz.prog W .any base 24 v) (h:DataW.Trod encK Tryz.prog W 0 (fun _=>true) true 24 v d p):∃ e:EntV,v=.agg #[.int .i64 e.kind,.int .i64 e.srv,.slice e.ca e.cl e.cc,.int .i64 e.n]/\EntP W e/\EntL e:=by
 have hbk:=bulk_le hk hd;unfold Value.okWide at hv;rw [under_ent] at hv;obtain ⟨cs,rfl,hsz,_⟩:=hv;obtain ⟨fuel,hf⟩:=h;have hc:Tryz.prog.cellsOf 24=4:=by kernel_rfl
 obtain ⟨y,e,hy⟩:=open_entCL fuel cs.toList (d,p) (by rw [Array.length_toList,hsz,hc]) (by simpa [Value.cells] using hf) hbk;exact ⟨y,by rw [<-e],hy⟩
end Go.Proofs.YtmmcebojbbdfmaaGreat
