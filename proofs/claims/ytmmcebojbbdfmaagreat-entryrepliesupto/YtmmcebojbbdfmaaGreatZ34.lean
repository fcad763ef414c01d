import Derived.Test.YtmmcebojbbdfmaaGreatZ33
set_option maxRecDepth 100000
set_option maxHeartbeats 16000000
set_option linter.unusedVariables false
namespace Go.Proofs.YtmmcebojbbdfmaaGreat
open Go.RowKit
def stR (xs:List Nat) (q:Nat):List Val×Nat:=(dR (rbS xs (q:Int) 120),rbP xs (q:Int) 120)
def RwOk (x:RwV):Prop:=∀ y∈x.l,ValQ y
theorem erow_ec {rb n c p:Nat} {a:Option Addr} {xs:List Nat} {w:World} (h:EDR rb a n c (p:Int) w) (hb:BS w a n c xs) (har:∀ b o,a=some ⟨b,o,none⟩→0<n→b≠rb) :
  Calls Tryz.prog 56 #[.pointer (some ⟨rb,0,none⟩)] w fun e w'=>∃ x:RwV,e=.returned (.slice x.a x.n x.c)∧RwM w' x∧x.l=(stR xs p).1∧(∀ b∈x.blks,w.heap.size≤b∧b<w'.heap.size)∧RwOk x∧EDR rb a n c ((stR xs p).2:Int) w'∧RdF rb w w':=by
 refine (erow_any h hb).mono ?_
 rintro e w' ⟨va,vc,rfl,h1,h2,h3,h4,h5⟩
 refine ⟨⟨va,_,vc,_⟩,rfl,h1,rfl,fun b hb1=>?_,h2,h4,h5⟩
 cases va with
 | none=>cases hb1
 | some ad =>
  obtain rfl:b=ad.block:=by simpa [RwV.blks,oblk] using hb1
  exact h3.lt ad.block rfl
theorem rreply_any {rb n c p:Nat} {a:Option Addr} {xs:List Nat} {w:World} (h:EDR rb a n c (p:Int) w) (hb:BS w a n c xs) (har:∀ b o,a=some ⟨b,o,none⟩→0<n→b≠rb) :
  Calls Tryz.prog 35 #[.pointer (some ⟨rb,0,none⟩)] w fun e w'=>∃ (va:Option Addr) (vc:Nat) (ls:List RwV),e=.returned (.agg #[.int .i64 (ruN xs (p:Int):Int),.int .i64 (ruN xs (ruP xs (p:Int):Int):Int),.slice va ls.length vc])∧SV fR 1 w' va ls.length vc ls∧(∀ x∈ls,RwM w' x)∧ls.map RwV.l=rowsA (stR xs) (ruP xs (ruP xs (ruP xs (p:Int):Int):Int)) (min (ruN xs (ruP xs (ruP xs (p:Int):Int):Int)) 12)∧(∀ x∈ls,RwOk x)∧(∀ b∈oblk va,w.heap.size≤b∧b<w'.heap.size)∧(∀ x∈ls,∀ b∈RwV.blks x,w.heap.size≤b∧b<w'.heap.size)∧EDR rb a n c ((posA (stR xs) (ruP xs (ruP xs (ruP xs (p:Int):Int):Int)) (min (ruN xs (ruP xs (ruP xs (p:Int):Int):Int)) 12):Nat):Int) w'∧RdF rb w w':=by
 have HRB:Hid (rb<w.heap.size):=aAb h
 have HAR:=hide har
 have HAN:Hid (∀ b o,a=some ⟨b,o,none⟩→0<n→b<w.heap.size∧b≠rb):=by
  intro b o q hpos
  have:=aBv (hb.hcell _ q 0 hpos)
  exact ⟨by simpa [Addr.add] using this,har b o q hpos⟩
 obtain ⟨h0,hh0⟩:∃ k,ruN xs (p:Int)=k:=⟨_,rfl⟩
 obtain ⟨q0,hq0⟩:∃ k,ruP xs (p:Int)=k:=⟨_,rfl⟩
 rw [hh0,hq0]
 obtain ⟨h1,hh1⟩:∃ k,ruN xs (q0:Int)=k:=⟨_,rfl⟩
 obtain ⟨q1,hq1⟩:∃ k,ruP xs (q0:Int)=k:=⟨_,rfl⟩
 rw [hh1,hq1]
 obtain ⟨cn,hcn⟩:∃ k,min (ruN xs (q1:Int)) 12=k:=⟨_,rfl⟩
 obtain ⟨q9,hq9⟩:∃ k,ruP xs (q1:Int)=k:=⟨_,rfl⟩
 rw [hcn,hq9]
 have HCN:Hid (cn≤12):=by show _≤_;rw [←hcn];exact Nat.min_le_right _ _
 have hbz:=aAc w (.cells #[.int .i64 0,.int .i64 0,.slice none 0 0] 37)
 have HZ1:Hid ((w.alloc (.cells #[.int .i64 0,.int .i64 0,.slice none 0 0] 37)).heap[w.heap.size]?=some (.cells #[.int .i64 0,.int .i64 0,.slice none 0 0] 37 (0,0))):=boxed w _
 have HR1:Hid (EDR rb a n c (p:Int) (w.alloc (.cells #[.int .i64 0,.int .i64 0,.slice none 0 0] 37))):=(hbz.block rb (aAb h)).trans h
 have HB1:=hide (hb.later hbz (nR _))
 have HF1:Hid (RdF rb w (w.alloc (.cells #[.int .i64 0,.int .i64 0,.slice none 0 0] 37))):=RdF.of hbz (by have:=HRB.out;omega)
 have HCE:=hide hcn
 have HP9:=hide hq9
 have HH0:Hid (ruN xs (p:Int)=h0∧ruP xs (p:Int)=q0):=⟨hh0,hq0⟩
 have HH1:Hid (ruN xs (q0:Int)=h1∧ruP xs (q0:Int)=q1):=⟨hh1,hq1⟩
 clear h hb har hbz hcn hq9 hh0 hq0 hh1 hq1
 go_enter Tryz.func35,Tryz.ntmps35
 go_upto_region 1 with fail
 generalize w.alloc (.cells #[.int .i64 0,.int .i64 0,.slice none 0 0] 37)=w1 at *
 generalize hN:w.heap.size=N at *
 have HC0:=hide (aB5 HR1.out HB1.out)
 go_wp2_with fail
 refine HC0.out.mono ?_
 rintro e wh0 ⟨rfl,hr,hf⟩
 rw [HH0.out.1]
 rw [HH0.out.2] at hr
 have HF2:=hide (HF1.out.trans hf)
 have HR2:=hide hr
 have HB2:=hide (aB9 HB1.out hf HAR.out)
 have HZ2:=hide ((hf.oth N (aAb HZ1.out) (by have:=HRB.out;omega)).trans HZ1.out)
 clear hr hf HC0 HR1 HB1 HZ1
 have HC1:=hide (aB5 HR2.out HB2.out)
 go_wp2_with fail
 refine HC1.out.mono ?_
 rintro e wh1 ⟨rfl,hr,hf⟩
 rw [HH1.out.1]
 rw [HH1.out.2] at hr
 have HF3:=hide (HF2.out.trans hf)
 have HR3:=hide hr
 have HB3:=hide (aB9 HB2.out hf HAR.out)
 have HZ3:=hide ((hf.oth N (aAb HZ2.out) (by have:=HRB.out;omega)).trans HZ2.out)
 clear hr hf HC1 HR2 HB2 HZ2
 have hb3:=aAc wh1 (.cells #[.int .i64 (h0:Int),.int .i64 (h1:Int),.slice none 0 0] 37)
 have HS3:Hid ((wh1.alloc (.cells #[.int .i64 (h0:Int),.int .i64 (h1:Int),.slice none 0 0] 37)).heap[wh1.heap.size]?=some (.cells #[.int .i64 (h0:Int),.int .i64 (h1:Int),.slice none 0 0] 37 (0,0))):=boxed wh1 _
 have HRs:Hid (EDR rb a n c (q1:Int) (wh1.alloc (.cells #[.int .i64 (h0:Int),.int .i64 (h1:Int),.slice none 0 0] 37))):=(hb3.block rb (aAb HR3.out)).trans HR3.out
 have HZs:=hide ((hb3.block N (aAb HZ3.out)).trans HZ3.out)
 have HBs:=hide (HB3.out.later hb3 (nR _))
 have HFs:=hide (HF3.out.trans (RdF.of hb3 (by have:=aAb HR3.out;omega)))
 have HNS:Hid (N<wh1.heap.size∧rb<wh1.heap.size):=⟨aAb HZ3.out,aAb HR3.out⟩
 clear hb3
 go_upto_region 2 with fail
 generalize wh1.alloc (.cells #[.int .i64 (h0:Int),.int .i64 (h1:Int),.slice none 0 0] 37)=w3 at *
 generalize wh1.heap.size=S0 at *
 have HCs:=hide (aD6 (m0:=12) HRs.out HBs.out)
 go_wp2_with fail
 refine HCs.out.mono ?_
 rintro e w4 ⟨rfl,hr4,hf4⟩
 rw [HP9.out] at hr4
 rw [HCE.out]
 have HI4:Hid (RI fR 1 62 RwV.blks RwM RwV.l RwOk 37 (fun v=>#[.int .i64 (h0:Int),.int .i64 (h1:Int),v]) #[.int .i64 0,.int .i64 0,.slice none 0 0] rb N S0 n c a xs w q9 [] (.slice none 0 0) [] w4):=by
  refine ⟨hr4,(hf4.oth S0 (aAb HS3.out) (by have:=HNS.out;omega)).trans HS3.out,OwnR.nil _ _ _ _ _ _ _,(hf4.oth N (aAb HZs.out) (by have:=HRB.out;omega)).trans HZs.out,rfl,HFs.out.trans hf4,aB9 HBs.out hf4 HAR.out,by simp,by simp,⟨by rw [hN];exact HRB.out,Nat.le_of_eq hN,HNS.out.1⟩,fun b o q hp=>by rw [hN];exact HAN.out b o q hp⟩
 clear hr4 hf4 HCs HRs HBs HS3 HZs HFs HCE
 go_wp2_with fail
 go_loopg [11] cn (fun gh sx wx=>∃ (j:Nat) (v:Value) (ls:List RwV),j+gh=cn∧sx=.int .i64 (j:Int)∧RI fR 1 62 RwV.blks RwM RwV.l RwOk 37 (fun v=>#[.int .i64 (h0:Int),.int .i64 (h1:Int),v]) #[.int .i64 0,.int .i64 0,.slice none 0 0] rb N S0 n c a xs w (posA (stR xs) q9 j) (rowsA (stR xs) q9 j) v ls wx)
 case atStart=>exact ⟨0,_,[],by omega,rfl,HI4.out⟩
 case round =>
  obtain ⟨j,v,ls,hj,rfl,hri⟩:=hrel
  have HI:=hide hri
  clear hri
  by_cases hjn:j<cn
  ·have xj:(j:Int)<(cn:Int):=by omega
   have xj4:(j:Int)<1000000:=by have:=HCN.out;omega
   have HLL:Hid (ls.length≤12):=by
    show _≤_
    have:=congrArg List.length HI.out.ct_
    rw [List.length_map,rowsA_len] at this
    have:=HCN.out
    omega
   have HID:=hide (HI.out.later aAx (Below.refl _ _).drew)
   obtain ⟨P,hP⟩:∃ P,posA (stR xs) q9 j=P:=⟨_,rfl⟩
   have HEC:=hide (erow_ec HID.out.rd HID.out.bs HAR.out)
   rw [hP] at HEC HID
   have HPN:Hid (posA (stR xs) q9 (j+1)=(stR xs P).2∧rowsA (stR xs) q9 (j+1)=rowsA (stR xs) q9 j++[(stR xs P).1]):=by
    refine ⟨?_,?_⟩
    ·show (stR xs (posA (stR xs) q9 j)).2=_
     rw [hP]
    ·show rowsA (stR xs) q9 j++[(stR xs (posA (stR xs) q9 j)).1]=_
     rw [hP]
   clear hP
   go_upto_region 4 with fail
   refine wp_region_noPanic ?_
   refine wp_region_held_drew (S:=fun wx=>True) (by kernel_rfl) trivial (fun hHeld=>?_)
   refine aAe 0 13 ?_
   refine aAe 2 15 ?_
   refine aAw (i:=1) (j:=3) (by kernel_rfl) (by kernel_rfl) (by kernel_rfl) ?ba ?bb
   case ba =>
    have y0:wr.drew.cell? ⟨S0,2,none⟩=some v:=aAa (show wr.drew.heap[S0]?=_ from HID.out.sb)
    have y0':wr.cell? ⟨S0,2,none⟩=some v:=y0
    intro o ho K hK
    simp only [tG,sG,zG,oI] at ho
    subst ho
    go_simp
    clear hHeld
    refine hK.out _ _ trivial (fun hHeld=>?_)
    clear hK K
    try simp only [Act.put,siT,scZ,scS]
    clear y0 y0'
    refine aAf 3 ?_;intro K hK
    go_simp
    refine HEC.out.mono ?_
    rintro e w5 ⟨x,rfl,hm5,hc5,hn5,hok5,hr5,hf5⟩
    have HI5:=hide (HID.out.read aAx hr5 hf5)
    have HM5:=hide hm5
    have HC5:=hide hc5
    have HOK5:=hide hok5
    have HNW5:Hid (∀ b∈RwV.blks x,v.ownBlock≠some b∧S0<b∧b<w5.heap.size):=fun b hb=>by
     have h1:=hn5 b hb
     refine ⟨fun e=>?_,?_,h1.2⟩
     ·have:=(HID.out.nrb b e).2.2
      omega
     ·have:=aAb HID.out.sb
      omega
    clear hm5 hc5 hn5 hok5 hr5 hf5 hHeld HEC
    refine hK.out _ _ trivial (fun hHeld=>?_)
    clear hK K
    try simp only [Act.put,siT,scZ,scS]
    refine aAf 4 ?_;intro K hK
    go_simp
    clear hHeld
    refine hK.out _ _ trivial (fun hHeld=>?_)
    clear hK K
    try simp only [Act.put,siT,scZ,scS]
    have hb6:=aAc w5 (.cells #[.slice x.a x.n x.c] 62)
    have HI6:=hide (HI5.out.later aAx hb6)
    have HM6:=hide (aAx _ _ x HM5.out hb6.size (fun b _ hb=>hb6.block b hb))
    have HG6:Hid (SV fR 1 (w5.alloc (.cells #[.slice x.a x.n x.c] 62)) (some ⟨w5.heap.size,0,none⟩) 1 1 [x]):=SV.whole aBk rfl (by omega) (boxed w5 _)
    have HNW6:Hid (∀ b∈RwV.blks x,v.ownBlock≠some b∧S0<b∧b<(w5.alloc (.cells #[.slice x.a x.n x.c] 62)).heap.size):=fun b hb=>⟨(HNW5.out b hb).1,(HNW5.out b hb).2.1,Nat.lt_of_lt_of_le (HNW5.out b hb).2.2 hb6.size⟩
    clear hb6 HI5 HM5 HNW5
    generalize w5.alloc (.cells #[.slice x.a x.n x.c] 62)=w6 at *
    generalize w5.heap.size=g5 at *
    refine aAf 5 ?_;intro K hK
    rw [if_pos (by rfl)]
    refine aCg (f:=fR) aBk (by omega) fR_one Tryz.underlying35 aDi rfl (.tmp 14) (.tmp 17) rfl (B1:=S0+1) (F:=ls) (G:=[x]) rfl rfl HI6.out.ow.own HG6.out (by have:=aAb HI6.out.sb;omega) (by have:=HLL.out;omega) (by omega) ?_
    intro v7 w7 ho7 hb7 hk7 hv7
    have hst:=HI6.out.push aAx (fun _ _=>rfl) HM6.out HNW6.out HC5.out HOK5.out ho7 hb7 hk7 hv7
    obtain ⟨a7,c7,e7,_⟩:=aBj aBk ho7 rfl
    generalize (ls++[x]).length=m7 at e7
    subst e7
    have y0:w7.cell? ⟨S0,2,none⟩=some v:=aAa hst.1
    have yf:w7.frozen? ⟨S0,2,none⟩=false:=aAj hst.1
    have HI7:=hide hst.2
    clear ho7 hb7 hk7 hv7 hst hHeld
    refine hK.out _ _ trivial (fun hHeld=>?_)
    clear hK K
    try simp only [Act.put,siT,scZ,scS]
    refine aAe 6 19 ?_
    refine aAf 7 ?_;intro K hK
    go_simp
    clear hHeld
    refine hK.out _ _ trivial (fun hHeld=>?_)
    clear y0 yf
    clear hK K
    try simp only [Act.put,siT,scZ,scS]
    refine wpAnyH_done (by kernel_rfl) ?_ _
    refine NoPanic.normal ?_
    clear hHeld
    go_wp2
    go_roundg (gk-1)
    case measure=>omega
    case rel=>exact ⟨j+1,_,_,by omega,rfl,by rw [HPN.out.1,HPN.out.2];exact HI7.out⟩
   case bb =>
    intro o ho K hK
    simp only [tG,sG,zG,oI] at ho
    subst ho
    go_simp
    refine HEC.out.mono ?_
    rintro e w5 ⟨x,rfl,hm5,hc5,hn5,hok5,hr5,hf5⟩
    have HI5:=hide (HID.out.read aAx hr5 hf5)
    have HM5:=hide hm5
    have HC5:=hide hc5
    have HOK5:=hide hok5
    have HNW5:Hid (∀ b∈RwV.blks x,v.ownBlock≠some b∧S0<b∧b<w5.heap.size):=fun b hb=>by
     have h1:=hn5 b hb
     refine ⟨fun e=>?_,?_,h1.2⟩
     ·have:=(HID.out.nrb b e).2.2
      omega
     ·have:=aAb HID.out.sb
      omega
    clear hm5 hc5 hn5 hok5 hr5 hf5 hHeld HEC
    refine hK.out _ _ trivial (fun hHeld=>?_)
    clear hK K
    try simp only [Act.put,siT,scZ,scS]
    refine aAw (i:=1) (j:=4) (by kernel_rfl) (by kernel_rfl) (by kernel_rfl) ?bba ?bbb
    case bba =>
     have y0:w5.cell? ⟨S0,2,none⟩=some v:=aAa HI5.out.sb
     intro o ho K hK
     simp only [tG,sG,zG,oI] at ho
     subst ho
     go_simp
     clear hHeld
     refine hK.out _ _ trivial (fun hHeld=>?_)
     clear hK K
     try simp only [Act.put,siT,scZ,scS]
     clear y0
     refine aAf 4 ?_;intro K hK
     go_simp
     clear hHeld
     refine hK.out _ _ trivial (fun hHeld=>?_)
     clear hK K
     try simp only [Act.put,siT,scZ,scS]
     have hb6:=aAc w5 (.cells #[.slice x.a x.n x.c] 62)
     have HI6:=hide (HI5.out.later aAx hb6)
     have HM6:=hide (aAx _ _ x HM5.out hb6.size (fun b _ hb=>hb6.block b hb))
     have HG6:Hid (SV fR 1 (w5.alloc (.cells #[.slice x.a x.n x.c] 62)) (some ⟨w5.heap.size,0,none⟩) 1 1 [x]):=SV.whole aBk rfl (by omega) (boxed w5 _)
     have HNW6:Hid (∀ b∈RwV.blks x,v.ownBlock≠some b∧S0<b∧b<(w5.alloc (.cells #[.slice x.a x.n x.c] 62)).heap.size):=fun b hb=>⟨(HNW5.out b hb).1,(HNW5.out b hb).2.1,Nat.lt_of_lt_of_le (HNW5.out b hb).2.2 hb6.size⟩
     clear hb6 HI5 HM5 HNW5
     generalize w5.alloc (.cells #[.slice x.a x.n x.c] 62)=w6 at *
     generalize w5.heap.size=g5 at *
     refine aAf 5 ?_;intro K hK
     rw [if_pos (by rfl)]
     refine aCg (f:=fR) aBk (by omega) fR_one Tryz.underlying35 aDi rfl (.tmp 14) (.tmp 17) rfl (B1:=S0+1) (F:=ls) (G:=[x]) rfl rfl HI6.out.ow.own HG6.out (by have:=aAb HI6.out.sb;omega) (by have:=HLL.out;omega) (by omega) ?_
     intro v7 w7 ho7 hb7 hk7 hv7
     have hst:=HI6.out.push aAx (fun _ _=>rfl) HM6.out HNW6.out HC5.out HOK5.out ho7 hb7 hk7 hv7
     obtain ⟨a7,c7,e7,_⟩:=aBj aBk ho7 rfl
     generalize (ls++[x]).length=m7 at e7
     subst e7
     have y0:w7.cell? ⟨S0,2,none⟩=some v:=aAa hst.1
     have yf:w7.frozen? ⟨S0,2,none⟩=false:=aAj hst.1
     have HI7:=hide hst.2
     clear ho7 hb7 hk7 hv7 hst hHeld
     refine hK.out _ _ trivial (fun hHeld=>?_)
     clear hK K
     try simp only [Act.put,siT,scZ,scS]
     refine aAe 6 19 ?_
     refine aAf 7 ?_;intro K hK
     go_simp
     clear hHeld
     refine hK.out _ _ trivial (fun hHeld=>?_)
     clear y0 yf
     clear hK K
     try simp only [Act.put,siT,scZ,scS]
     refine wpAnyH_done (by kernel_rfl) ?_ _
     refine NoPanic.normal ?_
     clear hHeld
     go_wp2
     go_roundg (gk-1)
     case measure=>omega
     case rel=>exact ⟨j+1,_,_,by omega,rfl,by rw [HPN.out.1,HPN.out.2];exact HI7.out⟩
    case bbb =>
     intro o ho K hK
     simp only [tG,sG,zG,oI] at ho
     subst ho
     go_simp
     clear hHeld
     refine hK.out _ _ trivial (fun hHeld=>?_)
     clear hK K
     try simp only [Act.put,siT,scZ,scS]
     have hb6:=aAc w5 (.cells #[.slice x.a x.n x.c] 62)
     have HI6:=hide (HI5.out.later aAx hb6)
     have HM6:=hide (aAx _ _ x HM5.out hb6.size (fun b _ hb=>hb6.block b hb))
     have HG6:Hid (SV fR 1 (w5.alloc (.cells #[.slice x.a x.n x.c] 62)) (some ⟨w5.heap.size,0,none⟩) 1 1 [x]):=SV.whole aBk rfl (by omega) (boxed w5 _)
     have HNW6:Hid (∀ b∈RwV.blks x,v.ownBlock≠some b∧S0<b∧b<(w5.alloc (.cells #[.slice x.a x.n x.c] 62)).heap.size):=fun b hb=>⟨(HNW5.out b hb).1,(HNW5.out b hb).2.1,Nat.lt_of_lt_of_le (HNW5.out b hb).2.2 hb6.size⟩
     clear hb6 HI5 HM5 HNW5
     generalize w5.alloc (.cells #[.slice x.a x.n x.c] 62)=w6 at *
     generalize w5.heap.size=g5 at *
     have y0:w6.cell? ⟨S0,2,none⟩=some v:=aAa HI6.out.sb
     refine aAf 1 ?_;intro K hK
     go_simp
     clear hHeld
     refine hK.out _ _ trivial (fun hHeld=>?_)
     clear hK K
     try simp only [Act.put,siT,scZ,scS]
     clear y0
     refine aAf 5 ?_;intro K hK
     rw [if_pos (by rfl)]
     refine aCg (f:=fR) aBk (by omega) fR_one Tryz.underlying35 aDi rfl (.tmp 14) (.tmp 17) rfl (B1:=S0+1) (F:=ls) (G:=[x]) rfl rfl HI6.out.ow.own HG6.out (by have:=aAb HI6.out.sb;omega) (by have:=HLL.out;omega) (by omega) ?_
     intro v7 w7 ho7 hb7 hk7 hv7
     have hst:=HI6.out.push aAx (fun _ _=>rfl) HM6.out HNW6.out HC5.out HOK5.out ho7 hb7 hk7 hv7
     obtain ⟨a7,c7,e7,_⟩:=aBj aBk ho7 rfl
     generalize (ls++[x]).length=m7 at e7
     subst e7
     have y0:w7.cell? ⟨S0,2,none⟩=some v:=aAa hst.1
     have yf:w7.frozen? ⟨S0,2,none⟩=false:=aAj hst.1
     have HI7:=hide hst.2
     clear ho7 hb7 hk7 hv7 hst hHeld
     refine hK.out _ _ trivial (fun hHeld=>?_)
     clear hK K
     try simp only [Act.put,siT,scZ,scS]
     refine aAe 6 19 ?_
     refine aAf 7 ?_;intro K hK
     go_simp
     clear hHeld
     refine hK.out _ _ trivial (fun hHeld=>?_)
     clear y0 yf
     clear hK K
     try simp only [Act.put,siT,scZ,scS]
     refine wpAnyH_done (by kernel_rfl) ?_ _
     refine NoPanic.normal ?_
     clear hHeld
     go_wp2
     go_roundg (gk-1)
     case measure=>omega
     case rel=>exact ⟨j+1,_,_,by omega,rfl,by rw [HPN.out.1,HPN.out.2];exact HI7.out⟩
  ·have xj:¬ (j:Int)<(cn:Int):=by omega
   have ex:j=cn:=by omega
   subst ex
   obtain ⟨a9,c9,e9,_⟩:=aBj aBk HI.out.ow.own rfl
   obtain ⟨m9,hm9⟩:∃ m,ls.length=m:=⟨_,rfl⟩
   rw [hm9] at e9
   subst e9
   have HML:=hide hm9
   clear hm9
   have y0:wr.cell? ⟨S0,0,none⟩=some (.int .i64 (h0:Int)):=aAa HI.out.sb
   have t0:wr.cell? ⟨N,0,none⟩=some (.int .i64 0):=aAa HI.out.zb
   have tf0:wr.frozen? ⟨N,0,none⟩=false:=aAj HI.out.zb
   have y1:wr.cell? ⟨S0,1,none⟩=some (.int .i64 (h1:Int)):=aAa HI.out.sb
   have t1:wr.cell? ⟨N,1,none⟩=some (.int .i64 0):=aAa HI.out.zb
   have tf1:wr.frozen? ⟨N,1,none⟩=false:=aAj HI.out.zb
   have y2:wr.cell? ⟨S0,2,none⟩=some (.slice a9 m9 c9):=aAa HI.out.sb
   have t2:wr.cell? ⟨N,2,none⟩=some (.slice none 0 0):=aAa HI.out.zb
   have tf2:wr.frozen? ⟨N,2,none⟩=false:=aAj HI.out.zb
   go_wp2
   (try simp only [Exit.inBlock,Exit.then])
   refine bodyPost_ret (results_cell_row Tryz.results35 _ _ N _ _ _ _ rfl (set3 HI.out.zb) Tryz.underlying37 rfl (by kernel_rfl)) rfl ?_
   have hlt:=HI.out.lt
   have hne:∀ i,i≠N→(((wr.setCell ⟨N,0,none⟩ (.int .i64 (h0:Int))).setCell ⟨N,1,none⟩ (.int .i64 (h1:Int))).setCell ⟨N,2,none⟩ (.slice a9 m9 c9)).heap[i]?=wr.heap[i]?:=fun i hi=>set_oth3 (show i≠N from hi)
   have hsz:wr.heap.size≤(((wr.setCell ⟨N,0,none⟩ (.int .i64 (h0:Int))).setCell ⟨N,1,none⟩ (.int .i64 (h1:Int))).setCell ⟨N,2,none⟩ (.slice a9 m9 c9)).heap.size:=((((Below.refl 0 wr).setCell (p:=⟨N,0,none⟩) (Nat.zero_le _) _).setCell (p:=⟨N,1,none⟩) (Nat.zero_le _) _).setCell (p:=⟨N,2,none⟩) (Nat.zero_le _) _).size
   have hown:=HI.out.ow.keep (w':=(((wr.setCell ⟨N,0,none⟩ (.int .i64 (h0:Int))).setCell ⟨N,1,none⟩ (.int .i64 (h1:Int))).setCell ⟨N,2,none⟩ (.slice a9 m9 c9))) aAx hsz (aCe HI.out.ow.own fun g e=>hne g (by have:=HI.out.ow.own.lt g e;omega)) (fun i hi ⟨y,hy,hb1⟩=>hne i (by have:=HI.out.new y hy i hb1;omega))
   obtain ⟨a8,c8,e8,hsv⟩:=aBj aBk hown.own rfl
   rw [HML.out] at e8
   simp only [Value.slice.injEq,true_and] at e8
   obtain ⟨rfl,rfl⟩:=e8
   refine ⟨a9,c9,ls,by rw [HML.out],hsv,hown.mem,HI.out.ct_,HI.out.ok,fun b hb1=>?_,fun y hy b hb1=>⟨by have:=HI.out.new y hy b hb1;omega,(hown.ap y hy b hb1).2⟩,?_,?_⟩
   ·cases a9 with
    | none=>cases hb1
    | some ad =>
     obtain rfl:b=ad.block:=by simpa [oblk] using hb1
     have:=hown.own.lt ad.block rfl
     omega
   ·exact (hne rb (by omega)).trans HI.out.rd
   ·exact (((HI.out.fr.put (b:=N) (by omega) (by omega) 0 _).put (b:=N) (by omega) (by omega) 1 _).put (b:=N) (by omega) (by omega) 2 _)
theorem aAu {fn:Func} {p u:Tmp} {ty:TypeId} (h:fn.results=#[.cell p ty,.tmp u]) (tmps:Array Value) (w:World) (g:Nat) (t:TypeId) (cs:Array Value) (fr:Nat×Nat) (d:TypeDesc)
    (hp:tmps.getD p undef=.pointer (some ⟨g,0,none⟩)) (hg:w.heap[g]?=some (.cells cs t fr))
    (hu:Tryz.prog.underlying ty=some d) (hd:(match (generalizing:=false) d with | .struct _ | .array _ _=>true | _=>false)=true) (hi:(Tryz.prog.info? ty).map (·.size)=some cs.size) :
    (results fn tmps).run Tryz.prog w=.ok (.tuple #[.agg cs,tmps.getD u undef]) w:=by
  rw [results_cell_tmp h,hp]
  simp only [asAddr,Sem.run_pure,Result.andThen_ok,run_loadVar_row w g t ty cs fr d hg hu (by cases d<;>first | rfl | (simp at hd)) hi]
def rpE (xs:List Nat):Nat:=ruN xs ((0:Nat):Int)
def rpA (xs:List Nat):Nat:=ruN xs (ruP xs ((0:Nat):Int):Int)
def rpRows (xs:List Nat):List (List Val):=rowsA (stR xs) (ruP xs (ruP xs (ruP xs ((0:Nat):Int):Int):Int)) (min (ruN xs (ruP xs (ruP xs ((0:Nat):Int):Int):Int)) 12)
theorem rd_part {pre rest l:List Nat} (hl:l.length≤120):rbS (pre++(pt l++rest)) (pre.length:Int) 120=l∧rbP (pre++(pt l++rest)) (pre.length:Int) 120=pre.length+(pt l).length:=by
  have e:pre++(pt l++rest)=pre++(encW l.length++(l++rest)):=by unfold pt;simp only [List.append_assoc]
  obtain ⟨h1,h2,h3⟩:=rd_num (pre:=pre) (rest:=l++rest) (n:=l.length) (by omega)
  rw [←e] at h1 h2 h3
  have hl2:(pre++(pt l++rest)).length=pre.length+(encW l.length).length+l.length+rest.length:=by
    rw [e]
    simp only [lA]
    omega
  have he:rbE (pre++(pt l++rest)) (pre.length:Int) 120=0:=by
    unfold rbE
    rw [if_neg (by rw [h3];simp),if_neg (by decide),if_neg (by rw [h1];omega),if_neg (by rw [h1,h2,hl2];omega)]
  constructor
  · unfold rbS
    rw [if_pos he,h1,h2,e]
    rw [show pre++(encW l.length++(l++rest))=(pre++encW l.length)++(l++rest) from by simp only [List.append_assoc],←lA,List.drop_left,List.take_left]
  · unfold rbP
    rw [if_pos he,h1,h2]
    unfold pt
    rw [lA]
    omega
theorem stR_back {xs pre rest:List Nat} {l:List Val} (hx:xs=pre++(pt (rowB l)++rest)) (h:rowE l=0∧∀ x∈l,x.ok):stR xs pre.length=(l,pre.length+(pt (rowB l)).length):=by
  obtain ⟨h1,h2⟩:=rd_part (pre:=pre) (rest:=rest) (aC8 h.1)
  unfold stR
  rw [hx,h1,h2]
  unfold dR
  rw [drow_rowB h.1 h.2]
  rfl
theorem rp_back {er an:Nat} {ls:List (List Val)} {xs:List Nat} (he:er≤65536) (ha:an≤2) (hn:ls.length≤12) (hv:∀ l∈ls,rowE l=0∧∀ x∈l,x.ok) (hx:xs=encW er++(encW an++encW ls.length)++ls.flatMap (fun l=>pt (rowB l))) :
    rpE xs=er∧rpA xs=an∧rpRows xs=ls:=by
  have x1:xs=[]++(encW er++(encW an++(encW ls.length++ls.flatMap (fun l=>pt (rowB l))))):=by rw [hx];simp [List.append_assoc]
  obtain ⟨a1,a2,_⟩:=rd_num (pre:=[]) (rest:=encW an++(encW ls.length++ls.flatMap (fun l=>pt (rowB l)))) (n:=er) (by omega)
  rw [←x1] at a1 a2
  have x2:xs=encW er++(encW an++(encW ls.length++ls.flatMap (fun l=>pt (rowB l)))):=by rw [hx];simp [List.append_assoc]
  obtain ⟨b1,b2,_⟩:=rd_num (pre:=encW er) (rest:=encW ls.length++ls.flatMap (fun l=>pt (rowB l))) (n:=an) (by omega)
  rw [←x2] at b1 b2
  have x3:xs=(encW er++encW an)++(encW ls.length++ls.flatMap (fun l=>pt (rowB l))):=by rw [hx];simp [List.append_assoc]
  obtain ⟨c1,c2,_⟩:=rd_num (pre:=encW er++encW an) (rest:=ls.flatMap (fun l=>pt (rowB l))) (n:=ls.length) (by omega)
  rw [←x3] at c1 c2
  have q0:ruP xs ((0:Nat):Int)=(encW er).length:=by simpa using a2
  have q1:ruP xs ((encW er).length:Int)=(encW er++encW an).length:=by rw [b2,lA]
  have q2:ruP xs ((encW er++encW an).length:Int)=(encW er++encW an++encW ls.length).length:=by rw [c2,lA (bs:=encW ls.length)]
  refine ⟨by unfold rpE;simpa using a1,by unfold rpA;rw [q0];exact b1,?_⟩
  unfold rpRows
  rw [q0,q1,c1,q2,Nat.min_eq_left hn]
  have h9:=(rowsA_back (st:=stR xs) (f:=fun l=>pt (rowB l)) (xs:=xs) (P:=fun l=>rowE l=0∧∀ x∈l,x.ok) (fun pre rest x hx hp=>stR_back hx hp) ls (encW er++encW an++encW ls.length) [] (by rw [hx];simp [List.append_assoc]) hv ls.length (Nat.le_refl _)).1
  rw [h9,List.take_length]
theorem encR_lt (er at_:Int) (rs:List RwV):∀ x∈encR er at_ rs,x<256:=by
  intro x hx
  unfold encR at hx
  rcases List.mem_append.1 hx with h | h
  · rcases List.mem_append.1 h with h | h
    · exact aCy _ x h
    · rcases List.mem_append.1 h with h | h
      · exact aCy _ x h
      · exact aCy _ x h
  · obtain ⟨y,_,hy⟩:=List.mem_flatMap.1 h
    unfold encRow pt at hy
    rcases List.mem_append.1 hy with h | h
    · exact aCy _ x h
    · exact rowB_lt _ x h
theorem aD1 {er at_:Int} {rs:List RwV} (h:rpOk er at_ rs=true):(0≤er∧er≤65536)∧(0≤at_∧at_≤2)∧rs.length≤12∧∀ x∈rs,rowE x.l=0:=by
  unfold rpOk rpHd at h
  simp only [Bool.and_eq_true,decide_eq_true_eq,List.all_eq_true] at h
  exact ⟨h.1.1.1,h.1.1.2,h.1.2,h.2⟩
theorem encR_len {er at_:Int} {rs:List RwV} (h:rpOk er at_ rs=true):(encR er at_ rs).length≤1600:=by
  obtain ⟨h1,h2,h3,h4⟩:=aD1 h
  unfold encR
  rw [lA,lA,lA]
  have h9:=aDa (f:=encRow) (m:=129) (l:=rs) (fun y hy=>aD5 (h4 y hy))
  have h6:rs.length*129≤12*129:=Nat.mul_le_mul_right _ h3
  have:=aAo er.toNat (by omega)
  have:=aAo at_.toNat (by omega)
  have:=aAo rs.length (by omega)
  omega
theorem aBe {w:World} {er at_:Int} {ra:Option Addr} {rl rc:Nat} {rs:List RwV} (h:Rws w ra rl rc rs) (hv:∀ x∈rs,RwOk x) :
    Calls Tryz.prog 14 #[.agg #[.int .i64 er,.int .i64 at_,.slice ra rl rc]] w fun e w'=>∃ ax nx cx,e=.returned (.tuple #[.slice ax nx cx,.int .i64 (if rpOk er at_ rs=true then 0 else 1)])∧(rpOk er at_ rs=true→BS w' ax nx cx (encR er at_ rs))∧(rpOk er at_ rs=false→nx=0)∧Below w.heap.size w w':=by
  refine (encreply_any h hv).mono ?_
  rintro e w' ⟨h1,h2⟩
  unfold EncP at h1
  cases hok:rpOk er at_ rs with
  | true =>
    rw [hok,if_pos rfl] at h1
    obtain ⟨v,rfl,ho⟩:=h1
    obtain ⟨a,c,rfl⟩:=ho.form
    exact ⟨a,_,c,rfl,fun _=>OB.bs ho (encR_lt _ _ _) (by have:=encR_len hok;omega),(fun q=>by cases q),h2⟩
  | false =>
    rw [hok,if_neg (by decide)] at h1
    exact ⟨none,0,0,h1,(fun q=>by cases q),fun _=>rfl,h2⟩
def DrpR (xs:List Nat) (w':World) (e:Ending):Prop:=∃ (ra:Option Addr) (rc:Nat) (rs:List RwV),rs.map RwV.l=rpRows xs∧(∀ x∈rs,RwOk x) ∧
  ((rpOk (rpE xs) (rpA xs) rs=true∧encR (rpE xs) (rpA xs) rs=xs∧e=.returned (.tuple #[.agg #[.int .i64 (rpE xs:Int),.int .i64 (rpA xs:Int),.slice ra rs.length rc],.int .i64 0])∧Rws w' ra rs.length rc rs) ∨
   (¬ (rpOk (rpE xs) (rpA xs) rs=true∧encR (rpE xs) (rpA xs) rs=xs)∧e=.returned (.tuple #[.agg #[.int .i64 0,.int .i64 0,.slice none 0 0],.int .i64 11])))
theorem aBu {n c:Nat} {a:Option Addr} {xs:List Nat} {w:World} (hb:BS w a n c xs) :
    Calls Tryz.prog 16 #[.slice a n c] w fun e w'=>DrpR xs w' e∧Below w.heap.size w w':=by
  have HZC:Hid (∀ x∈xs,x<256):=hb.hbyte
  obtain ⟨N,hN⟩:∃ N,w.heap.size=N:=⟨_,rfl⟩
  obtain ⟨w1,hw1⟩:∃ w1,w1=(w.alloc (.cells #[.int .i64 0,.int .i64 0,.slice none 0 0] 37)).alloc (.cells #[.slice a n c,.int .i64 0] 56):=⟨_,rfl⟩
  have HZ1:Hid (w1.heap[N]?=some (.cells #[.int .i64 0,.int .i64 0,.slice none 0 0] 37 (0,0))):=by show _=_;rw [hw1,←hN];exact heap_alloc2_old w _ _
  have HR1:Hid (EDR (N+1) a n c ((0:Nat):Int) w1):=by show _=_;rw [hw1,←hN];exact heap_alloc2_new w _ _
  have hb1:Below w.heap.size w w1:=by rw [hw1];exact (aAc w _).trans ((aAc _ _).mono (aAc w _).size)
  have HB1:=hide (hb.later hb1 (nR _))
  have HW1:Hid (Below N w w1):=by show Below N w w1;rw [←hN];exact hb1
  have HAN:Hid (∀ b o,a=some ⟨b,o,none⟩→0<n→b<N):=by
    intro b o q hpos
    have:=aBv (hb.hcell _ q 0 hpos)
    rw [←hN]
    simpa [Addr.add] using this
  have HSC:=hide (rreply_any (p:=0) HR1.out HB1.out fun b o q hp=>by have:=HAN.out b o q hp;omega)
  have HE1:=hide hw1
  have e1:ruN xs ((0:Nat):Int)=rpE xs:=rfl
  have e2:ruN xs (ruP xs ((0:Nat):Int):Int)=rpA xs:=rfl
  have e3:rowsA (stR xs) (ruP xs (ruP xs (ruP xs ((0:Nat):Int):Int):Int)) (min (ruN xs (ruP xs (ruP xs ((0:Nat):Int):Int):Int)) 12)=rpRows xs:=rfl
  rw [e1,e2,e3] at HSC
  rw [hN]
  have HNN:=hide hN
  unfold DrpR
  obtain ⟨En,hEn⟩:∃ k,rpE xs=k:=⟨_,rfl⟩
  obtain ⟨An,hAn⟩:∃ k,rpA xs=k:=⟨_,rfl⟩
  obtain ⟨Rn,hRn⟩:∃ k,rpRows xs=k:=⟨_,rfl⟩
  rw [hEn,hAn,hRn] at HSC ⊢
  clear hb hb1 hw1 e1 e2 e3 hEn hAn hRn
  go_enter Tryz.func16,Tryz.ntmps16
  go_upto_region 2 with fail
  rw [←HE1.out]
  try simp only [hN]
  go_wp2_with fail
  refine HSC.out.mono ?_
  rintro e w2 ⟨va,vc,rs,rfl,hsv,hmem,hct,hok,hva,hblk,_,hf⟩
  have HMP:=hide hct
  have HOK:=hide hok
  have HSV2:=hide (Rws.mk hsv hmem)
  have HNV:Hid ((∀ b∈oblk va,N<b)∧∀ x∈rs,∀ b∈x.blks,N<b):=⟨fun b hb=>by have:=hva b hb;have:=aAb HR1.out;omega,fun x hx b hb=>by have:=hblk x hx b hb;have:=aAb HR1.out;omega⟩
  clear hct hok hsv hmem hva hblk
  obtain ⟨m,hm⟩:∃ m,rs.length=m:=⟨_,rfl⟩
  have HM:=hide hm
  rw [hm] at HSV2
  rw [hm]
  clear hm
  have hbx:=aAc w2 (.cells #[.int .i64 (En:Int),.int .i64 (An:Int),.slice va m vc] 37)
  have HV3:Hid ((w2.alloc (.cells #[.int .i64 (En:Int),.int .i64 (An:Int),.slice va m vc] 37)).heap[w2.heap.size]?=some (.cells #[.int .i64 (En:Int),.int .i64 (An:Int),.slice va m vc] 37 (0,0))):=boxed w2 _
  have HSV3:=hide (HSV2.out.later hbx)
  have HZ3:Hid ((w2.alloc (.cells #[.int .i64 (En:Int),.int .i64 (An:Int),.slice va m vc] 37)).heap[N]?=some (.cells #[.int .i64 0,.int .i64 0,.slice none 0 0] 37 (0,0))):=(hbx.block N (by have:=aAb HZ1.out;have:=hf.bel.size;omega)).trans ((hf.oth N (aAb HZ1.out) (by omega)).trans HZ1.out)
  have HB3:=hide ((aB9 HB1.out hf fun b o q hp=>by have:=HAN.out b o q hp;omega).later hbx (nR _))
  have HW3:Hid (Below N w (w2.alloc (.cells #[.int .i64 (En:Int),.int .i64 (An:Int),.slice va m vc] 37))):=HW1.out.trans ((hf.bel.mono (by omega)).trans (hbx.mono (by have:=aAb HZ1.out;have:=hf.bel.size;omega)))
  clear hf hbx HSC HSV2
  go_upto_region 3 with fail
  generalize (w2.alloc (.cells #[.int .i64 (En:Int),.int .i64 (An:Int),.slice va m vc] 37))=w3 at *
  generalize w2.heap.size=V at *
  have y0:w3.cell? ⟨V,0,none⟩=some (.int .i64 (En:Int)):=aAa HV3.out
  have y1:w3.cell? ⟨V,1,none⟩=some (.int .i64 (An:Int)):=aAa HV3.out
  have y2:w3.cell? ⟨V,2,none⟩=some (.slice va m vc):=aAa HV3.out
  have HEN:=hide (aBe (er:=(En:Int)) (at_:=(An:Int)) HSV3.out HOK.out)
  go_wp2_with fail
  refine HEN.out.mono ?_
  rintro e w4 ⟨a4,n4,c4,rfl,hx4,_,hb4⟩
  have HX4:=hide hx4
  have HB4:=hide (HB3.out.later hb4 (nR _))
  have HV4:=hide ((hb4.block V (aAb HV3.out)).trans HV3.out)
  have HZ4:=hide ((hb4.block N (aAb HZ3.out)).trans HZ3.out)
  have HSV4:=hide (HSV3.out.later hb4)
  have HW4:Hid (Below N w w4):=HW3.out.trans (hb4.mono (by have:=aAb HZ3.out;omega))
  clear hx4 hb4 HEN y0 y1 y2
  have t0:w4.cell? ⟨N,0,none⟩=some (.int .i64 0):=aAa HZ4.out
  have tf0:w4.frozen? ⟨N,0,none⟩=false:=aAj HZ4.out
  have t1:w4.cell? ⟨N,1,none⟩=some (.int .i64 0):=aAa HZ4.out
  have tf1:w4.frozen? ⟨N,1,none⟩=false:=aAj HZ4.out
  have t2:w4.cell? ⟨N,2,none⟩=some (.slice none 0 0):=aAa HZ4.out
  have tf2:w4.frozen? ⟨N,2,none⟩=false:=aAj HZ4.out
  cases hok:rpOk (En:Int) (An:Int) rs with
  | false =>
    rw [if_neg (by decide)]
    have HNQ:Hid (¬ (rpOk (En:Int) (An:Int) rs=true∧encR (En:Int) (An:Int) rs=xs)):=by
      show ¬ _
      rw [hok]
      simp
    clear hok
    go_wp2
    (try simp only [Exit.inBlock,Exit.then])
    refine bodyPost_ret (aAu Tryz.results16 _ _ N _ _ _ _ rfl (set3 HZ4.out) Tryz.underlying37 rfl (by kernel_rfl)) rfl ?_
    exact ⟨⟨none,0,rs,HMP.out,HOK.out,Or.inr ⟨HNQ.out,rfl⟩⟩,((HW4.out.setCell (p:=⟨N,0,none⟩) (nR _) _).setCell (p:=⟨N,1,none⟩) (nR _) _).setCell (p:=⟨N,2,none⟩) (nR _) _⟩
  | true =>
    rw [if_pos rfl]
    have HEQ:=hide (aB7 a4 a n4 c4 n c (encR (En:Int) (An:Int) rs) xs w4 (HX4.out hok) HB4.out)
    have HOKT:=hide hok
    clear hok
    go_wp2_with fail
    refine HEQ.out.mono ?_
    rintro e w9 ⟨rfl,hw⟩
    have hw:=hw.symm
    subst hw
    clear hw HEQ
    by_cases hq:encR (En:Int) (An:Int) rs=xs
    · have HEQS:=hide hq
      rw [decide_eq_true hq]
      clear hq
      have z0:w4.cell? ⟨V,0,none⟩=some (.int .i64 (En:Int)):=aAa HV4.out
      have z1:w4.cell? ⟨V,1,none⟩=some (.int .i64 (An:Int)):=aAa HV4.out
      have z2:w4.cell? ⟨V,2,none⟩=some (.slice va m vc):=aAa HV4.out
      go_wp2
      (try simp only [Exit.inBlock,Exit.then])
      refine bodyPost_ret (aAu Tryz.results16 _ _ N _ _ _ _ rfl (set3 HZ4.out) Tryz.underlying37 rfl (by kernel_rfl)) rfl ?_
      have hsz:w4.heap.size≤(((w4.setCell ⟨N,0,none⟩ (.int .i64 (En:Int))).setCell ⟨N,1,none⟩ (.int .i64 (An:Int))).setCell ⟨N,2,none⟩ (.slice va m vc)).heap.size:=((((Below.refl 0 w4).setCell (p:=⟨N,0,none⟩) (Nat.zero_le _) _).setCell (p:=⟨N,1,none⟩) (Nat.zero_le _) _).setCell (p:=⟨N,2,none⟩) (Nat.zero_le _) _).size
      have hoth:∀ b,b≠N→(((w4.setCell ⟨N,0,none⟩ (.int .i64 (En:Int))).setCell ⟨N,1,none⟩ (.int .i64 (An:Int))).setCell ⟨N,2,none⟩ (.slice va m vc)).heap[b]?=w4.heap[b]?:=fun b hb=>set_oth3 (show b≠N from hb)
      refine ⟨⟨va,vc,rs,HMP.out,HOK.out,Or.inl ⟨HOKT.out,HEQS.out,by rw [HM.out];rfl,?_⟩⟩,((HW4.out.setCell (p:=⟨N,0,none⟩) (nR _) _).setCell (p:=⟨N,1,none⟩) (nR _) _).setCell (p:=⟨N,2,none⟩) (nR _) _⟩
      rw [HM.out]
      exact ⟨SV.stay HSV4.out.sv hsz (fun b hb _=>hoth b (by have:=HNV.out.1 b hb;omega)),fun x hx=>aAx _ _ x (HSV4.out.mem x hx) hsz (fun b hb _=>hoth b (by have:=HNV.out.2 x hx b hb;omega))⟩
    · rw [decide_eq_false hq]
      have HNQ:Hid (¬ (rpOk (En:Int) (An:Int) rs=true∧encR (En:Int) (An:Int) rs=xs)):=fun q=>hq q.2
      clear hq
      go_wp2
      (try simp only [Exit.inBlock,Exit.then])
      refine bodyPost_ret (aAu Tryz.results16 _ _ N _ _ _ _ rfl (set3 HZ4.out) Tryz.underlying37 rfl (by kernel_rfl)) rfl ?_
      exact ⟨⟨none,0,rs,HMP.out,HOK.out,Or.inr ⟨HNQ.out,rfl⟩⟩,((HW4.out.setCell (p:=⟨N,0,none⟩) (nR _) _).setCell (p:=⟨N,1,none⟩) (nR _) _).setCell (p:=⟨N,2,none⟩) (nR _) _⟩
end Go.Proofs.YtmmcebojbbdfmaaGreat
