import Derived.Test.YtmmcebojbbdfmaaGreatY38
import Derived.Test.YtmmcebojbbdfmaaGreatY39
set_option maxRecDepth 100000
set_option maxHeartbeats 16000000
set_option linter.unusedVariables false
namespace Go.Proofs.YtmmcebojbbdfmaaGreat
open Go.RowKit _root_.Go.Proofs.Tryz
variable {a:Option Addr} {c n p rb:Nat} {w:World} {xs:List Nat}
theorem eop_ec (h:EDR rb a n c (p:Int) w) (hb:BS w a n c xs) (har:∀ b o,a=some ⟨b,o,none⟩->0<n->b≠rb) :
  Calls prog 67 #[.pointer (some ⟨rb,0,none⟩)] w fun e w'=>∃ x:OpV,e=.returned (.agg #[.int .i64 x.kind,.string x.nm,.string x.s.nm,.slice x.ca x.cl x.cc,.slice x.xa x.xl x.xc,.slice x.ra x.rl x.rc,.int .i64 x.key.1,.int .i64 x.key.2.1,.string x.key.2.2,.int .i64 x.col,.int .i64 x.lo.1,.int .i64 x.lo.2.1,.string x.lo.2.2,.int .i64 x.hi.1,.int .i64 x.hi.2.1,.string x.hi.2.2,.int .i64 x.lim])/\OpP w' x/\x.ct=(stO xs p).1/\(∀ b∈x.blks,w.heap.size<=b/\b<w'.heap.size)/\okO x/\EDR rb a n c ((stO xs p).2:Int) w'/\RdF rb w w':=by
 by_cases h1:ruN xs (p:Int)=1
 ·exact (eop_1 h hb har h1).mono fun e w' q=>q.1
 ·by_cases h2:ruN xs (p:Int)=2
  ·exact (eop_2 h hb har h2).mono fun e w' q=>q.1
  ·by_cases h3:ruN xs (p:Int)=3
   ·exact (eop_3 h hb har h3).mono fun e w' q=>q.1
   ·by_cases h4:ruN xs (p:Int)=4
    ·exact (eop_4 h hb har h4).mono fun e w' q=>q.1
    ·by_cases h5:ruN xs (p:Int)=5
     ·exact (eop_5 h hb har h5).mono fun e w' q=>q.1
     ·by_cases h6:ruN xs (p:Int)=6
      ·exact (eop_6 h hb har h6).mono fun e w' q=>q.1
      ·exact (eop_0 h hb har ⟨h1,h2,h3,h4,h5,h6⟩).mono fun e w' q=>q.1
theorem aF1:(prog.info? 75).map (fun i=>(i.zero,i.size,i.bytes))=some (some (.agg #[.int .i64 0,.string ⟨#[]⟩,.string ⟨#[]⟩,.slice none 0 0,.slice none 0 0,.slice none 0 0,.int .i64 0,.int .i64 0,.string ⟨#[]⟩,.int .i64 0,.int .i64 0,.int .i64 0,.string ⟨#[]⟩,.int .i64 0,.int .i64 0,.string ⟨#[]⟩,.int .i64 0]),17,224):=by kernel_rfl
theorem aEi:(prog.info? 46).map (fun i=>(i.zero,i.size,i.bytes))=some (some (.agg #[.int .i64 0,.int .i64 0,.slice none 0 0]),3,40):=by kernel_rfl
theorem fO_one (y:OpV):∀ u∈fO y,u.oneCell'=true:=by
 intro u hu;simp only [fO,List.mem_cons,List.not_mem_nil,or_false] at hu;rcases hu with rfl | rfl | rfl | rfl | rfl | rfl | rfl | rfl | rfl | rfl | rfl | rfl | rfl | rfl | rfl | rfl | rfl<;>rfl
theorem aF4 (y:CmdV):∀ u∈fCm y,u.oneCell'=true:=by
 intro u hu;simp only [fCm,List.mem_cons,List.not_mem_nil,or_false] at hu;rcases hu with rfl | rfl | rfl<;>rfl
theorem rcmd_any (h:EDR rb a n c (p:Int) w) (hb:BS w a n c xs) (har:∀ b o,a=some ⟨b,o,none⟩->0<n->b≠rb) :
  Calls prog 49 #[.pointer (some ⟨rb,0,none⟩)] w fun e w'=>∃ (va:Option Addr) (vc:Nat) (ls:List OpV),e=.returned (.agg #[.int .i64 (ruN xs (p:Int):Int),.int .i64 (ruN xs (ruP xs (p:Int):Int):Int),.slice va ls.length vc])/\SV fO 17 w' va ls.length vc ls/\(∀ x∈ls,OpP w' x)/\ls.map OpV.ct=rowsA (stO xs) (ruP xs (ruP xs (ruP xs (p:Int):Int):Int)) (min (ruN xs (ruP xs (ruP xs (p:Int):Int):Int)) 3)/\(∀ x∈ls,okO x)/\(∀ b∈oblk va,w.heap.size<=b/\b<w'.heap.size)/\(∀ x∈ls,∀ b∈OpV.blks x,w.heap.size<=b/\b<w'.heap.size)/\EDR rb a n c ((posA (stO xs) (ruP xs (ruP xs (ruP xs (p:Int):Int):Int)) (min (ruN xs (ruP xs (ruP xs (p:Int):Int):Int)) 3):Nat):Int) w'/\RdF rb w w':=by
 have HRB:Hid (rb<w.heap.size):=aAb h;have HAR:=zH har;have HAN:Hid (∀ b o,a=some ⟨b,o,none⟩->0<n->b<w.heap.size/\b≠rb):=by
  intro b o q hpos;have:=aBe (hb.hcell _ q 0 hpos);exact ⟨by simpa [Addr.add] using this,har b o q hpos⟩
 obtain ⟨h0,hh0⟩:∃ k,ruN xs (p:Int)=k:=⟨_,rfl⟩;obtain ⟨q0,hq0⟩:∃ k,ruP xs (p:Int)=k:=⟨_,rfl⟩;rw [hh0,hq0];obtain ⟨h1,hh1⟩:∃ k,ruN xs (q0:Int)=k:=⟨_,rfl⟩;obtain ⟨q1,hq1⟩:∃ k,ruP xs (q0:Int)=k:=⟨_,rfl⟩;rw [hh1,hq1];obtain ⟨cn,hcn⟩:∃ k,min (ruN xs (q1:Int)) 3=k:=⟨_,rfl⟩;obtain ⟨q9,hq9⟩:∃ k,ruP xs (q1:Int)=k:=⟨_,rfl⟩;rw [hcn,hq9];have HCN:Hid (cn<=3):=by show _<=_;rw [<-hcn];exact Nat.min_le_right _ _
 have hbz:=aAc w (.cells #[.int .i64 0,.int .i64 0,.slice none 0 0] 46);have HZ1:Hid ((w.alloc (.cells #[.int .i64 0,.int .i64 0,.slice none 0 0] 46)).heap[w.heap.size]?=some (.cells #[.int .i64 0,.int .i64 0,.slice none 0 0] 46 (0,0))):=boxed w _;have HR1:Hid (EDR rb a n c (p:Int) (w.alloc (.cells #[.int .i64 0,.int .i64 0,.slice none 0 0] 46))):=(hbz.block rb (aAb h)).trans h;have HB1:=zH (hb.later hbz (nR _));have HF1:Hid (RdF rb w (w.alloc (.cells #[.int .i64 0,.int .i64 0,.slice none 0 0] 46))):=RdF.of hbz (by have:=HRB.o;omega);have HCE:=zH hcn;have HP9:=zH hq9;have HH0:Hid (ruN xs (p:Int)=h0/\ruP xs (p:Int)=q0):=⟨hh0,hq0⟩;have HH1:Hid (ruN xs (q0:Int)=h1/\ruP xs (q0:Int)=q1):=⟨hh1,hq1⟩;clear h hb har hbz hcn hq9 hh0 hq0 hh1 hq1;go_enter func49,ntmps49;go_upto_region 1 with fail;generalize w.alloc (.cells #[.int .i64 0,.int .i64 0,.slice none 0 0] 46)=w1 at *
 generalize hN:w.heap.size=N at *
 have HC0:=zH (aAp HR1.o HB1.o);go_wp2_with fail;refine HC0.o.mono ?_;rintro e wh0 ⟨rfl,hr,hf⟩;rw [HH0.o.1];rw [HH0.o.2] at hr;have HF2:=zH (HF1.o.trans hf);have HR2:=zH hr;have HB2:=zH (aAj HB1.o hf HAR.o);have HZ2:=zH ((hf.oth N (aAb HZ1.o) (by have:=HRB.o;omega)).trans HZ1.o);clear hr hf HC0 HR1 HB1 HZ1;have HC1:=zH (aAp HR2.o HB2.o);go_wp2_with fail;refine HC1.o.mono ?_;rintro e wh1 ⟨rfl,hr,hf⟩;rw [HH1.o.1];rw [HH1.o.2] at hr;have HF3:=zH (HF2.o.trans hf);have HR3:=zH hr;have HB3:=zH (aAj HB2.o hf HAR.o);have HZ3:=zH ((hf.oth N (aAb HZ2.o) (by have:=HRB.o;omega)).trans HZ2.o);clear hr hf HC1 HR2 HB2 HZ2;have hb3:=aAc wh1 (.cells #[.int .i64 (h0:Int),.int .i64 (h1:Int),.slice none 0 0] 46);have HS3:Hid ((wh1.alloc (.cells #[.int .i64 (h0:Int),.int .i64 (h1:Int),.slice none 0 0] 46)).heap[wh1.heap.size]?=some (.cells #[.int .i64 (h0:Int),.int .i64 (h1:Int),.slice none 0 0] 46 (0,0))):=boxed wh1 _;have HRs:Hid (EDR rb a n c (q1:Int) (wh1.alloc (.cells #[.int .i64 (h0:Int),.int .i64 (h1:Int),.slice none 0 0] 46))):=(hb3.block rb (aAb HR3.o)).trans HR3.o;have HZs:=zH ((hb3.block N (aAb HZ3.o)).trans HZ3.o);have HBs:=zH (HB3.o.later hb3 (nR _));have HFs:=zH (HF3.o.trans (RdF.of hb3 (by have:=aAb HR3.o;omega)));have HNS:Hid (N<wh1.heap.size/\rb<wh1.heap.size):=⟨aAb HZ3.o,aAb HR3.o⟩;clear hb3;go_upto_region 2 with fail;generalize wh1.alloc (.cells #[.int .i64 (h0:Int),.int .i64 (h1:Int),.slice none 0 0] 46)=w3 at *
 generalize wh1.heap.size=S0 at *
 have HCs:=zH (aC9 (m0:=3) HRs.o HBs.o);go_wp2_with fail;refine HCs.o.mono ?_;rintro e w4 ⟨rfl,hr4,hf4⟩;rw [HP9.o] at hr4;rw [HCE.o];have HI4:Hid (RI fO 17 75 OpV.blks OpP OpV.ct okO 46 (fun v=>#[.int .i64 (h0:Int),.int .i64 (h1:Int),v]) #[.int .i64 0,.int .i64 0,.slice none 0 0] rb N S0 n c a xs w q9 [] (.slice none 0 0) [] w4):=by
  refine ⟨hr4,(hf4.oth S0 (aAb HS3.o) (by have:=HNS.o;omega)).trans HS3.o,OwnR.nil _ _ _ _ _ _ _,(hf4.oth N (aAb HZs.o) (by have:=HRB.o;omega)).trans HZs.o,rfl,HFs.o.trans hf4,aAj HBs.o hf4 HAR.o,by simp,by simp,⟨by rw [hN];exact HRB.o,Nat.le_of_eq hN,HNS.o.1⟩,fun b o q hp=>by rw [hN];exact HAN.o b o q hp⟩
 clear hr4 hf4 HCs HRs HBs HS3 HZs HFs HCE;go_wp2_with fail;go_loopg [11] cn (fun gh sx wx=>∃ (j:Nat) (v:Value) (ls:List OpV),j+gh=cn/\sx=.int .i64 (j:Int)/\RI fO 17 75 OpV.blks OpP OpV.ct okO 46 (fun v=>#[.int .i64 (h0:Int),.int .i64 (h1:Int),v]) #[.int .i64 0,.int .i64 0,.slice none 0 0] rb N S0 n c a xs w (posA (stO xs) q9 j) (rowsA (stO xs) q9 j) v ls wx)
 case atStart=>exact ⟨0,_,[],by omega,rfl,HI4.o⟩
 case round =>
  obtain ⟨j,v,ls,hj,rfl,hri⟩:=hrel;have HI:=zH hri;clear hri;by_cases hjn:j<cn
  ·have xj:(j:Int)<(cn:Int):=by omega
   have xj4:(j:Int)<1000000:=by have:=HCN.o;omega
   have HLL:Hid (ls.length<=3):=by
    show _<=_;have:=congrArg List.length HI.o.ct_;rw [List.length_map,aDt] at this;have:=HCN.o;omega
   have HID:=zH (HI.o.later aA0 (Below.refl _ _).drew);obtain ⟨P,hP⟩:∃ P,posA (stO xs) q9 j=P:=⟨_,rfl⟩;have HEC:=zH (eop_ec HID.o.rd HID.o.bs HAR.o);rw [hP] at HEC HID;have HPN:Hid (posA (stO xs) q9 (j+1)=(stO xs P).2/\rowsA (stO xs) q9 (j+1)=rowsA (stO xs) q9 j++[(stO xs P).1]):=by
    refine ⟨?_,?_⟩
    ·show (stO xs (posA (stO xs) q9 j)).2=_;rw [hP]
    ·show rowsA (stO xs) q9 j++[(stO xs (posA (stO xs) q9 j)).1]=_;rw [hP]
   clear hP;go_upto_region 4 with fail;refine wp_region_noPanic ?_;refine wp_region_held_drew (S:=fun wx=>True) (by kernel_rfl) trivial (fun hHeld=>?_);refine aAe 0 13 ?_;refine aAe 2 15 ?_;refine aAn (i:=1) (j:=3) (by kernel_rfl) (by kernel_rfl) (by kernel_rfl) ?ba ?bb
   case ba =>
    have y0:wr.drew.cell? ⟨S0,2,none⟩=some v:=aAa (show wr.drew.heap[S0]?=_ from HID.o.sb);have y0':wr.cell? ⟨S0,2,none⟩=some v:=y0;intro o ho K hK;simp only [tG,sG,zG,oI] at ho;subst ho;go_simp;clear hHeld;refine hK.out _ _ trivial (fun hHeld=>?_);clear hK K
    try simp only [Act.put,siT,scZ,scS]
    clear y0 y0';refine aAf 3 ?_;intro K hK;go_simp;refine HEC.o.mono ?_;rintro e w5 ⟨x,rfl,hm5,hc5,hn5,hok5,hr5,hf5⟩;have HI5:=zH (HID.o.read aA0 hr5 hf5);have HM5:=zH hm5;have HC5:=zH hc5;have HOK5:=zH hok5;have HNW5:Hid (∀ b∈OpV.blks x,v.ownBlock≠some b/\S0<b/\b<w5.heap.size):=fun b hb=>by
     have h1:=hn5 b hb;refine ⟨fun e=>?_,?_,h1.2⟩
     ·have:=(HID.o.nrb b e).2.2;omega
     ·have:=aAb HID.o.sb;omega
    clear hm5 hc5 hn5 hok5 hr5 hf5 hHeld HEC;refine hK.out _ _ trivial (fun hHeld=>?_);clear hK K
    try simp only [Act.put,siT,scZ,scS]
    refine aAf 4 ?_;intro K hK;go_simp;clear hHeld;refine hK.out _ _ trivial (fun hHeld=>?_);clear hK K
    try simp only [Act.put,siT,scZ,scS]
    have hb6:=aAc w5 (.cells #[.int .i64 x.kind,.string x.nm,.string x.s.nm,.slice x.ca x.cl x.cc,.slice x.xa x.xl x.xc,.slice x.ra x.rl x.rc,.int .i64 x.key.1,.int .i64 x.key.2.1,.string x.key.2.2,.int .i64 x.col,.int .i64 x.lo.1,.int .i64 x.lo.2.1,.string x.lo.2.2,.int .i64 x.hi.1,.int .i64 x.hi.2.1,.string x.hi.2.2,.int .i64 x.lim] 75);have HI6:=zH (HI5.o.later aA0 hb6);have HM6:=zH (aA0 _ _ x HM5.o hb6.size (fun b _ hb=>hb6.block b hb));obtain ⟨w6,zw⟩:∃ w6,w6=w5.alloc (.cells #[.int .i64 x.kind,.string x.nm,.string x.s.nm,.slice x.ca x.cl x.cc,.slice x.xa x.xl x.xc,.slice x.ra x.rl x.rc,.int .i64 x.key.1,.int .i64 x.key.2.1,.string x.key.2.2,.int .i64 x.col,.int .i64 x.lo.1,.int .i64 x.lo.2.1,.string x.lo.2.2,.int .i64 x.hi.1,.int .i64 x.hi.2.1,.string x.hi.2.2,.int .i64 x.lim] 75):=⟨_,rfl⟩;have HG6:Hid (SV fO 17 w6 (some ⟨w5.heap.size,0,none⟩) 1 1 [x]):=by rw [zw];exact SV.whole aBl rfl (by omega) (boxed w5 _)
    have HNW6:Hid (∀ b∈OpV.blks x,v.ownBlock≠some b/\S0<b/\b<w6.heap.size):=by rw [zw];exact fun b hb=>⟨(HNW5.o b hb).1,(HNW5.o b hb).2.1,Nat.lt_of_lt_of_le (HNW5.o b hb).2.2 hb6.size⟩
    clear hb6 HI5 HM5 HNW5;(try rw [<-zw]);(try rw [<-zw] at hb6);(try rw [<-zw] at HI6);(try rw [<-zw] at HM6);clear zw;generalize w5.heap.size=g5 at *
    refine aAf 5 ?_;intro K hK;rw [if_pos (by rfl)];refine aA3 (f:=fO) aBl (by omega) fO_one underlying44 aF1 rfl (.tmp 14) (.tmp 17) rfl (B1:=S0+1) (F:=ls) (G:=[x]) rfl rfl HI6.o.ow.own HG6.o (by have:=aAb HI6.o.sb;omega) (by have:=HLL.o;omega) (by omega) ?_;intro v7 w7 ho7 hb7 hk7 hv7;have hst:=HI6.o.push aA0 (fun _ _=>rfl) HM6.o HNW6.o HC5.o HOK5.o ho7 hb7 hk7 hv7;obtain ⟨a7,c7,e7,_⟩:=aAo aBl ho7 rfl;generalize (ls++[x]).length=m7 at e7;subst e7;have y0:w7.cell? ⟨S0,2,none⟩=some v:=aAa hst.1;have yf:w7.frozen? ⟨S0,2,none⟩=false:=aAg hst.1;have HI7:=zH hst.2;clear ho7 hb7 hk7 hv7 hst hHeld;refine hK.out _ _ trivial (fun hHeld=>?_);clear hK K
    try simp only [Act.put,siT,scZ,scS]
    refine aAe 6 19 ?_;refine aAf 7 ?_;intro K hK;go_simp;clear hHeld;refine hK.out _ _ trivial (fun hHeld=>?_);clear y0 yf;clear hK K
    try simp only [Act.put,siT,scZ,scS]
    refine wpAnyH_done (by kernel_rfl) ?_ _;refine NoPanic.normal ?_;clear hHeld;go_wp2;go_roundg (gk-1)
    case measure=>omega
    case rel=>exact ⟨j+1,_,_,by omega,rfl,by rw [HPN.o.1,HPN.o.2];exact HI7.o⟩
   case bb =>
    intro o ho K hK;simp only [tG,sG,zG,oI] at ho;subst ho;go_simp;refine HEC.o.mono ?_;rintro e w5 ⟨x,rfl,hm5,hc5,hn5,hok5,hr5,hf5⟩;have HI5:=zH (HID.o.read aA0 hr5 hf5);have HM5:=zH hm5;have HC5:=zH hc5;have HOK5:=zH hok5;have HNW5:Hid (∀ b∈OpV.blks x,v.ownBlock≠some b/\S0<b/\b<w5.heap.size):=fun b hb=>by
     have h1:=hn5 b hb;refine ⟨fun e=>?_,?_,h1.2⟩
     ·have:=(HID.o.nrb b e).2.2;omega
     ·have:=aAb HID.o.sb;omega
    clear hm5 hc5 hn5 hok5 hr5 hf5 hHeld HEC;refine hK.out _ _ trivial (fun hHeld=>?_);clear hK K
    try simp only [Act.put,siT,scZ,scS]
    refine aAn (i:=1) (j:=4) (by kernel_rfl) (by kernel_rfl) (by kernel_rfl) ?bba ?bbb
    case bba =>
     have y0:w5.cell? ⟨S0,2,none⟩=some v:=aAa HI5.o.sb;intro o ho K hK;simp only [tG,sG,zG,oI] at ho;subst ho;go_simp;clear hHeld;refine hK.out _ _ trivial (fun hHeld=>?_);clear hK K
     try simp only [Act.put,siT,scZ,scS]
     clear y0;refine aAf 4 ?_;intro K hK;go_simp;clear hHeld;refine hK.out _ _ trivial (fun hHeld=>?_);clear hK K
     try simp only [Act.put,siT,scZ,scS]
     have hb6:=aAc w5 (.cells #[.int .i64 x.kind,.string x.nm,.string x.s.nm,.slice x.ca x.cl x.cc,.slice x.xa x.xl x.xc,.slice x.ra x.rl x.rc,.int .i64 x.key.1,.int .i64 x.key.2.1,.string x.key.2.2,.int .i64 x.col,.int .i64 x.lo.1,.int .i64 x.lo.2.1,.string x.lo.2.2,.int .i64 x.hi.1,.int .i64 x.hi.2.1,.string x.hi.2.2,.int .i64 x.lim] 75);have HI6:=zH (HI5.o.later aA0 hb6);have HM6:=zH (aA0 _ _ x HM5.o hb6.size (fun b _ hb=>hb6.block b hb));obtain ⟨w6,zw⟩:∃ w6,w6=w5.alloc (.cells #[.int .i64 x.kind,.string x.nm,.string x.s.nm,.slice x.ca x.cl x.cc,.slice x.xa x.xl x.xc,.slice x.ra x.rl x.rc,.int .i64 x.key.1,.int .i64 x.key.2.1,.string x.key.2.2,.int .i64 x.col,.int .i64 x.lo.1,.int .i64 x.lo.2.1,.string x.lo.2.2,.int .i64 x.hi.1,.int .i64 x.hi.2.1,.string x.hi.2.2,.int .i64 x.lim] 75):=⟨_,rfl⟩;have HG6:Hid (SV fO 17 w6 (some ⟨w5.heap.size,0,none⟩) 1 1 [x]):=by rw [zw];exact SV.whole aBl rfl (by omega) (boxed w5 _)
     have HNW6:Hid (∀ b∈OpV.blks x,v.ownBlock≠some b/\S0<b/\b<w6.heap.size):=by rw [zw];exact fun b hb=>⟨(HNW5.o b hb).1,(HNW5.o b hb).2.1,Nat.lt_of_lt_of_le (HNW5.o b hb).2.2 hb6.size⟩
     clear hb6 HI5 HM5 HNW5;(try rw [<-zw]);(try rw [<-zw] at hb6);(try rw [<-zw] at HI6);(try rw [<-zw] at HM6);clear zw;generalize w5.heap.size=g5 at *
     refine aAf 5 ?_;intro K hK;rw [if_pos (by rfl)];refine aA3 (f:=fO) aBl (by omega) fO_one underlying44 aF1 rfl (.tmp 14) (.tmp 17) rfl (B1:=S0+1) (F:=ls) (G:=[x]) rfl rfl HI6.o.ow.own HG6.o (by have:=aAb HI6.o.sb;omega) (by have:=HLL.o;omega) (by omega) ?_;intro v7 w7 ho7 hb7 hk7 hv7;have hst:=HI6.o.push aA0 (fun _ _=>rfl) HM6.o HNW6.o HC5.o HOK5.o ho7 hb7 hk7 hv7;obtain ⟨a7,c7,e7,_⟩:=aAo aBl ho7 rfl;generalize (ls++[x]).length=m7 at e7;subst e7;have y0:w7.cell? ⟨S0,2,none⟩=some v:=aAa hst.1;have yf:w7.frozen? ⟨S0,2,none⟩=false:=aAg hst.1;have HI7:=zH hst.2;clear ho7 hb7 hk7 hv7 hst hHeld;refine hK.out _ _ trivial (fun hHeld=>?_);clear hK K
     try simp only [Act.put,siT,scZ,scS]
     refine aAe 6 19 ?_;refine aAf 7 ?_;intro K hK;go_simp;clear hHeld;refine hK.out _ _ trivial (fun hHeld=>?_);clear y0 yf;clear hK K
     try simp only [Act.put,siT,scZ,scS]
     refine wpAnyH_done (by kernel_rfl) ?_ _;refine NoPanic.normal ?_;clear hHeld;go_wp2;go_roundg (gk-1)
     case measure=>omega
     case rel=>exact ⟨j+1,_,_,by omega,rfl,by rw [HPN.o.1,HPN.o.2];exact HI7.o⟩
    case bbb =>
     intro o ho K hK;simp only [tG,sG,zG,oI] at ho;subst ho;go_simp;clear hHeld;refine hK.out _ _ trivial (fun hHeld=>?_);clear hK K
     try simp only [Act.put,siT,scZ,scS]
     have hb6:=aAc w5 (.cells #[.int .i64 x.kind,.string x.nm,.string x.s.nm,.slice x.ca x.cl x.cc,.slice x.xa x.xl x.xc,.slice x.ra x.rl x.rc,.int .i64 x.key.1,.int .i64 x.key.2.1,.string x.key.2.2,.int .i64 x.col,.int .i64 x.lo.1,.int .i64 x.lo.2.1,.string x.lo.2.2,.int .i64 x.hi.1,.int .i64 x.hi.2.1,.string x.hi.2.2,.int .i64 x.lim] 75);have HI6:=zH (HI5.o.later aA0 hb6);have HM6:=zH (aA0 _ _ x HM5.o hb6.size (fun b _ hb=>hb6.block b hb));obtain ⟨w6,zw⟩:∃ w6,w6=w5.alloc (.cells #[.int .i64 x.kind,.string x.nm,.string x.s.nm,.slice x.ca x.cl x.cc,.slice x.xa x.xl x.xc,.slice x.ra x.rl x.rc,.int .i64 x.key.1,.int .i64 x.key.2.1,.string x.key.2.2,.int .i64 x.col,.int .i64 x.lo.1,.int .i64 x.lo.2.1,.string x.lo.2.2,.int .i64 x.hi.1,.int .i64 x.hi.2.1,.string x.hi.2.2,.int .i64 x.lim] 75):=⟨_,rfl⟩;have HG6:Hid (SV fO 17 w6 (some ⟨w5.heap.size,0,none⟩) 1 1 [x]):=by rw [zw];exact SV.whole aBl rfl (by omega) (boxed w5 _)
     have HNW6:Hid (∀ b∈OpV.blks x,v.ownBlock≠some b/\S0<b/\b<w6.heap.size):=by rw [zw];exact fun b hb=>⟨(HNW5.o b hb).1,(HNW5.o b hb).2.1,Nat.lt_of_lt_of_le (HNW5.o b hb).2.2 hb6.size⟩
     clear hb6 HI5 HM5 HNW5;(try rw [<-zw]);(try rw [<-zw] at hb6);(try rw [<-zw] at HI6);(try rw [<-zw] at HM6);clear zw;generalize w5.heap.size=g5 at *
     have y0:w6.cell? ⟨S0,2,none⟩=some v:=aAa HI6.o.sb;refine aAf 1 ?_;intro K hK;go_simp;clear hHeld;refine hK.out _ _ trivial (fun hHeld=>?_);clear hK K
     try simp only [Act.put,siT,scZ,scS]
     clear y0;refine aAf 5 ?_;intro K hK;rw [if_pos (by rfl)];refine aA3 (f:=fO) aBl (by omega) fO_one underlying44 aF1 rfl (.tmp 14) (.tmp 17) rfl (B1:=S0+1) (F:=ls) (G:=[x]) rfl rfl HI6.o.ow.own HG6.o (by have:=aAb HI6.o.sb;omega) (by have:=HLL.o;omega) (by omega) ?_;intro v7 w7 ho7 hb7 hk7 hv7;have hst:=HI6.o.push aA0 (fun _ _=>rfl) HM6.o HNW6.o HC5.o HOK5.o ho7 hb7 hk7 hv7;obtain ⟨a7,c7,e7,_⟩:=aAo aBl ho7 rfl;generalize (ls++[x]).length=m7 at e7;subst e7;have y0:w7.cell? ⟨S0,2,none⟩=some v:=aAa hst.1;have yf:w7.frozen? ⟨S0,2,none⟩=false:=aAg hst.1;have HI7:=zH hst.2;clear ho7 hb7 hk7 hv7 hst hHeld;refine hK.out _ _ trivial (fun hHeld=>?_);clear hK K
     try simp only [Act.put,siT,scZ,scS]
     refine aAe 6 19 ?_;refine aAf 7 ?_;intro K hK;go_simp;clear hHeld;refine hK.out _ _ trivial (fun hHeld=>?_);clear y0 yf;clear hK K
     try simp only [Act.put,siT,scZ,scS]
     refine wpAnyH_done (by kernel_rfl) ?_ _;refine NoPanic.normal ?_;clear hHeld;go_wp2;go_roundg (gk-1)
     case measure=>omega
     case rel=>exact ⟨j+1,_,_,by omega,rfl,by rw [HPN.o.1,HPN.o.2];exact HI7.o⟩
  ·have xj:¬ (j:Int)<(cn:Int):=by omega
   have ex:j=cn:=by omega
   subst ex;obtain ⟨a9,c9,e9,_⟩:=aAo aBl HI.o.ow.own rfl;obtain ⟨m9,hm9⟩:∃ m,ls.length=m:=⟨_,rfl⟩;rw [hm9] at e9;subst e9;have HML:=zH hm9;clear hm9;have y0:wr.cell? ⟨S0,0,none⟩=some (.int .i64 (h0:Int)):=aAa HI.o.sb;have t0:wr.cell? ⟨N,0,none⟩=some (.int .i64 0):=aAa HI.o.zb;have tf0:wr.frozen? ⟨N,0,none⟩=false:=aAg HI.o.zb;have y1:wr.cell? ⟨S0,1,none⟩=some (.int .i64 (h1:Int)):=aAa HI.o.sb;have t1:wr.cell? ⟨N,1,none⟩=some (.int .i64 0):=aAa HI.o.zb;have tf1:wr.frozen? ⟨N,1,none⟩=false:=aAg HI.o.zb;have y2:wr.cell? ⟨S0,2,none⟩=some (.slice a9 m9 c9):=aAa HI.o.sb;have t2:wr.cell? ⟨N,2,none⟩=some (.slice none 0 0):=aAa HI.o.zb;have tf2:wr.frozen? ⟨N,2,none⟩=false:=aAg HI.o.zb;go_wp2;(try simp only [Exit.inBlock,Exit.then]);refine bodyPost_ret (results_cell_row results49 _ _ N _ _ _ _ rfl (set3 HI.o.zb) underlying46 rfl (by kernel_rfl)) rfl ?_;have hlt:=HI.o.lt;have hne:∀ i,i≠N->(((wr.setCell ⟨N,0,none⟩ (.int .i64 (h0:Int))).setCell ⟨N,1,none⟩ (.int .i64 (h1:Int))).setCell ⟨N,2,none⟩ (.slice a9 m9 c9)).heap[i]?=wr.heap[i]?:=fun i hi=>aA6 (show i≠N from hi)
   have hsz:wr.heap.size<=(((wr.setCell ⟨N,0,none⟩ (.int .i64 (h0:Int))).setCell ⟨N,1,none⟩ (.int .i64 (h1:Int))).setCell ⟨N,2,none⟩ (.slice a9 m9 c9)).heap.size:=((((Below.refl 0 wr).setCell (p:=⟨N,0,none⟩) (Nat.zero_le _) _).setCell (p:=⟨N,1,none⟩) (Nat.zero_le _) _).setCell (p:=⟨N,2,none⟩) (Nat.zero_le _) _).size;have hown:=HI.o.ow.keep (w':=(((wr.setCell ⟨N,0,none⟩ (.int .i64 (h0:Int))).setCell ⟨N,1,none⟩ (.int .i64 (h1:Int))).setCell ⟨N,2,none⟩ (.slice a9 m9 c9))) aA0 hsz (aBc HI.o.ow.own fun g e=>hne g (by have:=HI.o.ow.own.lt g e;omega)) (fun i hi ⟨y,hy,hb1⟩=>hne i (by have:=HI.o.new y hy i hb1;omega));obtain ⟨a8,c8,e8,hsv⟩:=aAo aBl hown.own rfl;rw [HML.o] at e8;simp only [Value.slice.injEq,true_and] at e8;obtain ⟨rfl,rfl⟩:=e8;refine ⟨a9,c9,ls,by rw [HML.o],hsv,hown.mem,HI.o.ct_,HI.o.ok,fun b hb1=>?_,fun y hy b hb1=>⟨by have:=HI.o.new y hy b hb1;omega,(hown.ap y hy b hb1).2⟩,?_,?_⟩
   ·cases a9 with
    | none=>cases hb1
    | some ad =>
     obtain rfl:b=ad.block:=by simpa [oblk] using hb1
     have:=hown.own.lt ad.block rfl;omega
   ·exact (hne rb (by omega)).trans HI.o.rd
   ·exact (((HI.o.fr.put (b:=N) (by omega) (by omega) 0 _).put (b:=N) (by omega) (by omega) 1 _).put (b:=N) (by omega) (by omega) 2 _)
def CmdV.ct (c:CmdV):Int×Int×List OpC:=(c.sess,c.seq,c.ops.map OpV.ct)
def CmdV.blks (c:CmdV):List Nat:=obl c.oa c.on++c.ops.flatMap OpV.blks
def okC (_:CmdV):Prop:=True
noncomputable def stC (xs:List Nat) (p:Nat):(Int×Int×List OpC)×Nat :=
 (((ruN xs (p:Int):Int),(ruN xs (ruP xs (p:Int):Int):Int),rowsA (stO xs) (ruP xs (ruP xs (ruP xs (p:Int):Int):Int)) (min (ruN xs (ruP xs (ruP xs (p:Int):Int):Int)) 3)),posA (stO xs) (ruP xs (ruP xs (ruP xs (p:Int):Int):Int)) (min (ruN xs (ruP xs (ruP xs (p:Int):Int):Int)) 3))
theorem aAs:Stay CmdV.blks CmdP:=fun w w' c h hs hb=>⟨h.s,h.q,h.sv.stay0 hs fun b h1 h2=>hb b (List.mem_append.2 (Or.inl h1)) h2,fun y hy=>aA0 w w' y (h.ops y hy) hs fun b h1 h2=>hb b (List.mem_append.2 (Or.inr (List.mem_flatMap.2 ⟨y,hy,h1⟩))) h2⟩
theorem ecmd_ec (h:EDR rb a n c (p:Int) w) (hb:BS w a n c xs) (har:∀ b o,a=some ⟨b,o,none⟩->0<n->b≠rb) :
  Calls prog 49 #[.pointer (some ⟨rb,0,none⟩)] w fun e w'=>∃ x:CmdV,e=.returned (.agg #[.int .i64 x.sess,.int .i64 x.seq,.slice x.oa x.on x.oc])/\CmdP w' x/\x.ct=(stC xs p).1/\(∀ b∈x.blks,w.heap.size<=b/\b<w'.heap.size)/\okC x/\EDR rb a n c ((stC xs p).2:Int) w'/\RdF rb w w':=by
 refine (rcmd_any h hb har).mono ?_;rintro e w' ⟨va,vc,ls,rfl,h1,h2,h3,_,h5,h6,h7,h8⟩;have k1:=aEo xs (p:Int) hb.hbyte;have k2:=aEo xs (ruP xs (p:Int):Int) hb.hbyte;refine ⟨⟨(ruN xs (p:Int):Int),(ruN xs (ruP xs (p:Int):Int):Int),va,ls.length,vc,ls⟩,rfl,⟨by dsimp only;omega,by dsimp only;omega,h1,h2⟩,?_,?_,trivial,h7,h8⟩
 ·unfold CmdV.ct stC;dsimp only;rw [h3]
 ·intro b hb1;unfold CmdV.blks at hb1;rcases List.mem_append.1 hb1 with q | q
  ·unfold obl at q
   split at q
   ·exact h5 b q
   ·cases q
  ·obtain ⟨y,hy,hy2⟩:=List.mem_flatMap.1 q;exact h6 y hy b hy2
theorem rentry_any (h:EDR rb a n c (p:Int) w) (hb:BS w a n c xs) (har:∀ b o,a=some ⟨b,o,none⟩->0<n->b≠rb) :
  Calls prog 29 #[.pointer (some ⟨rb,0,none⟩)] w fun e w'=>∃ (va:Option Addr) (vc:Nat) (ls:List CmdV),e=.returned (.agg #[.int .i64 (ruN xs (p:Int):Int),.int .i64 (ruN xs (ruP xs (p:Int):Int):Int),.slice va ls.length vc,.int .i64 (ruN xs (ruP xs (ruP xs (p:Int):Int):Int):Int)])/\SV fCm 3 w' va ls.length vc ls/\(∀ x∈ls,CmdP w' x)/\ls.map CmdV.ct=rowsA (stC xs) (ruP xs (ruP xs (ruP xs (ruP xs (p:Int):Int):Int):Int)) (min (ruN xs (ruP xs (ruP xs (ruP xs (p:Int):Int):Int):Int)) 3)/\(∀ x∈ls,okC x)/\(∀ b∈oblk va,w.heap.size<=b/\b<w'.heap.size)/\(∀ x∈ls,∀ b∈CmdV.blks x,w.heap.size<=b/\b<w'.heap.size)/\EDR rb a n c ((posA (stC xs) (ruP xs (ruP xs (ruP xs (ruP xs (p:Int):Int):Int):Int)) (min (ruN xs (ruP xs (ruP xs (ruP xs (p:Int):Int):Int):Int)) 3):Nat):Int) w'/\RdF rb w w':=by
 have HRB:Hid (rb<w.heap.size):=aAb h;have HAR:=zH har;have HAN:Hid (∀ b o,a=some ⟨b,o,none⟩->0<n->b<w.heap.size/\b≠rb):=by
  intro b o q hpos;have:=aBe (hb.hcell _ q 0 hpos);exact ⟨by simpa [Addr.add] using this,har b o q hpos⟩
 obtain ⟨h0,hh0⟩:∃ k,ruN xs (p:Int)=k:=⟨_,rfl⟩;obtain ⟨q0,hq0⟩:∃ k,ruP xs (p:Int)=k:=⟨_,rfl⟩;rw [hh0,hq0];obtain ⟨h1,hh1⟩:∃ k,ruN xs (q0:Int)=k:=⟨_,rfl⟩;obtain ⟨q1,hq1⟩:∃ k,ruP xs (q0:Int)=k:=⟨_,rfl⟩;rw [hh1,hq1];obtain ⟨h2,hh2⟩:∃ k,ruN xs (q1:Int)=k:=⟨_,rfl⟩;obtain ⟨q2,hq2⟩:∃ k,ruP xs (q1:Int)=k:=⟨_,rfl⟩;rw [hh2,hq2];obtain ⟨cn,hcn⟩:∃ k,min (ruN xs (q2:Int)) 3=k:=⟨_,rfl⟩;obtain ⟨q9,hq9⟩:∃ k,ruP xs (q2:Int)=k:=⟨_,rfl⟩;rw [hcn,hq9];have HCN:Hid (cn<=3):=by show _<=_;rw [<-hcn];exact Nat.min_le_right _ _
 have hbz:=aAc w (.cells #[.int .i64 0,.int .i64 0,.slice none 0 0,.int .i64 0] 24);have HZ1:Hid ((w.alloc (.cells #[.int .i64 0,.int .i64 0,.slice none 0 0,.int .i64 0] 24)).heap[w.heap.size]?=some (.cells #[.int .i64 0,.int .i64 0,.slice none 0 0,.int .i64 0] 24 (0,0))):=boxed w _;have HR1:Hid (EDR rb a n c (p:Int) (w.alloc (.cells #[.int .i64 0,.int .i64 0,.slice none 0 0,.int .i64 0] 24))):=(hbz.block rb (aAb h)).trans h;have HB1:=zH (hb.later hbz (nR _));have HF1:Hid (RdF rb w (w.alloc (.cells #[.int .i64 0,.int .i64 0,.slice none 0 0,.int .i64 0] 24))):=RdF.of hbz (by have:=HRB.o;omega);have HCE:=zH hcn;have HP9:=zH hq9;have HH0:Hid (ruN xs (p:Int)=h0/\ruP xs (p:Int)=q0):=⟨hh0,hq0⟩;have HH1:Hid (ruN xs (q0:Int)=h1/\ruP xs (q0:Int)=q1):=⟨hh1,hq1⟩;have HH2:Hid (ruN xs (q1:Int)=h2/\ruP xs (q1:Int)=q2):=⟨hh2,hq2⟩;clear h hb har hbz hcn hq9 hh0 hq0 hh1 hq1 hh2 hq2;go_enter func29,ntmps29;go_upto_region 1 with fail;generalize w.alloc (.cells #[.int .i64 0,.int .i64 0,.slice none 0 0,.int .i64 0] 24)=w1 at *
 generalize hN:w.heap.size=N at *
 have HC0:=zH (aAp HR1.o HB1.o);go_wp2_with fail;refine HC0.o.mono ?_;rintro e wh0 ⟨rfl,hr,hf⟩;rw [HH0.o.1];rw [HH0.o.2] at hr;have HF2:=zH (HF1.o.trans hf);have HR2:=zH hr;have HB2:=zH (aAj HB1.o hf HAR.o);have HZ2:=zH ((hf.oth N (aAb HZ1.o) (by have:=HRB.o;omega)).trans HZ1.o);clear hr hf HC0 HR1 HB1 HZ1;have HC1:=zH (aAp HR2.o HB2.o);go_wp2_with fail;refine HC1.o.mono ?_;rintro e wh1 ⟨rfl,hr,hf⟩;rw [HH1.o.1];rw [HH1.o.2] at hr;have HF3:=zH (HF2.o.trans hf);have HR3:=zH hr;have HB3:=zH (aAj HB2.o hf HAR.o);have HZ3:=zH ((hf.oth N (aAb HZ2.o) (by have:=HRB.o;omega)).trans HZ2.o);clear hr hf HC1 HR2 HB2 HZ2;have HC2:=zH (aAp HR3.o HB3.o);go_wp2_with fail;refine HC2.o.mono ?_;rintro e wh2 ⟨rfl,hr,hf⟩;rw [HH2.o.1];rw [HH2.o.2] at hr;have HF4:=zH (HF3.o.trans hf);have HR4:=zH hr;have HB4:=zH (aAj HB3.o hf HAR.o);have HZ4:=zH ((hf.oth N (aAb HZ3.o) (by have:=HRB.o;omega)).trans HZ3.o);clear hr hf HC2 HR3 HB3 HZ3;have hb3:=aAc wh2 (.cells #[.int .i64 (h0:Int),.int .i64 (h1:Int),.slice none 0 0,.int .i64 (h2:Int)] 24);have HS3:Hid ((wh2.alloc (.cells #[.int .i64 (h0:Int),.int .i64 (h1:Int),.slice none 0 0,.int .i64 (h2:Int)] 24)).heap[wh2.heap.size]?=some (.cells #[.int .i64 (h0:Int),.int .i64 (h1:Int),.slice none 0 0,.int .i64 (h2:Int)] 24 (0,0))):=boxed wh2 _;have HRs:Hid (EDR rb a n c (q2:Int) (wh2.alloc (.cells #[.int .i64 (h0:Int),.int .i64 (h1:Int),.slice none 0 0,.int .i64 (h2:Int)] 24))):=(hb3.block rb (aAb HR4.o)).trans HR4.o;have HZs:=zH ((hb3.block N (aAb HZ4.o)).trans HZ4.o);have HBs:=zH (HB4.o.later hb3 (nR _));have HFs:=zH (HF4.o.trans (RdF.of hb3 (by have:=aAb HR4.o;omega)));have HNS:Hid (N<wh2.heap.size/\rb<wh2.heap.size):=⟨aAb HZ4.o,aAb HR4.o⟩;clear hb3;go_upto_region 2 with fail;generalize wh2.alloc (.cells #[.int .i64 (h0:Int),.int .i64 (h1:Int),.slice none 0 0,.int .i64 (h2:Int)] 24)=w3 at *
 generalize wh2.heap.size=S0 at *
 have HCs:=zH (aC9 (m0:=3) HRs.o HBs.o);go_wp2_with fail;refine HCs.o.mono ?_;rintro e w4 ⟨rfl,hr4,hf4⟩;rw [HP9.o] at hr4;rw [HCE.o];have HI4:Hid (RI fCm 3 46 CmdV.blks CmdP CmdV.ct okC 24 (fun v=>#[.int .i64 (h0:Int),.int .i64 (h1:Int),v,.int .i64 (h2:Int)]) #[.int .i64 0,.int .i64 0,.slice none 0 0,.int .i64 0] rb N S0 n c a xs w q9 [] (.slice none 0 0) [] w4):=by
  refine ⟨hr4,(hf4.oth S0 (aAb HS3.o) (by have:=HNS.o;omega)).trans HS3.o,OwnR.nil _ _ _ _ _ _ _,(hf4.oth N (aAb HZs.o) (by have:=HRB.o;omega)).trans HZs.o,rfl,HFs.o.trans hf4,aAj HBs.o hf4 HAR.o,by simp,by simp,⟨by rw [hN];exact HRB.o,Nat.le_of_eq hN,HNS.o.1⟩,fun b o q hp=>by rw [hN];exact HAN.o b o q hp⟩
 clear hr4 hf4 HCs HRs HBs HS3 HZs HFs HCE;go_wp2_with fail;go_loopg [13] cn (fun gh sx wx=>∃ (j:Nat) (v:Value) (ls:List CmdV),j+gh=cn/\sx=.int .i64 (j:Int)/\RI fCm 3 46 CmdV.blks CmdP CmdV.ct okC 24 (fun v=>#[.int .i64 (h0:Int),.int .i64 (h1:Int),v,.int .i64 (h2:Int)]) #[.int .i64 0,.int .i64 0,.slice none 0 0,.int .i64 0] rb N S0 n c a xs w (posA (stC xs) q9 j) (rowsA (stC xs) q9 j) v ls wx)
 case atStart=>exact ⟨0,_,[],by omega,rfl,HI4.o⟩
 case round =>
  obtain ⟨j,v,ls,hj,rfl,hri⟩:=hrel;have HI:=zH hri;clear hri;by_cases hjn:j<cn
  ·have xj:(j:Int)<(cn:Int):=by omega
   have xj4:(j:Int)<1000000:=by have:=HCN.o;omega
   have HLL:Hid (ls.length<=3):=by
    show _<=_;have:=congrArg List.length HI.o.ct_;rw [List.length_map,aDt] at this;have:=HCN.o;omega
   have HID:=zH (HI.o.later aAs (Below.refl _ _).drew);obtain ⟨P,hP⟩:∃ P,posA (stC xs) q9 j=P:=⟨_,rfl⟩;have HEC:=zH (ecmd_ec HID.o.rd HID.o.bs HAR.o);rw [hP] at HEC HID;have HPN:Hid (posA (stC xs) q9 (j+1)=(stC xs P).2/\rowsA (stC xs) q9 (j+1)=rowsA (stC xs) q9 j++[(stC xs P).1]):=by
    refine ⟨?_,?_⟩
    ·show (stC xs (posA (stC xs) q9 j)).2=_;rw [hP]
    ·show rowsA (stC xs) q9 j++[(stC xs (posA (stC xs) q9 j)).1]=_;rw [hP]
   clear hP;go_upto_region 4 with fail;refine wp_region_noPanic ?_;refine wp_region_held_drew (S:=fun wx=>True) (by kernel_rfl) trivial (fun hHeld=>?_);refine aAe 0 15 ?_;refine aAe 2 17 ?_;refine aAn (i:=1) (j:=3) (by kernel_rfl) (by kernel_rfl) (by kernel_rfl) ?ba ?bb
   case ba =>
    have y0:wr.drew.cell? ⟨S0,2,none⟩=some v:=aAa (show wr.drew.heap[S0]?=_ from HID.o.sb);have y0':wr.cell? ⟨S0,2,none⟩=some v:=y0;intro o ho K hK;simp only [tG,sG,zG,oI] at ho;subst ho;go_simp;clear hHeld;refine hK.out _ _ trivial (fun hHeld=>?_);clear hK K
    try simp only [Act.put,siT,scZ,scS]
    clear y0 y0';refine aAf 3 ?_;intro K hK;go_simp;refine HEC.o.mono ?_;rintro e w5 ⟨x,rfl,hm5,hc5,hn5,hok5,hr5,hf5⟩;have HI5:=zH (HID.o.read aAs hr5 hf5);have HM5:=zH hm5;have HC5:=zH hc5;have HOK5:=zH hok5;have HNW5:Hid (∀ b∈CmdV.blks x,v.ownBlock≠some b/\S0<b/\b<w5.heap.size):=fun b hb=>by
     have h1:=hn5 b hb;refine ⟨fun e=>?_,?_,h1.2⟩
     ·have:=(HID.o.nrb b e).2.2;omega
     ·have:=aAb HID.o.sb;omega
    clear hm5 hc5 hn5 hok5 hr5 hf5 hHeld HEC;refine hK.out _ _ trivial (fun hHeld=>?_);clear hK K
    try simp only [Act.put,siT,scZ,scS]
    refine aAf 4 ?_;intro K hK;go_simp;clear hHeld;refine hK.out _ _ trivial (fun hHeld=>?_);clear hK K
    try simp only [Act.put,siT,scZ,scS]
    have hb6:=aAc w5 (.cells #[.int .i64 x.sess,.int .i64 x.seq,.slice x.oa x.on x.oc] 46);have HI6:=zH (HI5.o.later aAs hb6);have HM6:=zH (aAs _ _ x HM5.o hb6.size (fun b _ hb=>hb6.block b hb));have HG6:Hid (SV fCm 3 (w5.alloc (.cells #[.int .i64 x.sess,.int .i64 x.seq,.slice x.oa x.on x.oc] 46)) (some ⟨w5.heap.size,0,none⟩) 1 1 [x]):=SV.whole aAy rfl (by omega) (boxed w5 _);have HNW6:Hid (∀ b∈CmdV.blks x,v.ownBlock≠some b/\S0<b/\b<(w5.alloc (.cells #[.int .i64 x.sess,.int .i64 x.seq,.slice x.oa x.on x.oc] 46)).heap.size):=fun b hb=>⟨(HNW5.o b hb).1,(HNW5.o b hb).2.1,Nat.lt_of_lt_of_le (HNW5.o b hb).2.2 hb6.size⟩
    clear hb6 HI5 HM5 HNW5;generalize w5.alloc (.cells #[.int .i64 x.sess,.int .i64 x.seq,.slice x.oa x.on x.oc] 46)=w6 at *
    generalize w5.heap.size=g5 at *
    refine aAf 5 ?_;intro K hK;rw [if_pos (by rfl)];refine aA3 (f:=fCm) aAy (by omega) aF4 underlying22 aEi rfl (.tmp 16) (.tmp 19) rfl (B1:=S0+1) (F:=ls) (G:=[x]) rfl rfl HI6.o.ow.own HG6.o (by have:=aAb HI6.o.sb;omega) (by have:=HLL.o;omega) (by omega) ?_;intro v7 w7 ho7 hb7 hk7 hv7;have hst:=HI6.o.push aAs (fun _ _=>rfl) HM6.o HNW6.o HC5.o HOK5.o ho7 hb7 hk7 hv7;obtain ⟨a7,c7,e7,_⟩:=aAo aAy ho7 rfl;generalize (ls++[x]).length=m7 at e7;subst e7;have y0:w7.cell? ⟨S0,2,none⟩=some v:=aAa hst.1;have yf:w7.frozen? ⟨S0,2,none⟩=false:=aAg hst.1;have HI7:=zH hst.2;clear ho7 hb7 hk7 hv7 hst hHeld;refine hK.out _ _ trivial (fun hHeld=>?_);clear hK K
    try simp only [Act.put,siT,scZ,scS]
    refine aAe 6 21 ?_;refine aAf 7 ?_;intro K hK;go_simp;clear hHeld;refine hK.out _ _ trivial (fun hHeld=>?_);clear y0 yf;clear hK K
    try simp only [Act.put,siT,scZ,scS]
    refine wpAnyH_done (by kernel_rfl) ?_ _;refine NoPanic.normal ?_;clear hHeld;go_wp2;go_roundg (gk-1)
    case measure=>omega
    case rel=>exact ⟨j+1,_,_,by omega,rfl,by rw [HPN.o.1,HPN.o.2];exact HI7.o⟩
   case bb =>
    intro o ho K hK;simp only [tG,sG,zG,oI] at ho;subst ho;go_simp;refine HEC.o.mono ?_;rintro e w5 ⟨x,rfl,hm5,hc5,hn5,hok5,hr5,hf5⟩;have HI5:=zH (HID.o.read aAs hr5 hf5);have HM5:=zH hm5;have HC5:=zH hc5;have HOK5:=zH hok5;have HNW5:Hid (∀ b∈CmdV.blks x,v.ownBlock≠some b/\S0<b/\b<w5.heap.size):=fun b hb=>by
     have h1:=hn5 b hb;refine ⟨fun e=>?_,?_,h1.2⟩
     ·have:=(HID.o.nrb b e).2.2;omega
     ·have:=aAb HID.o.sb;omega
    clear hm5 hc5 hn5 hok5 hr5 hf5 hHeld HEC;refine hK.out _ _ trivial (fun hHeld=>?_);clear hK K
    try simp only [Act.put,siT,scZ,scS]
    refine aAn (i:=1) (j:=4) (by kernel_rfl) (by kernel_rfl) (by kernel_rfl) ?bba ?bbb
    case bba =>
     have y0:w5.cell? ⟨S0,2,none⟩=some v:=aAa HI5.o.sb;intro o ho K hK;simp only [tG,sG,zG,oI] at ho;subst ho;go_simp;clear hHeld;refine hK.out _ _ trivial (fun hHeld=>?_);clear hK K
     try simp only [Act.put,siT,scZ,scS]
     clear y0;refine aAf 4 ?_;intro K hK;go_simp;clear hHeld;refine hK.out _ _ trivial (fun hHeld=>?_);clear hK K
     try simp only [Act.put,siT,scZ,scS]
     have hb6:=aAc w5 (.cells #[.int .i64 x.sess,.int .i64 x.seq,.slice x.oa x.on x.oc] 46);have HI6:=zH (HI5.o.later aAs hb6);have HM6:=zH (aAs _ _ x HM5.o hb6.size (fun b _ hb=>hb6.block b hb));have HG6:Hid (SV fCm 3 (w5.alloc (.cells #[.int .i64 x.sess,.int .i64 x.seq,.slice x.oa x.on x.oc] 46)) (some ⟨w5.heap.size,0,none⟩) 1 1 [x]):=SV.whole aAy rfl (by omega) (boxed w5 _);have HNW6:Hid (∀ b∈CmdV.blks x,v.ownBlock≠some b/\S0<b/\b<(w5.alloc (.cells #[.int .i64 x.sess,.int .i64 x.seq,.slice x.oa x.on x.oc] 46)).heap.size):=fun b hb=>⟨(HNW5.o b hb).1,(HNW5.o b hb).2.1,Nat.lt_of_lt_of_le (HNW5.o b hb).2.2 hb6.size⟩
     clear hb6 HI5 HM5 HNW5;generalize w5.alloc (.cells #[.int .i64 x.sess,.int .i64 x.seq,.slice x.oa x.on x.oc] 46)=w6 at *
     generalize w5.heap.size=g5 at *
     refine aAf 5 ?_;intro K hK;rw [if_pos (by rfl)];refine aA3 (f:=fCm) aAy (by omega) aF4 underlying22 aEi rfl (.tmp 16) (.tmp 19) rfl (B1:=S0+1) (F:=ls) (G:=[x]) rfl rfl HI6.o.ow.own HG6.o (by have:=aAb HI6.o.sb;omega) (by have:=HLL.o;omega) (by omega) ?_;intro v7 w7 ho7 hb7 hk7 hv7;have hst:=HI6.o.push aAs (fun _ _=>rfl) HM6.o HNW6.o HC5.o HOK5.o ho7 hb7 hk7 hv7;obtain ⟨a7,c7,e7,_⟩:=aAo aAy ho7 rfl;generalize (ls++[x]).length=m7 at e7;subst e7;have y0:w7.cell? ⟨S0,2,none⟩=some v:=aAa hst.1;have yf:w7.frozen? ⟨S0,2,none⟩=false:=aAg hst.1;have HI7:=zH hst.2;clear ho7 hb7 hk7 hv7 hst hHeld;refine hK.out _ _ trivial (fun hHeld=>?_);clear hK K
     try simp only [Act.put,siT,scZ,scS]
     refine aAe 6 21 ?_;refine aAf 7 ?_;intro K hK;go_simp;clear hHeld;refine hK.out _ _ trivial (fun hHeld=>?_);clear y0 yf;clear hK K
     try simp only [Act.put,siT,scZ,scS]
     refine wpAnyH_done (by kernel_rfl) ?_ _;refine NoPanic.normal ?_;clear hHeld;go_wp2;go_roundg (gk-1)
     case measure=>omega
     case rel=>exact ⟨j+1,_,_,by omega,rfl,by rw [HPN.o.1,HPN.o.2];exact HI7.o⟩
    case bbb =>
     intro o ho K hK;simp only [tG,sG,zG,oI] at ho;subst ho;go_simp;clear hHeld;refine hK.out _ _ trivial (fun hHeld=>?_);clear hK K
     try simp only [Act.put,siT,scZ,scS]
     have hb6:=aAc w5 (.cells #[.int .i64 x.sess,.int .i64 x.seq,.slice x.oa x.on x.oc] 46);have HI6:=zH (HI5.o.later aAs hb6);have HM6:=zH (aAs _ _ x HM5.o hb6.size (fun b _ hb=>hb6.block b hb));have HG6:Hid (SV fCm 3 (w5.alloc (.cells #[.int .i64 x.sess,.int .i64 x.seq,.slice x.oa x.on x.oc] 46)) (some ⟨w5.heap.size,0,none⟩) 1 1 [x]):=SV.whole aAy rfl (by omega) (boxed w5 _);have HNW6:Hid (∀ b∈CmdV.blks x,v.ownBlock≠some b/\S0<b/\b<(w5.alloc (.cells #[.int .i64 x.sess,.int .i64 x.seq,.slice x.oa x.on x.oc] 46)).heap.size):=fun b hb=>⟨(HNW5.o b hb).1,(HNW5.o b hb).2.1,Nat.lt_of_lt_of_le (HNW5.o b hb).2.2 hb6.size⟩
     clear hb6 HI5 HM5 HNW5;generalize w5.alloc (.cells #[.int .i64 x.sess,.int .i64 x.seq,.slice x.oa x.on x.oc] 46)=w6 at *
     generalize w5.heap.size=g5 at *
     have y0:w6.cell? ⟨S0,2,none⟩=some v:=aAa HI6.o.sb;refine aAf 1 ?_;intro K hK;go_simp;clear hHeld;refine hK.out _ _ trivial (fun hHeld=>?_);clear hK K
     try simp only [Act.put,siT,scZ,scS]
     clear y0;refine aAf 5 ?_;intro K hK;rw [if_pos (by rfl)];refine aA3 (f:=fCm) aAy (by omega) aF4 underlying22 aEi rfl (.tmp 16) (.tmp 19) rfl (B1:=S0+1) (F:=ls) (G:=[x]) rfl rfl HI6.o.ow.own HG6.o (by have:=aAb HI6.o.sb;omega) (by have:=HLL.o;omega) (by omega) ?_;intro v7 w7 ho7 hb7 hk7 hv7;have hst:=HI6.o.push aAs (fun _ _=>rfl) HM6.o HNW6.o HC5.o HOK5.o ho7 hb7 hk7 hv7;obtain ⟨a7,c7,e7,_⟩:=aAo aAy ho7 rfl;generalize (ls++[x]).length=m7 at e7;subst e7;have y0:w7.cell? ⟨S0,2,none⟩=some v:=aAa hst.1;have yf:w7.frozen? ⟨S0,2,none⟩=false:=aAg hst.1;have HI7:=zH hst.2;clear ho7 hb7 hk7 hv7 hst hHeld;refine hK.out _ _ trivial (fun hHeld=>?_);clear hK K
     try simp only [Act.put,siT,scZ,scS]
     refine aAe 6 21 ?_;refine aAf 7 ?_;intro K hK;go_simp;clear hHeld;refine hK.out _ _ trivial (fun hHeld=>?_);clear y0 yf;clear hK K
     try simp only [Act.put,siT,scZ,scS]
     refine wpAnyH_done (by kernel_rfl) ?_ _;refine NoPanic.normal ?_;clear hHeld;go_wp2;go_roundg (gk-1)
     case measure=>omega
     case rel=>exact ⟨j+1,_,_,by omega,rfl,by rw [HPN.o.1,HPN.o.2];exact HI7.o⟩
  ·have xj:¬ (j:Int)<(cn:Int):=by omega
   have ex:j=cn:=by omega
   subst ex;obtain ⟨a9,c9,e9,_⟩:=aAo aAy HI.o.ow.own rfl;obtain ⟨m9,hm9⟩:∃ m,ls.length=m:=⟨_,rfl⟩;rw [hm9] at e9;subst e9;have HML:=zH hm9;clear hm9;have y0:wr.cell? ⟨S0,0,none⟩=some (.int .i64 (h0:Int)):=aAa HI.o.sb;have t0:wr.cell? ⟨N,0,none⟩=some (.int .i64 0):=aAa HI.o.zb;have tf0:wr.frozen? ⟨N,0,none⟩=false:=aAg HI.o.zb;have y1:wr.cell? ⟨S0,1,none⟩=some (.int .i64 (h1:Int)):=aAa HI.o.sb;have t1:wr.cell? ⟨N,1,none⟩=some (.int .i64 0):=aAa HI.o.zb;have tf1:wr.frozen? ⟨N,1,none⟩=false:=aAg HI.o.zb;have y2:wr.cell? ⟨S0,2,none⟩=some (.slice a9 m9 c9):=aAa HI.o.sb;have t2:wr.cell? ⟨N,2,none⟩=some (.slice none 0 0):=aAa HI.o.zb;have tf2:wr.frozen? ⟨N,2,none⟩=false:=aAg HI.o.zb;have y3:wr.cell? ⟨S0,3,none⟩=some (.int .i64 (h2:Int)):=aAa HI.o.sb;have t3:wr.cell? ⟨N,3,none⟩=some (.int .i64 0):=aAa HI.o.zb;have tf3:wr.frozen? ⟨N,3,none⟩=false:=aAg HI.o.zb;go_wp2;(try simp only [Exit.inBlock,Exit.then]);refine bodyPost_ret (results_cell_row results29 _ _ N _ _ _ _ rfl (set4 HI.o.zb) underlying24 rfl (by kernel_rfl)) rfl ?_;have hlt:=HI.o.lt;have hne:∀ i,i≠N->((((wr.setCell ⟨N,0,none⟩ (.int .i64 (h0:Int))).setCell ⟨N,1,none⟩ (.int .i64 (h1:Int))).setCell ⟨N,2,none⟩ (.slice a9 m9 c9)).setCell ⟨N,3,none⟩ (.int .i64 (h2:Int))).heap[i]?=wr.heap[i]?:=fun i hi=>aEf (show i≠N from hi)
   have hsz:wr.heap.size<=((((wr.setCell ⟨N,0,none⟩ (.int .i64 (h0:Int))).setCell ⟨N,1,none⟩ (.int .i64 (h1:Int))).setCell ⟨N,2,none⟩ (.slice a9 m9 c9)).setCell ⟨N,3,none⟩ (.int .i64 (h2:Int))).heap.size:=(((((Below.refl 0 wr).setCell (p:=⟨N,0,none⟩) (Nat.zero_le _) _).setCell (p:=⟨N,1,none⟩) (Nat.zero_le _) _).setCell (p:=⟨N,2,none⟩) (Nat.zero_le _) _).setCell (p:=⟨N,3,none⟩) (Nat.zero_le _) _).size;have hown:=HI.o.ow.keep (w':=((((wr.setCell ⟨N,0,none⟩ (.int .i64 (h0:Int))).setCell ⟨N,1,none⟩ (.int .i64 (h1:Int))).setCell ⟨N,2,none⟩ (.slice a9 m9 c9)).setCell ⟨N,3,none⟩ (.int .i64 (h2:Int)))) aAs hsz (aBc HI.o.ow.own fun g e=>hne g (by have:=HI.o.ow.own.lt g e;omega)) (fun i hi ⟨y,hy,hb1⟩=>hne i (by have:=HI.o.new y hy i hb1;omega));obtain ⟨a8,c8,e8,hsv⟩:=aAo aAy hown.own rfl;rw [HML.o] at e8;simp only [Value.slice.injEq,true_and] at e8;obtain ⟨rfl,rfl⟩:=e8;refine ⟨a9,c9,ls,by rw [HML.o],hsv,hown.mem,HI.o.ct_,HI.o.ok,fun b hb1=>?_,fun y hy b hb1=>⟨by have:=HI.o.new y hy b hb1;omega,(hown.ap y hy b hb1).2⟩,?_,?_⟩
   ·cases a9 with
    | none=>cases hb1
    | some ad =>
     obtain rfl:b=ad.block:=by simpa [oblk] using hb1
     have:=hown.own.lt ad.block rfl;omega
   ·exact (hne rb (by omega)).trans HI.o.rd
   ·exact ((((HI.o.fr.put (b:=N) (by omega) (by omega) 0 _).put (b:=N) (by omega) (by omega) 1 _).put (b:=N) (by omega) (by omega) 2 _).put (b:=N) (by omega) (by omega) 3 _)
def EntV.ct (y:EntV):Int×Int×Int×List (Int×Int×List OpC):=(y.kind,y.srv,y.n,y.cmds.map CmdV.ct)
noncomputable def rdEn (xs:List Nat):Int×Int×Int×List (Int×Int×List OpC):=((ruN xs ((0:Nat):Int):Int),(ruN xs (ruP xs ((0:Nat):Int):Int):Int),(ruN xs (ruP xs (ruP xs ((0:Nat):Int):Int):Int):Int),rowsA (stC xs) (ruP xs (ruP xs (ruP xs (ruP xs ((0:Nat):Int):Int):Int):Int)) (min (ruN xs (ruP xs (ruP xs (ruP xs ((0:Nat):Int):Int):Int):Int)) 3))
def DcR (xs:List Nat) (e:Ending) (w':World):Prop:=∃ y:EntV,y.ct=rdEn xs/\((entRt y=true/\encE y=xs/\e=.returned (.tuple #[.agg #[.int .i64 y.kind,.int .i64 y.srv,.slice y.ca y.cl y.cc,.int .i64 y.n],.int .i64 0])/\EntP w' y) \/
 (¬ (entRt y=true/\encE y=xs)/\e=.returned (.tuple #[.agg #[.int .i64 0,.int .i64 0,.slice none 0 0,.int .i64 0],.int .i64 11])))
theorem aEz {y:EntV} (h:EntP w y) :
  Calls prog 7 #[.agg #[.int .i64 y.kind,.int .i64 y.srv,.slice y.ca y.cl y.cc,.int .i64 y.n]] w fun e w'=>EncP (entRt y) (encE y) w.heap.size e w'/\Below w.heap.size w w':=by
 have hbx:=aAc w (.cells #[.int .i64 y.kind,.int .i64 y.srv,.slice y.ca y.cl y.cc,.int .i64 y.n] 24);have HR1:Hid ((w.alloc (.cells #[.int .i64 y.kind,.int .i64 y.srv,.slice y.ca y.cl y.cc,.int .i64 y.n] 24)).heap[w.heap.size]?=some (.cells #[.int .i64 y.kind,.int .i64 y.srv,.slice y.ca y.cl y.cc,.int .i64 y.n] 24 (0,0))):=boxed w _;have HW1:=zH hbx;have HE1:=zH (h.later hbx);clear h hbx;go_enter func7,ntmps7;go_upto_region 1 with fail;generalize w.alloc (.cells #[.int .i64 y.kind,.int .i64 y.srv,.slice y.ca y.cl y.cc,.int .i64 y.n] 24)=w1 at *
 generalize hL:w.heap.size=L at *
 have y0:w1.cell? ⟨L,0,none⟩=some (.int .i64 y.kind):=aAa HR1.o;have y1:w1.cell? ⟨L,1,none⟩=some (.int .i64 y.srv):=aAa HR1.o;have y2:w1.cell? ⟨L,2,none⟩=some (.slice y.ca y.cl y.cc):=aAa HR1.o;have y3:w1.cell? ⟨L,3,none⟩=some (.int .i64 y.n):=aAa HR1.o;have HRT:=zH (aCr HE1.o);obtain ⟨bb,eb⟩:∃ b,entRt y=b:=⟨_,rfl⟩;have HEB:=zH eb;rw [eb] at HRT;clear eb;go_wp2_with fail;refine HRT.o.mono ?_;rintro e w2 ⟨rfl,hb⟩;have HR2:=zH ((hb.block L (aAb HR1.o)).trans HR1.o);have HE2:=zH (HE1.o.later hb);have HW2:Hid (Below L w w2):=HW1.o.trans (hb.mono (by have:=aAb HR1.o;omega));clear hb HRT y0 y1 y2 y3
 cases bb with
 | false =>
  go_wp2;go_ret2;exact ⟨by rw [HEB.o];exact EncP.no,by first | exact HW2.o | (rw [hL];exact HW2.o)⟩
 | true =>
  have y0:w2.cell? ⟨L,0,none⟩=some (.int .i64 y.kind):=aAa HR2.o;have y1:w2.cell? ⟨L,1,none⟩=some (.int .i64 y.srv):=aAa HR2.o;have y2:w2.cell? ⟨L,2,none⟩=some (.slice y.ca y.cl y.cc):=aAa HR2.o;have y3:w2.cell? ⟨L,3,none⟩=some (.int .i64 y.n):=aAa HR2.o;have HLD:=zH (laid_any HE2.o HEB.o);go_wp2_with fail;refine HLD.o.mono ?_;rintro e w3 ⟨v,rfl,hob,hb⟩;obtain ⟨a5,c5,e5⟩:=hob.form;have HOB:=zH hob;obtain ⟨m5,hm5⟩:∃ m,(encE y).length=m:=⟨_,rfl⟩;rw [hm5] at e5;subst e5;have HM5:=zH hm5;have HW3:Hid (Below L w w3):=HW2.o.trans (hb.mono (by have:=aAb HR2.o;omega));clear hob hb HLD hm5;go_wp2;go_ret2;refine ⟨?_,by first | exact HW3.o | (rw [hL];exact HW3.o)⟩;rw [HEB.o];have h9:=aB9 HOB.o (show L<=w2.heap.size by have:=aAb HR2.o;omega);exact EncP.yes (by first | exact h9 | (rw [hL];exact h9))
theorem encE_lt (e:EntV):∀ x∈encE e,x<256:=by
 have hp:∀ l:List Nat,(∀ x∈l,x<256)->∀ x∈pt l,x<256:=fun l hl x hx=>by
  unfold pt at hx;rcases List.mem_append.1 hx with q | q
  ·exact aAr _ x q
  ·exact hl x q
 have ho:∀ y:OpV,∀ x∈encO y,x<256:=fun y x hx=>by
  unfold encO at hx;rcases List.mem_append.1 hx with q | q
  ·exact aAr _ x q
  ·unfold encF at q
   split at q
   ·exact hp _ (encS_lt _) x q
   ·split at q
    ·rcases List.mem_append.1 q with q | q
     ·exact hp _ (sl_lt _) x q
     ·exact hp _ (aCn _) x q
    ·split at q
     ·rcases List.mem_append.1 q with q | q
      ·exact hp _ (sl_lt _) x q
      ·exact hp _ (aCn _) x q
     ·simp only [List.mem_append] at q;rcases q with ((q | q | q) | q) | q
      ·exact hp _ (sl_lt _) x q
      ·exact aAr _ x q
      ·exact aAr _ x q
      ·exact hp _ (aCn _) x q
      ·exact hp _ (aCn _) x q
 intro x hx;unfold encE at hx;simp only [List.mem_append] at hx;rcases hx with (q | q | q | q) | q
 ·exact aAr _ x q
 ·exact aAr _ x q
 ·exact aAr _ x q
 ·exact aAr _ x q
 ·obtain ⟨c,_,q⟩:=List.mem_flatMap.1 q;unfold encCmd at q;simp only [List.mem_append] at q;rcases q with (q | q | q) | q
  ·exact aAr _ x q
  ·exact aAr _ x q
  ·exact aAr _ x q
  ·obtain ⟨o,_,q⟩:=List.mem_flatMap.1 q;exact ho o x q
theorem aB5 {y:EntV} (h:EntP w y) :
  Calls prog 7 #[.agg #[.int .i64 y.kind,.int .i64 y.srv,.slice y.ca y.cl y.cc,.int .i64 y.n]] w fun e w'=>∃ ax nx cx,e=.returned (.tuple #[.slice ax nx cx,.int .i64 (if entRt y=true then 0 else 1)])/\(entRt y=true->BS w' ax nx cx (encE y))/\(entRt y=false->nx=0)/\Below w.heap.size w w':=by
 refine (aEz h).mono ?_;rintro e w' ⟨h1,h2⟩;unfold EncP at h1
 cases hok:entRt y with
 | true =>
  rw [hok,if_pos rfl] at h1;obtain ⟨v,rfl,ho⟩:=h1;obtain ⟨a,c,rfl⟩:=ho.form;have hl:=encE_len hok;exact ⟨a,_,c,rfl,fun _=>OB.bs ho (encE_lt _) (by omega),(fun q=>by cases q),h2⟩
 | false =>
  rw [hok,if_neg (by decide)] at h1;exact ⟨none,0,0,h1,(fun q=>by cases q),fun _=>rfl,h2⟩
theorem aB6 (hb:BS w a n c xs) :
  Calls prog 13 #[.slice a n c] w fun e w'=>DcR xs e w'/\Below w.heap.size w w':=by
 obtain ⟨N,hN⟩:∃ N,w.heap.size=N:=⟨_,rfl⟩;obtain ⟨w1,hw1⟩:∃ w1,w1=(w.alloc (.cells #[.int .i64 0,.int .i64 0,.slice none 0 0,.int .i64 0] 24)).alloc (.cells #[.slice a n c,.int .i64 0] 56):=⟨_,rfl⟩;have HZ1:Hid (w1.heap[N]?=some (.cells #[.int .i64 0,.int .i64 0,.slice none 0 0,.int .i64 0] 24 (0,0))):=by show _=_;rw [hw1,<-hN];exact heap_alloc2_old w _ _
 have HR1:Hid (EDR (N+1) a n c ((0:Nat):Int) w1):=by show _=_;rw [hw1,<-hN];exact heap_alloc2_new w _ _
 have hb1:Below w.heap.size w w1:=by rw [hw1];exact (aAc w _).trans ((aAc _ _).mono (aAc w _).size)
 have HB1:=zH (hb.later hb1 (nR _));have HW1:Hid (Below N w w1):=by show Below N w w1;rw [<-hN];exact hb1
 have HAN:Hid (∀ b o,a=some ⟨b,o,none⟩->0<n->b<N):=by
  intro b o q hpos;have:=aBe (hb.hcell _ q 0 hpos);rw [<-hN];simpa [Addr.add] using this
 have HSC:=zH (rentry_any (p:=0) HR1.o HB1.o (fun b o q hp=>by have:=HAN.o b o q hp;omega));obtain ⟨kn,hkn⟩:∃ q,ruN xs ((0:Nat):Int)=q:=⟨_,rfl⟩;obtain ⟨sn,hsn⟩:∃ q,ruN xs (ruP xs ((0:Nat):Int):Int)=q:=⟨_,rfl⟩;obtain ⟨nn,hnn⟩:∃ q,ruN xs (ruP xs (ruP xs ((0:Nat):Int):Int):Int)=q:=⟨_,rfl⟩;have hlt:kn<9223372036854775808/\sn<9223372036854775808/\nn<9223372036854775808:=⟨by rw [<-hkn];exact aEo _ _ hb.hbyte,by rw [<-hsn];exact aEo _ _ hb.hbyte,by rw [<-hnn];exact aEo _ _ hb.hbyte⟩;have HX0:Hid ((((ruN xs ((0:Nat):Int):Nat):Int),((ruN xs (ruP xs ((0:Nat):Int):Int):Nat):Int),((ruN xs (ruP xs (ruP xs ((0:Nat):Int):Int):Int):Nat):Int))=((kn:Int),(sn:Int),(nn:Int))):=by show _=_;rw [hkn,hsn,hnn]
 rw [hkn,hsn,hnn] at HSC;have HE1:=zH hw1;have hlt':=hlt;rw [hN];clear hb hb1 hw1 hlt hkn hsn hnn;unfold DcR;obtain ⟨CT,hCT⟩:∃ q,rdEn xs=q:=⟨_,rfl⟩;rw [hCT];have HCT:Hid (CT=((kn:Int),(sn:Int),(nn:Int),rowsA (stC xs) (ruP xs (ruP xs (ruP xs (ruP xs ((0:Nat):Int):Int):Int):Int)) (min (ruN xs (ruP xs (ruP xs (ruP xs ((0:Nat):Int):Int):Int):Int)) 3))):=by
  show _=_;have h9:=HX0.o;simp only [Prod.mk.injEq] at h9;rw [<-hCT];unfold rdEn;rw [h9.1,h9.2.1,h9.2.2]
 clear hCT;go_enter func13,ntmps13;go_upto_region 2 with fail;rw [<-HE1.o]
 try simp only [hN]
 go_wp2_with fail;refine HSC.o.mono ?_;rintro e w2 ⟨va,vc,ls,rfl,hsv,hmem,hct,_,hva,hbk,_,hf⟩;obtain ⟨m,hm⟩:∃ m,ls.length=m:=⟨_,rfl⟩;have HLT:=zH hlt';have HEP2:Hid (EntP w2 ⟨(kn:Int),(sn:Int),va,m,vc,ls,(nn:Int)⟩):=⟨by have:=HLT.o;dsimp only;omega,by have:=HLT.o;dsimp only;omega,by have:=HLT.o;dsimp only;omega,by rw [<-hm];exact hsv,hmem⟩;have HCTE:Hid (EntV.ct ⟨(kn:Int),(sn:Int),va,m,vc,ls,(nn:Int)⟩=CT):=by
  show _=_;rw [HCT.o,<-hct];rfl
 have HNB:Hid ((∀ b∈oblk va,N<b)/\∀ x∈ls,∀ b∈CmdV.blks x,N<b):=⟨fun b q=>by have:=(hva b q).1;have:=aAb HR1.o;omega,fun x hx b q=>by have:=(hbk x hx b q).1;have:=aAb HR1.o;omega⟩;rw [hm];clear hsv hmem hct hva hbk hm HSC;have hbx:=aAc w2 (.cells #[.int .i64 (kn:Int),.int .i64 (sn:Int),.slice va m vc,.int .i64 (nn:Int)] 24);have HV3:Hid ((w2.alloc (.cells #[.int .i64 (kn:Int),.int .i64 (sn:Int),.slice va m vc,.int .i64 (nn:Int)] 24)).heap[w2.heap.size]?=some (.cells #[.int .i64 (kn:Int),.int .i64 (sn:Int),.slice va m vc,.int .i64 (nn:Int)] 24 (0,0))):=boxed w2 _;have HZ3:Hid ((w2.alloc (.cells #[.int .i64 (kn:Int),.int .i64 (sn:Int),.slice va m vc,.int .i64 (nn:Int)] 24)).heap[N]?=some (.cells #[.int .i64 0,.int .i64 0,.slice none 0 0,.int .i64 0] 24 (0,0))):=(hbx.block N (by have:=aAb HZ1.o;have:=hf.bel.size;omega)).trans ((hf.oth N (aAb HZ1.o) (by omega)).trans HZ1.o);have HB3:=zH ((aAj HB1.o hf fun b o q hp=>by have:=HAN.o b o q hp;omega).later hbx (nR _));have HW3:Hid (Below N w (w2.alloc (.cells #[.int .i64 (kn:Int),.int .i64 (sn:Int),.slice va m vc,.int .i64 (nn:Int)] 24))):=HW1.o.trans ((hf.bel.mono (by omega)).trans (hbx.mono (by have:=aAb HZ1.o;have:=hf.bel.size;omega)));have HEP3:=zH (HEP2.o.later hbx);clear hf hbx;go_upto_region 3 with fail;generalize (w2.alloc (.cells #[.int .i64 (kn:Int),.int .i64 (sn:Int),.slice va m vc,.int .i64 (nn:Int)] 24))=w3 at *
 generalize w2.heap.size=V at *
 have y0:w3.cell? ⟨V,0,none⟩=some (.int .i64 (kn:Int)):=aAa HV3.o;have y1:w3.cell? ⟨V,1,none⟩=some (.int .i64 (sn:Int)):=aAa HV3.o;have y2:w3.cell? ⟨V,2,none⟩=some (.slice va m vc):=aAa HV3.o;have y3:w3.cell? ⟨V,3,none⟩=some (.int .i64 (nn:Int)):=aAa HV3.o;have HEN:=zH (aB5 HEP3.o);dsimp only at HEN;go_wp2_with fail;refine HEN.o.mono ?_;rintro e w4 ⟨a4,n4,c4,rfl,hx4,_,hb4⟩;have HX4:=zH hx4;have HB4:=zH (HB3.o.later hb4 (nR _));have HV4:=zH ((hb4.block V (aAb HV3.o)).trans HV3.o);have HZ4:=zH ((hb4.block N (aAb HZ3.o)).trans HZ3.o);have HW4:Hid (Below N w w4):=HW3.o.trans (hb4.mono (by have:=aAb HZ3.o;omega));have HEP4:=zH (HEP3.o.later hb4);clear hx4 hb4 HEN y0 y1 y2 y3;have t0:w4.cell? ⟨N,0,none⟩=some (.int .i64 0):=aAa HZ4.o;have tf0:w4.frozen? ⟨N,0,none⟩=false:=aAg HZ4.o;have t1:w4.cell? ⟨N,1,none⟩=some (.int .i64 0):=aAa HZ4.o;have tf1:w4.frozen? ⟨N,1,none⟩=false:=aAg HZ4.o;have t2:w4.cell? ⟨N,2,none⟩=some (.slice none 0 0):=aAa HZ4.o;have tf2:w4.frozen? ⟨N,2,none⟩=false:=aAg HZ4.o;have t3:w4.cell? ⟨N,3,none⟩=some (.int .i64 0):=aAa HZ4.o;have tf3:w4.frozen? ⟨N,3,none⟩=false:=aAg HZ4.o
 cases hok:entRt (⟨(kn:Int),(sn:Int),va,m,vc,ls,(nn:Int)⟩:EntV) with
 | false =>
  rw [if_neg (by decide)];have HNQ:Hid (¬ (entRt (⟨(kn:Int),(sn:Int),va,m,vc,ls,(nn:Int)⟩:EntV)=true/\encE (⟨(kn:Int),(sn:Int),va,m,vc,ls,(nn:Int)⟩:EntV)=xs)):=by
   show ¬ _;rw [hok];simp
  clear hok;go_wp2;(try simp only [Exit.inBlock,Exit.then]);refine bodyPost_ret (aAt results13 _ _ N _ _ _ _ rfl (set4 HZ4.o) underlying24 rfl (by kernel_rfl)) rfl ?_;exact ⟨⟨(⟨(kn:Int),(sn:Int),va,m,vc,ls,(nn:Int)⟩:EntV),HCTE.o,Or.inr ⟨HNQ.o,rfl⟩⟩,(((HW4.o.setCell (p:=⟨N,0,none⟩) (nR _) _).setCell (p:=⟨N,1,none⟩) (nR _) _).setCell (p:=⟨N,2,none⟩) (nR _) _).setCell (p:=⟨N,3,none⟩) (nR _) _⟩
 | true =>
  rw [if_pos rfl];have HEQ:=zH (aBn a4 a n4 c4 n c (encE (⟨(kn:Int),(sn:Int),va,m,vc,ls,(nn:Int)⟩:EntV)) xs w4 (HX4.o hok) HB4.o);have HOKT:=zH hok;clear hok;go_wp2_with fail;refine HEQ.o.mono ?_;rintro e w9 ⟨rfl,hw⟩;have hw:=hw.symm;subst hw;clear hw HEQ;by_cases hq:encE (⟨(kn:Int),(sn:Int),va,m,vc,ls,(nn:Int)⟩:EntV)=xs
  ·have HEQS:=zH hq;rw [decide_eq_true hq];clear hq;have z0:w4.cell? ⟨V,0,none⟩=some (.int .i64 (kn:Int)):=aAa HV4.o;have z1:w4.cell? ⟨V,1,none⟩=some (.int .i64 (sn:Int)):=aAa HV4.o;have z2:w4.cell? ⟨V,2,none⟩=some (.slice va m vc):=aAa HV4.o;have z3:w4.cell? ⟨V,3,none⟩=some (.int .i64 (nn:Int)):=aAa HV4.o;go_wp2;(try simp only [Exit.inBlock,Exit.then]);refine bodyPost_ret (aAt results13 _ _ N _ _ _ _ rfl (set4 HZ4.o) underlying24 rfl (by kernel_rfl)) rfl ?_;have hsz:w4.heap.size<=((((w4.setCell ⟨N,0,none⟩ (.int .i64 (kn:Int))).setCell ⟨N,1,none⟩ (.int .i64 (sn:Int))).setCell ⟨N,2,none⟩ (.slice va m vc)).setCell ⟨N,3,none⟩ (.int .i64 (nn:Int))).heap.size:=(((((Below.refl 0 w4).setCell (p:=⟨N,0,none⟩) (Nat.zero_le _) _).setCell (p:=⟨N,1,none⟩) (Nat.zero_le _) _).setCell (p:=⟨N,2,none⟩) (Nat.zero_le _) _).setCell (p:=⟨N,3,none⟩) (Nat.zero_le _) _).size;refine ⟨⟨(⟨(kn:Int),(sn:Int),va,m,vc,ls,(nn:Int)⟩:EntV),HCTE.o,Or.inl ⟨HOKT.o,HEQS.o,rfl,⟨HEP4.o.k,HEP4.o.s,HEP4.o.m,SV.stay HEP4.o.sv hsz (fun b hb _=>aEf (by have:=HNB.o.1 b hb;omega)),fun x hx=>aAs _ _ x (HEP4.o.cmds x hx) hsz (fun b hb _=>aEf (by have:=HNB.o.2 x hx b hb;omega))⟩⟩⟩,?_⟩;exact (((HW4.o.setCell (p:=⟨N,0,none⟩) (nR _) _).setCell (p:=⟨N,1,none⟩) (nR _) _).setCell (p:=⟨N,2,none⟩) (nR _) _).setCell (p:=⟨N,3,none⟩) (nR _) _
  ·rw [decide_eq_false hq];have HNQ:Hid (¬ (entRt (⟨(kn:Int),(sn:Int),va,m,vc,ls,(nn:Int)⟩:EntV)=true/\encE (⟨(kn:Int),(sn:Int),va,m,vc,ls,(nn:Int)⟩:EntV)=xs)):=fun q=>hq q.2
   clear hq;go_wp2;(try simp only [Exit.inBlock,Exit.then]);refine bodyPost_ret (aAt results13 _ _ N _ _ _ _ rfl (set4 HZ4.o) underlying24 rfl (by kernel_rfl)) rfl ?_;exact ⟨⟨(⟨(kn:Int),(sn:Int),va,m,vc,ls,(nn:Int)⟩:EntV),HCTE.o,Or.inr ⟨HNQ.o,rfl⟩⟩,(((HW4.o.setCell (p:=⟨N,0,none⟩) (nR _) _).setCell (p:=⟨N,1,none⟩) (nR _) _).setCell (p:=⟨N,2,none⟩) (nR _) _).setCell (p:=⟨N,3,none⟩) (nR _) _⟩
def OpC.v (o:OpC):OpV:=match o with | ⟨k,n,s,r,key,c,lo,hi,l⟩=>⟨k,n,s,none,0,0,none,0,0,none,0,0,r,key,c,lo,hi,l⟩
theorem ops_ct (l:List OpV):l.all opRt=(l.map OpV.ct).all (fun o=>opRt o.v)/\l.flatMap encO=(l.map OpV.ct).flatMap (fun o=>encO o.v):=by
 constructor
 ·rw [List.all_map];rfl
 ·rw [List.flatMap_map];rfl
def cmdRtC (q:Int×Int×List OpC):Bool:=decide (0<=q.1/\q.1<=7) && (decide (1<=q.2.1/\q.2.1<=2147483647) && (decide (q.2.2.length<=3) && q.2.2.all (fun o=>opRt o.v)))
def encCmdC (q:Int×Int×List OpC):List Nat:=encW q.1.toNat++(encW q.2.1.toNat++encW q.2.2.length)++q.2.2.flatMap (fun o=>encO o.v)
theorem cmd_ct (c:CmdV):cmdRt c=cmdRtC c.ct/\encCmd c=encCmdC c.ct:=by
 constructor
 ·unfold cmdRt cmdRtC CmdV.ct opsRt;dsimp only;rw [List.length_map,(ops_ct c.ops).1]
 ·unfold encCmd encCmdC CmdV.ct;dsimp only;rw [List.length_map,(ops_ct c.ops).2]
theorem aGa (l:List CmdV):l.all cmdRt=(l.map CmdV.ct).all cmdRtC/\l.flatMap encCmd=(l.map CmdV.ct).flatMap encCmdC:=by
 constructor
 ·rw [List.all_map]
  congr 1
  funext c
  exact (cmd_ct c).1
 ·rw [List.flatMap_map]
  congr 1
  funext c
  exact (cmd_ct c).2
theorem ent_same {y z:EntV} (h:y.ct=z.ct):entRt y=entRt z/\encE y=encE z:=by
 unfold EntV.ct at h;simp only [Prod.mk.injEq] at h;obtain ⟨h1,h2,h3,h4⟩:=h;have hl:y.cmds.length=z.cmds.length:=by
  have:=congrArg List.length h4;simpa using this
 constructor
 ·unfold entRt nRt;rw [h1,h2,h3,hl,(aGa y.cmds).1,(aGa z.cmds).1,h4]
 ·unfold encE;rw [h1,h2,h3,hl,(aGa y.cmds).2,(aGa z.cmds).2,h4]
theorem dcr_ct {e:Ending} (h:DcR xs e w):∃ (z:EntV) (er:Int),e=.returned (.tuple #[.agg #[.int .i64 z.kind,.int .i64 z.srv,.slice z.ca z.cl z.cc,.int .i64 z.n],.int .i64 er])/\((er=0/\z.ct=rdEn xs/\entRt z=true/\encE z=xs)\/er=11):=by
 obtain ⟨z,hct,h⟩:=h;rcases h with ⟨h1,h2,h3,h4⟩ | ⟨hn,h3⟩
 ·exact ⟨z,0,h3,Or.inl ⟨rfl,hct,h1,h2⟩⟩
 ·exact ⟨⟨0,0,none,0,0,[],0⟩,11,h3,Or.inr rfl⟩
theorem drp_form {e:Ending} (h:DrpR xs w e):∃ (er an:Int) (ra:Option Addr) (rl rc:Nat) (rs:List RwV) (er2:Int),e=.returned (.tuple #[.agg #[.int .i64 er,.int .i64 an,.slice ra rl rc],.int .i64 er2])/\((er2=0/\rpOk er an rs=true/\encR er an rs=xs/\Rws w ra rl rc rs/\∀ x∈rs,RwOk x)\/er2=11):=by
 obtain ⟨ra,rc,rs,_,hok,h⟩:=h;rcases h with ⟨h1,h2,h3,h4⟩ | ⟨_,h3⟩
 ·exact ⟨_,_,ra,_,rc,rs,0,h3,Or.inl ⟨rfl,h1,h2,h4,hok⟩⟩
 ·exact ⟨0,0,none,0,0,[],11,h3,Or.inr rfl⟩
theorem dcr_again {e:Ending} (h:DcR xs e w) {y:EntV} (hy:y.ct=rdEn xs) (h1:entRt y=true) (h2:encE y=xs) :
  ∃ z:EntV,entRt z=true/\encE z=xs/\e=.returned (.tuple #[.agg #[.int .i64 z.kind,.int .i64 z.srv,.slice z.ca z.cl z.cc,.int .i64 z.n],.int .i64 0])/\EntP w z:=by
 obtain ⟨z,hct,h⟩:=h;have hs:=ent_same (hct.trans hy.symm);rcases h with ⟨q1,q2,q3,q4⟩ | ⟨hn,_⟩
 ·exact ⟨z,q1,q2,q3,q4⟩
 ·exact absurd ⟨hs.1.trans h1,hs.2.trans h2⟩ hn
end Go.Proofs.YtmmcebojbbdfmaaGreat
