import Derived.Test.YtdfjjhlhnfindaaGreatY49
import Derived.Deep.LoopGhost
import Derived.OwnWalk
import Derived.Test.YtdfjjhlhnfindaaGreatY50
set_option maxRecDepth 100000
set_option maxHeartbeats 16000000
set_option linter.unusedVariables false
namespace Go.Proofs.YtdfjjhlhnfindaaGreat
open Go.RowKit Tryz
variable {B K M N c cp g gb gh i nt p who x:Nat} {P:Nat->NdP} {W w w':World} {a va:Option Addr} {lv v:Value} {ov val:List Nat} {r:Rec}
structure DGI (B N nt gh gb v who p on oc:Nat) (P:Nat->NdP) (s:Mt) (oa:Option Addr) (ov:List Nat) (W w wx:World):Prop where
 m:HN B N nt gh v P s W wx
 b:wx.heap[gb]?=some (.cells #[.pointer (some ⟨nt,0,none⟩),.int .i64 (v:Int),.int .i64 (who:Int),.int .i64 (p:Int)] 60 (0,0))
 k:BK B wx oa on oc ov
 f:AsF B gb w wx
theorem DGI.later {v on oc:Nat} {s:Mt} {oa:Option Addr} {wx wy:World} (h:DGI B N nt gh gb v who p on oc P s oa ov W w wx) (hb:Below wx.heap.size wx wy):DGI B N nt gh gb v who p on oc P s oa ov W w wy :=
 ⟨h.m.later hb,(hb.block gb (lO h.b)).trans h.b,h.k.later hb h.m.bw,h.f.trans (AsF.ns (NsF.of hb h.m.bw))⟩
def DeE (B:Nat) (r:Option (Option (List Nat))) (e:Ending) (w':World):Prop:=(r=none->e=.returned (.tuple #[.slice none 0 0,.bool false,.int .i64 40]))/\(r=some none->e=.returned (.tuple #[.slice none 0 0,.bool false,.int .i64 0]))/\∀ x,r=some (some x)->∃ xa xc,e=.returned (.tuple #[.slice xa x.length xc,.bool true,.int .i64 0])/\BK B w' xa x.length xc x
theorem DeE.no {e:Ending} (h:e=.returned (.tuple #[.slice none 0 0,.bool false,.int .i64 40])):DeE B none e w':=⟨fun _=>h,(fun h=>nomatch h),(fun x h=>nomatch h)⟩
theorem DeE.nil {e:Ending} (h:e=.returned (.tuple #[.slice none 0 0,.bool false,.int .i64 0])):DeE B (some none) e w':=⟨(fun h=>nomatch h),fun _=>h,(fun x h=>nomatch h)⟩
theorem DeE.yes {e:Ending} {x:List Nat} (h:∃ xa xc,e=.returned (.tuple #[.slice xa x.length xc,.bool true,.int .i64 0])/\BK B w' xa x.length xc x):DeE B (some (some x)) e w':=⟨(fun h=>nomatch h),(fun h=>nomatch h),fun y hy=>by cases hy;exact h⟩
theorem mis_step (a:Nat->An) (j:Nat):mis a j<=mis a (j+1):=Nat.le_add_right _ _
theorem mis_mono (a:Nat->An) (i:Nat):∀ d,mis a i<=mis a (i+d)
 | 0=>nR _
 | d+1=>nT (mis_mono a i d) (mis_step a (i+d))
theorem aHn {a:Nat->An} {j:Nat} (h:mis a j=1) (he:(a j).e≠0) (hj:j<3):2<=mis a 3:=by
 have h1:mis a (j+1)=2:=by show mis a j+_=2;rw [h,if_neg he]
 have h2:=mis_mono a (j+1) (2-j);rw [h1,show j+1+(2-j)=3 by omega] at h2;exact h2
section
variable {v who g p p1 p2:Nat} {ov:List Nat} {t t1 t2:Mt} {a a2:Nat->An}
theorem dec_p (ha:a=akA v false (bal p who) [] t) (ht:t1=akS v false (bal p who) [] t 3) (hp:p1=prj a p 3) (h:2<=mis a 3):dec v who ov (g+1) t p=dec v who ov g t1 p1:=by
 subst ha ht hp;have e:rnd v who ov t p=(none,akS v false (bal p who) [] t 3,prj (akA v false (bal p who) [] t) p 3):=by unfold rnd;rw [if_pos h]
 show (if _ then _ else _)=_;rw [e,if_pos rfl]
theorem dec_n (ha:a=akA v false (bal p who) [] t) (ht:t1=akS v false (bal p who) [] t 3) (h:¬ 2<=mis a 3) (h2:(bst a ov 3).1=0/\ov.length=0):dec v who ov (g+1) t p=(some none,t1):=by
 subst ha ht;have e:rnd v who ov t p=(some none,akS v false (bal p who) [] t 3,prj (akA v false (bal p who) [] t) p 3):=by unfold rnd;rw [if_neg h,if_pos h2]
 show (if _ then _ else _)=_;rw [e,if_neg (fun h=>by cases h)]
theorem dec_a (ha:a=akA v false (bal p who) [] t) (ht:t1=akS v false (bal p who) [] t 3) (hp:p1=prj a p 3) (h:¬ 2<=mis a 3) (h2:¬ ((bst a ov 3).1=0/\ov.length=0)) (ha2:a2=akA v true (bal p who) (bst a ov 3).2 t1) (ht2:t2=akS v true (bal p who) (bst a ov 3).2 t1 3) (hp2:p2=prj a2 p1 3) (h3:2<=mis a2 3):dec v who ov (g+1) t p=dec v who ov g t2 p2:=by
 subst ha2 ht2 hp2 hp ha ht;have e:rnd v who ov t p=(none,akS v true (bal p who) (bst (akA v false (bal p who) [] t) ov 3).2 (akS v false (bal p who) [] t 3) 3,prj (akA v true (bal p who) (bst (akA v false (bal p who) [] t) ov 3).2 (akS v false (bal p who) [] t 3)) (prj (akA v false (bal p who) [] t) p 3) 3):=by unfold rnd;rw [if_neg h,if_neg h2,if_pos h3]
 show (if _ then _ else _)=_;rw [e,if_pos rfl]
theorem dec_d (ha:a=akA v false (bal p who) [] t) (ht:t1=akS v false (bal p who) [] t 3) (h:¬ 2<=mis a 3) (h2:¬ ((bst a ov 3).1=0/\ov.length=0)) (ha2:a2=akA v true (bal p who) (bst a ov 3).2 t1) (ht2:t2=akS v true (bal p who) (bst a ov 3).2 t1 3) (h3:¬ 2<=mis a2 3):dec v who ov (g+1) t p=(some (some (bst a ov 3).2),t2):=by
 subst ha2 ht2 ha ht;have e:rnd v who ov t p=(some (some (bst (akA v false (bal p who) [] t) ov 3).2),akS v true (bal p who) (bst (akA v false (bal p who) [] t) ov 3).2 (akS v false (bal p who) [] t 3) 3,p):=by unfold rnd;rw [if_neg h,if_neg h2,if_neg h3]
 show (if _ then _ else _)=_;rw [e,if_neg (fun h=>by cases h)]
end
theorem aK_ee (k:Bool) (b:Nat) (r:Rec):(aK k b r).e=0\/(aK k b r).e=41\/(aK k b r).e=40:=by
 unfold aK
 split<;>split<;>simp
theorem akA_e (v:Nat) (k:Bool) (b:Nat) (val:List Nat) (s:Mt) (j:Nat):(akA v k b val s j).e=0\/(akA v k b val s j).e=41\/(akA v k b val s j).e=40:=by
 unfold akA stp;split
 ·exact aK_ee _ _ _
 split
 ·exact Or.inr (Or.inr rfl)
 split
 ·exact Or.inr (Or.inr rfl)
 split
 ·exact Or.inr (Or.inr rfl)
 ·exact aK_ee _ _ _
theorem kd_f:kd false=7:=rfl
theorem kd_t:kd true=8:=rfl
def AgT (B N nt gh gb v who:Nat) (P:Nat->NdP) (t1:Mt) (a:Nat->An) (p1:Nat) (W w:World) (e:Ending) (w':World):Prop:=∃ g cs,e=.returned (.slice (some ⟨g,0,none⟩) 3 3)/\w'.heap[g]?=some (.cells cs 75 (0,0))/\AnR B w' cs 3 a/\w'.heap[gb]?=some (.cells #[.pointer (some ⟨nt,0,none⟩),.int .i64 (v:Int),.int .i64 (who:Int),.int .i64 (p1:Int)] 60 (0,0))/\HN B N nt gh v P t1 W w'/\AsF B gb w w'
section
variable {B N nt gh gb v who b p p1 K m:Nat} {P:Nat->NdP} {s t1:Mt} {a:Nat->An} {W w:World}
theorem HN.askp [WF] [WC] (h:HN B N nt gh v P s W w) (hok:MtOk K m s) (hm:m<=83) (hN:m+34<=N) (hbK:b<=K+8) (hv:v<=16) (hb1:1<=b) (hb2:b<9223372036854775808) (hb:w.heap[gb]?=some (.cells #[.pointer (some ⟨nt,0,none⟩),.int .i64 (v:Int),.int .i64 (who:Int),.int .i64 (p:Int)] 60 (0,0))) (hgB:B<=gb) (ha:a=akA v false b [] s) (ht:t1=akS v false b [] s 3) (hp:p1=prj a p 3) :
  Calls prog 36 #[.pointer (some ⟨gb,0,none⟩),.int .i64 7,.int .i64 (b:Int),.slice none 0 0] w fun e w'=>AgT B N nt gh gb v who P t1 a p1 W w e w':=by
 have h9:=ask_gen (k:=false) (val:=[]) (K:=K+8) h ⟨fun i hi=>⟨by have:=(hok.r i hi).1;omega,(hok.r i hi).2⟩,hok.f,hok.m,hok.k⟩ hm hN hbK hv hb1 hb2 (BK.nil _ _) (by decide) hb hgB;rw [kd_f] at h9;subst ha ht hp;refine h9.mono ?_;rintro e w' ⟨g,rfl,_,q1,q2,⟨cs,q3,_,q4⟩,q5⟩;exact ⟨g,cs,rfl,q3,q4,q2,q1,q5⟩
theorem HN.aska [WF] [WC] {n:Nat} (h:HN B N nt gh v P s W w) (hok:MtOk K m s) (hm:m<=83) (hN:m+34<=N) (hbK:b<=K) (hv:v<=16) (hb1:1<=b) (hb2:b<9223372036854775808) (hb:w.heap[gb]?=some (.cells #[.pointer (some ⟨nt,0,none⟩),.int .i64 (v:Int),.int .i64 (who:Int),.int .i64 (p:Int)] 60 (0,0))) (hgB:B<=gb) (hk:BK B w va n cp val) (hn:n<=1800) (ha:a=akA v true b val s) (ht:t1=akS v true b val s 3) (hp:p1=prj a p 3) :
  Calls prog 36 #[.pointer (some ⟨gb,0,none⟩),.int .i64 8,.int .i64 (b:Int),.slice va n cp] w fun e w'=>AgT B N nt gh gb v who P t1 a p1 W w e w':=by
 have h9:=ask_gen (k:=true) h hok hm hN hbK hv hb1 hb2 hk hn hb hgB;rw [kd_t] at h9;subst ha ht hp;refine h9.mono ?_;rintro e w' ⟨g,rfl,_,q1,q2,⟨cs,q3,_,q4⟩,q5⟩;exact ⟨g,cs,rfl,q3,q4,q2,q1,q5⟩
end
theorem HN.major {v:Nat} {s:Mt} (h:HN B N nt gh v P s W w):(Calls prog 33 #[.pointer (some ⟨nt,0,none⟩)] w fun e w'=>e=.returned (.int .i64 ((3:Nat):Int))/\w'=w)/\Calls prog 34 #[.pointer (some ⟨nt,0,none⟩)] w fun e w'=>e=.returned (.int .i64 2)/\w'=w:=by
 obtain ⟨wv,lv,h1⟩:=h.nds;exact ⟨nodes_any h1,major_3 h1⟩
theorem aGz [WF] [WC] {v m on oc:Nat} {s:Mt} {oa:Option Addr} (h:HN B N nt gh v P s W w) (hok:MtOk K m s) (hb:w.heap[gb]?=some (.cells #[.pointer (some ⟨nt,0,none⟩),.int .i64 (v:Int),.int .i64 (who:Int),.int .i64 0] 60 (0,0))) (hgB:B<=gb) (hv:v<=16) (hw:who<=3) (hK:K<=1000000000) (hm:m<=69) (hN:m+49<=N) (ho:BK B w oa on oc ov) (hon:on<=1800) :
  Calls prog 20 #[.pointer (some ⟨gb,0,none⟩),.slice oa on oc] w fun e w'=>AsF B gb w w'/\HN B N nt gh v P (dec v who ov 3 s 0).2 W w'/\DeE B (dec v who ov 3 s 0).1 e w':=by
 have HM:=zH h;have HB:=zH hb;have HG:=zH hgB;have HO:=zH ho;have HV:=zH hv;have HW:=zH hw;have HKK:=zH hK;have HMM:=zH hm;have HNN:=zH hN;have HON:=zH hon;have HOK:=zH hok;have HOL:Hid (ov.length=on):=ho.1.hlen;have hbd:Below w.heap.size w w.drew:=(Below.refl _ _).drew;have HND:=zH (h.later hbd).major;have HX1:Hid ((fun wx=>wx.cell? ⟨gb,0,none⟩=some (.pointer (some ⟨nt,0,none⟩))) w.drew):=aAa (show w.drew.heap[gb]?=_ from hb);have HMD:=zH (h.later hbd);have HBD:Hid (w.drew.heap[gb]?=_):=hb;have HOD:=zH (ho.later hbd h.bw);have HFD:Hid (AsF B gb w w.drew):=AsF.ns (NsF.of hbd h.bw);clear h hb hgB ho hv hw hK hm hN hon hbd hok;go_enter func20,ntmps20;go_wp2_with fail;go_step3;go_upto_region 1 with fail;refine wp_region_noPanic ?_;refine wp_region_held_drew (S:=fun wx=>wx.cell? ⟨gb,0,none⟩=some (.pointer (some ⟨nt,0,none⟩))) (by kernel_rfl) HX1.o (fun hHeld=>?_);refine kT 0 16 ?_;refine kT 1 17 ?_;refine kT 2 18 ?_;refine kT 3 19 ?_;refine kT 5 21 ?_;refine kT 6 22 ?_;refine kT 7 23 ?_;refine kT 8 24 ?_;refine kC 4 ?_;intro K hK;go_simp;refine HND.o.1.mono ?_;rintro e w2 ⟨rfl,hw⟩;have hw:=hw.symm;subst hw;refine hK.out _ _ HX1.o (fun hHeld=>?_);clear hK K
 try simp only [Act.put,siT,scZ,scS]
 refine kC 9 ?_;intro K hK;go_simp;refine HND.o.2.mono ?_;rintro e w2 ⟨rfl,hw⟩;have hw:=hw.symm;subst hw;refine hK.out _ _ HX1.o (fun hHeld=>?_);clear hK K
 try simp only [Act.put,siT,scZ,scS]
 refine kT 10 26 ?_;refine kT 11 7 ?_;refine wpAnyH_done (by kernel_rfl) ?_ _;refine NoPanic.normal ?_;clear hHeld;generalize w.drew=w0 at *
 clear HND HX1;go_wp2_with fail;have hw1:IntKind.i64.wrap 1=1:=rfl;rw [hw1];clear hw1;go_step3;go_wp2_with fail;go_loopg [27] 3 (fun g s27 wx=>∃ (r p:Nat) (t:Mt),r+g=3/\s27=.int .i64 (r:Int)/\dec v who ov 3 s 0=dec v who ov g t p/\p<=K+16*r/\MtOk (K+16*r) (m+5*r) t/\DGI B N nt gh gb v who p on oc P t oa ov W w wx)
 case atStart=>exact ⟨0,0,s,by omega,rfl,rfl,Nat.zero_le _,HOK.o,HMD.o,HBD.o,HOD.o,HFD.o⟩
 case round =>
  obtain ⟨r,p,t,hrg,rfl,hde,hpk,hokt,hI⟩:=hrel;have HI:=zH hI;have HDE:=zH hde;have HPK:=zH hpk;have HOKT:=zH hokt;clear hI HMD HBD HOD HFD hde hpk hokt
  cases gk with
  | zero =>
   have hr3:r=3:=by omega
   subst hr3;have i1:¬ ((3:Nat):Int)<3:=by omega
   go_wp2_with fail
   try rw [Exit.noGoto_ret]
   go_ret3;rw [HDE.o];exact ⟨HI.o.f,HI.o.m,DeE.no rfl⟩
  | succ g =>
   have i1:(r:Int)<3:=by omega
   have i2:(r:Int)<1000:=by omega
   have hr2:r<=2:=by omega
   have hp3:p<1152921504606846976:=by have:=HPK.o;have:=HKK.o;omega
   have hbp:bal p who<9223372036854775808:=by unfold bal;have:=HW.o;omega
   have hbp1:1<=bal p who:=by unfold bal;omega
   have HBK:=zH (bal_le (K:=K+16*r) HPK.o HW.o);have HBP:=zH (And.intro hbp1 hbp);have HBLT:=zH (ballot_any HI.o.b hp3 HW.o);clear hp3 hbp hbp1;go_wp2_with fail;refine HBLT.o.mono ?_;rintro e w1 ⟨rfl,hb1⟩;have HJ:=zH (HI.o.later hb1);clear hb1 HBLT HI;obtain ⟨a,HA⟩:∃ a,Hid (a=akA v false (bal p who) [] t):=⟨_,rfl⟩;obtain ⟨t1,HT1⟩:∃ t1,Hid (t1=akS v false (bal p who) [] t 3):=⟨_,rfl⟩;obtain ⟨p1,HP1⟩:∃ p1,Hid (p1=prj a p 3):=⟨_,rfl⟩;have HAK:=zH (HJ.o.m.askp HOKT.o (by have:=HMM.o;omega) (by have:=HNN.o;omega) HBK.o HV.o HBP.o.1 HBP.o.2 HJ.o.b HG.o HA.o HT1.o HP1.o);have HOKA:Hid (MtOk (K+16*r+8) (m+5*r+1) t1):=by show MtOk _ _ _;rw [HT1.o];exact HOKT.o.ask (k:=false) HBK.o (Nat.zero_le _)
   have HANL:Hid (∀ i,i<3->(a i).tl<=K+16*r+8/\(a i).val.length<=1800):=by
    intro i hi;rw [HA.o];exact akA_ok (K:=K+16*r+8) (fun i hi=>⟨by have:=(HOKT.o.r i hi).1;omega,(HOKT.o.r i hi).2⟩) HOKT.o.f HBK.o (Nat.zero_le _) i hi
   have HPKA:Hid (p1<=K+16*r+8):=by show p1<=_;rw [HP1.o];exact aGm (by have:=HPK.o;omega) 3 fun i hi=>(HANL.o i hi).1
   have HPK1:Hid (p1<=K+16*(r+1)):=by show p1<=_;have:=HPKA.o;omega
   have HOK1:Hid (MtOk (K+16*(r+1)) (m+5*(r+1)) t1):=⟨fun i hi=>⟨by have:=(HOKA.o.r i hi).1;omega,(HOKA.o.r i hi).2⟩,HOKA.o.f,fun i hi=>by have:=HOKA.o.m i hi;omega,HOKA.o.k⟩;go_wp2_with fail;refine HAK.o.mono ?_;rintro e w2 ⟨g5,cs,rfl,hh5,hr5,hb5,hm5,hf5⟩;have HH5:=zH hh5;have HR5:=zH hr5;have HB5:=zH hb5;have HM5:=zH hm5;have HF5:=zH (HJ.o.f.trans hf5);have HK5:=zH (HJ.o.k.ft (hf5.ft HJ.o.b));have HK2:Hid (DGI B N nt gh gb v who p1 on oc P t1 oa ov W w w2):=⟨hm5,hb5,HK5.o,HF5.o⟩;clear hh5 hr5 hb5 hm5 hf5 HAK HJ;go_wp2_with fail;go_loopg [9,10,11,36] 3 (fun g2 s9 s10 s11 s36 wx=>∃ (j x10 mi:Nat) (va:Option Addr) (n c:Nat),j+g2=3/\s9=.slice va n c/\s10=.int .i64 (x10:Int)/\s11=.int .i64 (mi:Int)/\s36=.int .i64 (j:Int)/\x10=(bst a ov j).1/\mi=mis a j/\mi<=1/\BK B w2 va n c (bst a ov j).2/\Below w2.heap.size w2 wx)
   case atStart=>exact ⟨0,0,0,oa,on,oc,by omega,rfl,rfl,rfl,rfl,rfl,rfl,by decide,HK5.o,Below.refl _ _⟩
   case round =>
    obtain ⟨j,x10,mi,va,n,c,hjg,rfl,rfl,rfl,rfl,hx10,hmi,hmi1,hkv,hbx⟩:=hrel;have HX10:=zH hx10;have HMI:=zH hmi;have HKV:=zH hkv;have HBX:=zH hbx;clear hx10 hmi hkv hbx
    cases gk with
    | zero =>
     have hj3:j=3:=by omega
     subst hj3;have HM3:Hid (¬ 2<=mis a 3):=by show ¬ _;have:=HMI.o;omega
     have HNL:Hid (n<=1800):=by
      show n<=1800;have h9:=HKV.o.1.hlen;have h8:=bst_le (a:=a) (ov:=ov) (by have:=HOL.o;have:=HON.o;omega) 3 fun i hi=>(HANL.o i hi).2
      omega
     obtain ⟨cb,HCB⟩:∃ cb,Hid (cb=decide ((bst a ov 3).1=0/\ov.length=0)):=⟨_,rfl⟩;have i3:¬ ((3:Nat):Int)<3:=by omega
     go_upto_region 14 with fail;go_cut [27,71] from 27 to 98 (fun i c wx=>i=.int .i64 (r:Int)/\c=.bool cb/\wx=wr)
     case first =>
      by_cases c1:x10=0
      ·subst c1;have HC0:Hid ((bst a ov 3).1=0):=HX10.o.symm;by_cases c2:on=0
       ·have HC2:Hid (ov.length=0):=HOL.o.trans c2;subst c2;go_wp2;go_meet
        case rel=>exact ⟨rfl,by rw [HCB.o];simp [HC0.o,HC2.o],rfl⟩
       ·have k2:¬ (on:Int)=0:=by omega
        have HC2:Hid (¬ ov.length=0):=by show ¬ _;rw [HOL.o];exact c2
        go_wp2;go_meet
        case rel=>exact ⟨rfl,by rw [HCB.o,decide_eq_false (fun h=>HC2.o h.2)];simp;omega,rfl⟩
      ·have HC0:Hid (¬ (bst a ov 3).1=0):=by show ¬ _;rw [<-HX10.o];exact c1
       have k1:¬ (x10:Int)=0:=by omega
       go_wp2;go_meet
       case rel=>exact ⟨rfl,by rw [HCB.o,decide_eq_false (fun h=>HC0.o h.1)],rfl⟩
     case rest =>
      obtain ⟨rfl,rfl,rfl⟩:=hcut;by_cases hcc:(bst a ov 3).1=0/\ov.length=0
      ·have hcb:cb=true:=by rw [HCB.o];exact decide_eq_true hcc
       subst hcb;go_wp2_with fail
       try rw [Exit.noGoto_ret]
       go_ret3;rw [HDE.o,dec_n HA.o HT1.o HM3.o hcc];exact ⟨HF5.o.trans (AsF.ns (NsF.of HBX.o HM5.o.bw)),HM5.o.later HBX.o,DeE.nil rfl⟩
      ·have hcb:cb=false:=by rw [HCB.o];simp only [decide_eq_false_iff_not];exact hcc
       subst hcb;obtain ⟨a2,HA2⟩:∃ a2,Hid (a2=akA v true (bal p who) (bst a ov 3).2 t1):=⟨_,rfl⟩;obtain ⟨t2,HT2⟩:∃ t2,Hid (t2=akS v true (bal p who) (bst a ov 3).2 t1 3):=⟨_,rfl⟩;obtain ⟨p2,HP2⟩:∃ p2,Hid (p2=prj a2 p1 3):=⟨_,rfl⟩;have HBL2:Hid ((bst a ov 3).2.length<=1800):=bst_le (a:=a) (ov:=ov) (by have:=HOL.o;have:=HON.o;omega) 3 fun i hi=>(HANL.o i hi).2
       have HOK2:Hid (MtOk (K+16*(r+1)) (m+5*(r+1)) t2):=by
        show MtOk _ _ _;rw [HT2.o];exact HOKA.o.ask (k:=true) (by have:=HBK.o;omega) HBL2.o
       have HPK2:Hid (p2<=K+16*(r+1)):=by
        show p2<=_;rw [HP2.o,HA2.o];exact aGm HPK1.o 3 fun i hi=>nT (akA_ok (K:=K+16*r+8) HOKA.o.r HOKA.o.f HBK.o HBL2.o i hi).1 (by omega)
       have HB6:Hid (wc.heap[gb]?=_):=(HBX.o.block gb (lO HB5.o)).trans HB5.o;have HAK2:=zH ((HM5.o.later HBX.o).aska HOKA.o (by have:=HMM.o;omega) (by have:=HNN.o;omega) HBK.o HV.o HBP.o.1 HBP.o.2 HB6.o HG.o (HKV.o.later HBX.o HM5.o.bw) HNL.o HA2.o HT2.o HP2.o);have HF6:=zH (HF5.o.trans (AsF.ns (NsF.of HBX.o HM5.o.bw)));have HK6:=zH (HKV.o.later HBX.o HM5.o.bw);have HO6:=zH (HK5.o.later HBX.o HM5.o.bw);have HCC:=zH hcc;clear hcc HKV;go_wp2_with fail;refine HAK2.o.mono ?_;rintro e w4 ⟨g7,cs7,rfl,hh7,hr7,hb7,hm7,hf7⟩;have HH7:=zH hh7;have HR7:=zH hr7;have HM7:=zH hm7;have HF7:=zH (HF6.o.trans hf7);have HK7:=zH (HK6.o.ft (hf7.ft HB6.o));have HK3:Hid (DGI B N nt gh gb v who p2 on oc P t2 oa ov W w w4):=⟨hm7,hb7,HO6.o.ft (hf7.ft HB6.o),HF7.o⟩;clear hh7 hr7 hb7 hm7 hf7 HAK2 HF6 HK6 HB6 HO6 HMI hmi1 HX10;go_wp2_with fail;go_loopg [11,77] 3 (fun g3 s11 s77 wx=>∃ j mi:Nat,j+g3=3/\s11=.int .i64 (mi:Int)/\s77=.int .i64 (j:Int)/\mi=mis a2 j/\mi<=1/\Below w4.heap.size w4 wx)
       case atStart=>exact ⟨0,0,by omega,rfl,rfl,rfl,by decide,Below.refl _ _⟩
       case round =>
        obtain ⟨j,mi,hjg3,rfl,rfl,hmi,hmi1,hbx⟩:=hrel;clear HBX;have HBX:=zH hbx;have HMI:=zH hmi;clear hbx hmi
        cases gk with
        | zero =>
         have hj3:j=3:=by omega
         subst hj3;have i5:¬ ((3:Nat):Int)<3:=by omega
         go_wp2_with fail
         try rw [Exit.noGoto_ret]
         go_ret3;have hn9:n=(bst a ov 3).2.length:=HK7.o.1.hlen.symm;have h8:=HK7.o.later HBX.o HM7.o.bw;rw [hn9] at h8 ⊢;rw [HDE.o,dec_d HA.o HT1.o HM3.o HCC.o HA2.o HT2.o (by have:=HMI.o;omega)];exact ⟨HF7.o.trans (AsF.ns (NsF.of HBX.o HM7.o.bw)),HM7.o.later HBX.o,DeE.yes ⟨va,c,rfl,h8⟩⟩
        | succ g3 =>
         have i5:(j:Int)<3:=by omega
         have i6:(0:Int)<=(j:Int):=by omega
         have i7:(j:Int)<1000:=by omega
         obtain ⟨ae,HAE⟩:∃ ae,Hid ((a2 j).e=ae):=⟨_,rfl⟩;obtain ⟨tl,HTL⟩:∃ tl:Int,Hid (((a2 j).tl:Int)=tl):=⟨_,rfl⟩;obtain ⟨bl,HBL⟩:∃ bl:Int,Hid (((a2 j).bl:Int)=bl):=⟨_,rfl⟩;obtain ⟨vn,HVN⟩:∃ vn:Nat,Hid ((a2 j).val.length=vn):=⟨_,rfl⟩;obtain ⟨sa,sc,a0,a1,a2,a3,a4,a5,a6⟩:=HR7.o j (by omega);rw [HAE.o] at a0;rw [HTL.o] at a1;rw [HBL.o] at a4;rw [HVN.o] at a5 a6;have hgx:=(HBX.o.block g7 (lO HH7.o)).trans HH7.o;have e0:wr.cell? ⟨g7,j*6,none⟩=some (.int .i64 ae):=(aAa hgx).trans a0;have e1:wr.cell? ⟨g7,j*6+1,none⟩=some (.int .i64 tl):=(aAa hgx).trans a1;have e2:wr.cell? ⟨g7,j*6+2,none⟩=some (.bool false):=(aAa hgx).trans a2;have e3:wr.cell? ⟨g7,j*6+3,none⟩=some (.int .i64 0):=(aAa hgx).trans a3;have e4:wr.cell? ⟨g7,j*6+4,none⟩=some (.int .i64 bl):=(aAa hgx).trans a4;have e5:wr.cell? ⟨g7,j*6+5,none⟩=some (.slice sa vn sc):=(aAa hgx).trans a5;have HBA:=zH (aAc wr (.cells #[.int .i64 ae,.int .i64 tl,.bool false,.int .i64 0,.int .i64 bl,.slice sa vn sc] 75));have HAN:Hid ((wr.alloc (.cells #[.int .i64 ae,.int .i64 tl,.bool false,.int .i64 0,.int .i64 bl,.slice sa vn sc] 75)).heap[wr.heap.size]?=some (.cells #[.int .i64 ae,.int .i64 tl,.bool false,.int .i64 0,.int .i64 bl,.slice sa vn sc] 75 (0,0))):=heap_alloc_new wr _;have HB3:Hid (Below w4.heap.size w4 (wr.alloc (.cells #[.int .i64 ae,.int .i64 tl,.bool false,.int .i64 0,.int .i64 bl,.slice sa vn sc] 75))):=HBX.o.trans (HBA.o.mono HBX.o.size);have HA6:=zH a6;clear a0 a1 a2 a3 a4 a5 a6 hgx;go_upto_region 20 with fail;clear e0 e1 e2 e3 e4 e5;generalize wr.alloc (.cells #[.int .i64 ae,.int .i64 tl,.bool false,.int .i64 0,.int .i64 bl,.slice sa vn sc] 75)=x3 at *
         generalize wr.heap.size=n3 at *
         have y0:x3.cell? ⟨n3,0,none⟩=some (.int .i64 ae):=aAa HAN.o;have HE:Hid ((a2 j).e=0\/(a2 j).e=41\/(a2 j).e=40):=by rw [HA2.o];exact akA_e _ _ _ _ _ _
         rcases HE.o with he | he | he
         ·rw [HAE.o] at he;subst he;have HEZ:Hid ((a2 j).e=0):=HAE.o;have HMI2:Hid (mi=mis a2 (j+1)):=by show mi=mis a2 j+_;rw [if_pos HEZ.o];exact HMI.o
          go_wp2_with fail;go_roundg g3
          case measure=>omega
          case rel=>exact ⟨j+1,mi,by omega,rfl,by go_num,HMI2.o,hmi1,HB3.o⟩
         ·rw [HAE.o] at he;subst he;have HNZ:Hid ((a2 j).e≠0):=by show (a2 j).e≠0;rw [HAE.o];decide
          by_cases hm0:mi=0
          ·subst hm0;go_wp2_with fail;go_roundg g3
           case measure=>omega
           case rel=>exact ⟨j+1,1,by omega,rfl,by go_num,by have h9:=HMI.o;show _=mis a2 j+_;rw [<-h9,if_neg HNZ.o],by decide,HB3.o⟩
          ·have hm9:mi=1:=by omega
           subst hm9;go_wp2_with fail;go_roundg g
           case measure=>omega
           case rel=>exact ⟨r+1,p2,t2,by omega,by go_num,by rw [HDE.o];exact dec_a HA.o HT1.o HP1.o HM3.o HCC.o HA2.o HT2.o HP2.o (aHn HMI.o.symm HNZ.o (by omega)),HPK2.o,HOK2.o,HK3.o.later HB3.o⟩
         ·rw [HAE.o] at he;subst he;have HNZ:Hid ((a2 j).e≠0):=by show (a2 j).e≠0;rw [HAE.o];decide
          by_cases hm0:mi=0
          ·subst hm0;go_wp2_with fail;go_roundg g3
           case measure=>omega
           case rel=>exact ⟨j+1,1,by omega,rfl,by go_num,by have h9:=HMI.o;show _=mis a2 j+_;rw [<-h9,if_neg HNZ.o],by decide,HB3.o⟩
          ·have hm9:mi=1:=by omega
           subst hm9;go_wp2_with fail;go_roundg g
           case measure=>omega
           case rel=>exact ⟨r+1,p2,t2,by omega,by go_num,by rw [HDE.o];exact dec_a HA.o HT1.o HP1.o HM3.o HCC.o HA2.o HT2.o HP2.o (aHn HMI.o.symm HNZ.o (by omega)),HPK2.o,HOK2.o,HK3.o.later HB3.o⟩
    | succ g2 =>
     have i3:(j:Int)<3:=by omega
     have i4:(0:Int)<=(j:Int):=by omega
     have i5:(j:Int)<1000:=by omega
     obtain ⟨ae,HAE⟩:∃ ae,Hid ((a j).e=ae):=⟨_,rfl⟩;obtain ⟨tl,HTL⟩:∃ tl:Int,Hid (((a j).tl:Int)=tl):=⟨_,rfl⟩;obtain ⟨bl,HBL⟩:∃ bl:Int,Hid (((a j).bl:Int)=bl):=⟨_,rfl⟩;obtain ⟨vn,HVN⟩:∃ vn:Nat,Hid ((a j).val.length=vn):=⟨_,rfl⟩;obtain ⟨sa,sc,a0,a1,a2,a3,a4,a5,a6⟩:=HR5.o j (by omega);rw [HAE.o] at a0;rw [HTL.o] at a1;rw [HBL.o] at a4;rw [HVN.o] at a5 a6;have hgx:=(HBX.o.block g5 (lO HH5.o)).trans HH5.o;have e0:wr.cell? ⟨g5,j*6,none⟩=some (.int .i64 ae):=(aAa hgx).trans a0;have e1:wr.cell? ⟨g5,j*6+1,none⟩=some (.int .i64 tl):=(aAa hgx).trans a1;have e2:wr.cell? ⟨g5,j*6+2,none⟩=some (.bool false):=(aAa hgx).trans a2;have e3:wr.cell? ⟨g5,j*6+3,none⟩=some (.int .i64 0):=(aAa hgx).trans a3;have e4:wr.cell? ⟨g5,j*6+4,none⟩=some (.int .i64 bl):=(aAa hgx).trans a4;have e5:wr.cell? ⟨g5,j*6+5,none⟩=some (.slice sa vn sc):=(aAa hgx).trans a5;have HBA:=zH (aAc wr (.cells #[.int .i64 ae,.int .i64 tl,.bool false,.int .i64 0,.int .i64 bl,.slice sa vn sc] 75));have HAN:Hid ((wr.alloc (.cells #[.int .i64 ae,.int .i64 tl,.bool false,.int .i64 0,.int .i64 bl,.slice sa vn sc] 75)).heap[wr.heap.size]?=some (.cells #[.int .i64 ae,.int .i64 tl,.bool false,.int .i64 0,.int .i64 bl,.slice sa vn sc] 75 (0,0))):=heap_alloc_new wr _;have HB3:Hid (Below w2.heap.size w2 (wr.alloc (.cells #[.int .i64 ae,.int .i64 tl,.bool false,.int .i64 0,.int .i64 bl,.slice sa vn sc] 75))):=HBX.o.trans (HBA.o.mono HBX.o.size);have HA6:=zH a6;clear a0 a1 a2 a3 a4 a5 a6 hgx;go_upto_region 8 with fail;clear e0 e1 e2 e3 e4 e5;generalize wr.alloc (.cells #[.int .i64 ae,.int .i64 tl,.bool false,.int .i64 0,.int .i64 bl,.slice sa vn sc] 75)=x3 at *
     generalize wr.heap.size=n3 at *
     have y0:x3.cell? ⟨n3,0,none⟩=some (.int .i64 ae):=aAa HAN.o;have HE:Hid ((a j).e=0\/(a j).e=41\/(a j).e=40):=by rw [HA.o];exact akA_e _ _ _ _ _ _
     rcases HE.o with he | he | he
     ·rw [HAE.o] at he;subst he;have HEZ:Hid ((a j).e=0):=HAE.o;have y4:x3.cell? ⟨n3,4,none⟩=some (.int .i64 bl):=aAa HAN.o;have HMI2:Hid (mi=mis a (j+1)):=by show mi=mis a j+_;rw [if_pos HEZ.o];exact HMI.o
      by_cases c9:(x10:Int)<bl
      ·go_upto_region 12 with fail;have HX12:Hid ((fun wx=>wx.cell? ⟨n3,4,none⟩=some (.int .i64 bl)/\wx.cell? ⟨n3,5,none⟩=some (.slice sa vn sc)) x3.drew):=⟨aAa (show x3.drew.heap[n3]?=_ from HAN.o),aAa (show x3.drew.heap[n3]?=_ from HAN.o)⟩;refine wp_region_noPanic ?_;refine wp_region_held_drew (S:=fun wx=>wx.cell? ⟨n3,4,none⟩=some (.int .i64 bl)/\wx.cell? ⟨n3,5,none⟩=some (.slice sa vn sc)) (by kernel_rfl) HX12.o (fun hHeld=>?_);refine kT 0 60 ?_;refine kT 1 61 ?_;refine kT 2 62 ?_;refine kT 3 63 ?_;refine kT 4 10 ?_;refine kT 5 9 ?_;refine wpAnyH_done (by kernel_rfl) ?_ _;refine NoPanic.normal ?_;clear hHeld;have hb9:Below x3.heap.size x3 x3.drew:=(Below.refl _ _).drew;have HB4:Hid (Below w2.heap.size w2 x3.drew):=HB3.o.trans (hb9.mono HB3.o.size);have HST2:Hid (bst a ov (j+1)=((a j).bl,(a j).val)):=by
        show (if _ then _ else _)=_;rw [if_pos ⟨HEZ.o,by rw [<-HX10.o];have:=HBL.o;omega⟩]
       have HBLN:Hid (bl=(((a j).bl:Nat):Int)):=HBL.o.symm;have HKV2:Hid (BK B w2 sa vn sc (bst a ov (j+1)).2):=by show BK B w2 sa vn sc _;rw [HST2.o];exact HA6.o
       go_wp2_with fail;go_roundg g2
       case measure=>omega
       case rel=>exact ⟨j+1,(a j).bl,mi,sa,vn,sc,by omega,rfl,by rw [HBLN.o],rfl,by go_num,by rw [HST2.o],HMI2.o,hmi1,HKV2.o,HB4.o⟩
      ·have HST2:Hid (bst a ov (j+1)=bst a ov j):=by
        show (if _ then _ else _)=_;rw [if_neg (fun h=>c9 (by have h9:=h.2;rw [<-HX10.o] at h9;have:=HBL.o;omega))]
       have HKV2:Hid (BK B w2 va n c (bst a ov (j+1)).2):=by show BK B w2 va n c _;rw [HST2.o];exact HKV.o
       go_wp2_with fail;go_roundg g2
       case measure=>omega
       case rel=>exact ⟨j+1,x10,mi,va,n,c,by omega,rfl,rfl,rfl,by go_num,by rw [HST2.o];exact HX10.o,HMI2.o,hmi1,HKV2.o,HB3.o⟩
     ·rw [HAE.o] at he;subst he;have HNZ:Hid ((a j).e≠0):=by show (a j).e≠0;rw [HAE.o];decide
      have HSTEP:Hid (x10=(bst a ov (j+1)).1):=by
       show x10=(if _ then _ else _:Nat×List Nat).1;rw [if_neg (fun h=>HNZ.o h.1)];exact HX10.o
      have HKV9:Hid (BK B w2 va n c (bst a ov (j+1)).2):=by
       show BK B w2 va n c (if _ then _ else _:Nat×List Nat).2;rw [if_neg (fun h=>HNZ.o h.1)];exact HKV.o
      by_cases hm0:mi=0
      ·subst hm0;go_wp2_with fail;go_roundg g2
       case measure=>omega
       case rel=>exact ⟨j+1,x10,1,va,n,c,by omega,rfl,rfl,by first | rfl | simp,by go_num,HSTEP.o,by have h9:=HMI.o;show _=mis a j+_;rw [<-h9,if_neg HNZ.o],by decide,HKV9.o,HB3.o⟩
      ·have hm9:mi=1:=by omega
       subst hm9;go_wp2_with fail;go_roundg g
       case measure=>omega
       case rel=>exact ⟨r+1,p1,t1,by omega,by go_num,by rw [HDE.o];exact dec_p HA.o HT1.o HP1.o (aHn HMI.o.symm HNZ.o (by omega)),HPK1.o,HOK1.o,HK2.o.later HB3.o⟩
     ·rw [HAE.o] at he;subst he;have HNZ:Hid ((a j).e≠0):=by show (a j).e≠0;rw [HAE.o];decide
      have HSTEP:Hid (x10=(bst a ov (j+1)).1):=by
       show x10=(if _ then _ else _:Nat×List Nat).1;rw [if_neg (fun h=>HNZ.o h.1)];exact HX10.o
      have HKV9:Hid (BK B w2 va n c (bst a ov (j+1)).2):=by
       show BK B w2 va n c (if _ then _ else _:Nat×List Nat).2;rw [if_neg (fun h=>HNZ.o h.1)];exact HKV.o
      by_cases hm0:mi=0
      ·subst hm0;go_wp2_with fail;go_roundg g2
       case measure=>omega
       case rel=>exact ⟨j+1,x10,1,va,n,c,by omega,rfl,rfl,by first | rfl | simp,by go_num,HSTEP.o,by have h9:=HMI.o;show _=mis a j+_;rw [<-h9,if_neg HNZ.o],by decide,HKV9.o,HB3.o⟩
      ·have hm9:mi=1:=by omega
       subst hm9;go_wp2_with fail;go_roundg g
       case measure=>omega
       case rel=>exact ⟨r+1,p1,t1,by omega,by go_num,by rw [HDE.o];exact dec_p HA.o HT1.o HP1.o (aHn HMI.o.symm HNZ.o (by omega)),HPK1.o,HOK1.o,HK2.o.later HB3.o⟩
theorem mis3 (a:Nat->An):mis a 3=(if (a 0).e=0 then 0 else 1)+(if (a 1).e=0 then 0 else 1)+(if (a 2).e=0 then 0 else 1):=by
 show 0+(if (a 0).e=0 then 0 else 1)+(if (a 1).e=0 then 0 else 1)+(if (a 2).e=0 then 0 else 1)=_;rw [Nat.zero_add]
theorem aC2 {a:Nat->An} (h:¬ 2<=mis a 3):((a 0).e=0/\(a 1).e=0)\/((a 0).e=0/\(a 2).e=0)\/((a 1).e=0/\(a 2).e=0):=by
 rw [mis3] at h;by_cases c0:(a 0).e=0<;>by_cases c1:(a 1).e=0<;>by_cases c2:(a 2).e=0<;>simp [c0,c1,c2] at h ⊢
theorem aG9 {p q:Nat->Prop} (hp:(p 0/\p 1)\/(p 0/\p 2)\/(p 1/\p 2)) (hq:(q 0/\q 1)\/(q 0/\q 2)\/(q 1/\q 2)):∃ i,i<3/\p i/\q i:=by
 rcases hp with ⟨h1,h2⟩ | ⟨h1,h2⟩ | ⟨h1,h2⟩<;>rcases hq with ⟨k1,k2⟩ | ⟨k1,k2⟩ | ⟨k1,k2⟩<;>first | exact ⟨0,by omega,by assumption,by assumption⟩ | exact ⟨1,by omega,by assumption,by assumption⟩ | exact ⟨2,by omega,by assumption,by assumption⟩
theorem rK_ge (k:Bool) (b:Nat) (val:List Nat) (r:Rec):r.1<=(rK k b val r).1:=by
 unfold rK
 split<;>split<;>first | exact nR _ | assumption | exact Nat.le_of_lt (by assumption)
theorem rK_f2 (b:Nat) (val:List Nat) (r:Rec):(rK false b val r).2=r.2:=by
 unfold rK;simp only [Bool.false_eq_true,if_false]
 split<;>rfl
theorem aK_t2 {b:Nat} (h:(aK true b (rK true b val r)).e=0):(aK true b r).e=0:=by
 unfold aK rK at h;unfold aK;simp only [if_true] at h ⊢;by_cases c:r.1<=b
 ·rw [if_pos c]
 ·rw [if_neg c,if_neg c] at h;rw [if_neg c];exact h
theorem aK_f2 {b:Nat}:(aK false b (rK false b val r)).e≠0:=by
 unfold aK rK;simp only [Bool.false_eq_true,if_false];by_cases c:r.1<b
 ·rw [if_pos c,if_neg (Nat.lt_irrefl _)];exact fun h=>absurd (show (41:Int)=0 from h) (by decide)
 ·rw [if_neg c,if_neg c];exact fun h=>absurd (show (41:Int)=0 from h) (by decide)
theorem aK_t0 {b:Nat} {r':Rec} (h:(aK true b r).e=0) (h':(aK true b r').e=0):aK true b r=aK true b r':=by
 unfold aK at h h' ⊢;simp only [if_true] at h h' ⊢
 split at h
 ·split at h'
  ·rw [if_pos (by assumption),if_pos (by assumption)]
  ·cases h'
 ·cases h
def Did (k:Bool) (b:Nat) (val:List Nat) (r r':Rec) (a:An):Prop:=(r'=r\/r'=rK k b val r)/\(a.e=0->a=aK k b r/\r'=rK k b val r)
theorem stp_did (v:Nat) (k:Bool) (b:Nat) (val:List Nat) (i:Nat) (s:Mt):Did k b val (s.R i) ((stp v k b val i s).2.R i) (stp v k b val i s).1/\∀ j,j≠i->(stp v k b val i s).2.R j=s.R j:=by
 have u1:∀ x:Rec,upS s.R i x i=x:=fun x=>if_pos rfl
 have u2:∀ (x:Rec) j,j≠i->upS s.R i x j=s.R j:=fun x j h=>if_neg h
 unfold stp;split
 ·exact ⟨⟨Or.inr (u1 _),fun _=>⟨rfl,u1 _⟩⟩,u2 _⟩
 split
 ·exact ⟨⟨Or.inl rfl,fun h=>absurd (show (40:Int)=0 from h) (by decide)⟩,fun _ _=>rfl⟩
 split
 ·exact ⟨⟨Or.inr (u1 _),fun h=>absurd (show (40:Int)=0 from h) (by decide)⟩,u2 _⟩
 split
 ·exact ⟨⟨Or.inl rfl,fun h=>absurd (show (40:Int)=0 from h) (by decide)⟩,fun _ _=>rfl⟩
 ·refine ⟨⟨Or.inr ((u1 _).trans (rK_rK _ _ _ _)),fun h=>?_⟩,u2 _⟩;refine ⟨?_,(u1 _).trans (rK_rK _ _ _ _)⟩
  cases k with
  | false=>exact absurd h aK_f2
  | true=>exact aK_t0 h (aK_t2 h)
theorem aH5 (v:Nat) (k:Bool) (b:Nat) (val:List Nat) (s:Mt):∀ j i,(j<=i->(akS v k b val s j).R i=s.R i)/\(i<j->Did k b val (s.R i) ((akS v k b val s j).R i) (akA v k b val s i))
 | 0,i=>⟨fun _=>rfl,fun h=>absurd h (Nat.not_lt_zero i)⟩
 | j+1,i=>by
  obtain ⟨h1,h2⟩:=aH5 v k b val s j i
  obtain ⟨h3,h4⟩:=stp_did v k b val j (akS v k b val s j)
  refine ⟨fun h=>(h4 i (by omega)).trans (h1 (by omega)),fun h=>?_⟩
  by_cases c:i=j
  ·subst c
   rw [h1 (nR _)] at h3
   exact h3
  ·show Did k b val (s.R i) ((stp v k b val j (akS v k b val s j)).2.R i) _
   rw [h4 i c]
   exact h2 (by omega)
theorem aDd (v:Nat) (k:Bool) (b:Nat) (val:List Nat) (s:Mt) {i:Nat} (hi:i<3):Did k b val (s.R i) ((akS v k b val s 3).R i) (akA v k b val s i):=(aH5 v k b val s 3 i).2 hi
theorem aBd {v:Nat} {k:Bool} {b:Nat} {val:List Nat} {s:Mt} (hF:s.F=[]):∀ j,(akS v k b val s j).F=[]/\(akS v k b val s j).l=s.l
 | 0=>⟨hF,rfl⟩
 | j+1=>by
  obtain ⟨h1,h2⟩:=aBd (v:=v) (k:=k) (b:=b) (val:=val) hF j
  have h3:fv (akS v k b val s j).F=0:=by rw [h1];rfl
  show (stp v k b val j (akS v k b val s j)).2.F=[]/\(stp v k b val j (akS v k b val s j)).2.l=s.l;unfold stp;rw [if_pos h3];exact ⟨by show (akS v k b val s j).F.tail=[];rw [h1];rfl,h2⟩
theorem aB8 {v:Nat} {k:Bool} {b:Nat} {s:Mt} (hF:s.F=[]) (i:Nat):akA v k b val s i=aK k b (s.R i):=by
 have h3:fv (akS v k b val s i).F=0:=by rw [(aBd hF i).1];rfl
 unfold akA stp;rw [if_pos h3,(aH5 v k b val s i i).1 (nR _)]
theorem aCx {v:Nat} {k:Bool} {b:Nat} {val:List Nat} {s:Mt} (hF:s.F=[]):∀ j i,i<j->(akS v k b val s j).R i=rK k b val (s.R i)
 | 0,i,h=>absurd h (Nat.not_lt_zero i)
 | j+1,i,h=>by
  have h3:fv (akS v k b val s j).F=0:=by rw [(aBd hF j).1];rfl
  by_cases c:i=j
  ·subst c;show (stp v k b val i (akS v k b val s i)).2.R i=_;unfold stp;rw [if_pos h3,(aH5 v k b val s i i).1 (nR _)];exact if_pos rfl
  ·show (stp v k b val j (akS v k b val s j)).2.R i=_;rw [(stp_did v k b val j _).2 i c];exact aCx hF j i (by omega)
theorem akS_late (v:Nat) (k:Bool) (b:Nat) (val:List Nat) (s:Mt):∀ j,∀ x∈(akS v k b val s j).l,x∈s.l\/∃ i,i<j/\x=⟨i,kd k,(v:Int),(b:Int),val⟩
 | 0,x,h=>Or.inl h
 | j+1,x,h=>by
  have h':x∈(stp v k b val j (akS v k b val s j)).2.l:=h
  have h1:x∈(akS v k b val s j).l\/x=⟨j,kd k,(v:Int),(b:Int),val⟩:=by
   unfold stp at h'
   split at h'
   ·exact Or.inl h'
   split at h'
   ·exact Or.inl h'
   split at h'
   ·exact Or.inl h'
   split at h'
   ·have h9:x∈(akS v k b val s j).l++[⟨j,kd k,(v:Int),(b:Int),val⟩]:=h';rcases List.mem_append.1 h9 with q | q
    ·exact Or.inl q
    ·exact Or.inr (List.mem_singleton.1 q)
   ·exact Or.inl h'
  rcases h1 with q | q
  ·rcases akS_late v k b val s j x q with q | ⟨i,q1,q2⟩
   ·exact Or.inl q
   ·exact Or.inr ⟨i,by omega,q2⟩
  ·exact Or.inr ⟨j,by omega,q⟩
theorem prj_ge {a:Nat->An} {p:Nat}:∀ j i,i<j->(a i).tl<=prj a p j
 | 0,i,h=>absurd h (Nat.not_lt_zero i)
 | j+1,i,h=>by
  show _<=max (prj a p j) (a j).tl
  by_cases c:i=j
  ·subst c
   exact Nat.le_max_right _ _
  ·exact nT (prj_ge j i (by omega)) (Nat.le_max_left _ _)
theorem aK_f_tl (b:Nat) (val:List Nat) (r:Rec):(rK false b val r).1=(aK false b r).tl:=by
 unfold rK aK;simp only [Bool.false_eq_true,if_false]
 split<;>rfl
theorem aEo {b:Nat}:(aK false b r).e=0↔r.1<b:=by
 unfold aK;simp only [Bool.false_eq_true,if_false];split
 ·exact ⟨fun _=>by assumption,fun _=>rfl⟩
 ·exact ⟨fun h=>absurd (show (41:Int)=0 from h) (by decide),fun h=>absurd h (by assumption)⟩
theorem aK_t_ok {b:Nat}:(aK true b r).e=0↔r.1<=b:=by
 unfold aK;simp only [if_true];split
 ·exact ⟨fun _=>by assumption,fun _=>rfl⟩
 ·exact ⟨fun h=>absurd (show (41:Int)=0 from h) (by decide),fun h=>absurd h (by assumption)⟩
theorem aF7 (b:Nat) (r:Rec):(aK false b r).bl=r.2.1/\(aK false b r).val=vlR r:=by
 unfold aK;simp only [Bool.false_eq_true,if_false]
 split<;>exact ⟨rfl,rfl⟩
theorem mis_le {a a':Nat->An} (h:∀ i,i<3->(a i).e=0->(a' i).e=0):mis a' 3<=mis a 3:=by
 rw [mis3,mis3];have h0:=h 0 (by omega);have h1:=h 1 (by omega);have h2:=h 2 (by omega);have q:∀ x y:Int,(x=0->y=0)->(if y=0 then 0 else 1)<=(if x=0 then (0:Nat) else 1):=by
  intro x y hxy;by_cases c:x=0
  ·rw [if_pos c,if_pos (hxy c)];exact nR _
  ·rw [if_neg c];split<;>omega
 exact Nat.add_le_add (Nat.add_le_add (q _ _ h0) (q _ _ h1)) (q _ _ h2)
theorem mis_zero {a:Nat->An} (h:∀ i,i<3->(a i).e=0):mis a 3=0:=by
 rw [mis3,if_pos (h 0 (by omega)),if_pos (h 1 (by omega)),if_pos (h 2 (by omega))]
section
variable {v who:Nat} {ov:List Nat}
theorem fair_one {s:Mt} (hF:s.F=[]) (h:¬ 2<=mis (akA v false (bal p who) [] s) 3):dec v who ov (g+1) s p=if (bst (akA v false (bal p who) [] s) ov 3).1=0/\ov.length=0 then (some none,akS v false (bal p who) [] s 3) else (some (some (bst (akA v false (bal p who) [] s) ov 3).2),akS v true (bal p who) (bst (akA v false (bal p who) [] s) ov 3).2 (akS v false (bal p who) [] s 3) 3):=by
 by_cases c:(bst (akA v false (bal p who) [] s) ov 3).1=0/\ov.length=0
 ·rw [if_pos c];exact dec_n rfl rfl h c
 ·rw [if_neg c];refine dec_d rfl rfl h c rfl rfl fun h2=>h (nT h2 (mis_le fun i hi he=>?_))
  rw [aB8 hF,aEo] at he;rw [aB8 (aBd hF 3).1,aK_t_ok,aCx hF 3 i hi];unfold rK;rw [if_neg (by decide),if_pos he];exact nR _
theorem aD5 {s:Mt} (hF:s.F=[]):∃ (p:Nat) (t:Mt),t.F=[]/\t.l=s.l/\(∀ i,i<3->(t.R i).2=(s.R i).2/\(s.R i).1<=(t.R i).1)/\(∀ i,t.m i<=s.m i+1)/\¬ 2<=mis (akA v false (bal p who) [] t) 3/\dec v who ov 3 s 0=if (bst (akA v false (bal p who) [] t) ov 3).1=0/\ov.length=0 then (some none,akS v false (bal p who) [] t 3) else (some (some (bst (akA v false (bal p who) [] t) ov 3).2),akS v true (bal p who) (bst (akA v false (bal p who) [] t) ov 3).2 (akS v false (bal p who) [] t 3) 3):=by
 by_cases c:2<=mis (akA v false (bal 0 who) [] s) 3
 ·have hF1:=aBd (v:=v) (k:=false) (b:=bal 0 who) (val:=[]) hF 3;have hR1:=aCx (v:=v) (k:=false) (b:=bal 0 who) (val:=[]) hF 3;have h0:¬ 2<=mis (akA v false (bal (prj (akA v false (bal 0 who) [] s) 0 3) who) [] (akS v false (bal 0 who) [] s 3)) 3:=by
   rw [mis_zero fun i hi=>?_]
   ·omega
   rw [aB8 hF1.1,aEo,hR1 i hi,aK_f_tl];have h9:=prj_ge (a:=akA v false (bal 0 who) [] s) (p:=0) 3 i hi;rw [aB8 hF] at h9;exact Nat.lt_of_le_of_lt h9 (bal_lt _ _)
  refine ⟨prj (akA v false (bal 0 who) [] s) 0 3,akS v false (bal 0 who) [] s 3,hF1.1,hF1.2,fun i hi=>?_,fun i=>?_,h0,?_⟩
  ·rw [hR1 i hi];exact ⟨rK_f2 _ _ _,rK_ge _ _ _ _⟩
  ·exact (akS_m (v:=v) (k:=false) (b:=bal 0 who) (val:=[]) (s:=s) 3 i).1
  ·rw [dec_p rfl rfl rfl c];exact fair_one hF1.1 h0
 ·exact ⟨0,s,hF,rfl,fun i hi=>⟨rfl,nR _⟩,fun i=>Nat.le_succ _,c,fair_one hF c⟩
theorem bst_own {a:Nat->An} {ov:List Nat} (h:∀ i,i<3->(a i).e=0->(a i).bl=0):bst a ov 3=(0,ov):=by
 have e1:∀ j,j<=3->bst a ov j=(0,ov):=by
  intro j
  induction j with
  | zero=>intro _;rfl
  | succ j ih =>
   intro hj;have h1:=ih (by omega);show (if _ then _ else _)=_;rw [h1,if_neg];rintro ⟨h2,h3⟩;rw [h j (by omega) h2] at h3;exact absurd h3 (Nat.lt_irrefl _)
 exact e1 3 (nR _)
theorem fair_own {s:Mt} (hF:s.F=[]) (h0:∀ i,i<3->(s.R i).2.1=0) (ho:ov.length≠0):(dec v who ov 3 s 0).1=some (some ov):=by
 obtain ⟨p,t,t1,t2,t3,_,t4,t5⟩:=aD5 (v:=v) (who:=who) (ov:=ov) hF;have hb:bst (akA v false (bal p who) [] t) ov 3=(0,ov):=bst_own fun i hi he=>by
  rw [aB8 t1,(aF7 _ _).1,(t3 i hi).1];exact h0 i hi
 rw [t5,hb,if_neg (fun h=>ho h.2)]
end
structure LI (K:Nat) (s:Mt):Prop where
 z:∀ i,i<3->(s.R i).2.1=0/\(s.R i).2.2=[]
 la:∀ x∈s.l,∃ i b:Nat,i<3/\1<=b/\b<=K/\x=⟨i,7,((1:Nat):Int),(b:Int),[]⟩
theorem LI.ask {b:Nat} {s:Mt} (h:LI K s) (hb:b<=K+8) (hb1:1<=b):LI (K+8) (akS 1 false b [] s 3):=by
 refine ⟨fun i hi=>?_,fun x hx=>?_⟩
 ·have h1:=(aDd 1 false b [] s hi).1;have h2:((akS 1 false b [] s 3).R i).2=(s.R i).2:=by
   rcases h1 with q | q
   ·rw [q]
   ·rw [q];exact rK_f2 _ _ _
  rw [h2];exact h.z i hi
 ·rcases akS_late 1 false b [] s 3 x hx with q | ⟨i,q1,q2⟩
  ·obtain ⟨i,b',h1,h2,h3,h4⟩:=h.la x q;exact ⟨i,b',h1,h2,by omega,h4⟩
  ·exact ⟨i,b,q1,hb1,hb,q2⟩
theorem LI.learn [WF] (hw:who<=3):∀ (g K m p:Nat) (s:Mt),LI K s->MtOk K m s->p<=K->((dec 1 who [] g s p).1=none\/(dec 1 who [] g s p).1=some none)/\LI (K+8*g) (dec 1 who [] g s p).2/\MtOk (K+8*g) (m+g) (dec 1 who [] g s p).2
 | 0,K,m,p,s,h,ho,hp=>⟨Or.inl rfl,h,ho⟩
 | g+1,K,m,p,s,h,ho,hp=>by
  have hb:=bal_le hp hw
  have hb1:1<=bal p who:=by have:=bal_lt p who;omega
  have h1:=h.ask hb hb1;have h2:MtOk (K+8) (m+1) (akS 1 false (bal p who) [] s 3):=ho.ask (k:=false) hb (Nat.zero_le _);have hz:∀ i,i<3->(akA 1 false (bal p who) [] s i).e=0->(akA 1 false (bal p who) [] s i).bl=0:=fun i hi he=>by
   rw [((aDd 1 false (bal p who) [] s hi).2 he).1,(aF7 _ _).1];exact (h.z i hi).1
  by_cases c:2<=mis (akA 1 false (bal p who) [] s) 3
  ·rw [dec_p rfl rfl rfl c];have h3:=LI.learn hw g (K+8) (m+1) (prj (akA 1 false (bal p who) [] s) p 3) (akS 1 false (bal p who) [] s 3) h1 h2 (aGm (by omega) 3 fun i hi=>(akA_ok (K:=K+8) (fun i hi=>⟨by have:=(ho.r i hi).1;omega,(ho.r i hi).2⟩) ho.f hb (Nat.zero_le _) i hi).1);rw [show K+8+8*g=K+8*(g+1) by omega,show m+1+g=m+(g+1) by omega] at h3;exact h3
  ·rw [dec_n rfl rfl c (by rw [bst_own hz];exact ⟨rfl,rfl⟩)];refine ⟨Or.inr rfl,⟨h1.z,fun x hx=>?_⟩,⟨fun i hi=>⟨nT (h2.r i hi).1 (by omega),(h2.r i hi).2⟩,h2.f,fun i hi=>nT (h2.m i hi) (by omega),h2.k⟩⟩;obtain ⟨i,b',q1,q2,q3,q4⟩:=h1.la x hx;exact ⟨i,b',q1,q2,by omega,q4⟩
theorem MtOk.up [WF] {K' m m':Nat} {s:Mt} (h:MtOk K m s) (hK:K<=K') (hm:m<=m'):MtOk K' m' s:=⟨fun i hi=>⟨nT (h.r i hi).1 hK,(h.r i hi).2⟩,h.f,fun i hi=>nT (h.m i hi) hm,h.k⟩
theorem dec_ok [WF] {v who:Nat} {ov:List Nat} (hw:who<=3) (ho:ov.length<=1800):∀ (g K m p:Nat) (s:Mt),MtOk K m s->p<=K->MtOk (K+16*g) (m+5*g) (dec v who ov g s p).2
 | 0,K,m,p,s,h,hp=>h
 | g+1,K,m,p,s,h,hp=>by
  have hb:=bal_le hp hw
  have h1:MtOk (K+8) (m+1) (akS v false (bal p who) [] s 3):=h.ask (k:=false) hb (Nat.zero_le _)
  have hA:∀ i,i<3->(akA v false (bal p who) [] s i).tl<=K+8/\(akA v false (bal p who) [] s i).val.length<=1800:=akA_ok (K:=K+8) (fun i hi=>⟨by have:=(h.r i hi).1;omega,(h.r i hi).2⟩) h.f hb (Nat.zero_le _)
  have hp1:prj (akA v false (bal p who) [] s) p 3<=K+8:=aGm (by omega) 3 fun i hi=>(hA i hi).1
  have hbv:(bst (akA v false (bal p who) [] s) ov 3).2.length<=1800:=bst_le ho 3 fun i hi=>(hA i hi).2
  by_cases c:2<=mis (akA v false (bal p who) [] s) 3
  ·rw [dec_p rfl rfl rfl c]
   exact (dec_ok hw ho g (K+8) (m+1) _ _ h1 hp1).up (by omega) (by omega)
  ·by_cases hno:(bst (akA v false (bal p who) [] s) ov 3).1=0/\ov.length=0
   ·rw [dec_n rfl rfl c hno]
    exact h1.up (by omega) (by omega)
   ·have h2:MtOk (K+16) (m+5) (akS v true (bal p who) (bst (akA v false (bal p who) [] s) ov 3).2 (akS v false (bal p who) [] s 3) 3):=h1.ask (k:=true) (by omega) hbv
    by_cases c2:2<=mis (akA v true (bal p who) (bst (akA v false (bal p who) [] s) ov 3).2 (akS v false (bal p who) [] s 3)) 3
    ·rw [dec_a rfl rfl rfl c hno rfl rfl rfl c2]
     refine (dec_ok hw ho g (K+16) (m+5) _ _ h2 (aGm (by omega) 3 fun i hi=>?_)).up (by omega) (by omega)
     exact nT (akA_ok (K:=K+8) h1.r h1.f hb hbv i hi).1 (by omega)
    ·rw [dec_d rfl rfl c hno rfl rfl c2]
     exact h2.up (by omega) (by omega)
theorem aFj {P:Program} (w:World) (t ty e:TypeId) (i:TypeInfo) (ht:P.underlying t=some (.slice e)) (hi:P.info? e=some i) (a:Option Addr) (n c:Nat) (h:n<=c) (sa:Option Addr) (sc:Nat):(Builtin.append_ #[t,t] ty #[.slice a n c,.slice sa 0 sc]).run P w=.ok (.slice a n c) w:=by
 cases a<;>cases sa<;>simp [Builtin.append_,run_underlying ht,sizeOf,typeInfo,hi,Builtin.lenOf,h,Builtin.firstCells,loadCells,loadCellsFrom,storeCells]
theorem aDf {P:Program} (w:World) {ops:Array Oper} {rest:List Oper} {o:Oper} {a:Act} {Q:Exit->Act->World->Prop} (hg:o.guard=none) (s x:Operand) (t:TypeId) (hop:o.op=Op.call { callee:=Callee.builtin Builtin.append,args:=#[s,x],argTypes:=#[t,t] }) (e:TypeId) (i:TypeInfo) (h1:P.underlying t=some (.slice e)) (h2:P.info? e=some i) (ao:Option Addr) (n cap:Nat) (hs:a.eval s=.slice ao n cap) (hn:n<=cap) (sa:Option Addr) (sc:Nat) (hx:a.eval x=.slice sa 0 sc) (hK:wpList P ops Q rest (a.put o.dst (.slice ao n cap)) w):wpList P ops Q (o::rest) a w:=by
 refine wpList_plain hg fun K hK'=>?_
 have hrun:=aFj (P:=P) w t o.type e i h1 h2 ao n cap hn sa sc;unfold Oper.wp;simp [execOp,hop,resolve,invoke,builtin,hs,hx,hrun,Result.andThen];exact hK' _ _ hK
theorem weather_zero {n sc:Nat} {sa:Option Addr} (h:NTM w nt gh M (.slice a n c) lv) (hn:n<=c) :
  Calls prog 6 #[.pointer (some ⟨nt,0,none⟩),.slice sa 0 sc] w fun e w'=>e=.returned (.tuple #[])/\w'=w.setCell ⟨nt,1,none⟩ (.slice a n c):=by
 obtain ⟨i0,hi,hz0,hz1,hz2⟩:=info_parts aD2;have c1:w.cell? ⟨nt,1,none⟩=some (.slice a n c):=aAa h;have f1:w.frozen? ⟨nt,1,none⟩=false:=aAb h;clear h;go_enter func6,ntmps6;go_wp2_with (at_builtin;refine aDf _ rfl (.tmp 8) (.tmp 9) 38 rfl 3 i0 underlying38 hi a n c rfl hn sa sc rfl ?_);(try simp only [Exit.inBlock,Exit.then]);exact bodyPost_end (results_none rfl _ _ _) rfl ⟨rfl,rfl⟩
section
variable {B N nt gh v:Nat} {P:Nat->NdP} {s:Mt} {W w:World}
theorem HN.weather0 (h:HN B N nt gh v P s W w) {sa:Option Addr} {sc:Nat} :
  Calls prog 6 #[.pointer (some ⟨nt,0,none⟩),.slice sa 0 sc] w fun e w'=>e=.returned (.tuple #[])/\HN B N nt gh v P s W w'/\NsF B w w':=by
 obtain ⟨A,wv,hh,k2⟩:=h;obtain ⟨a,c,rfl,r1,r2,r3⟩:=hh.f;obtain ⟨lv,k1,kl⟩:=hh.n;obtain ⟨hc,k3,k4⟩:=hh.h;refine (weather_zero (sa:=sa) (sc:=sc) k1 r1).mono ?_;rintro e w' ⟨rfl,rfl⟩;have hb:Below B w (w.setCell ⟨nt,1,none⟩ (.slice a s.F.length c)):=(Below.refl _ _).setCell (p:=⟨nt,1,none⟩) hh.b _;have st:∀ {k:Nat} {cs:Array Value} {t:TypeId} {fz:Nat×Nat},w.heap[k]?=some (Obj.cells cs t fz)->t≠45->(w.setCell ⟨nt,1,none⟩ (.slice a s.F.length c)).heap[k]?=some (Obj.cells cs t fz):=fun e ht=>(heap_setCell_other _ _ _ _ (aAs e (show w.heap[nt]?=_ from k1) ht)).trans e
 have hm:=hh.m.oth (fun k=>k=nt) (ntT k1) (fun k _ hk=>heap_setCell_other _ _ _ _ hk) hb;refine ⟨rfl,⟨A,_,⟨hm,?_,⟨lv,heap_setCell_same _ _ _ _ _ _ k1,kl.keep (fun k cs e=>st e (by decide)) ⟨hb,fun k cs fz e=>st e (by decide)⟩⟩,⟨hc,st k3 (by decide),k4⟩,hh.b,nT hh.bw hb.size⟩,k2⟩,hb,fun k cs t fz e _ _ _ _ n5=>st e n5.1⟩;refine ⟨a,c,rfl,r1,r2,fun hc0=>?_⟩;obtain ⟨g,o,cs,e1,e2,e3,e4⟩:=r3 hc0;exact ⟨g,o,cs,e1,e2,st e3 (by decide),e4⟩
theorem HN.late (h:HN B N nt gh v P s W w) (hl6:s.l.length<=64) (hvl:∀ x∈s.l,x.val.length<=100000) :
  Calls prog 14 #[.pointer (some ⟨nt,0,none⟩)] w fun e w'=>(∃ g,e=.returned (.slice (some ⟨g,0,none⟩) s.l.length s.l.length))/\Below w.heap.size w w':=by
 obtain ⟨A,wv,hh,k2⟩:=h;refine (hh.late hl6 hvl).mono ?_;rintro e w' ⟨g,cs,rfl,_,_,_,q⟩;exact ⟨⟨g,rfl⟩,q⟩
theorem HN.deliver0 {b:Nat} {l':List LR} (h:HN B N nt gh 1 P s W w) (hl:s.l=⟨i,7,((1:Nat):Int),(b:Int),[]⟩::l') (hi:i<3) (hb1:1<=b) (hb2:b<9223372036854775808) (hm:s.m i<=83) (hN:s.m i+34<=N) (h64:s.l.length<=64) :
  Calls prog 15 #[.pointer (some ⟨nt,0,none⟩),.int .i64 0] w fun e w'=>e=.returned (.int .i64 0)/\HN B N nt gh 1 P ⟨s.F,upS s.R i (rK false b [] (s.R i)),l',upS s.m i (s.m i+1)⟩ W w'/\NsF B w w':=by
 obtain ⟨A,wv,hh,k2⟩:=h;obtain ⟨⟨R,hR,hRv⟩,hAm⟩:=k2 i hi;have hx:s.l[0]?=some ⟨i,7,((1:Nat):Int),(b:Int),[]⟩:=by rw [hl];rfl
 have hE:s.l.eraseIdx 0=l':=by rw [hl];rfl
 by_cases c:(R 1).1<b
 ·refine (hh.deliver (i:=0) (y:=⟨(A i).m+1,lP (A i).l R 1 b,(A i).L⟩) h64 hx hi (by decide) (show ¬ (0:Int)=20 by decide) (fun ww va cp _ hk=>dt_prep hR (by decide) hb1 hb2 c (show (A i).m+30<=N by omega) (show (A i).m<=87 by omega) (Nat.zero_le _))).mono ?_;rintro e w' ⟨rfl,q1,q2⟩;rw [hE] at q1;refine ⟨rfl,⟨_,wv,q1,aDs k2 ⟨_,hR.prep (hh.srt hi) (by decide) hb1 hb2 c,?_⟩ (show (A i).m+1<=s.m i+1 by omega)⟩,q2⟩;rw [<-hRv];unfold rK;rw [if_neg (by decide),if_pos c];exact if_pos rfl
 ·refine (hh.deliver (i:=0) (y:=A i) h64 hx hi (by decide) (show ¬ (41:Int)=20 by decide) (fun ww va cp _ hk=>dt_prepl hR (by decide) hb1 hb2 (by omega) (Nat.zero_le _))).mono ?_;rintro e w' ⟨rfl,q1,q2⟩;rw [hE] at q1;refine ⟨rfl,⟨_,wv,q1,aDs k2 ⟨R,hR,?_⟩ (show (A i).m<=s.m i+1 by omega)⟩,q2⟩;rw [<-hRv];unfold rK;rw [if_neg (by decide),if_neg c]
end
instance wfL:WF:=⟨fun _=>True,fun _ _=>trivial⟩
instance wcL:WC:=⟨fun h _ hx hi hv hb1 hb2 hk hn hm hN hl=>h.call34 hx hi hv hb1 hb2 hk hn hm hN hl⟩
theorem stp_lf (v:Nat) (k:Bool) (b:Nat) (val:List Nat) (i:Nat) (s:Mt):(stp v k b val i s).2.l.length+(stp v k b val i s).2.F.length<=s.l.length+s.F.length:=by
 have h1:=tail_len s.F;have h4:fv s.F≠0->s.F.tail.length+1=s.F.length:=by
  intro h9
  cases hF:s.F with
  | nil=>rw [hF] at h9;exact absurd rfl h9
  | cons z F=>simp
 unfold stp;split
 ·show s.l.length+s.F.tail.length<=_;omega
 split
 ·show s.l.length+s.F.tail.length<=_;omega
 split
 ·show s.l.length+s.F.tail.length<=_;omega
 split
 ·rename_i h5 _ _ _
  have h6:=h4 h5;show (s.l++[_]).length+s.F.tail.length<=_;rw [lA,List.length_singleton];omega
 ·show s.l.length+s.F.tail.length<=_;omega
theorem aF6 (v:Nat) (k:Bool) (b:Nat) (val:List Nat) (s:Mt):∀ j,(akS v k b val s j).l.length+(akS v k b val s j).F.length<=s.l.length+s.F.length
 | 0=>nR _
 | j+1=>nT (stp_lf v k b val j _) (aF6 v k b val s j)
theorem dec_lf {v who:Nat} {ov:List Nat}:∀ (g p:Nat) (s:Mt),(dec v who ov g s p).2.l.length+(dec v who ov g s p).2.F.length<=s.l.length+s.F.length
 | 0,p,s=>nR _
 | g+1,p,s=>by
  by_cases c:2<=mis (akA v false (bal p who) [] s) 3
  ·rw [dec_p rfl rfl rfl c]
   exact nT (dec_lf g _ _) (aF6 v false _ _ s 3)
  ·by_cases hno:(bst (akA v false (bal p who) [] s) ov 3).1=0/\ov.length=0
   ·rw [dec_n rfl rfl c hno]
    exact aF6 v false _ _ s 3
   ·by_cases c2:2<=mis (akA v true (bal p who) (bst (akA v false (bal p who) [] s) ov 3).2 (akS v false (bal p who) [] s 3)) 3
    ·rw [dec_a rfl rfl rfl c hno rfl rfl rfl c2]
     exact nT (dec_lf g _ _) (nT (aF6 v true _ _ _ 3) (aF6 v false _ _ s 3))
    ·rw [dec_d rfl rfl c hno rfl rfl c2]
     exact nT (aF6 v true _ _ _ 3) (aF6 v false _ _ s 3)
def bb (rp who:Nat):Nat:=if rp<bal 0 who then bal 0 who else bal rp who
theorem aGq {ver:Nat} (h1:1<=ver) (h2:ver<=16) (h3:who<=3):Calls prog 19 #[.pointer (some ⟨nt,0,none⟩),.int .i64 (ver:Int),.int .i64 (who:Int)] w fun e w'=>e=.returned (.bool true)/\w'=w:=by
 have i1:(1:Int)<=(ver:Int):=by omega
 have i2:(ver:Int)<=16:=by omega
 have HIS:=zH (aEv (who:Int) w (by omega) (by omega));clear h1 h2 h3;go_enter func19,ntmps19;go_wp2_with fail;refine HIS.o.mono ?_;rintro e w2 ⟨rfl,hw⟩;have hw:=hw.symm;subst hw;go_wp2;go_ret;exact ⟨rfl,rfl⟩
theorem AsF.nsf {w1 w2:World} (h1:Below w.heap.size w w1) (hB:B<=w.heap.size) (h2:AsF B gb w1 w2) (hg:w.heap.size<=gb):NsF B w w2:=by
 have h3:=NsF.of h1 hB;exact ⟨h3.1.trans h2.1,fun k cs t fz e n1 n2 n3 n4 n5=>h2.2 k cs t fz (h3.2 k cs t fz e n1 n2 n3 n4 n5) n1 n2 n3 n4 n5 (by have:=(lO e);omega)⟩
theorem enC_pos {l:List Sg} (h:CH l):1<=(enC l).length:=by
 unfold enC;rw [lA,aAj _ (aAi l.length (by have:=h.n2;omega)).1];have:=(aAi l.length (by have:=h.n2;omega)).1;omega
section
variable {B N nt gh ver who mm:Nat} {P:Nat->NdP} {lr:List LR} {R:Nat->Rec} {W w:World}
end
section
variable {B N nt gh ver who m K:Nat} {P:Nat->NdP} {s:Mt} {W w:World}
def PrE (r:Option (Option (List Nat))) (Lx:List Sg) (e:Ending) (w':World):Prop:=(r=none/\e=.returned (.tuple #[.slice none 0 0,.int .i64 40]))\/(r=some (some (enC Lx))/\∃ v',e=.returned (.tuple #[v',.int .i64 0])/\SGV w' v' Lx)
theorem HN.propose [WF] [WC] {L Lx:List Sg} (h:HN B N nt gh ver P s W w) (hok:MtOk K m s) (hl:SGV w v L) (hc:CH L) (hx:CH Lx) (hr:(dec ver who (enC L) 3 s 0).1=none\/(dec ver who (enC L) 3 s 0).1=some (some (enC Lx))) (h1:1<=ver) (h2:ver<=16) (h3:who<=3) (hK:K<=1000000000) (hm:m<=69) (hN:m+49<=N) :
  Calls prog 8 #[.pointer (some ⟨nt,0,none⟩),.int .i64 (ver:Int),.int .i64 (who:Int),v] w fun e w'=>PrE (dec ver who (enC L) 3 s 0).1 Lx e w'/\HN B N nt gh ver P (dec ver who (enC L) 3 s 0).2 W w'/\NsF B w w':=by
 have HEN:=zH (encode_ok (B:=B) hl hc);have HM:=zH h;have HX:=zH hx;have HRR:=zH hr;have HAL:=zH hc.all;have HMB:=zH (fun ww=>aGq (w:=ww) (nt:=nt) h1 h2 h3);have HDF:=zH (fun (ww:World) (gb on oc:Nat) (oa:Option Addr) (q1:HN B N nt gh ver P s W ww) (q2:ww.heap[gb]?=some (.cells #[.pointer (some ⟨nt,0,none⟩),.int .i64 (ver:Int),.int .i64 (who:Int),.int .i64 0] 60 (0,0))) (q3:B<=gb) (q4:BK B ww oa on oc (enC L)) (q5:on<=1800)=>aGz q1 hok q2 q3 h2 h3 hK hm hN q4 q5);obtain ⟨g,c,cs,rfl,_⟩:=hl;clear h hc hx hr h1 h2 h3 hok hm hN hK;generalize (dec ver who (enC L) 3 s 0)=dd at *
 generalize hln:(enC L).length=ln at *
 have HLN:=zH hln;clear hln;generalize L.length=n at *
 go_enter func8,ntmps8;go_wp2_with fail;refine HEN.o.mono ?_;rintro e w1 ⟨⟨a,oc,rfl,hk1⟩,hb1⟩;have HK1:=zH hk1;have HB1:=zH hb1;have HM1:=zH (HM.o.later hb1);clear hk1 hb1 HEN;go_wp2_with fail;refine (HMB.o w1).mono ?_;rintro e w1' ⟨rfl,hw⟩;have hw:=hw.symm;subst hw;have HBA:=zH (aAc w1 (.cells #[.pointer (some ⟨nt,0,none⟩),.int .i64 (ver:Int),.int .i64 (who:Int),.int .i64 0] 60));have HGB:Hid ((w1.alloc (.cells #[.pointer (some ⟨nt,0,none⟩),.int .i64 (ver:Int),.int .i64 (who:Int),.int .i64 0] 60)).heap[w1.heap.size]?=some (.cells #[.pointer (some ⟨nt,0,none⟩),.int .i64 (ver:Int),.int .i64 (who:Int),.int .i64 0] 60 (0,0))):=heap_alloc_new w1 _;have HD:=zH (HDF.o _ _ _ _ _ (HM1.o.later HBA.o) HGB.o HM1.o.bw (HK1.o.later HBA.o HM1.o.bw) (by have:=HAL.o;omega));have HB2:Hid (Below w.heap.size w (w1.alloc (.cells #[.pointer (some ⟨nt,0,none⟩),.int .i64 (ver:Int),.int .i64 (who:Int),.int .i64 0] 60))):=HB1.o.trans (HBA.o.mono HB1.o.size);clear HMB HDF HK1 HM1 HBA HGB;go_wp2_with fail;refine HD.o.mono ?_;rintro e w3 ⟨hf,hm3,hd⟩;have HF3:Hid (NsF B w w3):=AsF.nsf HB2.o HM.o.bw hf HB1.o.size;have HM3:=zH hm3;rcases HRR.o with hn | hs
 ·have he:=hd.1 hn;subst he;have HNO:=zH hn;clear hf hm3 HD HB2 hd hn;go_wp2;go_ret2;exact ⟨Or.inl ⟨HNO.o,rfl⟩,HM3.o,HF3.o⟩
 ·obtain ⟨xa,xc,rfl,hk3⟩:=hd.2.2 _ hs;have HSO:=zH hs;have HDC:=zH (decode_ok hk3.1 HX.o);clear hf hk3 hm3 HD HB2 hd hs;generalize (enC Lx).length=xn at HDC ⊢;go_wp2_with fail;refine HDC.o.mono ?_;rintro e w4 ⟨⟨v',rfl,hs4⟩,hb4⟩;have HS4:=zH hs4;have HM4:=zH (HM3.o.later hb4);have HF4:=zH (HF3.o.trans (NsF.of hb4 HM3.o.bw));clear hs4 hb4 HDC;go_wp2;go_ret2;exact ⟨Or.inr ⟨HSO.o,v',rfl,HS4.o⟩,HM4.o,HF4.o⟩
def LnE (r:Option (Option (List Nat))) (Lx:List Sg) (e:Ending) (w':World):Prop:=(r=none/\e=.returned (.tuple #[.slice none 0 0,.bool false,.int .i64 40]))\/(r=some none/\e=.returned (.tuple #[.slice none 0 0,.bool false,.int .i64 0]))\/(r=some (some (enC Lx))/\∃ v',e=.returned (.tuple #[v',.bool true,.int .i64 0])/\SGV w' v' Lx)
theorem HN.learn [WF] [WC] {Lx:List Sg} (h:HN B N nt gh ver P s W w) (hok:MtOk K m s) (hx:CH Lx) (hr:(dec ver who [] 3 s 0).1=none\/(dec ver who [] 3 s 0).1=some none\/(dec ver who [] 3 s 0).1=some (some (enC Lx))) (h1:1<=ver) (h2:ver<=16) (h3:who<=3) (hK:K<=1000000000) (hm:m<=69) (hN:m+49<=N) :
  Calls prog 11 #[.pointer (some ⟨nt,0,none⟩),.int .i64 (ver:Int),.int .i64 (who:Int)] w fun e w'=>LnE (dec ver who [] 3 s 0).1 Lx e w'/\HN B N nt gh ver P (dec ver who [] 3 s 0).2 W w'/\NsF B w w':=by
 have HM:=zH h;have HX:=zH hx;have HRR:=zH hr;have HMB:=zH (aGq (w:=w) (nt:=nt) h1 h2 h3);have HBA:=zH (aAc w (.cells #[.pointer (some ⟨nt,0,none⟩),.int .i64 (ver:Int),.int .i64 (who:Int),.int .i64 0] 60));have HD:=zH (aGz (oa:=none) (on:=0) (oc:=0) (ov:=[]) (h.later HBA.o) hok (heap_alloc_new w (.cells #[.pointer (some ⟨nt,0,none⟩),.int .i64 (ver:Int),.int .i64 (who:Int),.int .i64 0] 60)) h.bw h2 h3 hK hm hN (BK.nil _ _) (by decide));clear h hx hr h1 h2 h3 hok hm hN hK;generalize (dec ver who [] 3 s 0)=dd at *
 go_enter func11,ntmps11;go_wp2_with fail;refine HMB.o.mono ?_;rintro e w1 ⟨rfl,hw⟩;have hw:=hw.symm;subst hw;clear HMB;go_wp2_with fail;refine HD.o.mono ?_;rintro e w3 ⟨hf,hm3,hd⟩;have HM3:=zH hm3;have HF3:Hid (NsF B w w3):=AsF.nsf HBA.o HM.o.bw hf (nR _);rcases HRR.o with hn | hn | hs
 ·have he:=hd.1 hn;subst he;have HNO:=zH hn;clear hf hm3 HD hd hn;go_wp2;go_ret3;exact ⟨Or.inl ⟨HNO.o,rfl⟩,HM3.o,HF3.o⟩
 ·have he:=hd.2.1 hn;subst he;have HNO:=zH hn;clear hf hm3 HD hd hn;go_wp2;go_ret3;exact ⟨Or.inr (Or.inl ⟨HNO.o,rfl⟩),HM3.o,HF3.o⟩
 ·obtain ⟨xa,xc,rfl,hk3⟩:=hd.2.2 _ hs;have HSO:=zH hs;have HDC:=zH (decode_ok hk3.1 HX.o);clear hf hk3 hm3 HD hd hs;generalize (enC Lx).length=xn at HDC ⊢;go_wp2_with fail;refine HDC.o.mono ?_;rintro e w4 ⟨⟨v',rfl,hs4⟩,hb4⟩;have HS4:=zH hs4;have HM4:=zH (HM3.o.later hb4);have HF4:=zH (HF3.o.trans (NsF.of hb4 HM3.o.bw));clear hs4 hb4 HDC;go_wp2;go_ret3;exact ⟨Or.inr (Or.inr ⟨HSO.o,v',rfl,HS4.o⟩),HM4.o,HF4.o⟩
end
structure JQ (av:List Nat) (s:Mt):Prop where
 j:∀ i,i<3->(s.R i).2.1≠0->(s.R i).2.2=av
 q:∀ i,i<3->(s.R i).2.1≠0->((s.R i).2.1<=(s.R 0).1/\(s.R i).2.1<=(s.R 1).1)\/((s.R i).2.1<=(s.R 0).1/\(s.R i).2.1<=(s.R 2).1)\/((s.R i).2.1<=(s.R 1).1/\(s.R i).2.1<=(s.R 2).1)
theorem two_le {f f':Nat->Nat} (h:(x<=f 0/\x<=f 1)\/(x<=f 0/\x<=f 2)\/(x<=f 1/\x<=f 2)) (hf:∀ i,i<3->f i<=f' i):(x<=f' 0/\x<=f' 1)\/(x<=f' 0/\x<=f' 2)\/(x<=f' 1/\x<=f' 2):=by
 have h0:=hf 0 (by omega);have h1:=hf 1 (by omega);have h2:=hf 2 (by omega);omega
theorem two_of {p q:Nat->Prop} (h:(p 0/\p 1)\/(p 0/\p 2)\/(p 1/\p 2)) (hpq:∀ i,i<3->p i->q i):(q 0/\q 1)\/(q 0/\q 2)\/(q 1/\q 2):=by
 have h0:=hpq 0 (by omega);have h1:=hpq 1 (by omega);have h2:=hpq 2 (by omega);rcases h with ⟨a,b⟩ | ⟨a,b⟩ | ⟨a,b⟩
 ·exact Or.inl ⟨h0 a,h1 b⟩
 ·exact Or.inr (Or.inl ⟨h0 a,h2 b⟩)
 ·exact Or.inr (Or.inr ⟨h1 a,h2 b⟩)
theorem ask_ge (v:Nat) (k:Bool) (b:Nat) (val:List Nat) (s:Mt):∀ i,i<3->(s.R i).1<=((akS v k b val s 3).R i).1:=by
 intro i hi;rcases (aDd v k b val s hi).1 with q | q
 ·rw [q];exact nR _
 ·rw [q];exact rK_ge _ _ _ _
theorem ask_f2 (v:Nat) (b:Nat) (val:List Nat) (s:Mt):∀ i,i<3->((akS v false b val s 3).R i).2=(s.R i).2:=by
 intro i hi;rcases (aDd v false b val s hi).1 with q | q
 ·rw [q]
 ·rw [q];exact rK_f2 _ _ _
theorem JQ.askp {v b:Nat} {av:List Nat} {s:Mt} (h:JQ av s):JQ av (akS v false b [] s 3):=by
 refine ⟨fun i hi=>?_,fun i hi=>?_⟩
 ·rw [ask_f2 v b [] s i hi];exact h.j i hi
 ·rw [ask_f2 v b [] s i hi];exact fun h9=>two_le (f:=fun i=>(s.R i).1) (f':=fun i=>((akS v false b [] s 3).R i).1) (h.q i hi h9) (ask_ge v false b [] s)
theorem aGl (b:Nat) (val:List Nat) (r:Rec):rK true b val r=r\/rK true b val r=(b,b,val):=by
 unfold rK;simp only [if_true];split
 ·exact Or.inr rfl
 ·exact Or.inl rfl
theorem rK_t_ok {b:Nat} (h:(aK true b r).e=0):rK true b val r=(b,b,val):=by
 rw [aK_t_ok] at h;unfold rK;rw [if_pos rfl,if_pos h]
theorem JQ.aska {v b:Nat} {av:List Nat} {s:Mt} (h:JQ av s) (hb:(b<=(s.R 0).1/\b<=(s.R 1).1)\/(b<=(s.R 0).1/\b<=(s.R 2).1)\/(b<=(s.R 1).1/\b<=(s.R 2).1)):JQ av (akS v true b av s 3):=by
 have hc:∀ i,i<3->(akS v true b av s 3).R i=s.R i\/(akS v true b av s 3).R i=(b,b,av):=by
  intro i hi;rcases (aDd v true b av s hi).1 with q | q
  ·exact Or.inl q
  ·rw [q];exact aGl _ _ _
 refine ⟨fun i hi h9=>?_,fun i hi h9=>?_⟩
 ·rcases hc i hi with q | q
  ·rw [q] at h9 ⊢;exact h.j i hi h9
  ·rw [q]
 ·refine two_le (f:=fun i=>(s.R i).1) (f':=fun i=>((akS v true b av s 3).R i).1) ?_ (ask_ge v true b av s);rcases hc i hi with q | q
  ·rw [q] at h9 ⊢;exact h.q i hi h9
  ·rw [q];exact hb
theorem bst_in {a:Nat->An} {av:List Nat} (h:∀ i,i<3->(a i).e=0->(a i).bl≠0->(a i).val=av):(bst a ov 3).2=ov/\(bst a ov 3).1=0\/(bst a ov 3).2=av/\(bst a ov 3).1≠0:=by
 have e1:∀ j,j<=3->(bst a ov j).2=ov/\(bst a ov j).1=0\/(bst a ov j).2=av/\(bst a ov j).1≠0:=by
  intro j
  induction j with
  | zero=>intro _;exact Or.inl ⟨rfl,rfl⟩
  | succ j ih =>
   intro hj;unfold bst;split
   ·rename_i c
    have h9:(a j).bl≠0:=by omega
    exact Or.inr ⟨h j (by omega) c.1 h9,h9⟩
   ·exact ih (by omega)
 exact e1 3 (nR _)
theorem aEn {v b:Nat} {s:Mt} (hi:i<3) (he:(akA v false b [] s i).e=0):(akA v false b [] s i).bl=(s.R i).2.1/\(akA v false b [] s i).val=vlR (s.R i)/\((akS v false b [] s 3).R i).1=b/\(s.R i).1<b:=by
 obtain ⟨h1,h2⟩:=(aDd v false b [] s hi).2 he;rw [h1] at he ⊢;refine ⟨(aF7 _ _).1,(aF7 _ _).2,?_,aEo.1 he⟩;rw [h2,aK_f_tl];unfold aK;rw [if_neg (by decide),if_pos (aEo.1 he)]
theorem JQ.bid {v:Nat} {av:List Nat} (hav:av.length≠0):∀ (g p:Nat) (s:Mt),JQ av s->JQ av (dec v who av g s p).2/\((dec v who av g s p).1=none\/(dec v who av g s p).1=some (some av)/\((((dec v who av g s p).2.R 0).2.1≠0/\((dec v who av g s p).2.R 1).2.1≠0)\/(((dec v who av g s p).2.R 0).2.1≠0/\((dec v who av g s p).2.R 2).2.1≠0)\/(((dec v who av g s p).2.R 1).2.1≠0/\((dec v who av g s p).2.R 2).2.1≠0)))
 | 0,p,s,h=>⟨h,Or.inl rfl⟩
 | g+1,p,s,h=>by
  have hb1:bal p who≠0:=by have:=bal_lt p who;omega
  have h1:JQ av (akS v false (bal p who) [] s 3):=h.askp;by_cases c:2<=mis (akA v false (bal p who) [] s) 3
  ·rw [dec_p rfl rfl rfl c];exact JQ.bid hav g _ _ h1
  ·have hbv:(bst (akA v false (bal p who) [] s) av 3).2=av:=by
    have h9:=bst_in (a:=akA v false (bal p who) [] s) (ov:=av) (av:=av) fun i hi he hn=>by
     obtain ⟨e1,e2,_⟩:=aEn hi he;rw [e1] at hn;rw [e2];unfold vlR;rw [if_neg hn];exact h.j i hi hn
    rcases h9 with q | q<;>exact q.1
   have hq:(bal p who<=((akS v false (bal p who) [] s 3).R 0).1/\bal p who<=((akS v false (bal p who) [] s 3).R 1).1)\/(bal p who<=((akS v false (bal p who) [] s 3).R 0).1/\bal p who<=((akS v false (bal p who) [] s 3).R 2).1)\/(bal p who<=((akS v false (bal p who) [] s 3).R 1).1/\bal p who<=((akS v false (bal p who) [] s 3).R 2).1) :=
    two_of (p:=fun i=>(akA v false (bal p who) [] s i).e=0) (q:=fun i=>bal p who<=((akS v false (bal p who) [] s 3).R i).1) (aC2 c) fun i hi he=>by rw [(aEn hi he).2.2.1];exact nR _
   have h2:JQ av (akS v true (bal p who) av (akS v false (bal p who) [] s 3) 3):=h1.aska hq;have hno:¬ ((bst (akA v false (bal p who) [] s) av 3).1=0/\av.length=0):=fun h9=>hav h9.2
   by_cases c2:2<=mis (akA v true (bal p who) av (akS v false (bal p who) [] s 3)) 3
   ·rw [dec_a rfl rfl rfl c hno (by rw [hbv]) (by rw [hbv]) rfl c2];exact JQ.bid hav g _ _ h2
   ·rw [dec_d (a2:=akA v true (bal p who) av (akS v false (bal p who) [] s 3)) (t2:=akS v true (bal p who) av (akS v false (bal p who) [] s 3) 3) rfl rfl c hno (by rw [hbv]) (by rw [hbv]) c2,hbv];refine ⟨h2,Or.inr ⟨rfl,?_⟩⟩;refine two_of (p:=fun i=>(akA v true (bal p who) av (akS v false (bal p who) [] s 3) i).e=0) (q:=fun i=>((akS v true (bal p who) av (akS v false (bal p who) [] s 3) 3).R i).2.1≠0) (aC2 c2) fun i hi he=>?_
    obtain ⟨e1,e2⟩:=(aDd v true (bal p who) av (akS v false (bal p who) [] s 3) hi).2 he;rw [e1] at he;show ((akS v true (bal p who) av (akS v false (bal p who) [] s 3) 3).R i).2.1≠0;rw [e2,rK_t_ok he];exact hb1
structure DQ (b:Nat) (y:List Nat) (s:Mt):Prop where
 n:b≠0
 q:(s.R 0=(b,b,y)/\s.R 1=(b,b,y))\/(s.R 0=(b,b,y)/\s.R 2=(b,b,y))\/(s.R 1=(b,b,y)/\s.R 2=(b,b,y))
 l:∀ i,i<3->s.R i=(b,b,y)\/(s.R i).2.1<b
theorem JQ.second {v:Nat} {av bv:List Nat} {s:Mt} (h:JQ av s) (hF:s.F=[]) (hbv:bv.length≠0):∃ b y,(dec v who bv 3 s 0).1=some (some y)/\DQ b y (dec v who bv 3 s 0).2/\(dec v who bv 3 s 0).2.F=[]/\(y=av\/y=bv)/\((((s.R 0).2.1≠0/\(s.R 1).2.1≠0)\/((s.R 0).2.1≠0/\(s.R 2).2.1≠0)\/((s.R 1).2.1≠0/\(s.R 2).2.1≠0))->y=av):=by
 obtain ⟨p,t,t1,t2,t3,_,t4,t5⟩:=aD5 (v:=v) (who:=who) (ov:=bv) hF;have hb1:bal p who≠0:=by have:=bal_lt p who;omega
 generalize hb:bal p who=b at *
 rw [if_neg (fun h9=>hbv h9.2)] at t5;have hv:=bst_in (a:=akA v false b [] t) (ov:=bv) (av:=av) fun i hi he hn=>by
  obtain ⟨e1,e2,_⟩:=aEn hi he;rw [e1] at hn;rw [e2];unfold vlR;rw [if_neg hn];rw [(t3 i hi).1] at hn ⊢;exact h.j i hi hn
 generalize hbs:bst (akA v false b [] t) bv 3=x at *
 obtain ⟨q0,y⟩:=x;have hR:∀ i,i<3->(akS v true b y (akS v false b [] t 3) 3).R i=rK true b y (rK false b [] (t.R i)):=fun i hi=>by
  rw [aCx (aBd t1 3).1 3 i hi,aCx t1 3 i hi]
 have hok:∀ i,i<3->(akA v false b [] t i).e=0->(akS v true b y (akS v false b [] t 3) 3).R i=(b,b,y):=fun i hi he=>by
  rw [hR i hi];refine rK_t_ok ?_;rw [aK_t_ok];rw [aB8 t1,aEo] at he;unfold rK;rw [if_neg (by decide),if_pos he];exact nR _
 refine ⟨b,y,by rw [t5],?_,by rw [t5];exact (aBd (aBd t1 3).1 3).1,?_,?_⟩
 ·rw [t5];refine ⟨hb1,two_of (p:=fun i=>(akA v false b [] t i).e=0) (q:=fun i=>(akS v true b y (akS v false b [] t 3) 3).R i=(b,b,y)) (aC2 t4) hok,fun i hi=>?_⟩;show (akS v true b y (akS v false b [] t 3) 3).R i=(b,b,y)\/((akS v true b y (akS v false b [] t 3) 3).R i).2.1<b;rw [hR i hi];rcases aGl b y (rK false b [] (t.R i)) with q | q
  ·right;rw [q,rK_f2];by_cases c:(t.R i).2.1<b
   ·exact c
   ·exfalso;have c1:(t.R i).2.1≠0:=by omega
    have c2:(s.R i).2.1≠0:=by rw [<-(t3 i hi).1];exact c1
    have c3:=h.q i hi c2;rw [<-(t3 i hi).1] at c3;have c4:=two_le (f:=fun i=>(s.R i).1) (f':=fun i=>(t.R i).1) c3 fun i hi=>(t3 i hi).2
    obtain ⟨k,k1,k2,k3⟩:=aG9 (p:=fun j=>(t.R i).2.1<=(t.R j).1) (q:=fun j=>(akA v false b [] t j).e=0) c4 (aC2 t4);rw [aB8 t1,aEo] at k3;omega
  ·exact Or.inl q
 ·rcases hv with q | q
  ·exact Or.inr q.1
  ·exact Or.inl q.1
 ·intro h2;obtain ⟨k,k1,k2,k3⟩:=aG9 (p:=fun i=>(s.R i).2.1≠0) (q:=fun j=>(akA v false b [] t j).e=0) h2 (aC2 t4);rcases hv with q | q
  ·exfalso;have e0:q0=0:=q.2;have key:∀ j,j<=3->∀ i,i<j->(akA v false b [] t i).e=0->(akA v false b [] t i).bl<=(bst (akA v false b [] t) bv j).1:=by
    intro j
    induction j with
    | zero=>intro _ i hi;exact absurd hi (Nat.not_lt_zero i)
    | succ j ih =>
     intro hj i hi he;unfold bst;by_cases c:i=j
     ·subst c;split
      ·exact nR _
      ·rename_i c2
       have c3:¬ (bst (akA v false b [] t) bv i).1<(akA v false b [] t i).bl:=fun h9=>c2 ⟨he,h9⟩
       omega
     ·have h8:=ih (by omega) i (by omega) he;split
      ·rename_i c2
       have:=c2.2;omega
      ·exact h8
   have h8:=key 3 (nR _) k k1 k3;rw [hbs,(aEn k1 k3).1,(t3 k k1).1] at h8;have h9:(s.R k).2.1<=q0:=h8;omega
  ·exact q.1
theorem DQ.learn {v b:Nat} {y:List Nat} {s:Mt} (h:DQ b y s) (hF:s.F=[]):(dec v who [] 3 s 0).1=some (some y):=by
 obtain ⟨p,t,t1,t2,t3,_,t4,t5⟩:=aD5 (v:=v) (who:=who) (ov:=[]) hF;generalize hb:bal p who=b' at *
 obtain ⟨k,k1,k2,k3⟩:=aG9 (p:=fun i=>s.R i=(b,b,y)) (q:=fun j=>(akA v false b' [] t j).e=0) h.q (aC2 t4);have ha:∀ i,i<3->(akA v false b' [] t i).e=0->((akA v false b' [] t i).bl=b/\(akA v false b' [] t i).val=y)\/(akA v false b' [] t i).bl<b:=fun i hi he=>by
  obtain ⟨e1,e2,_⟩:=aEn hi he;have e3:=(t3 i hi).1;rcases h.l i hi with q | q
  ·left;rw [q] at e3;rw [e1,e2];unfold vlR;rw [e3,if_neg h.n];exact ⟨rfl,rfl⟩
  ·right;rw [e1,e3];exact q
 have hk:(akA v false b' [] t k).bl=b/\(akA v false b' [] t k).val=y:=by
  obtain ⟨e1,e2,_⟩:=aEn k1 k3;have e3:=(t3 k k1).1;rw [k2] at e3;rw [e1,e2];unfold vlR;rw [e3,if_neg h.n];exact ⟨rfl,rfl⟩
 have key:∀ j,j<=3->((bst (akA v false b' [] t) [] j).1<b\/bst (akA v false b' [] t) [] j=(b,y))/\(k<j->bst (akA v false b' [] t) [] j=(b,y)):=by
  intro j
  induction j with
  | zero=>exact fun _=>⟨Or.inl (Nat.pos_of_ne_zero h.n),fun h9=>absurd h9 (Nat.not_lt_zero k)⟩
  | succ j ih =>
   intro hj;obtain ⟨i1,i2⟩:=ih (by omega);unfold bst;split
   ·rename_i c
    rcases ha j (by omega) c.1 with q | q
    ·rw [q.1,q.2];exact ⟨Or.inr rfl,fun _=>rfl⟩
    ·refine ⟨Or.inl q,fun h9=>?_⟩;by_cases e:k=j
     ·subst e;have:=hk.1;omega
     ·have h8:=i2 (by omega);have h7:=c.2;rw [h8] at h7;have h6:b<(akA v false b' [] t j).bl:=h7;omega
   ·rename_i c
    refine ⟨i1,fun h9=>?_⟩;by_cases e:k=j
    ·subst e;rcases i1 with q | q
     ·exact absurd ⟨k3,by rw [hk.1];exact q⟩ c
     ·exact q
    ·exact i2 (by omega)
 have hk3:=(key 3 (nR _)).2 k1;rw [t5,hk3,if_neg (fun h9=>h.n h9.1)]
def ch2 (e o:Int):List Sg:=[⟨0,0,e,0⟩,⟨1,e,-1,o⟩]
theorem ch2_ok {e o:Int} (h1:0<=e) (h2:e<=4611686018427387904) (h3:0<=o) (h4:o<4):CH (ch2 e o) where
 n1:=by show 1<=2;decide
 n2:=by show 2<=17;decide
 s0:=fun s hs=>by
  have hs:some (⟨0,0,e,0⟩:Sg)=some s:=hs;cases hs;rfl
 el:=fun i s hs=>by
  have hi:i<2:=(lL hs);have hi:i=0\/i=1:=by omega
  rcases hi with rfl | rfl
  ·have hs:some (⟨0,0,e,0⟩:Sg)=some s:=hs;cases hs;exact ⟨rfl,Int.le_refl 0,(show (0:Int)<4 by decide),Int.le_refl 0,(show (0:Int)<=4611686018427387904 by decide)⟩
  ·have hs:some (⟨1,e,-1,o⟩:Sg)=some s:=hs;cases hs;exact ⟨rfl,h3,h4,h1,h2⟩
 nx:=fun i s u hs hu=>by
  have hi:i+1<2:=(lL hu);have hi:i=0:=by omega
  subst hi;have hs:some (⟨0,0,e,0⟩:Sg)=some s:=hs;have hu:some (⟨1,e,-1,o⟩:Sg)=some u:=hu;cases hs;cases hu;exact ⟨rfl,h1,h2⟩
 la:=fun s hs=>by
  have hs:some (⟨1,e,-1,o⟩:Sg)=some s:=hs;cases hs;rfl
theorem SGV.new {e o:Int}:SGV (w.alloc (.cells #[.int .i64 0,.int .i64 0,.int .i64 e,.int .i64 0,.int .i64 1,.int .i64 e,.int .i64 (-1),.int .i64 o] 54)) (.slice (some ⟨w.heap.size,0,none⟩) 2 2) (ch2 e o):=by
 refine ⟨w.heap.size,2,_,rfl,by show 2<=2;decide,by decide,heap_alloc_new w _,fun i s hs=>?_⟩;have hi:i<2:=(lL hs);have hi:i=0\/i=1:=by omega
 rcases hi with rfl | rfl
 ·have hs:some (⟨0,0,e,0⟩:Sg)=some s:=hs;cases hs;exact ⟨rfl,rfl,rfl,rfl⟩
 ·have hs:some (⟨1,e,-1,o⟩:Sg)=some s:=hs;cases hs;exact ⟨rfl,rfl,rfl,rfl⟩
theorem aD8 (e o:Int) (w:World):Calls prog 7 #[.int .i64 e,.int .i64 o] w fun ev w'=>ev=.returned (.slice (some ⟨w.heap.size,0,none⟩) 2 2)/\SGV w' (.slice (some ⟨w.heap.size,0,none⟩) 2 2) (ch2 e o)/\Below w.heap.size w w':=by
 go_enter func7,ntmps7;go_wp2;go_ret;exact ⟨rfl,SGV.new,aAc w _⟩
def ch1:List Sg:=[⟨0,0,-1,0⟩]
theorem ch1_ok:CH ch1 where
 n1:=by show 1<=1;decide
 n2:=by show 1<=17;decide
 s0:=fun s hs=>by
  have hs:some (⟨0,0,-1,0⟩:Sg)=some s:=hs;cases hs;rfl
 el:=fun i s hs=>by
  have hi:i<1:=(lL hs);have hi:i=0:=by omega
  subst hi;have hs:some (⟨0,0,-1,0⟩:Sg)=some s:=hs;cases hs;exact ⟨rfl,by decide,by decide,by decide,by decide⟩
 nx:=fun i s u hs hu=>by
  have hi:i+1<1:=(lL hu);omega
 la:=fun s hs=>by
  have hs:some (⟨0,0,-1,0⟩:Sg)=some s:=hs;cases hs;rfl
theorem first_any (w:World):Calls prog 23 #[] w fun ev w'=>ev=.returned (.slice (some ⟨w.heap.size,0,none⟩) 1 1)/\SGV w' (.slice (some ⟨w.heap.size,0,none⟩) 1 1) ch1/\Below w.heap.size w w':=by
 go_enter func23,ntmps23;go_wp2;go_ret;refine ⟨rfl,⟨w.heap.size,1,_,rfl,by show 1<=1;decide,by decide,heap_alloc_new w _,fun i s hs=>?_⟩,aAc w _⟩;have hi:i<1:=(lL hs);have hi:i=0:=by omega
 subst hi;have hs:some (⟨0,0,-1,0⟩:Sg)=some s:=hs;cases hs;exact ⟨rfl,rfl,rfl,rfl⟩
theorem aDn {v2:Value} {l:List Sg} (h:SGV w v l) (h2:SGV w v2 l) (hn2:l.length<=17):Calls prog 12 #[v,v2] w fun e w'=>e=.returned (.bool true)/\Below w.heap.size w w':=by
 obtain ⟨g,c,cs,rfl,k1,k2,k3,k4⟩:=h;obtain ⟨g2,c2,cs2,rfl,m1,m2,m3,m4⟩:=h2;have H3:=zH k3;have H4:=zH k4;have M3:=zH m3;have M4:=zH m4;generalize hn:l.length=n at *
 have HN:=zH hn;clear k3 k4 m3 m4 hn;go_enter func12,ntmps12;go_wp2_with fail;go_loopw [5] (fun i wx=>∃ j:Nat,j<=n/\i=.int .i64 (j:Int)/\Below w.heap.size w wx) (fun i _=>n-(intOf i).toNat)
 case atStart=>exact ⟨0,by omega,rfl,Below.refl _ _⟩
 case round =>
  obtain ⟨j,hj,rfl,hbx⟩:=hrel;have HBX:=zH hbx;clear hbx;by_cases hjn:j<n
  ·have i1:(j:Int)<(n:Int):=by omega
   have i2:(0:Int)<=(j:Int):=by omega
   have i3:(j:Int)<1000:=by omega
   obtain ⟨s,hs⟩:∃ s,l[j]?=some s:=⟨_,gE (by have:=HN.o;omega)⟩;obtain ⟨a0,a1,a2,a3⟩:=H4.o j s hs;obtain ⟨b0,b1,b2,b3⟩:=M4.out j s hs;have hg:=(HBX.o.block g (lO H3.o)).trans H3.o;have hg2:=(HBX.o.block g2 (lO M3.out)).trans M3.out;obtain ⟨slg,sst,sen,sow⟩:=s;have HX1:Hid ((fun wx=>wx.cell? ⟨g,j*4,none⟩=some (.int .i64 slg)/\wx.cell? ⟨g,j*4+1,none⟩=some (.int .i64 sst)/\wx.cell? ⟨g,j*4+2,none⟩=some (.int .i64 sen)/\wx.cell? ⟨g,j*4+3,none⟩=some (.int .i64 sow)/\wx.cell? ⟨g2,j*4,none⟩=some (.int .i64 slg)/\wx.cell? ⟨g2,j*4+1,none⟩=some (.int .i64 sst)/\wx.cell? ⟨g2,j*4+2,none⟩=some (.int .i64 sen)/\wx.cell? ⟨g2,j*4+3,none⟩=some (.int .i64 sow)) wr.drew):=⟨(aAa (show wr.drew.heap[g]?=_ from hg)).trans a0,(aAa (show wr.drew.heap[g]?=_ from hg)).trans a1,(aAa (show wr.drew.heap[g]?=_ from hg)).trans a2,(aAa (show wr.drew.heap[g]?=_ from hg)).trans a3,(aAa (show wr.drew.heap[g2]?=_ from hg2)).trans b0,(aAa (show wr.drew.heap[g2]?=_ from hg2)).trans b1,(aAa (show wr.drew.heap[g2]?=_ from hg2)).trans b2,(aAa (show wr.drew.heap[g2]?=_ from hg2)).trans b3⟩;have HB2:Hid (Below w.heap.size w wr.drew):=HBX.o.trans (Below.refl _ _).drew;clear a0 a1 a2 a3 b0 b1 b2 b3 hg hg2 hs;go_upto_region 6 with fail;refine wp_region_noPanic ?_;refine wp_region_held_drew (S:=fun wx=>wx.cell? ⟨g,j*4,none⟩=some (.int .i64 slg)/\wx.cell? ⟨g,j*4+1,none⟩=some (.int .i64 sst)/\wx.cell? ⟨g,j*4+2,none⟩=some (.int .i64 sen)/\wx.cell? ⟨g,j*4+3,none⟩=some (.int .i64 sow)/\wx.cell? ⟨g2,j*4,none⟩=some (.int .i64 slg)/\wx.cell? ⟨g2,j*4+1,none⟩=some (.int .i64 sst)/\wx.cell? ⟨g2,j*4+2,none⟩=some (.int .i64 sen)/\wx.cell? ⟨g2,j*4+3,none⟩=some (.int .i64 sow)) (by kernel_rfl) HX1.o (fun hHeld=>?_);refine kT 0 17 ?_;refine kT 1 18 ?_;refine kT 2 19 ?_;refine kT 3 20 ?_;refine kT 4 21 ?_;refine kT 5 22 ?_;refine kT 6 23 ?_;refine kT 7 24 ?_;refine kT 8 25 ?_;refine wpAnyH_done (by kernel_rfl) ?_ _;refine NoPanic.normal ?_;clear hHeld;go_wp2_with fail;go_roundw
   case rel=>exact ⟨j+1,by omega,by go_num,HB2.o⟩
   case measure=>simp [intOf];omega
  ·have i1:¬ (j:Int)<(n:Int):=by omega
   go_wp2;go_ret;exact ⟨rfl,HBX.o⟩
end Go.Proofs.YtdfjjhlhnfindaaGreat
