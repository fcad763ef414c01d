import Derived.Test.YtdfjjhlhnfindaaGreatZ48
import Derived.Deep.LoopGhost
import Derived.OwnWalk
set_option maxRecDepth 100000
set_option maxHeartbeats 16000000
set_option linter.unusedVariables false
namespace Go.Proofs.YtdfjjhlhnfindaaGreat
open Go.RowKit
structure DGI (B N nt gh gb v who p on oc:Nat) (P:Nat->NdP) (s:Mt) (oa:Option Addr) (ov:List Nat) (W w wx:World):Prop where
 m:HN B N nt gh v P s W wx
 b:wx.heap[gb]?=some (.cells #[.pointer (some ⟨nt,0,none⟩),.int .i64 (v:Int),.int .i64 (who:Int),.int .i64 (p:Int)] 60 (0,0))
 k:BK B wx oa on oc ov
 f:AsF B gb w wx
theorem DGI.later {B N nt gh gb v who p on oc:Nat} {P:Nat->NdP} {s:Mt} {oa:Option Addr} {ov:List Nat} {W w wx wy:World} (h:DGI B N nt gh gb v who p on oc P s oa ov W w wx) (hb:Below wx.heap.size wx wy):DGI B N nt gh gb v who p on oc P s oa ov W w wy :=
 ⟨h.m.later hb,(hb.block gb (lO h.b)).trans h.b,h.k.later hb h.m.bw,h.f.trans (AsF.ns (NsF.of hb h.m.bw))⟩
def DeE (B:Nat) (r:Option (Option (List Nat))) (e:Ending) (w':World):Prop:=(r=none->e=.returned (.tuple #[.slice none 0 0,.bool false,.int .i64 40]))/\(r=some none->e=.returned (.tuple #[.slice none 0 0,.bool false,.int .i64 0]))/\∀ x,r=some (some x)->∃ xa xc,e=.returned (.tuple #[.slice xa x.length xc,.bool true,.int .i64 0])/\BK B w' xa x.length xc x
theorem DeE.no {B:Nat} {e:Ending} {w':World} (h:e=.returned (.tuple #[.slice none 0 0,.bool false,.int .i64 40])):DeE B none e w':=⟨fun _=>h,(fun h=>nomatch h),(fun x h=>nomatch h)⟩
theorem DeE.nil {B:Nat} {e:Ending} {w':World} (h:e=.returned (.tuple #[.slice none 0 0,.bool false,.int .i64 0])):DeE B (some none) e w':=⟨(fun h=>nomatch h),fun _=>h,(fun x h=>nomatch h)⟩
theorem DeE.yes {B:Nat} {e:Ending} {w':World} {x:List Nat} (h:∃ xa xc,e=.returned (.tuple #[.slice xa x.length xc,.bool true,.int .i64 0])/\BK B w' xa x.length xc x):DeE B (some (some x)) e w':=⟨(fun h=>nomatch h),(fun h=>nomatch h),fun y hy=>by cases hy;exact h⟩
theorem mis_step (a:Nat->An) (j:Nat):mis a j<=mis a (j+1):=Nat.le_add_right _ _
theorem mis_mono (a:Nat->An) (i:Nat):∀ d,mis a i<=mis a (i+d)
 | 0=>nR _
 | d+1=>nT (mis_mono a i d) (mis_step a (i+d))
theorem aHe {a:Nat->An} {j:Nat} (h:mis a j=1) (he:(a j).e≠0) (hj:j<3):2<=mis a 3:=by
 have h1:mis a (j+1)=2:=by show mis a j+_=2;rw [h,if_neg he]
 have h2:=mis_mono a (j+1) (2-j)
 rw [h1,show j+1+(2-j)=3 by omega] at h2
 exact h2
section
variable {v who g p p1 p2:Nat} {ov:List Nat} {t t1 t2:Mt} {a a2:Nat->An}
theorem dec_p (ha:a=akA v false (bal p who) [] t) (ht:t1=akS v false (bal p who) [] t 3) (hp:p1=prj a p 3) (h:2<=mis a 3):dec v who ov (g+1) t p=dec v who ov g t1 p1:=by
 subst ha ht hp
 have e:rnd v who ov t p=(none,akS v false (bal p who) [] t 3,prj (akA v false (bal p who) [] t) p 3):=by unfold rnd;rw [if_pos h]
 show (if _ then _ else _)=_
 rw [e,if_pos rfl]
theorem dec_n (ha:a=akA v false (bal p who) [] t) (ht:t1=akS v false (bal p who) [] t 3) (h:¬ 2<=mis a 3) (h2:(bst a ov 3).1=0/\ov.length=0):dec v who ov (g+1) t p=(some none,t1):=by
 subst ha ht
 have e:rnd v who ov t p=(some none,akS v false (bal p who) [] t 3,prj (akA v false (bal p who) [] t) p 3):=by unfold rnd;rw [if_neg h,if_pos h2]
 show (if _ then _ else _)=_
 rw [e,if_neg (fun h=>by cases h)]
theorem dec_a (ha:a=akA v false (bal p who) [] t) (ht:t1=akS v false (bal p who) [] t 3) (hp:p1=prj a p 3) (h:¬ 2<=mis a 3) (h2:¬ ((bst a ov 3).1=0/\ov.length=0)) (ha2:a2=akA v true (bal p who) (bst a ov 3).2 t1) (ht2:t2=akS v true (bal p who) (bst a ov 3).2 t1 3) (hp2:p2=prj a2 p1 3) (h3:2<=mis a2 3):dec v who ov (g+1) t p=dec v who ov g t2 p2:=by
 subst ha2 ht2 hp2 hp ha ht
 have e:rnd v who ov t p=(none,akS v true (bal p who) (bst (akA v false (bal p who) [] t) ov 3).2 (akS v false (bal p who) [] t 3) 3,prj (akA v true (bal p who) (bst (akA v false (bal p who) [] t) ov 3).2 (akS v false (bal p who) [] t 3)) (prj (akA v false (bal p who) [] t) p 3) 3):=by unfold rnd;rw [if_neg h,if_neg h2,if_pos h3]
 show (if _ then _ else _)=_
 rw [e,if_pos rfl]
theorem dec_d (ha:a=akA v false (bal p who) [] t) (ht:t1=akS v false (bal p who) [] t 3) (h:¬ 2<=mis a 3) (h2:¬ ((bst a ov 3).1=0/\ov.length=0)) (ha2:a2=akA v true (bal p who) (bst a ov 3).2 t1) (ht2:t2=akS v true (bal p who) (bst a ov 3).2 t1 3) (h3:¬ 2<=mis a2 3):dec v who ov (g+1) t p=(some (some (bst a ov 3).2),t2):=by
 subst ha2 ht2 ha ht
 have e:rnd v who ov t p=(some (some (bst (akA v false (bal p who) [] t) ov 3).2),akS v true (bal p who) (bst (akA v false (bal p who) [] t) ov 3).2 (akS v false (bal p who) [] t 3) 3,p):=by unfold rnd;rw [if_neg h,if_neg h2,if_neg h3]
 show (if _ then _ else _)=_
 rw [e,if_neg (fun h=>by cases h)]
end
theorem aK_ee (k:Bool) (b:Nat) (r:Rec):(aK k b r).e=0\/(aK k b r).e=41\/(aK k b r).e=40:=by
 unfold aK
 split<;>split<;>simp
theorem akA_e (v:Nat) (k:Bool) (b:Nat) (val:List Nat) (s:Mt) (j:Nat):(akA v k b val s j).e=0\/(akA v k b val s j).e=41\/(akA v k b val s j).e=40:=by
 unfold akA stp
 split
 ·exact aK_ee _ _ _
 split
 ·exact Or.inr (Or.inr rfl)
 split
 ·exact Or.inr (Or.inr rfl)
 split
 ·exact Or.inr (Or.inr rfl)
 ·exact aK_ee _ _ _
theorem kd_f:kd false=7:=rfl
theorem kd_t:kd true=8:=rfl
def AgT (B N nt gh gb v who:Nat) (P:Nat->NdP) (t1:Mt) (a:Nat->An) (p1:Nat) (W w:World) (e:Ending) (w':World):Prop:=∃ g cs,e=.returned (.slice (some ⟨g,0,none⟩) 3 3)/\w'.heap[g]?=some (.cells cs 75 (0,0))/\AnR B w' cs 3 a/\w'.heap[gb]?=some (.cells #[.pointer (some ⟨nt,0,none⟩),.int .i64 (v:Int),.int .i64 (who:Int),.int .i64 (p1:Int)] 60 (0,0))/\HN B N nt gh v P t1 W w'/\AsF B gb w w'
section
variable {B N nt gh gb v who b p p1 K m:Nat} {P:Nat->NdP} {s t1:Mt} {a:Nat->An} {W w:World}
theorem HN.askp [WF] [WC] (h:HN B N nt gh v P s W w) (hok:MtOk K m s) (hm:m<=83) (hN:m+34<=N) (hbK:b<=K+8) (hv:v<=16) (hb1:1<=b) (hb2:b<9223372036854775808) (hb:w.heap[gb]?=some (.cells #[.pointer (some ⟨nt,0,none⟩),.int .i64 (v:Int),.int .i64 (who:Int),.int .i64 (p:Int)] 60 (0,0))) (hgB:B<=gb) (ha:a=akA v false b [] s) (ht:t1=akS v false b [] s 3) (hp:p1=prj a p 3) :
  Calls Tryz.prog 36 #[.pointer (some ⟨gb,0,none⟩),.int .i64 7,.int .i64 (b:Int),.slice none 0 0] w fun e w'=>AgT B N nt gh gb v who P t1 a p1 W w e w':=by
 have h9:=ask_gen (k:=false) (val:=[]) (K:=K+8) h ⟨fun i hi=>⟨by have:=(hok.r i hi).1;omega,(hok.r i hi).2⟩,hok.f,hok.m,hok.k⟩ hm hN hbK hv hb1 hb2 (BK.nil _ _) (by decide) hb hgB
 rw [kd_f] at h9
 subst ha ht hp
 refine h9.mono ?_
 rintro e w' ⟨g,rfl,_,q1,q2,⟨cs,q3,_,q4⟩,q5⟩
 exact ⟨g,cs,rfl,q3,q4,q2,q1,q5⟩
theorem HN.aska [WF] [WC] {n cp:Nat} {va:Option Addr} {val:List Nat} (h:HN B N nt gh v P s W w) (hok:MtOk K m s) (hm:m<=83) (hN:m+34<=N) (hbK:b<=K) (hv:v<=16) (hb1:1<=b) (hb2:b<9223372036854775808) (hb:w.heap[gb]?=some (.cells #[.pointer (some ⟨nt,0,none⟩),.int .i64 (v:Int),.int .i64 (who:Int),.int .i64 (p:Int)] 60 (0,0))) (hgB:B<=gb) (hk:BK B w va n cp val) (hn:n<=1800) (ha:a=akA v true b val s) (ht:t1=akS v true b val s 3) (hp:p1=prj a p 3) :
  Calls Tryz.prog 36 #[.pointer (some ⟨gb,0,none⟩),.int .i64 8,.int .i64 (b:Int),.slice va n cp] w fun e w'=>AgT B N nt gh gb v who P t1 a p1 W w e w':=by
 have h9:=ask_gen (k:=true) h hok hm hN hbK hv hb1 hb2 hk hn hb hgB
 rw [kd_t] at h9
 subst ha ht hp
 refine h9.mono ?_
 rintro e w' ⟨g,rfl,_,q1,q2,⟨cs,q3,_,q4⟩,q5⟩
 exact ⟨g,cs,rfl,q3,q4,q2,q1,q5⟩
end
theorem HN.major {B N nt gh v:Nat} {P:Nat->NdP} {s:Mt} {W w:World} (h:HN B N nt gh v P s W w):(Calls Tryz.prog 33 #[.pointer (some ⟨nt,0,none⟩)] w fun e w'=>e=.returned (.int .i64 ((3:Nat):Int))/\w'=w)/\Calls Tryz.prog 34 #[.pointer (some ⟨nt,0,none⟩)] w fun e w'=>e=.returned (.int .i64 2)/\w'=w:=by
 obtain ⟨wv,lv,h1⟩:=h.nds
 exact ⟨nodes_any h1,major_3 h1⟩
theorem aGq [WF] [WC] {B N nt gh gb v who m K on oc:Nat} {P:Nat->NdP} {s:Mt} {W w:World} {oa:Option Addr} {ov:List Nat} (h:HN B N nt gh v P s W w) (hok:MtOk K m s) (hb:w.heap[gb]?=some (.cells #[.pointer (some ⟨nt,0,none⟩),.int .i64 (v:Int),.int .i64 (who:Int),.int .i64 0] 60 (0,0))) (hgB:B<=gb) (hv:v<=16) (hw:who<=3) (hK:K<=1000000000) (hm:m<=69) (hN:m+49<=N) (ho:BK B w oa on oc ov) (hon:on<=1800) :
  Calls Tryz.prog 20 #[.pointer (some ⟨gb,0,none⟩),.slice oa on oc] w fun e w'=>AsF B gb w w'/\HN B N nt gh v P (dec v who ov 3 s 0).2 W w'/\DeE B (dec v who ov 3 s 0).1 e w':=by
 have lt:∀ {k:Nat} {o:Obj} {ww:World},ww.heap[k]?=some o->k<ww.heap.size:=fun e=>(lO e)
 have HM:=hide h
 have HB:=hide hb
 have HG:=hide hgB
 have HO:=hide ho
 have HV:=hide hv
 have HW:=hide hw
 have HKK:=hide hK
 have HMM:=hide hm
 have HNN:=hide hN
 have HON:=hide hon
 have HOK:=hide hok
 have HOL:Hid (ov.length=on):=ho.1.hlen
 have hbd:Below w.heap.size w w.drew:=(Below.refl _ _).drew
 have HND:=hide (h.later hbd).major
 have HX1:Hid ((fun wx=>wx.cell? ⟨gb,0,none⟩=some (.pointer (some ⟨nt,0,none⟩))) w.drew):=aAa (show w.drew.heap[gb]?=_ from hb)
 have HMD:=hide (h.later hbd)
 have HBD:Hid (w.drew.heap[gb]?=_):=hb
 have HOD:=hide (ho.later hbd h.bw)
 have HFD:Hid (AsF B gb w w.drew):=AsF.ns (NsF.of hbd h.bw)
 clear h hb hgB ho hv hw hK hm hN hon hbd hok
 go_enter Tryz.func20,Tryz.ntmps20
 go_wp2_with fail
 go_step3
 go_upto_region 1 with fail
 refine wp_region_noPanic ?_
 refine wp_region_held_drew (S:=fun wx=>wx.cell? ⟨gb,0,none⟩=some (.pointer (some ⟨nt,0,none⟩))) (by kernel_rfl) HX1.out (fun hHeld=>?_)
 refine wpAnyH_tk 0 16 ?_
 refine wpAnyH_tk 1 17 ?_
 refine wpAnyH_tk 2 18 ?_
 refine wpAnyH_tk 3 19 ?_
 refine wpAnyH_tk 5 21 ?_
 refine wpAnyH_tk 6 22 ?_
 refine wpAnyH_tk 7 23 ?_
 refine wpAnyH_tk 8 24 ?_
 refine wpAnyH_cm 4 ?_;intro K hK
 go_simp
 refine HND.out.1.mono ?_
 rintro e w2 ⟨rfl,hw⟩
 have hw:=hw.symm
 subst hw
 refine hK.out _ _ HX1.out (fun hHeld=>?_)
 clear hK K
 try simp only [Act.put,siT,scZ,scS]
 refine wpAnyH_cm 9 ?_;intro K hK
 go_simp
 refine HND.out.2.mono ?_
 rintro e w2 ⟨rfl,hw⟩
 have hw:=hw.symm
 subst hw
 refine hK.out _ _ HX1.out (fun hHeld=>?_)
 clear hK K
 try simp only [Act.put,siT,scZ,scS]
 refine wpAnyH_tk 10 26 ?_
 refine wpAnyH_tk 11 7 ?_
 refine wpAnyH_done (by kernel_rfl) ?_ _
 refine NoPanic.normal ?_
 clear hHeld
 generalize w.drew=w0 at *
 clear HND HX1
 go_wp2_with fail
 have hw1:IntKind.i64.wrap 1=1:=rfl
 rw [hw1]
 clear hw1
 go_step3
 go_wp2_with fail
 go_loopg [27] 3 (fun g s27 wx=>∃ (r p:Nat) (t:Mt),r+g=3/\s27=.int .i64 (r:Int)/\dec v who ov 3 s 0=dec v who ov g t p/\p<=K+16*r/\MtOk (K+16*r) (m+5*r) t/\DGI B N nt gh gb v who p on oc P t oa ov W w wx)
 case atStart=>exact ⟨0,0,s,by omega,rfl,rfl,Nat.zero_le _,HOK.out,HMD.out,HBD.out,HOD.out,HFD.out⟩
 case round =>
  obtain ⟨r,p,t,hrg,rfl,hde,hpk,hokt,hI⟩:=hrel
  have HI:=hide hI
  have HDE:=hide hde
  have HPK:=hide hpk
  have HOKT:=hide hokt
  clear hI HMD HBD HOD HFD hde hpk hokt
  cases gk with
  | zero =>
   have hr3:r=3:=by omega
   subst hr3
   have i1:¬ ((3:Nat):Int)<3:=by omega
   go_wp2_with fail
   try rw [Exit.noGoto_ret]
   go_ret3
   rw [HDE.out]
   exact ⟨HI.out.f,HI.out.m,DeE.no rfl⟩
  | succ g =>
   have i1:(r:Int)<3:=by omega
   have i2:(r:Int)<1000:=by omega
   have hr2:r<=2:=by omega
   have hp3:p<1152921504606846976:=by have:=HPK.out;have:=HKK.out;omega
   have hbp:bal p who<9223372036854775808:=by unfold bal;have:=HW.out;omega
   have hbp1:1<=bal p who:=by unfold bal;omega
   have HBK:=hide (bal_le (K:=K+16*r) HPK.out HW.out)
   have HBP:=hide (And.intro hbp1 hbp)
   have HBLT:=hide (ballot_any HI.out.b hp3 HW.out)
   clear hp3 hbp hbp1
   go_wp2_with fail
   refine HBLT.out.mono ?_
   rintro e w1 ⟨rfl,hb1⟩
   have HJ:=hide (HI.out.later hb1)
   clear hb1 HBLT HI
   obtain ⟨a,HA⟩:∃ a,Hid (a=akA v false (bal p who) [] t):=⟨_,rfl⟩
   obtain ⟨t1,HT1⟩:∃ t1,Hid (t1=akS v false (bal p who) [] t 3):=⟨_,rfl⟩
   obtain ⟨p1,HP1⟩:∃ p1,Hid (p1=prj a p 3):=⟨_,rfl⟩
   have HAK:=hide (HJ.out.m.askp HOKT.out (by have:=HMM.out;omega) (by have:=HNN.out;omega) HBK.out HV.out HBP.out.1 HBP.out.2 HJ.out.b HG.out HA.out HT1.out HP1.out)
   have HOKA:Hid (MtOk (K+16*r+8) (m+5*r+1) t1):=by show MtOk _ _ _;rw [HT1.out];exact HOKT.out.ask (k:=false) HBK.out (Nat.zero_le _)
   have HANL:Hid (∀ i,i<3->(a i).tl<=K+16*r+8/\(a i).val.length<=1800):=by
    intro i hi
    rw [HA.out]
    exact akA_ok (K:=K+16*r+8) (fun i hi=>⟨by have:=(HOKT.out.r i hi).1;omega,(HOKT.out.r i hi).2⟩) HOKT.out.f HBK.out (Nat.zero_le _) i hi
   have HPKA:Hid (p1<=K+16*r+8):=by show p1<=_;rw [HP1.out];exact prj_le (by have:=HPK.out;omega) 3 fun i hi=>(HANL.out i hi).1
   have HPK1:Hid (p1<=K+16*(r+1)):=by show p1<=_;have:=HPKA.out;omega
   have HOK1:Hid (MtOk (K+16*(r+1)) (m+5*(r+1)) t1):=⟨fun i hi=>⟨by have:=(HOKA.out.r i hi).1;omega,(HOKA.out.r i hi).2⟩,HOKA.out.f,fun i hi=>by have:=HOKA.out.m i hi;omega,HOKA.out.k⟩
   go_wp2_with fail
   refine HAK.out.mono ?_
   rintro e w2 ⟨g5,cs,rfl,hh5,hr5,hb5,hm5,hf5⟩
   have HH5:=hide hh5
   have HR5:=hide hr5
   have HB5:=hide hb5
   have HM5:=hide hm5
   have HF5:=hide (HJ.out.f.trans hf5)
   have HK5:=hide (HJ.out.k.ft (hf5.ft HJ.out.b))
   have HK2:Hid (DGI B N nt gh gb v who p1 on oc P t1 oa ov W w w2):=⟨hm5,hb5,HK5.out,HF5.out⟩
   clear hh5 hr5 hb5 hm5 hf5 HAK HJ
   go_wp2_with fail
   go_loopg [9,10,11,36] 3 (fun g2 s9 s10 s11 s36 wx=>∃ (j x10 mi:Nat) (va:Option Addr) (n c:Nat),j+g2=3/\s9=.slice va n c/\s10=.int .i64 (x10:Int)/\s11=.int .i64 (mi:Int)/\s36=.int .i64 (j:Int)/\x10=(bst a ov j).1/\mi=mis a j/\mi<=1/\BK B w2 va n c (bst a ov j).2/\Below w2.heap.size w2 wx)
   case atStart=>exact ⟨0,0,0,oa,on,oc,by omega,rfl,rfl,rfl,rfl,rfl,rfl,by decide,HK5.out,Below.refl _ _⟩
   case round =>
    obtain ⟨j,x10,mi,va,n,c,hjg,rfl,rfl,rfl,rfl,hx10,hmi,hmi1,hkv,hbx⟩:=hrel
    have HX10:=hide hx10
    have HMI:=hide hmi
    have HKV:=hide hkv
    have HBX:=hide hbx
    clear hx10 hmi hkv hbx
    cases gk with
    | zero =>
     have hj3:j=3:=by omega
     subst hj3
     have HM3:Hid (¬ 2<=mis a 3):=by show ¬ _;have:=HMI.out;omega
     have HNL:Hid (n<=1800):=by
      show n<=1800
      have h9:=HKV.out.1.hlen
      have h8:=bst_le (a:=a) (ov:=ov) (by have:=HOL.out;have:=HON.out;omega) 3 fun i hi=>(HANL.out i hi).2
      omega
     obtain ⟨cb,HCB⟩:∃ cb,Hid (cb=decide ((bst a ov 3).1=0/\ov.length=0)):=⟨_,rfl⟩
     have i3:¬ ((3:Nat):Int)<3:=by omega
     go_upto_region 14 with fail
     go_cut [27,71] from 27 to 98 (fun i c wx=>i=.int .i64 (r:Int)/\c=.bool cb/\wx=wr)
     case first =>
      by_cases c1:x10=0
      ·subst c1
       have HC0:Hid ((bst a ov 3).1=0):=HX10.out.symm
       by_cases c2:on=0
       ·have HC2:Hid (ov.length=0):=HOL.out.trans c2
        subst c2
        go_wp2
        go_meet
        case rel=>exact ⟨rfl,by rw [HCB.out];simp [HC0.out,HC2.out],rfl⟩
       ·have k2:¬ (on:Int)=0:=by omega
        have HC2:Hid (¬ ov.length=0):=by show ¬ _;rw [HOL.out];exact c2
        go_wp2
        go_meet
        case rel=>exact ⟨rfl,by rw [HCB.out,decide_eq_false (fun h=>HC2.out h.2)];simp;omega,rfl⟩
      ·have HC0:Hid (¬ (bst a ov 3).1=0):=by show ¬ _;rw [<-HX10.out];exact c1
       have k1:¬ (x10:Int)=0:=by omega
       go_wp2
       go_meet
       case rel=>exact ⟨rfl,by rw [HCB.out,decide_eq_false (fun h=>HC0.out h.1)],rfl⟩
     case rest =>
      obtain ⟨rfl,rfl,rfl⟩:=hcut
      by_cases hcc:(bst a ov 3).1=0/\ov.length=0
      ·have hcb:cb=true:=by rw [HCB.out];exact decide_eq_true hcc
       subst hcb
       go_wp2_with fail
       try rw [Exit.noGoto_ret]
       go_ret3
       rw [HDE.out,dec_n HA.out HT1.out HM3.out hcc]
       exact ⟨HF5.out.trans (AsF.ns (NsF.of HBX.out HM5.out.bw)),HM5.out.later HBX.out,DeE.nil rfl⟩
      ·have hcb:cb=false:=by rw [HCB.out];simp only [decide_eq_false_iff_not];exact hcc
       subst hcb
       obtain ⟨a2,HA2⟩:∃ a2,Hid (a2=akA v true (bal p who) (bst a ov 3).2 t1):=⟨_,rfl⟩
       obtain ⟨t2,HT2⟩:∃ t2,Hid (t2=akS v true (bal p who) (bst a ov 3).2 t1 3):=⟨_,rfl⟩
       obtain ⟨p2,HP2⟩:∃ p2,Hid (p2=prj a2 p1 3):=⟨_,rfl⟩
       have HBL2:Hid ((bst a ov 3).2.length<=1800):=bst_le (a:=a) (ov:=ov) (by have:=HOL.out;have:=HON.out;omega) 3 fun i hi=>(HANL.out i hi).2
       have HOK2:Hid (MtOk (K+16*(r+1)) (m+5*(r+1)) t2):=by
        show MtOk _ _ _
        rw [HT2.out]
        exact HOKA.out.ask (k:=true) (by have:=HBK.out;omega) HBL2.out
       have HPK2:Hid (p2<=K+16*(r+1)):=by
        show p2<=_
        rw [HP2.out,HA2.out]
        exact prj_le HPK1.out 3 fun i hi=>nT (akA_ok (K:=K+16*r+8) HOKA.out.r HOKA.out.f HBK.out HBL2.out i hi).1 (by omega)
       have HB6:Hid (wc.heap[gb]?=_):=(HBX.out.block gb (lt HB5.out)).trans HB5.out
       have HAK2:=hide ((HM5.out.later HBX.out).aska HOKA.out (by have:=HMM.out;omega) (by have:=HNN.out;omega) HBK.out HV.out HBP.out.1 HBP.out.2 HB6.out HG.out (HKV.out.later HBX.out HM5.out.bw) HNL.out HA2.out HT2.out HP2.out)
       have HF6:=hide (HF5.out.trans (AsF.ns (NsF.of HBX.out HM5.out.bw)))
       have HK6:=hide (HKV.out.later HBX.out HM5.out.bw)
       have HO6:=hide (HK5.out.later HBX.out HM5.out.bw)
       have HCC:=hide hcc
       clear hcc HKV
       go_wp2_with fail
       refine HAK2.out.mono ?_
       rintro e w4 ⟨g7,cs7,rfl,hh7,hr7,hb7,hm7,hf7⟩
       have HH7:=hide hh7
       have HR7:=hide hr7
       have HM7:=hide hm7
       have HF7:=hide (HF6.out.trans hf7)
       have HK7:=hide (HK6.out.ft (hf7.ft HB6.out))
       have HK3:Hid (DGI B N nt gh gb v who p2 on oc P t2 oa ov W w w4):=⟨hm7,hb7,HO6.out.ft (hf7.ft HB6.out),HF7.out⟩
       clear hh7 hr7 hb7 hm7 hf7 HAK2 HF6 HK6 HB6 HO6 HMI hmi1 HX10
       go_wp2_with fail
       go_loopg [11,77] 3 (fun g3 s11 s77 wx=>∃ j mi:Nat,j+g3=3/\s11=.int .i64 (mi:Int)/\s77=.int .i64 (j:Int)/\mi=mis a2 j/\mi<=1/\Below w4.heap.size w4 wx)
       case atStart=>exact ⟨0,0,by omega,rfl,rfl,rfl,by decide,Below.refl _ _⟩
       case round =>
        obtain ⟨j,mi,hjg3,rfl,rfl,hmi,hmi1,hbx⟩:=hrel
        clear HBX
        have HBX:=hide hbx
        have HMI:=hide hmi
        clear hbx hmi
        cases gk with
        | zero =>
         have hj3:j=3:=by omega
         subst hj3
         have i5:¬ ((3:Nat):Int)<3:=by omega
         go_wp2_with fail
         try rw [Exit.noGoto_ret]
         go_ret3
         have hn9:n=(bst a ov 3).2.length:=HK7.out.1.hlen.symm
         have h8:=HK7.out.later HBX.out HM7.out.bw
         rw [hn9] at h8 ⊢
         rw [HDE.out,dec_d HA.out HT1.out HM3.out HCC.out HA2.out HT2.out (by have:=HMI.out;omega)]
         exact ⟨HF7.out.trans (AsF.ns (NsF.of HBX.out HM7.out.bw)),HM7.out.later HBX.out,DeE.yes ⟨va,c,rfl,h8⟩⟩
        | succ g3 =>
         have i5:(j:Int)<3:=by omega
         have i6:(0:Int)<=(j:Int):=by omega
         have i7:(j:Int)<1000:=by omega
         obtain ⟨ae,HAE⟩:∃ ae,Hid ((a2 j).e=ae):=⟨_,rfl⟩
         obtain ⟨tl,HTL⟩:∃ tl:Int,Hid (((a2 j).tl:Int)=tl):=⟨_,rfl⟩
         obtain ⟨bl,HBL⟩:∃ bl:Int,Hid (((a2 j).bl:Int)=bl):=⟨_,rfl⟩
         obtain ⟨vn,HVN⟩:∃ vn:Nat,Hid ((a2 j).val.length=vn):=⟨_,rfl⟩
         obtain ⟨sa,sc,a0,a1,a2,a3,a4,a5,a6⟩:=HR7.out j (by omega)
         rw [HAE.out] at a0
         rw [HTL.out] at a1
         rw [HBL.out] at a4
         rw [HVN.out] at a5 a6
         have hgx:=(HBX.out.block g7 (lt HH7.out)).trans HH7.out
         have e0:wr.cell? ⟨g7,j*6,none⟩=some (.int .i64 ae):=(aAa hgx).trans a0
         have e1:wr.cell? ⟨g7,j*6+1,none⟩=some (.int .i64 tl):=(aAa hgx).trans a1
         have e2:wr.cell? ⟨g7,j*6+2,none⟩=some (.bool false):=(aAa hgx).trans a2
         have e3:wr.cell? ⟨g7,j*6+3,none⟩=some (.int .i64 0):=(aAa hgx).trans a3
         have e4:wr.cell? ⟨g7,j*6+4,none⟩=some (.int .i64 bl):=(aAa hgx).trans a4
         have e5:wr.cell? ⟨g7,j*6+5,none⟩=some (.slice sa vn sc):=(aAa hgx).trans a5
         have HBA:=hide (aAc wr (.cells #[.int .i64 ae,.int .i64 tl,.bool false,.int .i64 0,.int .i64 bl,.slice sa vn sc] 75))
         have HAN:Hid ((wr.alloc (.cells #[.int .i64 ae,.int .i64 tl,.bool false,.int .i64 0,.int .i64 bl,.slice sa vn sc] 75)).heap[wr.heap.size]?=some (.cells #[.int .i64 ae,.int .i64 tl,.bool false,.int .i64 0,.int .i64 bl,.slice sa vn sc] 75 (0,0))):=heap_alloc_new wr _
         have HB3:Hid (Below w4.heap.size w4 (wr.alloc (.cells #[.int .i64 ae,.int .i64 tl,.bool false,.int .i64 0,.int .i64 bl,.slice sa vn sc] 75))):=HBX.out.trans (HBA.out.mono HBX.out.size)
         have HA6:=hide a6
         clear a0 a1 a2 a3 a4 a5 a6 hgx
         go_upto_region 20 with fail
         clear e0 e1 e2 e3 e4 e5
         generalize wr.alloc (.cells #[.int .i64 ae,.int .i64 tl,.bool false,.int .i64 0,.int .i64 bl,.slice sa vn sc] 75)=x3 at *
         generalize wr.heap.size=n3 at *
         have y0:x3.cell? ⟨n3,0,none⟩=some (.int .i64 ae):=aAa HAN.out
         have HE:Hid ((a2 j).e=0\/(a2 j).e=41\/(a2 j).e=40):=by rw [HA2.out];exact akA_e _ _ _ _ _ _
         rcases HE.out with he | he | he
         ·rw [HAE.out] at he
          subst he
          have HEZ:Hid ((a2 j).e=0):=HAE.out
          have HMI2:Hid (mi=mis a2 (j+1)):=by show mi=mis a2 j+_;rw [if_pos HEZ.out];exact HMI.out
          go_wp2_with fail
          go_roundg g3
          case measure=>omega
          case rel=>exact ⟨j+1,mi,by omega,rfl,by go_num,HMI2.out,hmi1,HB3.out⟩
         ·rw [HAE.out] at he
          subst he
          have HNZ:Hid ((a2 j).e≠0):=by show (a2 j).e≠0;rw [HAE.out];decide
          by_cases hm0:mi=0
          ·subst hm0
           go_wp2_with fail
           go_roundg g3
           case measure=>omega
           case rel=>exact ⟨j+1,1,by omega,rfl,by go_num,by have h9:=HMI.out;show _=mis a2 j+_;rw [<-h9,if_neg HNZ.out],by decide,HB3.out⟩
          ·have hm9:mi=1:=by omega
           subst hm9
           go_wp2_with fail
           go_roundg g
           case measure=>omega
           case rel=>exact ⟨r+1,p2,t2,by omega,by go_num,by rw [HDE.out];exact dec_a HA.out HT1.out HP1.out HM3.out HCC.out HA2.out HT2.out HP2.out (aHe HMI.out.symm HNZ.out (by omega)),HPK2.out,HOK2.out,HK3.out.later HB3.out⟩
         ·rw [HAE.out] at he
          subst he
          have HNZ:Hid ((a2 j).e≠0):=by show (a2 j).e≠0;rw [HAE.out];decide
          by_cases hm0:mi=0
          ·subst hm0
           go_wp2_with fail
           go_roundg g3
           case measure=>omega
           case rel=>exact ⟨j+1,1,by omega,rfl,by go_num,by have h9:=HMI.out;show _=mis a2 j+_;rw [<-h9,if_neg HNZ.out],by decide,HB3.out⟩
          ·have hm9:mi=1:=by omega
           subst hm9
           go_wp2_with fail
           go_roundg g
           case measure=>omega
           case rel=>exact ⟨r+1,p2,t2,by omega,by go_num,by rw [HDE.out];exact dec_a HA.out HT1.out HP1.out HM3.out HCC.out HA2.out HT2.out HP2.out (aHe HMI.out.symm HNZ.out (by omega)),HPK2.out,HOK2.out,HK3.out.later HB3.out⟩
    | succ g2 =>
     have i3:(j:Int)<3:=by omega
     have i4:(0:Int)<=(j:Int):=by omega
     have i5:(j:Int)<1000:=by omega
     obtain ⟨ae,HAE⟩:∃ ae,Hid ((a j).e=ae):=⟨_,rfl⟩
     obtain ⟨tl,HTL⟩:∃ tl:Int,Hid (((a j).tl:Int)=tl):=⟨_,rfl⟩
     obtain ⟨bl,HBL⟩:∃ bl:Int,Hid (((a j).bl:Int)=bl):=⟨_,rfl⟩
     obtain ⟨vn,HVN⟩:∃ vn:Nat,Hid ((a j).val.length=vn):=⟨_,rfl⟩
     obtain ⟨sa,sc,a0,a1,a2,a3,a4,a5,a6⟩:=HR5.out j (by omega)
     rw [HAE.out] at a0
     rw [HTL.out] at a1
     rw [HBL.out] at a4
     rw [HVN.out] at a5 a6
     have hgx:=(HBX.out.block g5 (lt HH5.out)).trans HH5.out
     have e0:wr.cell? ⟨g5,j*6,none⟩=some (.int .i64 ae):=(aAa hgx).trans a0
     have e1:wr.cell? ⟨g5,j*6+1,none⟩=some (.int .i64 tl):=(aAa hgx).trans a1
     have e2:wr.cell? ⟨g5,j*6+2,none⟩=some (.bool false):=(aAa hgx).trans a2
     have e3:wr.cell? ⟨g5,j*6+3,none⟩=some (.int .i64 0):=(aAa hgx).trans a3
     have e4:wr.cell? ⟨g5,j*6+4,none⟩=some (.int .i64 bl):=(aAa hgx).trans a4
     have e5:wr.cell? ⟨g5,j*6+5,none⟩=some (.slice sa vn sc):=(aAa hgx).trans a5
     have HBA:=hide (aAc wr (.cells #[.int .i64 ae,.int .i64 tl,.bool false,.int .i64 0,.int .i64 bl,.slice sa vn sc] 75))
     have HAN:Hid ((wr.alloc (.cells #[.int .i64 ae,.int .i64 tl,.bool false,.int .i64 0,.int .i64 bl,.slice sa vn sc] 75)).heap[wr.heap.size]?=some (.cells #[.int .i64 ae,.int .i64 tl,.bool false,.int .i64 0,.int .i64 bl,.slice sa vn sc] 75 (0,0))):=heap_alloc_new wr _
     have HB3:Hid (Below w2.heap.size w2 (wr.alloc (.cells #[.int .i64 ae,.int .i64 tl,.bool false,.int .i64 0,.int .i64 bl,.slice sa vn sc] 75))):=HBX.out.trans (HBA.out.mono HBX.out.size)
     have HA6:=hide a6
     clear a0 a1 a2 a3 a4 a5 a6 hgx
     go_upto_region 8 with fail
     clear e0 e1 e2 e3 e4 e5
     generalize wr.alloc (.cells #[.int .i64 ae,.int .i64 tl,.bool false,.int .i64 0,.int .i64 bl,.slice sa vn sc] 75)=x3 at *
     generalize wr.heap.size=n3 at *
     have y0:x3.cell? ⟨n3,0,none⟩=some (.int .i64 ae):=aAa HAN.out
     have HE:Hid ((a j).e=0\/(a j).e=41\/(a j).e=40):=by rw [HA.out];exact akA_e _ _ _ _ _ _
     rcases HE.out with he | he | he
     ·rw [HAE.out] at he
      subst he
      have HEZ:Hid ((a j).e=0):=HAE.out
      have y4:x3.cell? ⟨n3,4,none⟩=some (.int .i64 bl):=aAa HAN.out
      have HMI2:Hid (mi=mis a (j+1)):=by show mi=mis a j+_;rw [if_pos HEZ.out];exact HMI.out
      by_cases c9:(x10:Int)<bl
      ·go_upto_region 12 with fail
       have HX12:Hid ((fun wx=>wx.cell? ⟨n3,4,none⟩=some (.int .i64 bl)/\wx.cell? ⟨n3,5,none⟩=some (.slice sa vn sc)) x3.drew):=⟨aAa (show x3.drew.heap[n3]?=_ from HAN.out),aAa (show x3.drew.heap[n3]?=_ from HAN.out)⟩
       refine wp_region_noPanic ?_
       refine wp_region_held_drew (S:=fun wx=>wx.cell? ⟨n3,4,none⟩=some (.int .i64 bl)/\wx.cell? ⟨n3,5,none⟩=some (.slice sa vn sc)) (by kernel_rfl) HX12.out (fun hHeld=>?_)
       refine wpAnyH_tk 0 60 ?_
       refine wpAnyH_tk 1 61 ?_
       refine wpAnyH_tk 2 62 ?_
       refine wpAnyH_tk 3 63 ?_
       refine wpAnyH_tk 4 10 ?_
       refine wpAnyH_tk 5 9 ?_
       refine wpAnyH_done (by kernel_rfl) ?_ _
       refine NoPanic.normal ?_
       clear hHeld
       have hb9:Below x3.heap.size x3 x3.drew:=(Below.refl _ _).drew
       have HB4:Hid (Below w2.heap.size w2 x3.drew):=HB3.out.trans (hb9.mono HB3.out.size)
       have HST2:Hid (bst a ov (j+1)=((a j).bl,(a j).val)):=by
        show (if _ then _ else _)=_
        rw [if_pos ⟨HEZ.out,by rw [<-HX10.out];have:=HBL.out;omega⟩]
       have HBLN:Hid (bl=(((a j).bl:Nat):Int)):=HBL.out.symm
       have HKV2:Hid (BK B w2 sa vn sc (bst a ov (j+1)).2):=by show BK B w2 sa vn sc _;rw [HST2.out];exact HA6.out
       go_wp2_with fail
       go_roundg g2
       case measure=>omega
       case rel=>exact ⟨j+1,(a j).bl,mi,sa,vn,sc,by omega,rfl,by rw [HBLN.out],rfl,by go_num,by rw [HST2.out],HMI2.out,hmi1,HKV2.out,HB4.out⟩
      ·have HST2:Hid (bst a ov (j+1)=bst a ov j):=by
        show (if _ then _ else _)=_
        rw [if_neg (fun h=>c9 (by have h9:=h.2;rw [<-HX10.out] at h9;have:=HBL.out;omega))]
       have HKV2:Hid (BK B w2 va n c (bst a ov (j+1)).2):=by show BK B w2 va n c _;rw [HST2.out];exact HKV.out
       go_wp2_with fail
       go_roundg g2
       case measure=>omega
       case rel=>exact ⟨j+1,x10,mi,va,n,c,by omega,rfl,rfl,rfl,by go_num,by rw [HST2.out];exact HX10.out,HMI2.out,hmi1,HKV2.out,HB3.out⟩
     ·rw [HAE.out] at he
      subst he
      have HNZ:Hid ((a j).e≠0):=by show (a j).e≠0;rw [HAE.out];decide
      have HSTEP:Hid (x10=(bst a ov (j+1)).1):=by
       show x10=(if _ then _ else _:Nat×List Nat).1
       rw [if_neg (fun h=>HNZ.out h.1)]
       exact HX10.out
      have HKV9:Hid (BK B w2 va n c (bst a ov (j+1)).2):=by
       show BK B w2 va n c (if _ then _ else _:Nat×List Nat).2
       rw [if_neg (fun h=>HNZ.out h.1)]
       exact HKV.out
      by_cases hm0:mi=0
      ·subst hm0
       go_wp2_with fail
       go_roundg g2
       case measure=>omega
       case rel=>exact ⟨j+1,x10,1,va,n,c,by omega,rfl,rfl,by first | rfl | simp,by go_num,HSTEP.out,by have h9:=HMI.out;show _=mis a j+_;rw [<-h9,if_neg HNZ.out],by decide,HKV9.out,HB3.out⟩
      ·have hm9:mi=1:=by omega
       subst hm9
       go_wp2_with fail
       go_roundg g
       case measure=>omega
       case rel=>exact ⟨r+1,p1,t1,by omega,by go_num,by rw [HDE.out];exact dec_p HA.out HT1.out HP1.out (aHe HMI.out.symm HNZ.out (by omega)),HPK1.out,HOK1.out,HK2.out.later HB3.out⟩
     ·rw [HAE.out] at he
      subst he
      have HNZ:Hid ((a j).e≠0):=by show (a j).e≠0;rw [HAE.out];decide
      have HSTEP:Hid (x10=(bst a ov (j+1)).1):=by
       show x10=(if _ then _ else _:Nat×List Nat).1
       rw [if_neg (fun h=>HNZ.out h.1)]
       exact HX10.out
      have HKV9:Hid (BK B w2 va n c (bst a ov (j+1)).2):=by
       show BK B w2 va n c (if _ then _ else _:Nat×List Nat).2
       rw [if_neg (fun h=>HNZ.out h.1)]
       exact HKV.out
      by_cases hm0:mi=0
      ·subst hm0
       go_wp2_with fail
       go_roundg g2
       case measure=>omega
       case rel=>exact ⟨j+1,x10,1,va,n,c,by omega,rfl,rfl,by first | rfl | simp,by go_num,HSTEP.out,by have h9:=HMI.out;show _=mis a j+_;rw [<-h9,if_neg HNZ.out],by decide,HKV9.out,HB3.out⟩
      ·have hm9:mi=1:=by omega
       subst hm9
       go_wp2_with fail
       go_roundg g
       case measure=>omega
       case rel=>exact ⟨r+1,p1,t1,by omega,by go_num,by rw [HDE.out];exact dec_p HA.out HT1.out HP1.out (aHe HMI.out.symm HNZ.out (by omega)),HPK1.out,HOK1.out,HK2.out.later HB3.out⟩
theorem mis3 (a:Nat->An):mis a 3=(if (a 0).e=0 then 0 else 1)+(if (a 1).e=0 then 0 else 1)+(if (a 2).e=0 then 0 else 1):=by
 show 0+(if (a 0).e=0 then 0 else 1)+(if (a 1).e=0 then 0 else 1)+(if (a 2).e=0 then 0 else 1)=_
 rw [Nat.zero_add]
theorem aC2 {a:Nat->An} (h:¬ 2<=mis a 3):((a 0).e=0/\(a 1).e=0)\/((a 0).e=0/\(a 2).e=0)\/((a 1).e=0/\(a 2).e=0):=by
 rw [mis3] at h
 by_cases c0:(a 0).e=0<;>by_cases c1:(a 1).e=0<;>by_cases c2:(a 2).e=0<;>simp [c0,c1,c2] at h ⊢
theorem aG0 {p q:Nat->Prop} (hp:(p 0/\p 1)\/(p 0/\p 2)\/(p 1/\p 2)) (hq:(q 0/\q 1)\/(q 0/\q 2)\/(q 1/\q 2)):∃ i,i<3/\p i/\q i:=by
 rcases hp with ⟨h1,h2⟩ | ⟨h1,h2⟩ | ⟨h1,h2⟩<;>rcases hq with ⟨k1,k2⟩ | ⟨k1,k2⟩ | ⟨k1,k2⟩<;>first | exact ⟨0,by omega,by assumption,by assumption⟩ | exact ⟨1,by omega,by assumption,by assumption⟩ | exact ⟨2,by omega,by assumption,by assumption⟩
theorem rK_ge (k:Bool) (b:Nat) (val:List Nat) (r:Rec):r.1<=(rK k b val r).1:=by
 unfold rK
 split<;>split<;>first | exact nR _ | assumption | exact Nat.le_of_lt (by assumption)
theorem rK_f2 (b:Nat) (val:List Nat) (r:Rec):(rK false b val r).2=r.2:=by
 unfold rK
 simp only [Bool.false_eq_true,if_false]
 split<;>rfl
theorem aK_t2 {b:Nat} {val:List Nat} {r:Rec} (h:(aK true b (rK true b val r)).e=0):(aK true b r).e=0:=by
 unfold aK rK at h
 unfold aK
 simp only [if_true] at h ⊢
 by_cases c:r.1<=b
 ·rw [if_pos c]
 ·rw [if_neg c,if_neg c] at h
  rw [if_neg c]
  exact h
theorem aK_f2 {b:Nat} {val:List Nat} {r:Rec}:(aK false b (rK false b val r)).e≠0:=by
 unfold aK rK
 simp only [Bool.false_eq_true,if_false]
 by_cases c:r.1<b
 ·rw [if_pos c,if_neg (Nat.lt_irrefl _)]
  exact fun h=>absurd (show (41:Int)=0 from h) (by decide)
 ·rw [if_neg c,if_neg c]
  exact fun h=>absurd (show (41:Int)=0 from h) (by decide)
theorem aK_t0 {b:Nat} {r r':Rec} (h:(aK true b r).e=0) (h':(aK true b r').e=0):aK true b r=aK true b r':=by
 unfold aK at h h' ⊢
 simp only [if_true] at h h' ⊢
 split at h
 ·split at h'
  ·rw [if_pos (by assumption),if_pos (by assumption)]
  ·cases h'
 ·cases h
def Did (k:Bool) (b:Nat) (val:List Nat) (r r':Rec) (a:An):Prop:=(r'=r\/r'=rK k b val r)/\(a.e=0->a=aK k b r/\r'=rK k b val r)
theorem stp_did (v:Nat) (k:Bool) (b:Nat) (val:List Nat) (i:Nat) (s:Mt):Did k b val (s.R i) ((stp v k b val i s).2.R i) (stp v k b val i s).1/\∀ j,j≠i->(stp v k b val i s).2.R j=s.R j:=by
 have u1:∀ x:Rec,upS s.R i x i=x:=fun x=>if_pos rfl
 have u2:∀ (x:Rec) j,j≠i->upS s.R i x j=s.R j:=fun x j h=>if_neg h
 unfold stp
 split
 ·exact ⟨⟨Or.inr (u1 _),fun _=>⟨rfl,u1 _⟩⟩,u2 _⟩
 split
 ·exact ⟨⟨Or.inl rfl,fun h=>absurd (show (40:Int)=0 from h) (by decide)⟩,fun _ _=>rfl⟩
 split
 ·exact ⟨⟨Or.inr (u1 _),fun h=>absurd (show (40:Int)=0 from h) (by decide)⟩,u2 _⟩
 split
 ·exact ⟨⟨Or.inl rfl,fun h=>absurd (show (40:Int)=0 from h) (by decide)⟩,fun _ _=>rfl⟩
 ·refine ⟨⟨Or.inr ((u1 _).trans (rK_rK _ _ _ _)),fun h=>?_⟩,u2 _⟩
  refine ⟨?_,(u1 _).trans (rK_rK _ _ _ _)⟩
  cases k with
  | false=>exact absurd h aK_f2
  | true=>exact aK_t0 h (aK_t2 h)
theorem aHu (v:Nat) (k:Bool) (b:Nat) (val:List Nat) (s:Mt):∀ j i,(j<=i->(akS v k b val s j).R i=s.R i)/\(i<j->Did k b val (s.R i) ((akS v k b val s j).R i) (akA v k b val s i))
 | 0,i=>⟨fun _=>rfl,fun h=>absurd h (Nat.not_lt_zero i)⟩
 | j+1,i=>by
  obtain ⟨h1,h2⟩:=aHu v k b val s j i
  obtain ⟨h3,h4⟩:=stp_did v k b val j (akS v k b val s j)
  refine ⟨fun h=>(h4 i (by omega)).trans (h1 (by omega)),fun h=>?_⟩
  by_cases c:i=j
  ·subst c
   rw [h1 (nR _)] at h3
   exact h3
  ·show Did k b val (s.R i) ((stp v k b val j (akS v k b val s j)).2.R i) _
   rw [h4 i c]
   exact h2 (by omega)
theorem aF0 (v:Nat) (k:Bool) (b:Nat) (val:List Nat) (s:Mt) {i:Nat} (hi:i<3):Did k b val (s.R i) ((akS v k b val s 3).R i) (akA v k b val s i):=(aHu v k b val s 3 i).2 hi
theorem aBc {v:Nat} {k:Bool} {b:Nat} {val:List Nat} {s:Mt} (hF:s.F=[]):∀ j,(akS v k b val s j).F=[]/\(akS v k b val s j).l=s.l
 | 0=>⟨hF,rfl⟩
 | j+1=>by
  obtain ⟨h1,h2⟩:=aBc (v:=v) (k:=k) (b:=b) (val:=val) hF j
  have h3:fv (akS v k b val s j).F=0:=by rw [h1];rfl
  show (stp v k b val j (akS v k b val s j)).2.F=[]/\(stp v k b val j (akS v k b val s j)).2.l=s.l
  unfold stp
  rw [if_pos h3]
  exact ⟨by show (akS v k b val s j).F.tail=[];rw [h1];rfl,h2⟩
theorem aB8 {v:Nat} {k:Bool} {b:Nat} {val:List Nat} {s:Mt} (hF:s.F=[]) (i:Nat):akA v k b val s i=aK k b (s.R i):=by
 have h3:fv (akS v k b val s i).F=0:=by rw [(aBc hF i).1];rfl
 unfold akA stp
 rw [if_pos h3,(aHu v k b val s i i).1 (nR _)]
theorem aCx {v:Nat} {k:Bool} {b:Nat} {val:List Nat} {s:Mt} (hF:s.F=[]):∀ j i,i<j->(akS v k b val s j).R i=rK k b val (s.R i)
 | 0,i,h=>absurd h (Nat.not_lt_zero i)
 | j+1,i,h=>by
  have h3:fv (akS v k b val s j).F=0:=by rw [(aBc hF j).1];rfl
  by_cases c:i=j
  ·subst c
   show (stp v k b val i (akS v k b val s i)).2.R i=_
   unfold stp
   rw [if_pos h3,(aHu v k b val s i i).1 (nR _)]
   exact if_pos rfl
  ·show (stp v k b val j (akS v k b val s j)).2.R i=_
   rw [(stp_did v k b val j _).2 i c]
   exact aCx hF j i (by omega)
theorem prj_ge {a:Nat->An} {p:Nat}:∀ j i,i<j->(a i).tl<=prj a p j
 | 0,i,h=>absurd h (Nat.not_lt_zero i)
 | j+1,i,h=>by
  show _<=max (prj a p j) (a j).tl
  by_cases c:i=j
  ·subst c
   exact Nat.le_max_right _ _
  ·exact nT (prj_ge j i (by omega)) (Nat.le_max_left _ _)
theorem aK_f_tl (b:Nat) (val:List Nat) (r:Rec):(rK false b val r).1=(aK false b r).tl:=by
 unfold rK aK
 simp only [Bool.false_eq_true,if_false]
 split<;>rfl
theorem aEj {b:Nat} {r:Rec}:(aK false b r).e=0↔r.1<b:=by
 unfold aK
 simp only [Bool.false_eq_true,if_false]
 split
 ·exact ⟨fun _=>by assumption,fun _=>rfl⟩
 ·exact ⟨fun h=>absurd (show (41:Int)=0 from h) (by decide),fun h=>absurd h (by assumption)⟩
theorem aK_t_ok {b:Nat} {r:Rec}:(aK true b r).e=0↔r.1<=b:=by
 unfold aK
 simp only [if_true]
 split
 ·exact ⟨fun _=>by assumption,fun _=>rfl⟩
 ·exact ⟨fun h=>absurd (show (41:Int)=0 from h) (by decide),fun h=>absurd h (by assumption)⟩
theorem aHw (b:Nat) (r:Rec):(aK false b r).bl=r.2.1/\(aK false b r).val=vlR r:=by
 unfold aK
 simp only [Bool.false_eq_true,if_false]
 split<;>exact ⟨rfl,rfl⟩
theorem mis_le {a a':Nat->An} (h:∀ i,i<3->(a i).e=0->(a' i).e=0):mis a' 3<=mis a 3:=by
 rw [mis3,mis3]
 have h0:=h 0 (by omega)
 have h1:=h 1 (by omega)
 have h2:=h 2 (by omega)
 have q:∀ x y:Int,(x=0->y=0)->(if y=0 then 0 else 1)<=(if x=0 then (0:Nat) else 1):=by
  intro x y hxy
  by_cases c:x=0
  ·rw [if_pos c,if_pos (hxy c)];exact nR _
  ·rw [if_neg c];split<;>omega
 exact Nat.add_le_add (Nat.add_le_add (q _ _ h0) (q _ _ h1)) (q _ _ h2)
theorem mis_zero {a:Nat->An} (h:∀ i,i<3->(a i).e=0):mis a 3=0:=by
 rw [mis3,if_pos (h 0 (by omega)),if_pos (h 1 (by omega)),if_pos (h 2 (by omega))]
section
variable {v who:Nat} {ov:List Nat}
theorem fair_one {g p:Nat} {s:Mt} (hF:s.F=[]) (h:¬ 2<=mis (akA v false (bal p who) [] s) 3):dec v who ov (g+1) s p=if (bst (akA v false (bal p who) [] s) ov 3).1=0/\ov.length=0 then (some none,akS v false (bal p who) [] s 3) else (some (some (bst (akA v false (bal p who) [] s) ov 3).2),akS v true (bal p who) (bst (akA v false (bal p who) [] s) ov 3).2 (akS v false (bal p who) [] s 3) 3):=by
 by_cases c:(bst (akA v false (bal p who) [] s) ov 3).1=0/\ov.length=0
 ·rw [if_pos c]
  exact dec_n rfl rfl h c
 ·rw [if_neg c]
  refine dec_d rfl rfl h c rfl rfl fun h2=>h (nT h2 (mis_le fun i hi he=>?_))
  rw [aB8 hF,aEj] at he
  rw [aB8 (aBc hF 3).1,aK_t_ok,aCx hF 3 i hi]
  unfold rK
  rw [if_neg (by decide),if_pos he]
  exact nR _
theorem aD0 {s:Mt} (hF:s.F=[]):∃ (p:Nat) (t:Mt),t.F=[]/\t.l=s.l/\(∀ i,i<3->(t.R i).2=(s.R i).2/\(s.R i).1<=(t.R i).1)/\(∀ i,t.m i<=s.m i+1)/\¬ 2<=mis (akA v false (bal p who) [] t) 3/\dec v who ov 3 s 0=if (bst (akA v false (bal p who) [] t) ov 3).1=0/\ov.length=0 then (some none,akS v false (bal p who) [] t 3) else (some (some (bst (akA v false (bal p who) [] t) ov 3).2),akS v true (bal p who) (bst (akA v false (bal p who) [] t) ov 3).2 (akS v false (bal p who) [] t 3) 3):=by
 by_cases c:2<=mis (akA v false (bal 0 who) [] s) 3
 ·have hF1:=aBc (v:=v) (k:=false) (b:=bal 0 who) (val:=[]) hF 3
  have hR1:=aCx (v:=v) (k:=false) (b:=bal 0 who) (val:=[]) hF 3
  have h0:¬ 2<=mis (akA v false (bal (prj (akA v false (bal 0 who) [] s) 0 3) who) [] (akS v false (bal 0 who) [] s 3)) 3:=by
   rw [mis_zero fun i hi=>?_]
   ·omega
   rw [aB8 hF1.1,aEj,hR1 i hi,aK_f_tl]
   have h9:=prj_ge (a:=akA v false (bal 0 who) [] s) (p:=0) 3 i hi
   rw [aB8 hF] at h9
   exact Nat.lt_of_le_of_lt h9 (bal_lt _ _)
  refine ⟨prj (akA v false (bal 0 who) [] s) 0 3,akS v false (bal 0 who) [] s 3,hF1.1,hF1.2,fun i hi=>?_,fun i=>?_,h0,?_⟩
  ·rw [hR1 i hi]
   exact ⟨rK_f2 _ _ _,rK_ge _ _ _ _⟩
  ·exact (akS_m (v:=v) (k:=false) (b:=bal 0 who) (val:=[]) (s:=s) 3 i).1
  ·rw [dec_p rfl rfl rfl c]
   exact fair_one hF1.1 h0
 ·exact ⟨0,s,hF,rfl,fun i hi=>⟨rfl,nR _⟩,fun i=>Nat.le_succ _,c,fair_one hF c⟩
theorem bst_own {a:Nat->An} {ov:List Nat} (h:∀ i,i<3->(a i).e=0->(a i).bl=0):bst a ov 3=(0,ov):=by
 have e1:∀ j,j<=3->bst a ov j=(0,ov):=by
  intro j
  induction j with
  | zero=>intro _;rfl
  | succ j ih =>
   intro hj
   have h1:=ih (by omega)
   show (if _ then _ else _)=_
   rw [h1,if_neg]
   rintro ⟨h2,h3⟩
   rw [h j (by omega) h2] at h3
   exact absurd h3 (Nat.lt_irrefl _)
 exact e1 3 (nR _)
theorem fair_own {s:Mt} (hF:s.F=[]) (h0:∀ i,i<3->(s.R i).2.1=0) (ho:ov.length≠0):(dec v who ov 3 s 0).1=some (some ov):=by
 obtain ⟨p,t,t1,t2,t3,_,t4,t5⟩:=aD0 (v:=v) (who:=who) (ov:=ov) hF
 have hb:bst (akA v false (bal p who) [] t) ov 3=(0,ov):=bst_own fun i hi he=>by
  rw [aB8 t1,(aHw _ _).1,(t3 i hi).1]
  exact h0 i hi
 rw [t5,hb,if_neg (fun h=>ho h.2)]
end
theorem MtOk.up [WF] {K K' m m':Nat} {s:Mt} (h:MtOk K m s) (hK:K<=K') (hm:m<=m'):MtOk K' m' s:=⟨fun i hi=>⟨nT (h.r i hi).1 hK,(h.r i hi).2⟩,h.f,fun i hi=>nT (h.m i hi) hm,h.k⟩
theorem aFt [WF] {v who:Nat} {ov:List Nat} (hw:who<=3) (ho:ov.length<=1800):∀ (g K m p:Nat) (s:Mt),MtOk K m s->p<=K->MtOk (K+16*g) (m+5*g) (dec v who ov g s p).2
 | 0,K,m,p,s,h,hp=>h
 | g+1,K,m,p,s,h,hp=>by
  have hb:=bal_le hp hw
  have h1:MtOk (K+8) (m+1) (akS v false (bal p who) [] s 3):=h.ask (k:=false) hb (Nat.zero_le _)
  have hA:∀ i,i<3->(akA v false (bal p who) [] s i).tl<=K+8/\(akA v false (bal p who) [] s i).val.length<=1800:=akA_ok (K:=K+8) (fun i hi=>⟨by have:=(h.r i hi).1;omega,(h.r i hi).2⟩) h.f hb (Nat.zero_le _)
  have hp1:prj (akA v false (bal p who) [] s) p 3<=K+8:=prj_le (by omega) 3 fun i hi=>(hA i hi).1
  have hbv:(bst (akA v false (bal p who) [] s) ov 3).2.length<=1800:=bst_le ho 3 fun i hi=>(hA i hi).2
  by_cases c:2<=mis (akA v false (bal p who) [] s) 3
  ·rw [dec_p rfl rfl rfl c]
   exact (aFt hw ho g (K+8) (m+1) _ _ h1 hp1).up (by omega) (by omega)
  ·by_cases hno:(bst (akA v false (bal p who) [] s) ov 3).1=0/\ov.length=0
   ·rw [dec_n rfl rfl c hno]
    exact h1.up (by omega) (by omega)
   ·have h2:MtOk (K+16) (m+5) (akS v true (bal p who) (bst (akA v false (bal p who) [] s) ov 3).2 (akS v false (bal p who) [] s 3) 3):=h1.ask (k:=true) (by omega) hbv
    by_cases c2:2<=mis (akA v true (bal p who) (bst (akA v false (bal p who) [] s) ov 3).2 (akS v false (bal p who) [] s 3)) 3
    ·rw [dec_a rfl rfl rfl c hno rfl rfl rfl c2]
     refine (aFt hw ho g (K+16) (m+5) _ _ h2 (prj_le (by omega) 3 fun i hi=>?_)).up (by omega) (by omega)
     exact nT (akA_ok (K:=K+8) h1.r h1.f hb hbv i hi).1 (by omega)
    ·rw [dec_d rfl rfl c hno rfl rfl c2]
     exact h2.up (by omega) (by omega)
def bb (rp who:Nat):Nat:=if rp<bal 0 who then bal 0 who else bal rp who
theorem aGh {w:World} {nt ver who:Nat} (h1:1<=ver) (h2:ver<=16) (h3:who<=3):Calls Tryz.prog 19 #[.pointer (some ⟨nt,0,none⟩),.int .i64 (ver:Int),.int .i64 (who:Int)] w fun e w'=>e=.returned (.bool true)/\w'=w:=by
 have i1:(1:Int)<=(ver:Int):=by omega
 have i2:(ver:Int)<=16:=by omega
 have HIS:=hide (aEq (who:Int) w (by omega) (by omega))
 clear h1 h2 h3
 go_enter Tryz.func19,Tryz.ntmps19
 go_wp2_with fail
 refine HIS.out.mono ?_
 rintro e w2 ⟨rfl,hw⟩
 have hw:=hw.symm
 subst hw
 go_wp2
 go_ret
 exact ⟨rfl,rfl⟩
theorem AsF.nsf {B gb:Nat} {w w1 w2:World} (h1:Below w.heap.size w w1) (hB:B<=w.heap.size) (h2:AsF B gb w1 w2) (hg:w.heap.size<=gb):NsF B w w2:=by
 have h3:=NsF.of h1 hB
 exact ⟨h3.1.trans h2.1,fun k cs t fz e n1 n2 n3 n4 n5=>h2.2 k cs t fz (h3.2 k cs t fz e n1 n2 n3 n4 n5) n1 n2 n3 n4 n5 (by have:=(lO e);omega)⟩
theorem aHr {l:List Sg} (h:CH l):1<=(enC l).length:=by
 unfold enC
 rw [lA,aAj _ (aAi l.length (by have:=h.n2;omega)).1]
 have:=(aAi l.length (by have:=h.n2;omega)).1
 omega
section
variable {B N nt gh ver who mm:Nat} {P:Nat->NdP} {lr:List LR} {R:Nat->Rec} {W w:World}
end
section
variable {B N nt gh ver who m K:Nat} {P:Nat->NdP} {s:Mt} {W w:World}
def PrE (r:Option (Option (List Nat))) (Lx:List Sg) (e:Ending) (w':World):Prop:=(r=none/\e=.returned (.tuple #[.slice none 0 0,.int .i64 40]))\/(r=some (some (enC Lx))/\∃ v',e=.returned (.tuple #[v',.int .i64 0])/\SGV w' v' Lx)
theorem HN.propose [WF] [WC] {v:Value} {L Lx:List Sg} (h:HN B N nt gh ver P s W w) (hok:MtOk K m s) (hl:SGV w v L) (hc:CH L) (hx:CH Lx) (hr:(dec ver who (enC L) 3 s 0).1=none\/(dec ver who (enC L) 3 s 0).1=some (some (enC Lx))) (h1:1<=ver) (h2:ver<=16) (h3:who<=3) (hK:K<=1000000000) (hm:m<=69) (hN:m+49<=N) :
  Calls Tryz.prog 8 #[.pointer (some ⟨nt,0,none⟩),.int .i64 (ver:Int),.int .i64 (who:Int),v] w fun e w'=>PrE (dec ver who (enC L) 3 s 0).1 Lx e w'/\HN B N nt gh ver P (dec ver who (enC L) 3 s 0).2 W w'/\NsF B w w':=by
 have lt:∀ {k:Nat} {o:Obj} {ww:World},ww.heap[k]?=some o->k<ww.heap.size:=fun e=>(lO e)
 have HEN:=hide (encode_ok (B:=B) hl hc)
 have HM:=hide h
 have HX:=hide hx
 have HRR:=hide hr
 have HAL:=hide hc.all
 have HMB:=hide (fun ww=>aGh (w:=ww) (nt:=nt) h1 h2 h3)
 have HDF:=hide (fun (ww:World) (gb on oc:Nat) (oa:Option Addr) (q1:HN B N nt gh ver P s W ww) (q2:ww.heap[gb]?=some (.cells #[.pointer (some ⟨nt,0,none⟩),.int .i64 (ver:Int),.int .i64 (who:Int),.int .i64 0] 60 (0,0))) (q3:B<=gb) (q4:BK B ww oa on oc (enC L)) (q5:on<=1800)=>aGq q1 hok q2 q3 h2 h3 hK hm hN q4 q5)
 obtain ⟨g,c,cs,rfl,_⟩:=hl
 clear h hc hx hr h1 h2 h3 hok hm hN hK
 generalize (dec ver who (enC L) 3 s 0)=dd at *
 generalize hln:(enC L).length=ln at *
 have HLN:=hide hln
 clear hln
 generalize L.length=n at *
 go_enter Tryz.func8,Tryz.ntmps8
 go_wp2_with fail
 refine HEN.out.mono ?_
 rintro e w1 ⟨⟨a,oc,rfl,hk1⟩,hb1⟩
 have HK1:=hide hk1
 have HB1:=hide hb1
 have HM1:=hide (HM.out.later hb1)
 clear hk1 hb1 HEN
 go_wp2_with fail
 refine (HMB.out w1).mono ?_
 rintro e w1' ⟨rfl,hw⟩
 have hw:=hw.symm
 subst hw
 have HBA:=hide (aAc w1 (.cells #[.pointer (some ⟨nt,0,none⟩),.int .i64 (ver:Int),.int .i64 (who:Int),.int .i64 0] 60))
 have HGB:Hid ((w1.alloc (.cells #[.pointer (some ⟨nt,0,none⟩),.int .i64 (ver:Int),.int .i64 (who:Int),.int .i64 0] 60)).heap[w1.heap.size]?=some (.cells #[.pointer (some ⟨nt,0,none⟩),.int .i64 (ver:Int),.int .i64 (who:Int),.int .i64 0] 60 (0,0))):=heap_alloc_new w1 _
 have HD:=hide (HDF.out _ _ _ _ _ (HM1.out.later HBA.out) HGB.out HM1.out.bw (HK1.out.later HBA.out HM1.out.bw) (by have:=HAL.out;omega))
 have HB2:Hid (Below w.heap.size w (w1.alloc (.cells #[.pointer (some ⟨nt,0,none⟩),.int .i64 (ver:Int),.int .i64 (who:Int),.int .i64 0] 60))):=HB1.out.trans (HBA.out.mono HB1.out.size)
 clear HMB HDF HK1 HM1 HBA HGB
 go_wp2_with fail
 refine HD.out.mono ?_
 rintro e w3 ⟨hf,hm3,hd⟩
 have HF3:Hid (NsF B w w3):=AsF.nsf HB2.out HM.out.bw hf HB1.out.size
 have HM3:=hide hm3
 rcases HRR.out with hn | hs
 ·have he:=hd.1 hn
  subst he
  have HNO:=hide hn
  clear hf hm3 HD HB2 hd hn
  go_wp2
  go_ret2
  exact ⟨Or.inl ⟨HNO.out,rfl⟩,HM3.out,HF3.out⟩
 ·obtain ⟨xa,xc,rfl,hk3⟩:=hd.2.2 _ hs
  have HSO:=hide hs
  have HDC:=hide (decode_ok hk3.1 HX.out)
  clear hf hk3 hm3 HD HB2 hd hs
  generalize (enC Lx).length=xn at HDC ⊢
  go_wp2_with fail
  refine HDC.out.mono ?_
  rintro e w4 ⟨⟨v',rfl,hs4⟩,hb4⟩
  have HS4:=hide hs4
  have HM4:=hide (HM3.out.later hb4)
  have HF4:=hide (HF3.out.trans (NsF.of hb4 HM3.out.bw))
  clear hs4 hb4 HDC
  go_wp2
  go_ret2
  exact ⟨Or.inr ⟨HSO.out,v',rfl,HS4.out⟩,HM4.out,HF4.out⟩
def LnE (r:Option (Option (List Nat))) (Lx:List Sg) (e:Ending) (w':World):Prop:=(r=none/\e=.returned (.tuple #[.slice none 0 0,.bool false,.int .i64 40]))\/(r=some none/\e=.returned (.tuple #[.slice none 0 0,.bool false,.int .i64 0]))\/(r=some (some (enC Lx))/\∃ v',e=.returned (.tuple #[v',.bool true,.int .i64 0])/\SGV w' v' Lx)
theorem HN.learn [WF] [WC] {Lx:List Sg} (h:HN B N nt gh ver P s W w) (hok:MtOk K m s) (hx:CH Lx) (hr:(dec ver who [] 3 s 0).1=none\/(dec ver who [] 3 s 0).1=some none\/(dec ver who [] 3 s 0).1=some (some (enC Lx))) (h1:1<=ver) (h2:ver<=16) (h3:who<=3) (hK:K<=1000000000) (hm:m<=69) (hN:m+49<=N) :
  Calls Tryz.prog 11 #[.pointer (some ⟨nt,0,none⟩),.int .i64 (ver:Int),.int .i64 (who:Int)] w fun e w'=>LnE (dec ver who [] 3 s 0).1 Lx e w'/\HN B N nt gh ver P (dec ver who [] 3 s 0).2 W w'/\NsF B w w':=by
 have HM:=hide h
 have HX:=hide hx
 have HRR:=hide hr
 have HMB:=hide (aGh (w:=w) (nt:=nt) h1 h2 h3)
 have HBA:=hide (aAc w (.cells #[.pointer (some ⟨nt,0,none⟩),.int .i64 (ver:Int),.int .i64 (who:Int),.int .i64 0] 60))
 have HD:=hide (aGq (oa:=none) (on:=0) (oc:=0) (ov:=[]) (h.later HBA.out) hok (heap_alloc_new w (.cells #[.pointer (some ⟨nt,0,none⟩),.int .i64 (ver:Int),.int .i64 (who:Int),.int .i64 0] 60)) h.bw h2 h3 hK hm hN (BK.nil _ _) (by decide))
 clear h hx hr h1 h2 h3 hok hm hN hK
 generalize (dec ver who [] 3 s 0)=dd at *
 go_enter Tryz.func11,Tryz.ntmps11
 go_wp2_with fail
 refine HMB.out.mono ?_
 rintro e w1 ⟨rfl,hw⟩
 have hw:=hw.symm
 subst hw
 clear HMB
 go_wp2_with fail
 refine HD.out.mono ?_
 rintro e w3 ⟨hf,hm3,hd⟩
 have HM3:=hide hm3
 have HF3:Hid (NsF B w w3):=AsF.nsf HBA.out HM.out.bw hf (nR _)
 rcases HRR.out with hn | hn | hs
 ·have he:=hd.1 hn
  subst he
  have HNO:=hide hn
  clear hf hm3 HD hd hn
  go_wp2
  go_ret3
  exact ⟨Or.inl ⟨HNO.out,rfl⟩,HM3.out,HF3.out⟩
 ·have he:=hd.2.1 hn
  subst he
  have HNO:=hide hn
  clear hf hm3 HD hd hn
  go_wp2
  go_ret3
  exact ⟨Or.inr (Or.inl ⟨HNO.out,rfl⟩),HM3.out,HF3.out⟩
 ·obtain ⟨xa,xc,rfl,hk3⟩:=hd.2.2 _ hs
  have HSO:=hide hs
  have HDC:=hide (decode_ok hk3.1 HX.out)
  clear hf hk3 hm3 HD hd hs
  generalize (enC Lx).length=xn at HDC ⊢
  go_wp2_with fail
  refine HDC.out.mono ?_
  rintro e w4 ⟨⟨v',rfl,hs4⟩,hb4⟩
  have HS4:=hide hs4
  have HM4:=hide (HM3.out.later hb4)
  have HF4:=hide (HF3.out.trans (NsF.of hb4 HM3.out.bw))
  clear hs4 hb4 HDC
  go_wp2
  go_ret3
  exact ⟨Or.inr (Or.inr ⟨HSO.out,v',rfl,HS4.out⟩),HM4.out,HF4.out⟩
end
structure JQ (av:List Nat) (s:Mt):Prop where
 j:∀ i,i<3->(s.R i).2.1≠0->(s.R i).2.2=av
 q:∀ i,i<3->(s.R i).2.1≠0->((s.R i).2.1<=(s.R 0).1/\(s.R i).2.1<=(s.R 1).1)\/((s.R i).2.1<=(s.R 0).1/\(s.R i).2.1<=(s.R 2).1)\/((s.R i).2.1<=(s.R 1).1/\(s.R i).2.1<=(s.R 2).1)
theorem two_le {x:Nat} {f f':Nat->Nat} (h:(x<=f 0/\x<=f 1)\/(x<=f 0/\x<=f 2)\/(x<=f 1/\x<=f 2)) (hf:∀ i,i<3->f i<=f' i):(x<=f' 0/\x<=f' 1)\/(x<=f' 0/\x<=f' 2)\/(x<=f' 1/\x<=f' 2):=by
 have h0:=hf 0 (by omega)
 have h1:=hf 1 (by omega)
 have h2:=hf 2 (by omega)
 omega
theorem two_of {p q:Nat->Prop} (h:(p 0/\p 1)\/(p 0/\p 2)\/(p 1/\p 2)) (hpq:∀ i,i<3->p i->q i):(q 0/\q 1)\/(q 0/\q 2)\/(q 1/\q 2):=by
 have h0:=hpq 0 (by omega)
 have h1:=hpq 1 (by omega)
 have h2:=hpq 2 (by omega)
 rcases h with ⟨a,b⟩ | ⟨a,b⟩ | ⟨a,b⟩
 ·exact Or.inl ⟨h0 a,h1 b⟩
 ·exact Or.inr (Or.inl ⟨h0 a,h2 b⟩)
 ·exact Or.inr (Or.inr ⟨h1 a,h2 b⟩)
theorem ask_ge (v:Nat) (k:Bool) (b:Nat) (val:List Nat) (s:Mt):∀ i,i<3->(s.R i).1<=((akS v k b val s 3).R i).1:=by
 intro i hi
 rcases (aF0 v k b val s hi).1 with q | q
 ·rw [q];exact nR _
 ·rw [q];exact rK_ge _ _ _ _
theorem ask_f2 (v:Nat) (b:Nat) (val:List Nat) (s:Mt):∀ i,i<3->((akS v false b val s 3).R i).2=(s.R i).2:=by
 intro i hi
 rcases (aF0 v false b val s hi).1 with q | q
 ·rw [q]
 ·rw [q];exact rK_f2 _ _ _
theorem JQ.askp {v b:Nat} {av:List Nat} {s:Mt} (h:JQ av s):JQ av (akS v false b [] s 3):=by
 refine ⟨fun i hi=>?_,fun i hi=>?_⟩
 ·rw [ask_f2 v b [] s i hi]
  exact h.j i hi
 ·rw [ask_f2 v b [] s i hi]
  exact fun h9=>two_le (f:=fun i=>(s.R i).1) (f':=fun i=>((akS v false b [] s 3).R i).1) (h.q i hi h9) (ask_ge v false b [] s)
theorem aGd (b:Nat) (val:List Nat) (r:Rec):rK true b val r=r\/rK true b val r=(b,b,val):=by
 unfold rK
 simp only [if_true]
 split
 ·exact Or.inr rfl
 ·exact Or.inl rfl
theorem rK_t_ok {b:Nat} {val:List Nat} {r:Rec} (h:(aK true b r).e=0):rK true b val r=(b,b,val):=by
 rw [aK_t_ok] at h
 unfold rK
 rw [if_pos rfl,if_pos h]
theorem JQ.aska {v b:Nat} {av:List Nat} {s:Mt} (h:JQ av s) (hb:(b<=(s.R 0).1/\b<=(s.R 1).1)\/(b<=(s.R 0).1/\b<=(s.R 2).1)\/(b<=(s.R 1).1/\b<=(s.R 2).1)):JQ av (akS v true b av s 3):=by
 have hc:∀ i,i<3->(akS v true b av s 3).R i=s.R i\/(akS v true b av s 3).R i=(b,b,av):=by
  intro i hi
  rcases (aF0 v true b av s hi).1 with q | q
  ·exact Or.inl q
  ·rw [q]
   exact aGd _ _ _
 refine ⟨fun i hi h9=>?_,fun i hi h9=>?_⟩
 ·rcases hc i hi with q | q
  ·rw [q] at h9 ⊢
   exact h.j i hi h9
  ·rw [q]
 ·refine two_le (f:=fun i=>(s.R i).1) (f':=fun i=>((akS v true b av s 3).R i).1) ?_ (ask_ge v true b av s)
  rcases hc i hi with q | q
  ·rw [q] at h9 ⊢
   exact h.q i hi h9
  ·rw [q]
   exact hb
theorem bst_in {a:Nat->An} {ov av:List Nat} (h:∀ i,i<3->(a i).e=0->(a i).bl≠0->(a i).val=av):(bst a ov 3).2=ov/\(bst a ov 3).1=0\/(bst a ov 3).2=av/\(bst a ov 3).1≠0:=by
 have e1:∀ j,j<=3->(bst a ov j).2=ov/\(bst a ov j).1=0\/(bst a ov j).2=av/\(bst a ov j).1≠0:=by
  intro j
  induction j with
  | zero=>intro _;exact Or.inl ⟨rfl,rfl⟩
  | succ j ih =>
   intro hj
   unfold bst
   split
   ·rename_i c
    have h9:(a j).bl≠0:=by omega
    exact Or.inr ⟨h j (by omega) c.1 h9,h9⟩
   ·exact ih (by omega)
 exact e1 3 (nR _)
theorem aEi {v b:Nat} {s:Mt} {i:Nat} (hi:i<3) (he:(akA v false b [] s i).e=0):(akA v false b [] s i).bl=(s.R i).2.1/\(akA v false b [] s i).val=vlR (s.R i)/\((akS v false b [] s 3).R i).1=b/\(s.R i).1<b:=by
 obtain ⟨h1,h2⟩:=(aF0 v false b [] s hi).2 he
 rw [h1] at he ⊢
 refine ⟨(aHw _ _).1,(aHw _ _).2,?_,aEj.1 he⟩
 rw [h2,aK_f_tl]
 unfold aK
 rw [if_neg (by decide),if_pos (aEj.1 he)]
theorem JQ.bid {v who:Nat} {av:List Nat} (hav:av.length≠0):∀ (g p:Nat) (s:Mt),JQ av s->JQ av (dec v who av g s p).2/\((dec v who av g s p).1=none\/(dec v who av g s p).1=some (some av)/\((((dec v who av g s p).2.R 0).2.1≠0/\((dec v who av g s p).2.R 1).2.1≠0)\/(((dec v who av g s p).2.R 0).2.1≠0/\((dec v who av g s p).2.R 2).2.1≠0)\/(((dec v who av g s p).2.R 1).2.1≠0/\((dec v who av g s p).2.R 2).2.1≠0)))
 | 0,p,s,h=>⟨h,Or.inl rfl⟩
 | g+1,p,s,h=>by
  have hb1:bal p who≠0:=by have:=bal_lt p who;omega
  have h1:JQ av (akS v false (bal p who) [] s 3):=h.askp
  by_cases c:2<=mis (akA v false (bal p who) [] s) 3
  ·rw [dec_p rfl rfl rfl c]
   exact JQ.bid hav g _ _ h1
  ·have hbv:(bst (akA v false (bal p who) [] s) av 3).2=av:=by
    have h9:=bst_in (a:=akA v false (bal p who) [] s) (ov:=av) (av:=av) fun i hi he hn=>by
     obtain ⟨e1,e2,_⟩:=aEi hi he
     rw [e1] at hn
     rw [e2]
     unfold vlR
     rw [if_neg hn]
     exact h.j i hi hn
    rcases h9 with q | q<;>exact q.1
   have hq:(bal p who<=((akS v false (bal p who) [] s 3).R 0).1/\bal p who<=((akS v false (bal p who) [] s 3).R 1).1)\/(bal p who<=((akS v false (bal p who) [] s 3).R 0).1/\bal p who<=((akS v false (bal p who) [] s 3).R 2).1)\/(bal p who<=((akS v false (bal p who) [] s 3).R 1).1/\bal p who<=((akS v false (bal p who) [] s 3).R 2).1) :=
    two_of (p:=fun i=>(akA v false (bal p who) [] s i).e=0) (q:=fun i=>bal p who<=((akS v false (bal p who) [] s 3).R i).1) (aC2 c) fun i hi he=>by rw [(aEi hi he).2.2.1];exact nR _
   have h2:JQ av (akS v true (bal p who) av (akS v false (bal p who) [] s 3) 3):=h1.aska hq
   have hno:¬ ((bst (akA v false (bal p who) [] s) av 3).1=0/\av.length=0):=fun h9=>hav h9.2
   by_cases c2:2<=mis (akA v true (bal p who) av (akS v false (bal p who) [] s 3)) 3
   ·rw [dec_a rfl rfl rfl c hno (by rw [hbv]) (by rw [hbv]) rfl c2]
    exact JQ.bid hav g _ _ h2
   ·rw [dec_d (a2:=akA v true (bal p who) av (akS v false (bal p who) [] s 3)) (t2:=akS v true (bal p who) av (akS v false (bal p who) [] s 3) 3) rfl rfl c hno (by rw [hbv]) (by rw [hbv]) c2,hbv]
    refine ⟨h2,Or.inr ⟨rfl,?_⟩⟩
    refine two_of (p:=fun i=>(akA v true (bal p who) av (akS v false (bal p who) [] s 3) i).e=0) (q:=fun i=>((akS v true (bal p who) av (akS v false (bal p who) [] s 3) 3).R i).2.1≠0) (aC2 c2) fun i hi he=>?_
    obtain ⟨e1,e2⟩:=(aF0 v true (bal p who) av (akS v false (bal p who) [] s 3) hi).2 he
    rw [e1] at he
    show ((akS v true (bal p who) av (akS v false (bal p who) [] s 3) 3).R i).2.1≠0
    rw [e2,rK_t_ok he]
    exact hb1
structure DQ (b:Nat) (y:List Nat) (s:Mt):Prop where
 n:b≠0
 q:(s.R 0=(b,b,y)/\s.R 1=(b,b,y))\/(s.R 0=(b,b,y)/\s.R 2=(b,b,y))\/(s.R 1=(b,b,y)/\s.R 2=(b,b,y))
 l:∀ i,i<3->s.R i=(b,b,y)\/(s.R i).2.1<b
theorem JQ.second {v who:Nat} {av bv:List Nat} {s:Mt} (h:JQ av s) (hF:s.F=[]) (hbv:bv.length≠0):∃ b y,(dec v who bv 3 s 0).1=some (some y)/\DQ b y (dec v who bv 3 s 0).2/\(dec v who bv 3 s 0).2.F=[]/\(y=av\/y=bv)/\((((s.R 0).2.1≠0/\(s.R 1).2.1≠0)\/((s.R 0).2.1≠0/\(s.R 2).2.1≠0)\/((s.R 1).2.1≠0/\(s.R 2).2.1≠0))->y=av):=by
 obtain ⟨p,t,t1,t2,t3,_,t4,t5⟩:=aD0 (v:=v) (who:=who) (ov:=bv) hF
 have hb1:bal p who≠0:=by have:=bal_lt p who;omega
 generalize hb:bal p who=b at *
 rw [if_neg (fun h9=>hbv h9.2)] at t5
 have hv:=bst_in (a:=akA v false b [] t) (ov:=bv) (av:=av) fun i hi he hn=>by
  obtain ⟨e1,e2,_⟩:=aEi hi he
  rw [e1] at hn
  rw [e2]
  unfold vlR
  rw [if_neg hn]
  rw [(t3 i hi).1] at hn ⊢
  exact h.j i hi hn
 generalize hbs:bst (akA v false b [] t) bv 3=x at *
 obtain ⟨q0,y⟩:=x
 have hR:∀ i,i<3->(akS v true b y (akS v false b [] t 3) 3).R i=rK true b y (rK false b [] (t.R i)):=fun i hi=>by
  rw [aCx (aBc t1 3).1 3 i hi,aCx t1 3 i hi]
 have hok:∀ i,i<3->(akA v false b [] t i).e=0->(akS v true b y (akS v false b [] t 3) 3).R i=(b,b,y):=fun i hi he=>by
  rw [hR i hi]
  refine rK_t_ok ?_
  rw [aK_t_ok]
  rw [aB8 t1,aEj] at he
  unfold rK
  rw [if_neg (by decide),if_pos he]
  exact nR _
 refine ⟨b,y,by rw [t5],?_,by rw [t5];exact (aBc (aBc t1 3).1 3).1,?_,?_⟩
 ·rw [t5]
  refine ⟨hb1,two_of (p:=fun i=>(akA v false b [] t i).e=0) (q:=fun i=>(akS v true b y (akS v false b [] t 3) 3).R i=(b,b,y)) (aC2 t4) hok,fun i hi=>?_⟩
  show (akS v true b y (akS v false b [] t 3) 3).R i=(b,b,y)\/((akS v true b y (akS v false b [] t 3) 3).R i).2.1<b
  rw [hR i hi]
  rcases aGd b y (rK false b [] (t.R i)) with q | q
  ·right
   rw [q,rK_f2]
   by_cases c:(t.R i).2.1<b
   ·exact c
   ·exfalso
    have c1:(t.R i).2.1≠0:=by omega
    have c2:(s.R i).2.1≠0:=by rw [<-(t3 i hi).1];exact c1
    have c3:=h.q i hi c2
    rw [<-(t3 i hi).1] at c3
    have c4:=two_le (f:=fun i=>(s.R i).1) (f':=fun i=>(t.R i).1) c3 fun i hi=>(t3 i hi).2
    obtain ⟨k,k1,k2,k3⟩:=aG0 (p:=fun j=>(t.R i).2.1<=(t.R j).1) (q:=fun j=>(akA v false b [] t j).e=0) c4 (aC2 t4)
    rw [aB8 t1,aEj] at k3
    omega
  ·exact Or.inl q
 ·rcases hv with q | q
  ·exact Or.inr q.1
  ·exact Or.inl q.1
 ·intro h2
  obtain ⟨k,k1,k2,k3⟩:=aG0 (p:=fun i=>(s.R i).2.1≠0) (q:=fun j=>(akA v false b [] t j).e=0) h2 (aC2 t4)
  rcases hv with q | q
  ·exfalso
   have e0:q0=0:=q.2
   have key:∀ j,j<=3->∀ i,i<j->(akA v false b [] t i).e=0->(akA v false b [] t i).bl<=(bst (akA v false b [] t) bv j).1:=by
    intro j
    induction j with
    | zero=>intro _ i hi;exact absurd hi (Nat.not_lt_zero i)
    | succ j ih =>
     intro hj i hi he
     unfold bst
     by_cases c:i=j
     ·subst c
      split
      ·exact nR _
      ·rename_i c2
       have c3:¬ (bst (akA v false b [] t) bv i).1<(akA v false b [] t i).bl:=fun h9=>c2 ⟨he,h9⟩
       omega
     ·have h8:=ih (by omega) i (by omega) he
      split
      ·rename_i c2
       have:=c2.2
       omega
      ·exact h8
   have h8:=key 3 (nR _) k k1 k3
   rw [hbs,(aEi k1 k3).1,(t3 k k1).1] at h8
   have h9:(s.R k).2.1<=q0:=h8
   omega
  ·exact q.1
theorem DQ.learn {v who b:Nat} {y:List Nat} {s:Mt} (h:DQ b y s) (hF:s.F=[]):(dec v who [] 3 s 0).1=some (some y):=by
 obtain ⟨p,t,t1,t2,t3,_,t4,t5⟩:=aD0 (v:=v) (who:=who) (ov:=[]) hF
 generalize hb:bal p who=b' at *
 obtain ⟨k,k1,k2,k3⟩:=aG0 (p:=fun i=>s.R i=(b,b,y)) (q:=fun j=>(akA v false b' [] t j).e=0) h.q (aC2 t4)
 have ha:∀ i,i<3->(akA v false b' [] t i).e=0->((akA v false b' [] t i).bl=b/\(akA v false b' [] t i).val=y)\/(akA v false b' [] t i).bl<b:=fun i hi he=>by
  obtain ⟨e1,e2,_⟩:=aEi hi he
  have e3:=(t3 i hi).1
  rcases h.l i hi with q | q
  ·left
   rw [q] at e3
   rw [e1,e2]
   unfold vlR
   rw [e3,if_neg h.n]
   exact ⟨rfl,rfl⟩
  ·right
   rw [e1,e3]
   exact q
 have hk:(akA v false b' [] t k).bl=b/\(akA v false b' [] t k).val=y:=by
  obtain ⟨e1,e2,_⟩:=aEi k1 k3
  have e3:=(t3 k k1).1
  rw [k2] at e3
  rw [e1,e2]
  unfold vlR
  rw [e3,if_neg h.n]
  exact ⟨rfl,rfl⟩
 have key:∀ j,j<=3->((bst (akA v false b' [] t) [] j).1<b\/bst (akA v false b' [] t) [] j=(b,y))/\(k<j->bst (akA v false b' [] t) [] j=(b,y)):=by
  intro j
  induction j with
  | zero=>exact fun _=>⟨Or.inl (Nat.pos_of_ne_zero h.n),fun h9=>absurd h9 (Nat.not_lt_zero k)⟩
  | succ j ih =>
   intro hj
   obtain ⟨i1,i2⟩:=ih (by omega)
   unfold bst
   split
   ·rename_i c
    rcases ha j (by omega) c.1 with q | q
    ·rw [q.1,q.2]
     exact ⟨Or.inr rfl,fun _=>rfl⟩
    ·refine ⟨Or.inl q,fun h9=>?_⟩
     by_cases e:k=j
     ·subst e
      have:=hk.1
      omega
     ·have h8:=i2 (by omega)
      have h7:=c.2
      rw [h8] at h7
      have h6:b<(akA v false b' [] t j).bl:=h7
      omega
   ·rename_i c
    refine ⟨i1,fun h9=>?_⟩
    by_cases e:k=j
    ·subst e
     rcases i1 with q | q
     ·exact absurd ⟨k3,by rw [hk.1];exact q⟩ c
     ·exact q
    ·exact i2 (by omega)
 have hk3:=(key 3 (nR _)).2 k1
 rw [t5,hk3,if_neg (fun h9=>h.n h9.1)]
def ch2 (e o:Int):List Sg:=[⟨0,0,e,0⟩,⟨1,e,-1,o⟩]
theorem ch2_ok {e o:Int} (h1:0<=e) (h2:e<=4611686018427387904) (h3:0<=o) (h4:o<4):CH (ch2 e o) where
 n1:=by show 1<=2;decide
 n2:=by show 2<=17;decide
 s0:=fun s hs=>by
  have hs:some (⟨0,0,e,0⟩:Sg)=some s:=hs
  cases hs
  rfl
 el:=fun i s hs=>by
  have hi:i<2:=(lL hs)
  have hi:i=0\/i=1:=by omega
  rcases hi with rfl | rfl
  ·have hs:some (⟨0,0,e,0⟩:Sg)=some s:=hs
   cases hs
   exact ⟨rfl,Int.le_refl 0,(show (0:Int)<4 by decide),Int.le_refl 0,(show (0:Int)<=4611686018427387904 by decide)⟩
  ·have hs:some (⟨1,e,-1,o⟩:Sg)=some s:=hs
   cases hs
   exact ⟨rfl,h3,h4,h1,h2⟩
 nx:=fun i s u hs hu=>by
  have hi:i+1<2:=(lL hu)
  have hi:i=0:=by omega
  subst hi
  have hs:some (⟨0,0,e,0⟩:Sg)=some s:=hs
  have hu:some (⟨1,e,-1,o⟩:Sg)=some u:=hu
  cases hs
  cases hu
  exact ⟨rfl,h1,h2⟩
 la:=fun s hs=>by
  have hs:some (⟨1,e,-1,o⟩:Sg)=some s:=hs
  cases hs
  rfl
theorem SGV.new {w:World} {e o:Int}:SGV (w.alloc (.cells #[.int .i64 0,.int .i64 0,.int .i64 e,.int .i64 0,.int .i64 1,.int .i64 e,.int .i64 (-1),.int .i64 o] 54)) (.slice (some ⟨w.heap.size,0,none⟩) 2 2) (ch2 e o):=by
 refine ⟨w.heap.size,2,_,rfl,by show 2<=2;decide,by decide,heap_alloc_new w _,fun i s hs=>?_⟩
 have hi:i<2:=(lL hs)
 have hi:i=0\/i=1:=by omega
 rcases hi with rfl | rfl
 ·have hs:some (⟨0,0,e,0⟩:Sg)=some s:=hs
  cases hs
  exact ⟨rfl,rfl,rfl,rfl⟩
 ·have hs:some (⟨1,e,-1,o⟩:Sg)=some s:=hs
  cases hs
  exact ⟨rfl,rfl,rfl,rfl⟩
theorem aD3 (e o:Int) (w:World):Calls Tryz.prog 7 #[.int .i64 e,.int .i64 o] w fun ev w'=>ev=.returned (.slice (some ⟨w.heap.size,0,none⟩) 2 2)/\SGV w' (.slice (some ⟨w.heap.size,0,none⟩) 2 2) (ch2 e o)/\Below w.heap.size w w':=by
 go_enter Tryz.func7,Tryz.ntmps7
 go_wp2
 go_ret
 exact ⟨rfl,SGV.new,aAc w _⟩
def ch1:List Sg:=[⟨0,0,-1,0⟩]
theorem ch1_ok:CH ch1 where
 n1:=by show 1<=1;decide
 n2:=by show 1<=17;decide
 s0:=fun s hs=>by
  have hs:some (⟨0,0,-1,0⟩:Sg)=some s:=hs
  cases hs
  rfl
 el:=fun i s hs=>by
  have hi:i<1:=(lL hs)
  have hi:i=0:=by omega
  subst hi
  have hs:some (⟨0,0,-1,0⟩:Sg)=some s:=hs
  cases hs
  exact ⟨rfl,by decide,by decide,by decide,by decide⟩
 nx:=fun i s u hs hu=>by
  have hi:i+1<1:=(lL hu)
  omega
 la:=fun s hs=>by
  have hs:some (⟨0,0,-1,0⟩:Sg)=some s:=hs
  cases hs
  rfl
theorem first_any (w:World):Calls Tryz.prog 23 #[] w fun ev w'=>ev=.returned (.slice (some ⟨w.heap.size,0,none⟩) 1 1)/\SGV w' (.slice (some ⟨w.heap.size,0,none⟩) 1 1) ch1/\Below w.heap.size w w':=by
 go_enter Tryz.func23,Tryz.ntmps23
 go_wp2
 go_ret
 refine ⟨rfl,⟨w.heap.size,1,_,rfl,by show 1<=1;decide,by decide,heap_alloc_new w _,fun i s hs=>?_⟩,aAc w _⟩
 have hi:i<1:=(lL hs)
 have hi:i=0:=by omega
 subst hi
 have hs:some (⟨0,0,-1,0⟩:Sg)=some s:=hs
 cases hs
 exact ⟨rfl,rfl,rfl,rfl⟩
theorem aBr {w:World} {v v2:Value} {l:List Sg} (h:SGV w v l) (h2:SGV w v2 l) (hn2:l.length<=17):Calls Tryz.prog 12 #[v,v2] w fun e w'=>e=.returned (.bool true)/\Below w.heap.size w w':=by
 obtain ⟨g,c,cs,rfl,k1,k2,k3,k4⟩:=h
 obtain ⟨g2,c2,cs2,rfl,m1,m2,m3,m4⟩:=h2
 have H3:=hide k3
 have H4:=hide k4
 have M3:=hide m3
 have M4:=hide m4
 generalize hn:l.length=n at *
 have HN:=hide hn
 have lt:∀ {k:Nat} {o:Obj} {ww:World},ww.heap[k]?=some o->k<ww.heap.size:=fun e=>(lO e)
 clear k3 k4 m3 m4 hn
 go_enter Tryz.func12,Tryz.ntmps12
 go_wp2_with fail
 go_loopw [5] (fun i wx=>∃ j:Nat,j<=n/\i=.int .i64 (j:Int)/\Below w.heap.size w wx) (fun i _=>n-(intOf i).toNat)
 case atStart=>exact ⟨0,by omega,rfl,Below.refl _ _⟩
 case round =>
  obtain ⟨j,hj,rfl,hbx⟩:=hrel
  have HBX:=hide hbx
  clear hbx
  by_cases hjn:j<n
  ·have i1:(j:Int)<(n:Int):=by omega
   have i2:(0:Int)<=(j:Int):=by omega
   have i3:(j:Int)<1000:=by omega
   obtain ⟨s,hs⟩:∃ s,l[j]?=some s:=⟨_,gE (by have:=HN.out;omega)⟩
   obtain ⟨a0,a1,a2,a3⟩:=H4.out j s hs
   obtain ⟨b0,b1,b2,b3⟩:=M4.out j s hs
   have hg:=(HBX.out.block g (lt H3.out)).trans H3.out
   have hg2:=(HBX.out.block g2 (lt M3.out)).trans M3.out
   obtain ⟨slg,sst,sen,sow⟩:=s
   have HX1:Hid ((fun wx=>wx.cell? ⟨g,j*4,none⟩=some (.int .i64 slg)/\wx.cell? ⟨g,j*4+1,none⟩=some (.int .i64 sst)/\wx.cell? ⟨g,j*4+2,none⟩=some (.int .i64 sen)/\wx.cell? ⟨g,j*4+3,none⟩=some (.int .i64 sow)/\wx.cell? ⟨g2,j*4,none⟩=some (.int .i64 slg)/\wx.cell? ⟨g2,j*4+1,none⟩=some (.int .i64 sst)/\wx.cell? ⟨g2,j*4+2,none⟩=some (.int .i64 sen)/\wx.cell? ⟨g2,j*4+3,none⟩=some (.int .i64 sow)) wr.drew):=⟨(aAa (show wr.drew.heap[g]?=_ from hg)).trans a0,(aAa (show wr.drew.heap[g]?=_ from hg)).trans a1,(aAa (show wr.drew.heap[g]?=_ from hg)).trans a2,(aAa (show wr.drew.heap[g]?=_ from hg)).trans a3,(aAa (show wr.drew.heap[g2]?=_ from hg2)).trans b0,(aAa (show wr.drew.heap[g2]?=_ from hg2)).trans b1,(aAa (show wr.drew.heap[g2]?=_ from hg2)).trans b2,(aAa (show wr.drew.heap[g2]?=_ from hg2)).trans b3⟩
   have HB2:Hid (Below w.heap.size w wr.drew):=HBX.out.trans (Below.refl _ _).drew
   clear a0 a1 a2 a3 b0 b1 b2 b3 hg hg2 hs
   go_upto_region 6 with fail
   refine wp_region_noPanic ?_
   refine wp_region_held_drew (S:=fun wx=>wx.cell? ⟨g,j*4,none⟩=some (.int .i64 slg)/\wx.cell? ⟨g,j*4+1,none⟩=some (.int .i64 sst)/\wx.cell? ⟨g,j*4+2,none⟩=some (.int .i64 sen)/\wx.cell? ⟨g,j*4+3,none⟩=some (.int .i64 sow)/\wx.cell? ⟨g2,j*4,none⟩=some (.int .i64 slg)/\wx.cell? ⟨g2,j*4+1,none⟩=some (.int .i64 sst)/\wx.cell? ⟨g2,j*4+2,none⟩=some (.int .i64 sen)/\wx.cell? ⟨g2,j*4+3,none⟩=some (.int .i64 sow)) (by kernel_rfl) HX1.out (fun hHeld=>?_)
   refine wpAnyH_tk 0 17 ?_
   refine wpAnyH_tk 1 18 ?_
   refine wpAnyH_tk 2 19 ?_
   refine wpAnyH_tk 3 20 ?_
   refine wpAnyH_tk 4 21 ?_
   refine wpAnyH_tk 5 22 ?_
   refine wpAnyH_tk 6 23 ?_
   refine wpAnyH_tk 7 24 ?_
   refine wpAnyH_tk 8 25 ?_
   refine wpAnyH_done (by kernel_rfl) ?_ _
   refine NoPanic.normal ?_
   clear hHeld
   go_wp2_with fail
   go_roundw
   case rel=>exact ⟨j+1,by omega,by go_num,HB2.out⟩
   case measure=>simp [intOf];omega
  ·have i1:¬ (j:Int)<(n:Int):=by omega
   go_wp2
   go_ret
   exact ⟨rfl,HBX.out⟩
theorem same_no {w:World} {v v2:Value} {l l2:List Sg} {slg sst sen sen2 sow:Int} (h:SGV w v l) (h2:SGV w v2 l2) (hl:l2.length=l.length) (hn2:l.length<=17) (hs:l[0]?=some ⟨slg,sst,sen,sow⟩) (hs2:l2[0]?=some ⟨slg,sst,sen2,sow⟩) (hne:¬ sen=sen2):Calls Tryz.prog 12 #[v,v2] w fun e w'=>e=.returned (.bool false)/\Below w.heap.size w w':=by
 obtain ⟨g,c,cs,rfl,k1,k2,k3,k4⟩:=h
 obtain ⟨g2,c2,cs2,rfl,m1,m2,m3,m4⟩:=h2
 rw [hl] at m1 ⊢
 have hn1:1<=l.length:=(lL hs)
 obtain ⟨a0,a1,a2,a3⟩:=k4 0 _ hs
 obtain ⟨b0,b1,b2,b3⟩:=m4 0 _ hs2
 have q0:w.cell? ⟨g,0,none⟩=some (.int .i64 slg):=(aAa k3).trans a0
 have q1:w.cell? ⟨g,1,none⟩=some (.int .i64 sst):=(aAa k3).trans a1
 have q2:w.cell? ⟨g,2,none⟩=some (.int .i64 sen):=(aAa k3).trans a2
 have q3:w.cell? ⟨g,3,none⟩=some (.int .i64 sow):=(aAa k3).trans a3
 have p0:w.cell? ⟨g2,0,none⟩=some (.int .i64 slg):=(aAa m3).trans b0
 have p1:w.cell? ⟨g2,1,none⟩=some (.int .i64 sst):=(aAa m3).trans b1
 have p2:w.cell? ⟨g2,2,none⟩=some (.int .i64 sen2):=(aAa m3).trans b2
 have p3:w.cell? ⟨g2,3,none⟩=some (.int .i64 sow):=(aAa m3).trans b3
 have HX1:Hid ((fun wx=>wx.cell? ⟨g,0,none⟩=some (.int .i64 slg)/\wx.cell? ⟨g,1,none⟩=some (.int .i64 sst)/\wx.cell? ⟨g,2,none⟩=some (.int .i64 sen)/\wx.cell? ⟨g,3,none⟩=some (.int .i64 sow)/\wx.cell? ⟨g2,0,none⟩=some (.int .i64 slg)/\wx.cell? ⟨g2,1,none⟩=some (.int .i64 sst)/\wx.cell? ⟨g2,2,none⟩=some (.int .i64 sen2)/\wx.cell? ⟨g2,3,none⟩=some (.int .i64 sow)) w.drew):=⟨q0,q1,q2,q3,p0,p1,p2,p3⟩
 have HB2:Hid (Below w.heap.size w w.drew):=(Below.refl _ _).drew
 clear k3 k4 m3 m4 a0 a1 a2 a3 b0 b1 b2 b3 hs hs2 hl q0 q1 q2 q3 p0 p1 p2 p3
 generalize l.length=n at *
 have i1:(0:Int)<(n:Int):=by omega
 go_enter Tryz.func12,Tryz.ntmps12
 go_wp2_with fail
 go_loopw [5] (fun i wx=>i=.int .i64 0/\wx=w) (fun i _=>0)
 case atStart=>exact ⟨rfl,rfl⟩
 case round =>
  obtain ⟨rfl,rfl⟩:=hrel
  go_upto_region 6 with fail
  refine wp_region_noPanic ?_
  refine wp_region_held_drew (S:=fun wx=>wx.cell? ⟨g,0,none⟩=some (.int .i64 slg)/\wx.cell? ⟨g,1,none⟩=some (.int .i64 sst)/\wx.cell? ⟨g,2,none⟩=some (.int .i64 sen)/\wx.cell? ⟨g,3,none⟩=some (.int .i64 sow)/\wx.cell? ⟨g2,0,none⟩=some (.int .i64 slg)/\wx.cell? ⟨g2,1,none⟩=some (.int .i64 sst)/\wx.cell? ⟨g2,2,none⟩=some (.int .i64 sen2)/\wx.cell? ⟨g2,3,none⟩=some (.int .i64 sow)) (by kernel_rfl) HX1.out (fun hHeld=>?_)
  refine wpAnyH_tk 0 17 ?_
  refine wpAnyH_tk 1 18 ?_
  refine wpAnyH_tk 2 19 ?_
  refine wpAnyH_tk 3 20 ?_
  refine wpAnyH_tk 4 21 ?_
  refine wpAnyH_tk 5 22 ?_
  refine wpAnyH_tk 6 23 ?_
  refine wpAnyH_tk 7 24 ?_
  refine wpAnyH_tk 8 25 ?_
  refine wpAnyH_done (by kernel_rfl) ?_ _
  refine NoPanic.normal ?_
  clear hHeld
  go_wp2_with fail
  go_ret
  exact ⟨rfl,HB2.out⟩
theorem SGV.ns {B:Nat} {w w':World} {v:Value} {l:List Sg} (h:SGV w v l) (hf:NsF B w w'):SGV w' v l:=h.stay fun k cs e=>hf.2 k cs _ _ e (by decide) (by decide) (by decide) (by decide) (by decide)
def R0:Nat->Rec:=fun _=>(0,0,[])
def mt0 (F:List Int):Mt:=⟨F,R0,[],fun _=>0⟩
theorem HN.new {B N nt gh v:Nat} {P:Nat->NdP} {W w:World} (h:NSw B N 3 nt gh P nd0 (.slice none 0 0) [] [] W w):HN B N nt gh v P (mt0 []) W w:=⟨nd0,_,h,fun i hi=>⟨⟨R0,RL.nil,rfl⟩,nR _⟩⟩
theorem mt0_ok [WF] {F:List Int} (h:F.length<=64) (hk:WF.ok F):MtOk 0 0 (mt0 F):=⟨fun i hi=>⟨nR _,Nat.zero_le _⟩,by show 0+F.length<=64;omega,fun i hi=>nR _,hk⟩
theorem mt0_jq (F:List Int) (x:List Nat):JQ x (mt0 F):=⟨fun i hi h=>absurd rfl h,fun i hi h=>absurd rfl h⟩
theorem akS_mf {v b:Nat} {k:Bool} {val:List Nat} {s:Mt} (hF:s.F=[]):∀ j i,(akS v k b val s j).m i<=s.m i+cs1 k/\(j<=i->(akS v k b val s j).m i=s.m i)
 | 0,i=>⟨Nat.le_add_right _ _,fun _=>rfl⟩
 | j+1,i=>by
  obtain ⟨c,_,h1,h2⟩:=stp_m v k b val j (akS v k b val s j)
  have h:(akS v k b val s (j+1)).m=upS (akS v k b val s j).m j ((akS v k b val s j).m j+c):=h2
  obtain ⟨k1,k2⟩:=akS_mf (v:=v) (b:=b) (k:=k) (val:=val) hF j i
  rw [h,h1 (aBc hF j).1]
  unfold upS
  by_cases e:i=j
  ·subst e
   rw [if_pos rfl,k2 (nR _)]
   exact ⟨nR _,fun h=>absurd h (by omega)⟩
  ·rw [if_neg e]
   exact ⟨k1,fun h=>k2 (by omega)⟩
theorem fair_m {v who:Nat} {ov:List Nat} {s:Mt} (hF:s.F=[]):(∀ i,(dec v who ov 3 s 0).2.m i<=s.m i+4)/\((dec v who ov 3 s 0).1=some none->∀ i,(dec v who ov 3 s 0).2.m i<=s.m i+2)/\(dec v who ov 3 s 0).2.F=[]:=by
 obtain ⟨p,t,t1,t2,t3,tm,t4,t5⟩:=aD0 (v:=v) (who:=who) (ov:=ov) hF
 have c1:cs1 false=1:=rfl
 have c2:cs1 true=2:=rfl
 rw [t5]
 split
 ·refine ⟨fun i=>?_,fun _ i=>?_,(aBc t1 3).1⟩<;>(have h1:=(akS_mf (v:=v) (k:=false) (b:=bal p who) (val:=[]) t1 3 i).1;have h2:=tm i;show (akS v false (bal p who) [] t 3).m i<=_;omega)
 ·refine ⟨fun i=>?_,(fun h=>nomatch h),(aBc (aBc t1 3).1 3).1⟩
  have h1:=(akS_mf (v:=v) (k:=false) (b:=bal p who) (val:=[]) t1 3 i).1
  have h2:=tm i
  have h3:=(akS_mf (v:=v) (k:=true) (b:=bal p who) (val:=(bst (akA v false (bal p who) [] t) ov 3).2) (aBc (v:=v) (k:=false) (b:=bal p who) (val:=[]) t1 3).1 3 i).1
  show (akS v true (bal p who) _ (akS v false (bal p who) [] t 3) 3).m i<=_
  omega
theorem fair_none {v who:Nat} {s:Mt} (hF:s.F=[]) (h0:∀ i,i<3->(s.R i).2.1=0):(dec v who [] 3 s 0).1=some none/\∀ i,i<3->((dec v who [] 3 s 0).2.R i).2.1=0:=by
 obtain ⟨p,t,t1,t2,t3,_,t4,t5⟩:=aD0 (v:=v) (who:=who) (ov:=[]) hF
 have hb:bst (akA v false (bal p who) [] t) [] 3=(0,[]):=bst_own fun i hi he=>by
  rw [aB8 t1,(aHw _ _).1,(t3 i hi).1]
  exact h0 i hi
 rw [t5,hb,if_pos ⟨rfl,rfl⟩]
 refine ⟨rfl,fun i hi=>?_⟩
 show ((akS v false (bal p who) [] t 3).R i).2.1=0
 rw [ask_f2 v _ [] t i hi,(t3 i hi).1]
 exact h0 i hi
def TS0 [WF] (B nt gh:Nat) (P:Nat->NdP) (K m:Nat) (W w:World):Prop:=∃ s,HN B 60 nt gh 1 P s W w/\s.F=[]/\(∀ i,i<3->(s.R i).2.1=0)/\MtOk K m s
def TS1 [WF] (B nt gh:Nat) (P:Nat->NdP) (av:List Nat) (K m:Nat) (W w:World):Prop:=∃ s,HN B 60 nt gh 1 P s W w/\s.F=[]/\JQ av s/\(((s.R 0).2.1≠0/\(s.R 1).2.1≠0)\/((s.R 0).2.1≠0/\(s.R 2).2.1≠0)\/((s.R 1).2.1≠0/\(s.R 2).2.1≠0))/\MtOk K m s
def TS2 [WF] (B nt gh:Nat) (P:Nat->NdP) (av:List Nat) (K m:Nat) (W w:World):Prop:=∃ s b,HN B 60 nt gh 1 P s W w/\s.F=[]/\DQ b av s/\MtOk K m s
section
variable [WF] {B nt gh who K m:Nat} {P:Nat->NdP} {av:List Nat} {W w w':World}
theorem TS0.later (h:TS0 B nt gh P K m W w) (hb:Below w.heap.size w w'):TS0 B nt gh P K m W w':=by
 obtain ⟨s,h1,h2⟩:=h
 exact ⟨s,h1.later hb,h2⟩
theorem TS0.bw (h:TS0 B nt gh P K m W w):B<=w.heap.size:=by
 obtain ⟨s,h1,h2⟩:=h
 exact h1.bw
theorem TS1.later (h:TS1 B nt gh P av K m W w) (hb:Below w.heap.size w w'):TS1 B nt gh P av K m W w':=by
 obtain ⟨s,h1,h2⟩:=h
 exact ⟨s,h1.later hb,h2⟩
theorem TS1.bw (h:TS1 B nt gh P av K m W w):B<=w.heap.size:=by
 obtain ⟨s,h1,h2⟩:=h
 exact h1.bw
theorem TS0.learn0 [WC] (h:TS0 B nt gh P K m W w) (h3:who<=3) (hK:K<=100000) (hm:m<=11) :
  Calls Tryz.prog 11 #[.pointer (some ⟨nt,0,none⟩),.int .i64 1,.int .i64 (who:Int)] w fun e w'=>e=.returned (.tuple #[.slice none 0 0,.bool false,.int .i64 0])/\TS0 B nt gh P (K+48) (m+2) W w'/\NsF B w w':=by
 obtain ⟨s,k1,k2,k3,k4⟩:=h
 obtain ⟨q1,q2⟩:=fair_none (v:=1) (who:=who) k2 k3
 obtain ⟨_,q3,q4⟩:=fair_m (v:=1) (who:=who) (ov:=[]) k2
 refine (k1.learn (who:=who) (Lx:=ch1) k4 ch1_ok (Or.inr (Or.inl q1)) (by decide) (by decide) h3 (by omega) (by omega) (by omega)).mono ?_
 rintro e w' ⟨r1,r2,r3⟩
 have h9:=aFt (v:=1) (ov:=[]) h3 (Nat.zero_le _) 3 K m 0 s k4 (Nat.zero_le _)
 refine ⟨?_,⟨_,r2,q4,q2,⟨h9.r,h9.f,fun i hi=>nT (q3 q1 i) (by have:=k4.m i hi;omega),h9.k⟩⟩,r3⟩
 rcases r1 with r | r | r
 ·rw [q1] at r;exact nomatch r.1
 ·exact r.2
 ·rw [q1] at r;exact nomatch r.1
theorem TS0.prop0 [WC] {v:Value} {L:List Sg} (h:TS0 B nt gh P K m W w) (hl:SGV w v L) (hc:CH L) (h3:who<=3) (hK:K<=100000) (hm:m<=11) :
  Calls Tryz.prog 8 #[.pointer (some ⟨nt,0,none⟩),.int .i64 1,.int .i64 (who:Int),v] w fun e w'=>(∃ v',e=.returned (.tuple #[v',.int .i64 0])/\SGV w' v' L)/\TS1 B nt gh P (enC L) (K+48) (m+4) W w'/\NsF B w w':=by
 obtain ⟨s,k1,k2,k3,k4⟩:=h
 have hn:(enC L).length≠0:=by have:=aHr hc;omega
 have hj:JQ (enC L) s:=⟨fun i hi h=>absurd (k3 i hi) h,fun i hi h=>absurd (k3 i hi) h⟩
 have q1:=fair_own (v:=1) (who:=who) (ov:=enC L) k2 k3 hn
 obtain ⟨q3,_,q4⟩:=fair_m (v:=1) (who:=who) (ov:=enC L) k2
 obtain ⟨j1,j2⟩:=hj.bid (v:=1) (who:=who) hn 3 0
 refine (k1.propose (who:=who) (Lx:=L) k4 hl hc hc (Or.inr q1) (by decide) (by decide) h3 (by omega) (by omega) (by omega)).mono ?_
 rintro e w' ⟨r1,r2,r3⟩
 have h9:=aFt (v:=1) (ov:=enC L) h3 (by have:=hc.all;omega) 3 K m 0 s k4 (Nat.zero_le _)
 refine ⟨?_,⟨_,r2,q4,j1,?_,⟨h9.r,h9.f,fun i hi=>nT (q3 i) (by have:=k4.m i hi;omega),h9.k⟩⟩,r3⟩
 ·rcases r1 with r | r
  ·rw [q1] at r;exact nomatch r.1
  ·exact r.2
 ·rcases j2 with r | r
  ·rw [q1] at r;exact nomatch r
  ·exact r.2
theorem TS1.prop1 [WC] {v:Value} {L Lx:List Sg} (h:TS1 B nt gh P (enC Lx) K m W w) (hl:SGV w v L) (hc:CH L) (hx:CH Lx) (h3:who<=3) (hK:K<=100000) (hm:m<=11) :
  Calls Tryz.prog 8 #[.pointer (some ⟨nt,0,none⟩),.int .i64 1,.int .i64 (who:Int),v] w fun e w'=>(∃ v',e=.returned (.tuple #[v',.int .i64 0])/\SGV w' v' Lx)/\TS2 B nt gh P (enC Lx) (K+48) (m+4) W w'/\NsF B w w':=by
 obtain ⟨s,k1,k2,k3,k5,k4⟩:=h
 have hn:(enC L).length≠0:=by have:=aHr hc;omega
 obtain ⟨b,y,q1,q2,q4,_,q5⟩:=k3.second (v:=1) (who:=who) (bv:=enC L) k2 hn
 obtain rfl:=q5 k5
 obtain ⟨q3,_,_⟩:=fair_m (v:=1) (who:=who) (ov:=enC L) k2
 refine (k1.propose (who:=who) (Lx:=Lx) k4 hl hc hx (Or.inr q1) (by decide) (by decide) h3 (by omega) (by omega) (by omega)).mono ?_
 rintro e w' ⟨r1,r2,r3⟩
 have h9:=aFt (v:=1) (ov:=enC L) h3 (by have:=hc.all;omega) 3 K m 0 s k4 (Nat.zero_le _)
 refine ⟨?_,⟨_,b,r2,q4,q2,⟨h9.r,h9.f,fun i hi=>nT (q3 i) (by have:=k4.m i hi;omega),h9.k⟩⟩,r3⟩
 rcases r1 with r | r
 ·rw [q1] at r;exact nomatch r.1
 ·exact r.2
theorem TS2.learn1 [WC] {Lx:List Sg} (h:TS2 B nt gh P (enC Lx) K m W w) (hx:CH Lx) (h3:who<=3) (hK:K<=100000) (hm:m<=11) :
  Calls Tryz.prog 11 #[.pointer (some ⟨nt,0,none⟩),.int .i64 1,.int .i64 (who:Int)] w fun e w'=>(∃ v',e=.returned (.tuple #[v',.bool true,.int .i64 0])/\SGV w' v' Lx)/\B<=w'.heap.size/\NsF B w w':=by
 obtain ⟨s,b,k1,k2,k3,k4⟩:=h
 have q1:=k3.learn (v:=1) (who:=who) k2
 refine (k1.learn (who:=who) (Lx:=Lx) k4 hx (Or.inr (Or.inr q1)) (by decide) (by decide) h3 (by omega) (by omega) (by omega)).mono ?_
 rintro e w' ⟨r1,r2,r3⟩
 refine ⟨?_,r2.bw,r3⟩
 rcases r1 with r | r | r
 ·rw [q1] at r;exact nomatch r.1
 ·rw [q1] at r;exact nomatch r.1
 ·exact r.2
end
theorem told11h [WF] [WC] (hk0:WF.ok []) (w:World):Calls Tryz.prog 13 #[] w fun e w'=>e=.returned (.bool true)/\Below w.heap.size w w':=by
 generalize hB:w.heap.size=B
 have HNN:Hid (Calls Tryz.prog 5 #[.int .i64 3,.int .i64 60] w fun e w'=>∃ nt gh P,e=.returned (.tuple #[.pointer (some ⟨nt,0,none⟩),.int .i64 0])/\NSw B 60 3 nt gh P nd0 (.slice none 0 0) [] [] w w'/\NsF B w w'):=net_new (n:=60) (M:=3) (by omega) (Below.refl _ _) (by decide) (by decide) (by decide) (by decide)
 go_enter Tryz.func13,Tryz.ntmps13
 go_wp2_with fail
 refine HNN.out.mono ?_
 rintro e x1 ⟨nt,gh,P,rfl,h1,hf1⟩
 have H1:Hid (TS0 B nt gh P 0 0 w x1):=⟨_,HN.new h1,rfl,fun _ _=>rfl,mt0_ok (by decide) hk0⟩
 have HF1:=hide hf1.1
 have C1:Hid (Calls Tryz.prog 11 #[.pointer (some ⟨nt,0,none⟩),.int .i64 1,.int .i64 0] x1 fun e w'=>e=.returned (.tuple #[.slice none 0 0,.bool false,.int .i64 0])/\TS0 B nt gh P (0+48) (0+2) w w'/\NsF B x1 w'):=H1.out.learn0 (who:=0) (by decide) (by decide) (by decide)
 clear h1 hf1 HNN
 go_wp2_with fail
 refine C1.out.mono ?_
 rintro e x2 ⟨rfl,h2,hf2⟩
 have H2:=hide h2
 have HF2:=hide (HF1.out.trans hf2.1)
 have C2:=hide (aD3 5 2 x2)
 clear h2 hf2 C1 H1 HF1
 go_wp2_with fail
 refine C2.out.mono ?_
 rintro e x3 ⟨rfl,hs3,hb3⟩
 have H3:=hide (H2.out.later hb3)
 have HF3:=hide (HF2.out.trans (hb3.mono H2.out.bw))
 have CK:Hid (CH (ch2 5 2)):=ch2_ok (by decide) (by decide) (by decide) (by decide)
 have C3:Hid (Calls Tryz.prog 8 #[.pointer (some ⟨nt,0,none⟩),.int .i64 1,.int .i64 2,.slice (some ⟨x2.heap.size,0,none⟩) 2 2] x3 fun e w'=>(∃ v',e=.returned (.tuple #[v',.int .i64 0])/\SGV w' v' (ch2 5 2))/\TS1 B nt gh P (enC (ch2 5 2)) (0+48+48) (0+2+4) w w'/\NsF B x3 w'):=H3.out.prop0 (who:=2) hs3 CK.out (by decide) (by decide) (by decide)
 clear hs3 hb3 C2 H2 HF2
 generalize x2.heap.size=n2 at *
 go_wp2_with fail
 refine C3.out.mono ?_
 rintro e x4 ⟨⟨v4,rfl,hs4⟩,h4,hf4⟩
 have H4:=hide h4
 have HS4:=hide hs4
 have HF4:=hide (HF3.out.trans hf4.1)
 have C4:=hide (aD3 6 0 x4)
 clear hs4 h4 hf4 C3 H3 HF3
 go_wp2_with fail
 refine C4.out.mono ?_
 rintro e x5 ⟨rfl,hs5,hb5⟩
 have H5:=hide (H4.out.later hb5)
 have HS5:=hide (HS4.out.later hb5)
 have HF5:=hide (HF4.out.trans (hb5.mono H4.out.bw))
 have C5:Hid (Calls Tryz.prog 8 #[.pointer (some ⟨nt,0,none⟩),.int .i64 1,.int .i64 0,.slice (some ⟨x4.heap.size,0,none⟩) 2 2] x5 fun e w'=>(∃ v',e=.returned (.tuple #[v',.int .i64 0])/\SGV w' v' (ch2 5 2))/\TS2 B nt gh P (enC (ch2 5 2)) (0+48+48+48) (0+2+4+4) w w'/\NsF B x5 w'):=H5.out.prop1 (who:=0) hs5 (ch2_ok (by decide) (by decide) (by decide) (by decide)) CK.out (by decide) (by decide) (by decide)
 clear hs5 hb5 C4 H4 HF4 HS4
 generalize x4.heap.size=n4 at *
 go_wp2_with fail
 refine C5.out.mono ?_
 rintro e x6 ⟨⟨v6,rfl,hs6⟩,h6,hf6⟩
 have HS6:=hide hs6
 have HT6:=hide (HS5.out.ns hf6)
 have HF6:=hide (HF5.out.trans hf6.1)
 have C6:Hid (Calls Tryz.prog 11 #[.pointer (some ⟨nt,0,none⟩),.int .i64 1,.int .i64 1] x6 fun e w'=>(∃ v',e=.returned (.tuple #[v',.bool true,.int .i64 0])/\SGV w' v' (ch2 5 2))/\B<=w'.heap.size/\NsF B x6 w'):=h6.learn1 (who:=1) CK.out (by decide) (by decide) (by decide)
 clear hs6 h6 hf6 C5 H5 HF5 HS5
 go_wp2_with fail
 refine C6.out.mono ?_
 rintro e x7 ⟨⟨v7,rfl,hs7⟩,h7,hf7⟩
 have HS7:=hide hs7
 have HT7:=hide (HT6.out.ns hf7)
 have HU7:=hide (HS6.out.ns hf7)
 have HF7:=hide (HF6.out.trans hf7.1)
 have HBW:=hide h7
 have C7:=hide (aD3 5 2 x7)
 clear hs7 h7 hf7 C6 HT6 HF6 HS6
 go_wp2_with fail
 refine C7.out.mono ?_
 rintro e x8 ⟨rfl,hs8,hb8⟩
 have HS8:=hide (HS7.out.later hb8)
 have HT8:=hide (HT7.out.later hb8)
 have HU8:=hide (HU7.out.later hb8)
 have HF8:=hide (HF7.out.trans (hb8.mono HBW.out))
 have HBW8:Hid (B<=x8.heap.size):=nT HBW.out hb8.size
 have C8:=hide (aBr HT8.out hs8 (by decide))
 clear hs8 hb8 C7 HS7 HT7 HU7 HF7 HBW
 generalize x7.heap.size=n7 at *
 go_wp2_with fail
 refine C8.out.mono ?_
 rintro e x9 ⟨rfl,hb9⟩
 have HS9:=hide (HS8.out.later hb9)
 have HT9:=hide (HT8.out.later hb9)
 have HU9:=hide (HU8.out.later hb9)
 have HF9:=hide (HF8.out.trans (hb9.mono HBW8.out))
 have HBW9:Hid (B<=x9.heap.size):=nT HBW8.out hb9.size
 have C9:=hide (aBr HU9.out HT9.out (by decide))
 clear hb9 C8 HS8 HT8 HU8 HF8 HBW8
 go_wp2_with fail
 refine C9.out.mono ?_
 rintro e y1 ⟨rfl,hb1⟩
 have HS1:=hide (HS9.out.later hb1)
 have HT1:=hide (HT9.out.later hb1)
 have HF1:=hide (HF9.out.trans (hb1.mono HBW9.out))
 have HBW1:Hid (B<=y1.heap.size):=nT HBW9.out hb1.size
 have D1:=hide (aBr HS1.out HT1.out (by decide))
 clear hb1 C9 HS9 HT9 HU9 HF9 HBW9
 go_wp2_with fail
 refine D1.out.mono ?_
 rintro e y2 ⟨rfl,hb2⟩
 have HF2:=hide (HF1.out.trans (hb2.mono HBW1.out))
 have HBW2:Hid (B<=y2.heap.size):=nT HBW1.out hb2.size
 have D2:=hide (first_any y2)
 clear hb2 D1 HS1 HT1 HF1 HBW1
 go_wp2_with fail
 refine D2.out.mono ?_
 rintro e y3 ⟨rfl,hs3,hb3⟩
 have HF3:=hide (HF2.out.trans (hb3.mono HBW2.out))
 have HBW3:Hid (B<=y3.heap.size):=nT HBW2.out hb3.size
 have D3:=hide (first_any y3)
 clear hs3 hb3 D2 HF2 HBW2
 go_wp2_with fail
 refine D3.out.mono ?_
 rintro e y4 ⟨rfl,hs4,hb4⟩
 have HF4:=hide (HF3.out.trans (hb4.mono HBW3.out))
 have HBW4:Hid (B<=y4.heap.size):=nT HBW3.out hb4.size
 have D4:=hide (aG7 hs4 ch1_ok)
 clear hs4 hb4 D3 HF3 HBW3
 go_wp2_with fail
 refine D4.out.mono ?_
 rintro e y5 ⟨rfl,hb5⟩
 have HF5:=hide (HF4.out.trans (hb5.mono HBW4.out))
 clear hb5 D4
 go_wp2
 go_ret
 exact ⟨by simp,HF5.out⟩
end Go.Proofs.YtdfjjhlhnfindaaGreat
