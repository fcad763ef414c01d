import Derived.Deep.LoopGhost
import Derived.OwnWalk
import Derived.Test.YtfkaeefpigoapaaGreatZ48
set_option maxRecDepth 100000
set_option maxHeartbeats 16000000
set_option linter.unusedVariables false
namespace Go.Proofs.YtfkaeefpigoapaaGreat
open Go.RowKit
def bb (rp who:Nat):Nat:=if rp<bal 0 who then bal 0 who else bal rp who
theorem bb_lt (rp who:Nat):rp<bb rp who:=by
 unfold bb
 split
 ·assumption
 ·exact bal_lt rp who
def dval (r:Rec) (ov:List Nat):List Nat:=if r.2.1=0 then ov else r.2.2
structure VLJ (B:Nat) (r:Rec) (j:Nat) (x:Int) (va:Option Addr) (n c:Nat) (oa:Option Addr) (on oc:Nat) (w:World):Prop where
 p0:j=0→x=0
 p1:j≠0→x=(r.2.1:Int)
 p2:(j=0∨r.2.1=0)→va=oa∧n=on∧c=oc
 p3:j≠0→r.2.1≠0→n=vnR r∧BK B w va n c (vlR r)
theorem aE2 (R:Nat→Rec) (v:Nat) (r:Rec):upR R v r v=r:=if_pos rfl
theorem upR_upR (R:Nat→Rec) (v:Nat) (r r':Rec):upR (upR R v r) v r'=upR R v r':=by
 funext j
 unfold upR
 split<;>rfl
structure DCI (B N nt gh gb v who p on oc:Nat) (P:Nat→NdP) (l:List LR) (R:Nat→Rec) (mm:Nat) (oa:Option Addr) (ov:List Nat) (W w wx:World):Prop where
 m:MN B N nt gh P l R mm W wx
 b:wx.heap[gb]?=some (.cells #[.pointer (some ⟨nt,0,none⟩),.int .i64 (v:Int),.int .i64 (who:Int),.int .i64 (p:Int)] 62 (0,0))
 k:BK B wx oa on oc ov
 f:AsF B gb w wx
theorem DCI.later {B N nt gh gb v who p on oc:Nat} {P:Nat→NdP} {l:List LR} {R:Nat→Rec} {mm:Nat} {oa:Option Addr} {ov:List Nat} {W w wx wy:World} (h:DCI B N nt gh gb v who p on oc P l R mm oa ov W w wx) (hb:Below wx.heap.size wx wy):DCI B N nt gh gb v who p on oc P l R mm oa ov W w wy :=
 ⟨h.m.later hb,(hb.block gb (lO h.b)).trans h.b,h.k.later hb h.m.bw,h.f.trans (AsF.ns (NsF.of hb h.m.bw))⟩
def DcT (B N nt gh gb v who:Nat) (P:Nat→NdP) (l:List LR) (R:Nat→Rec) (mm on:Nat) (ov:List Nat) (W w:World) (e:Ending) (w':World):Prop :=
 AsF B gb w w'∧(((R v).2.1=0∧on=0∧e=.returned (.tuple #[.slice none 0 0,.bool false,.int .i64 0])∧MN B N nt gh P l (upR R v (bb (R v).1 who,(R v).2.1,(R v).2.2)) (mm+1) W w') ∨
 (¬ ((R v).2.1=0∧on=0)∧∃ xa xc,e=.returned (.tuple #[.slice xa (dval (R v) ov).length xc,.bool true,.int .i64 0])∧BK B w' xa (dval (R v) ov).length xc (dval (R v) ov)∧MN B N nt gh P l (upR R v (bb (R v).1 who,bb (R v).1 who,dval (R v) ov)) (mm+3) W w'))
theorem aC5 {B N nt gh gb v who mm on oc:Nat} {P:Nat→NdP} {l:List LR} {R:Nat→Rec} {W w:World} {oa:Option Addr} {ov:List Nat} (h:MN B N nt gh P l R mm W w) (hb:w.heap[gb]?=some (.cells #[.pointer (some ⟨nt,0,none⟩),.int .i64 (v:Int),.int .i64 (who:Int),.int .i64 0] 62 (0,0))) (hgB:B≤gb) (hv:v≤16) (hw:who≤3) (hrp:(R v).1<1000000000) (hm:mm≤84) (hN:mm+33≤N) (ho:BK B w oa on oc ov) (hon:on≤1800) (hrv:(R v).2.2.length≤1800) :
  Calls Tryz.prog 21 #[.pointer (some ⟨gb,0,none⟩),.slice oa on oc] w fun e w'=>DcT B N nt gh gb v who P l R mm on ov W w e w':=by
 have lt:∀ {k:Nat} {o:Obj} {ww:World},ww.heap[k]?=some o→k<ww.heap.size:=fun e=>(lO e)
 have HM:=hide h
 have HB:=hide hb
 have HG:=hide hgB
 have HO:=hide ho
 have HV:=hide hv
 have HW:=hide hw
 have HRP:=hide hrp
 have HMM:=hide hm
 have HNN:=hide hN
 have HON:=hide hon
 have HRV:=hide hrv
 have hbd:Below w.heap.size w w.drew:=(Below.refl _ _).drew
 have HND:=hide (by
  obtain ⟨A,wv,h1,_⟩:=h.later hbd
  obtain ⟨lv,h2,_⟩:=h1.n
  exact And.intro (nodes_any h2) (major_3 h2))
 have HX1:Hid ((fun wx=>wx.cell? ⟨gb,0,none⟩=some (.pointer (some ⟨nt,0,none⟩))) w.drew):=aAa (show w.drew.heap[gb]?=_ from hb)
 have HMD:=hide (h.later hbd)
 have HBD:Hid (w.drew.heap[gb]?=_):=hb
 have HOD:=hide (ho.later hbd h.bw)
 have HFD:Hid (AsF B gb w w.drew):=AsF.ns (NsF.of hbd h.bw)
 clear h hb hgB ho hv hw hrp hm hN hon hrv hbd
 go_enter Tryz.func21,Tryz.ntmps21
 go_wp2_with fail
 go_step3
 go_upto_region 1 with fail
 refine wp_region_noPanic ?_
 refine wp_region_held_drew (S:=fun wx=>wx.cell? ⟨gb,0,none⟩=some (.pointer (some ⟨nt,0,none⟩))) (by kernel_rfl) HX1.out (fun hHeld=>?_)
 refine wpAnyH_tk 0 16 ?_
 refine wpAnyH_tk 1 17 ?_
 refine wpAnyH_tk 2 18 ?_
 refine wpAnyH_tk 3 19 ?_
 refine wpAnyH_tk 5 21 ?_
 refine wpAnyH_tk 6 22 ?_
 refine wpAnyH_tk 7 23 ?_
 refine wpAnyH_tk 8 24 ?_
 refine wpAnyH_cm 4 ?_;intro K hK
 go_simp
 refine HND.out.1.mono ?_
 rintro e w2 ⟨rfl,hw⟩
 have hw:=hw.symm
 subst hw
 refine hK.out _ _ HX1.out (fun hHeld=>?_)
 clear hK K
 try simp only [Act.put,siT,scZ,scS]
 refine wpAnyH_cm 9 ?_;intro K hK
 go_simp
 refine HND.out.2.mono ?_
 rintro e w2 ⟨rfl,hw⟩
 have hw:=hw.symm
 subst hw
 refine hK.out _ _ HX1.out (fun hHeld=>?_)
 clear hK K
 try simp only [Act.put,siT,scZ,scS]
 refine wpAnyH_tk 10 26 ?_
 refine wpAnyH_tk 11 7 ?_
 refine wpAnyH_done (by kernel_rfl) ?_ _
 refine NoPanic.normal ?_
 clear hHeld
 generalize w.drew=w0 at *
 clear HND HX1
 go_wp2_with fail
 have hw1:IntKind.i64.wrap 1=1:=rfl
 rw [hw1]
 clear hw1
 go_step3
 go_wp2_with fail
 go_loopg [27] 3 (fun g s27 wx=>∃ r p:Nat,r+g=3∧r≤1∧s27=.int .i64 (r:Int)∧(p=0∨(p=(R v).1∧¬ (R v).1<bal 0 who))∧(r=1→p=(R v).1∧¬ (R v).1<bal 0 who)∧DCI B N nt gh gb v who p on oc P l R mm oa ov W w wx)
 case atStart=>exact ⟨0,0,by omega,by omega,rfl,Or.inl rfl,fun h=>absurd h (by decide),HMD.out,HBD.out,HOD.out,HFD.out⟩
 case round =>
  obtain ⟨r,p,hrg,hr1,rfl,hp1,hp2,hI⟩:=hrel
  have HI:=hide hI
  clear hI HMD HBD HOD HFD
  cases gk with
  | zero=>omega
  | succ g =>
   have i1:(r:Int)<3:=by omega
   have i2:(r:Int)<1000:=by omega
   have hp3:p<1152921504606846976:=by have:=HRP.out;omega
   have hbp:bal p who<9223372036854775808:=by unfold bal;have:=HW.out;omega
   have hbp1:1≤bal p who:=by unfold bal;omega
   have HP:=hide (And.intro hp1 hp2)
   have HBP:=hide (And.intro hbp1 hbp)
   have HBL:=hide (ballot_any HI.out.b hp3 HW.out)
   clear hp1 hp2 hp3 hbp hbp1
   go_wp2_with fail
   refine HBL.out.mono ?_
   rintro e w1 ⟨rfl,hb1⟩
   have HJ:=hide (HI.out.later hb1)
   clear hb1 HBL HI
   by_cases hlt:(R v).1<bal p who
   ·have HBB:Hid (bal p who=bb (R v).1 who):=by
     show _=_
     unfold bb
     rcases HP.out.1 with h9 | ⟨h9,h8⟩
     ·rw [h9] at hlt ⊢
      rw [if_pos hlt]
     ·rw [if_neg h8,h9]
    have HAK:=hide (HJ.out.m.askp HJ.out.b HG.out HV.out HBP.out.1 HBP.out.2 hlt (by have:=HMM.out;omega) (by have:=HNN.out;omega))
    go_wp2_with fail
    refine HAK.out.mono ?_
    rintro e w2 ⟨g5,cs,rfl,hh5,hz5,hr5,hb5,hm5,hf5⟩
    have HH5:=hide hh5
    have HR5:=hide hr5
    have HB5:=hide hb5
    have HM5:=hide hm5
    have HF5:=hide (HJ.out.f.trans hf5)
    have HK5:=hide (HJ.out.k.ft (hf5.ft HJ.out.b))
    clear hh5 hz5 hr5 hb5 hm5 hf5 HAK HJ hlt
    go_wp2_with fail
    go_loopg [9,10,11,36] 3 (fun g2 s9 s10 s11 s36 wx=>∃ (j:Nat) (x10:Int) (va:Option Addr) (n c:Nat),j+g2=3∧s9=.slice va n c∧s10=.int .i64 x10∧s11=.int .i64 0∧s36=.int .i64 (j:Int)∧VLJ B (R v) j x10 va n c oa on oc w2∧Below w2.heap.size w2 wx)
    case atStart=>exact ⟨0,0,oa,on,oc,by omega,rfl,rfl,rfl,rfl,⟨fun _=>rfl,fun h=>absurd rfl h,fun _=>⟨rfl,rfl,rfl⟩,fun h=>absurd rfl h⟩,Below.refl _ _⟩
    case round =>
     obtain ⟨j,x10,va,n,c,hjg,rfl,rfl,rfl,rfl,hV,hbx⟩:=hrel
     have HVL:=hide hV
     have HBX:=hide hbx
     clear hV hbx
     cases gk with
     | zero =>
      have hj3:j=3:=by omega
      subst hj3
      have HX10:=hide (HVL.out.p1 (by decide))
      have HKV:Hid (BK B w2 va n c (dval (R v) ov)):=by
       show BK B w2 va n c _
       unfold dval
       by_cases c1:(R v).2.1=0
       ·obtain ⟨rfl,rfl,rfl⟩:=HVL.out.p2 (Or.inr c1)
        rw [if_pos c1]
        exact HK5.out
       ·obtain ⟨rfl,h9⟩:=HVL.out.p3 (by decide) c1
        rw [if_neg c1]
        unfold vlR at h9
        rw [if_neg c1] at h9
        exact h9
      have HNL:Hid (n≤1800):=by
       show n≤1800
       have h9:=HKV.out.1.hlen
       unfold dval at h9
       have h8:=HK5.out.1.hlen
       have h7:=HON.out
       have h6:=HRV.out
       split at h9<;>omega
      obtain ⟨cb,HCB⟩:∃ cb,Hid (cb=decide ((R v).2.1=0∧on=0)):=⟨_,rfl⟩
      have i3:¬ ((3:Nat):Int)<3:=by omega
      go_upto_region 14 with fail
      go_cut [71] from 27 to 98 (fun c wx=>c=.bool cb∧wx=wr)
      case first =>
       by_cases c1:x10=0
       ·have c0:(R v).2.1=0:=by have:=HX10.out;omega
        have HC0:=hide c0
        clear c0
        subst c1
        by_cases c2:on=0
        ·subst c2
         go_wp2
         go_meet
         case rel=>exact ⟨by rw [HCB.out];simp [HC0.out],rfl⟩
        ·have k2:¬ (on:Int)=0:=by omega
         go_wp2
         go_meet
         case rel=>exact ⟨by rw [HCB.out];simp [c2],rfl⟩
       ·have HC0:Hid (¬ (R v).2.1=0):=by show ¬ _;have:=HX10.out;omega
        go_wp2
        go_meet
        case rel=>exact ⟨by rw [HCB.out];simp [HC0.out],rfl⟩
      case rest =>
       obtain ⟨rfl,rfl⟩:=hcut
       by_cases hcc:(R v).2.1=0∧on=0
       ·have hcb:cb=true:=by rw [HCB.out];simp [hcc.1,hcc.2]
        subst hcb
        go_wp2_with fail
        try rw [Exit.noGoto_ret]
        go_ret3
        refine ⟨HF5.out.trans (AsF.ns (NsF.of HBX.out HM5.out.bw)),Or.inl ⟨hcc.1,hcc.2,rfl,?_⟩⟩
        have h9:=HM5.out.later HBX.out
        rw [HBB.out] at h9
        exact h9
       ·have hcb:cb=false:=by rw [HCB.out];simp only [decide_eq_false_iff_not];exact hcc
        subst hcb
        have HB6:Hid (wc.heap[gb]?=_):=(HBX.out.block gb (lt HB5.out)).trans HB5.out
        have HAK2:=hide ((HM5.out.later HBX.out).aska HB6.out HG.out HV.out HBP.out.1 HBP.out.2 (show ((upR R v (bal p who,(R v).2.1,(R v).2.2)) v).1≤bal p who by rw [aE2];exact nR _) (by have:=HMM.out;omega) (by have:=HNN.out;omega) (HKV.out.later HBX.out HM5.out.bw) HNL.out)
        have HF6:=hide (HF5.out.trans (AsF.ns (NsF.of HBX.out HM5.out.bw)))
        have HK6:=hide (HKV.out.later HBX.out HM5.out.bw)
        have HCC:=hide hcc
        clear hcc HKV
        go_wp2_with fail
        refine HAK2.out.mono ?_
        rintro e w4 ⟨g7,cs7,rfl,hh7,hz7,hr7,hb7,hm7,hf7⟩
        have HH7:=hide hh7
        have HR7:=hide hr7
        have HM7:=hide hm7
        have HF7:=hide (HF6.out.trans hf7)
        have HK7:=hide (HK6.out.ft (hf7.ft HB6.out))
        clear hh7 hz7 hr7 hb7 hm7 hf7 HAK2 HF6 HK6 HB6
        go_wp2_with fail
        go_loopg [11,77] 3 (fun g3 s11 s77 wx=>∃ j:Nat,j+g3=3∧s11=.int .i64 0∧s77=.int .i64 (j:Int)∧Below w4.heap.size w4 wx)
        case atStart=>exact ⟨0,by omega,rfl,rfl,Below.refl _ _⟩
        case round =>
         obtain ⟨j,hjg3,rfl,rfl,hbx⟩:=hrel
         clear HBX
         have HBX:=hide hbx
         clear hbx
         cases gk with
         | zero =>
          have hj3:j=3:=by omega
          subst hj3
          have i5:¬ ((3:Nat):Int)<3:=by omega
          go_wp2_with fail
          try rw [Exit.noGoto_ret]
          go_ret3
          have hn9:n=(dval (R v) ov).length:=HK7.out.1.hlen.symm
          have h9:=HM7.out.later HBX.out
          rw [upR_upR,HBB.out] at h9
          have h8:=HK7.out.later HBX.out HM7.out.bw
          rw [hn9] at h8 ⊢
          exact ⟨HF7.out.trans (AsF.ns (NsF.of HBX.out HM7.out.bw)),Or.inr ⟨HCC.out,va,c,rfl,h8,h9⟩⟩
         | succ g3 =>
          have i5:(j:Int)<3:=by omega
          have i6:(0:Int)≤(j:Int):=by omega
          have i7:(j:Int)<1000:=by omega
          obtain ⟨sa,sc,a0,a1,a2,a3,a4,a5,a6⟩:=HR7.out j (by omega)
          have hgx:=(HBX.out.block g7 (lt HH7.out)).trans HH7.out
          have e0:wr.cell? ⟨g7,j*6,none⟩=some (.int .i64 0):=(aAa hgx).trans a0
          have e1:wr.cell? ⟨g7,j*6+1,none⟩=some (.int .i64 (bal p who:Int)):=(aAa hgx).trans a1
          have e2:wr.cell? ⟨g7,j*6+2,none⟩=some (.bool false):=(aAa hgx).trans a2
          have e3:wr.cell? ⟨g7,j*6+3,none⟩=some (.int .i64 0):=(aAa hgx).trans a3
          have e4:wr.cell? ⟨g7,j*6+4,none⟩=some (.int .i64 0):=(aAa hgx).trans a4
          have e5:wr.cell? ⟨g7,j*6+5,none⟩=some (.slice sa 0 sc):=(aAa hgx).trans a5
          have HBA:=hide (aAc wr (.cells #[.int .i64 0,.int .i64 (bal p who:Int),.bool false,.int .i64 0,.int .i64 0,.slice sa 0 sc] 77))
          have HAN:Hid ((wr.alloc (.cells #[.int .i64 0,.int .i64 (bal p who:Int),.bool false,.int .i64 0,.int .i64 0,.slice sa 0 sc] 77)).heap[wr.heap.size]?=some (.cells #[.int .i64 0,.int .i64 (bal p who:Int),.bool false,.int .i64 0,.int .i64 0,.slice sa 0 sc] 77 (0,0))):=heap_alloc_new wr _
          have HB3:Hid (Below w4.heap.size w4 (wr.alloc (.cells #[.int .i64 0,.int .i64 (bal p who:Int),.bool false,.int .i64 0,.int .i64 0,.slice sa 0 sc] 77))):=HBX.out.trans (HBA.out.mono HBX.out.size)
          have HA6:=hide a6
          clear a0 a1 a2 a3 a4 a5 a6 hgx
          go_upto_region 20 with fail
          clear e0 e1 e2 e3 e4 e5
          generalize wr.alloc (.cells #[.int .i64 0,.int .i64 (bal p who:Int),.bool false,.int .i64 0,.int .i64 0,.slice sa 0 sc] 77)=x3 at *
          generalize wr.heap.size=n3 at *
          have y0:x3.cell? ⟨n3,0,none⟩=some (.int .i64 0):=aAa HAN.out
          go_wp2_with fail
          go_roundg g3
          case measure=>omega
          case rel=>exact ⟨j+1,by omega,rfl,by go_num,HB3.out⟩
     | succ g2 =>
      have i3:(j:Int)<3:=by omega
      have i4:(0:Int)≤(j:Int):=by omega
      have i5:(j:Int)<1000:=by omega
      obtain ⟨sa,sc,a0,a1,a2,a3,a4,a5,a6⟩:=HR5.out j (by omega)
      have hgx:=(HBX.out.block g5 (lt HH5.out)).trans HH5.out
      have e0:wr.cell? ⟨g5,j*6,none⟩=some (.int .i64 0):=(aAa hgx).trans a0
      have e1:wr.cell? ⟨g5,j*6+1,none⟩=some (.int .i64 (bal p who:Int)):=(aAa hgx).trans a1
      have e2:wr.cell? ⟨g5,j*6+2,none⟩=some (.bool false):=(aAa hgx).trans a2
      have e3:wr.cell? ⟨g5,j*6+3,none⟩=some (.int .i64 0):=(aAa hgx).trans a3
      have e4:wr.cell? ⟨g5,j*6+4,none⟩=some (.int .i64 ((R v).2.1:Int)):=(aAa hgx).trans a4
      have e5:wr.cell? ⟨g5,j*6+5,none⟩=some (.slice sa (vnR (R v)) sc):=(aAa hgx).trans a5
      have HBA:=hide (aAc wr (.cells #[.int .i64 0,.int .i64 (bal p who:Int),.bool false,.int .i64 0,.int .i64 ((R v).2.1:Int),.slice sa (vnR (R v)) sc] 77))
      have HAN:Hid ((wr.alloc (.cells #[.int .i64 0,.int .i64 (bal p who:Int),.bool false,.int .i64 0,.int .i64 ((R v).2.1:Int),.slice sa (vnR (R v)) sc] 77)).heap[wr.heap.size]?=some (.cells #[.int .i64 0,.int .i64 (bal p who:Int),.bool false,.int .i64 0,.int .i64 ((R v).2.1:Int),.slice sa (vnR (R v)) sc] 77 (0,0))):=heap_alloc_new wr _
      have HB3:Hid (Below w2.heap.size w2 (wr.alloc (.cells #[.int .i64 0,.int .i64 (bal p who:Int),.bool false,.int .i64 0,.int .i64 ((R v).2.1:Int),.slice sa (vnR (R v)) sc] 77))):=HBX.out.trans (HBA.out.mono HBX.out.size)
      have HA6:=hide a6
      clear a0 a1 a2 a3 a4 a5 a6 hgx
      go_upto_region 8 with fail
      clear e0 e1 e2 e3 e4 e5
      generalize wr.alloc (.cells #[.int .i64 0,.int .i64 (bal p who:Int),.bool false,.int .i64 0,.int .i64 ((R v).2.1:Int),.slice sa (vnR (R v)) sc] 77)=x3 at *
      generalize wr.heap.size=n3 at *
      have y0:x3.cell? ⟨n3,0,none⟩=some (.int .i64 0):=aAa HAN.out
      have y4:x3.cell? ⟨n3,4,none⟩=some (.int .i64 ((R v).2.1:Int)):=aAa HAN.out
      by_cases c9:x10<((R v).2.1:Int)
      ·go_upto_region 12 with fail
       have HX12:Hid ((fun wx=>wx.cell? ⟨n3,4,none⟩=some (.int .i64 ((R v).2.1:Int))∧wx.cell? ⟨n3,5,none⟩=some (.slice sa (vnR (R v)) sc)) x3.drew):=⟨aAa (show x3.drew.heap[n3]?=_ from HAN.out),aAa (show x3.drew.heap[n3]?=_ from HAN.out)⟩
       refine wp_region_noPanic ?_
       refine wp_region_held_drew (S:=fun wx=>wx.cell? ⟨n3,4,none⟩=some (.int .i64 ((R v).2.1:Int))∧wx.cell? ⟨n3,5,none⟩=some (.slice sa (vnR (R v)) sc)) (by kernel_rfl) HX12.out (fun hHeld=>?_)
       refine wpAnyH_tk 0 60 ?_
       refine wpAnyH_tk 1 61 ?_
       refine wpAnyH_tk 2 62 ?_
       refine wpAnyH_tk 3 63 ?_
       refine wpAnyH_tk 4 10 ?_
       refine wpAnyH_tk 5 9 ?_
       refine wpAnyH_done (by kernel_rfl) ?_ _
       refine NoPanic.normal ?_
       clear hHeld
       have hb9:Below x3.heap.size x3 x3.drew:=(Below.refl _ _).drew
       have HB4:Hid (Below w2.heap.size w2 x3.drew):=HB3.out.trans (hb9.mono HB3.out.size)
       have hj0:j=0:=by
        by_cases h9:j=0
        ·exact h9
        ·have:=HVL.out.p1 h9
         omega
       go_wp2_with fail
       go_roundg g2
       case measure=>omega
       case rel=>exact ⟨j+1,((R v).2.1:Int),sa,(vnR (R v)),sc,by omega,rfl,rfl,rfl,by go_num,⟨fun h=>by omega,fun _=>rfl,fun h=>by
        rcases h with h | h
        ·omega
        ·have h8:=HVL.out.p0 hj0
         omega,fun _ _=>⟨rfl,HA6.out⟩⟩,HB4.out⟩
      ·go_wp2_with fail
       go_roundg g2
       case measure=>omega
       case rel=>exact ⟨j+1,x10,va,n,c,by omega,rfl,rfl,rfl,by go_num,⟨fun h=>by omega,fun _=>by
        by_cases h9:j=0
        ·have h8:=HVL.out.p0 h9
         omega
        ·exact HVL.out.p1 h9,fun h=>by
        by_cases h9:j=0
        ·exact HVL.out.p2 (Or.inl h9)
        ·exact HVL.out.p2 (Or.inr (by omega)),fun _ h7=>by
        by_cases h9:j=0
        ·have h8:=HVL.out.p0 h9
         omega
        ·exact HVL.out.p3 h9 h7⟩,HB3.out⟩
   ·have hp0:p=0:=by
     rcases HP.out.1 with h9 | ⟨h9,_⟩
     ·exact h9
     ·exact absurd (by rw [h9];exact bal_lt _ _) hlt
    subst hp0
    have hr0:r=0:=by
     by_cases h9:r=0
     ·exact h9
     ·have h8:=(HP.out.2 (by omega)).1
      exact absurd (by rw [←h8];unfold bal;omega) hlt
    subst hr0
    have HAK:=hide (HJ.out.m.askl HJ.out.b HG.out HV.out HBP.out.1 HBP.out.2 (by omega))
    go_wp2_with fail
    refine HAK.out.mono ?_
    rintro e w2 ⟨g5,cs,rfl,hh5,hz5,hr5,hb5,hm5,hf5⟩
    have HH5:=hide hh5
    have HR5:=hide hr5
    have h9:max ((0:Nat):Int) ((R v).1:Int)=((R v).1:Int):=by omega
    rw [h9] at hb5
    have HK2:Hid (DCI B N nt gh gb v who (R v).1 on oc P l R mm oa ov W w w2):=⟨hm5,hb5,HJ.out.k.ft (hf5.ft HJ.out.b),HJ.out.f.trans hf5⟩
    have HNL:=hide hlt
    clear hh5 hz5 hr5 hb5 hm5 hf5 HAK HJ hlt h9
    go_wp2_with fail
    go_loopg [11,36] 3 (fun g2 s11 s36 wx=>∃ j:Nat,j+g2=3∧j≤1∧s11=.int .i64 (j:Int)∧s36=.int .i64 (j:Int)∧Below w2.heap.size w2 wx)
    case atStart=>exact ⟨0,by omega,by omega,rfl,rfl,Below.refl _ _⟩
    case round =>
     obtain ⟨j,hjg,hj1,rfl,rfl,hbx⟩:=hrel
     have HBX:=hide hbx
     clear hbx
     cases gk with
     | zero=>omega
     | succ g2 =>
      have i3:(j:Int)<3:=by omega
      have i4:(0:Int)≤(j:Int):=by omega
      have i5:(j:Int)<1000:=by omega
      obtain ⟨sa,sc,a0,a1,a2,a3,a4,a5,a6⟩:=HR5.out j (by omega)
      have hgx:=(HBX.out.block g5 (lt HH5.out)).trans HH5.out
      have e0:wr.cell? ⟨g5,j*6,none⟩=some (.int .i64 41):=(aAa hgx).trans a0
      have e1:wr.cell? ⟨g5,j*6+1,none⟩=some (.int .i64 ((R v).1:Int)):=(aAa hgx).trans a1
      have e2:wr.cell? ⟨g5,j*6+2,none⟩=some (.bool false):=(aAa hgx).trans a2
      have e3:wr.cell? ⟨g5,j*6+3,none⟩=some (.int .i64 0):=(aAa hgx).trans a3
      have e4:wr.cell? ⟨g5,j*6+4,none⟩=some (.int .i64 ((R v).2.1:Int)):=(aAa hgx).trans a4
      have e5:wr.cell? ⟨g5,j*6+5,none⟩=some (.slice sa (vnR (R v)) sc):=(aAa hgx).trans a5
      have HBA:=hide (aAc wr (.cells #[.int .i64 41,.int .i64 ((R v).1:Int),.bool false,.int .i64 0,.int .i64 ((R v).2.1:Int),.slice sa (vnR (R v)) sc] 77))
      have HAN:Hid ((wr.alloc (.cells #[.int .i64 41,.int .i64 ((R v).1:Int),.bool false,.int .i64 0,.int .i64 ((R v).2.1:Int),.slice sa (vnR (R v)) sc] 77)).heap[wr.heap.size]?=some (.cells #[.int .i64 41,.int .i64 ((R v).1:Int),.bool false,.int .i64 0,.int .i64 ((R v).2.1:Int),.slice sa (vnR (R v)) sc] 77 (0,0))):=heap_alloc_new wr _
      have HB3:Hid (Below w2.heap.size w2 (wr.alloc (.cells #[.int .i64 41,.int .i64 ((R v).1:Int),.bool false,.int .i64 0,.int .i64 ((R v).2.1:Int),.slice sa (vnR (R v)) sc] 77))):=HBX.out.trans (HBA.out.mono HBX.out.size)
      clear a0 a1 a2 a3 a4 a5 a6 hgx
      go_upto_region 8 with fail
      clear e0 e1 e2 e3 e4 e5
      generalize wr.alloc (.cells #[.int .i64 41,.int .i64 ((R v).1:Int),.bool false,.int .i64 0,.int .i64 ((R v).2.1:Int),.slice sa (vnR (R v)) sc] 77)=x3 at *
      generalize wr.heap.size=n3 at *
      have y0:x3.cell? ⟨n3,0,none⟩=some (.int .i64 41):=aAa HAN.out
      by_cases hj0:j=0
      ·subst hj0
       go_wp2_with fail
       go_roundg g2
       case measure=>omega
       case rel=>exact ⟨1,by omega,by omega,by first | rfl | simp,by first | rfl | simp,HB3.out⟩
      ·have hj9:j=1:=by omega
       subst hj9
       go_wp2_with fail
       go_roundg g
       case measure=>omega
       case rel=>exact ⟨1,(R v).1,by omega,by omega,by first | rfl | simp,Or.inr ⟨rfl,HNL.out⟩,fun _=>⟨rfl,HNL.out⟩,HK2.out.later HB3.out⟩
theorem aD8 {w:World} {nt ver who:Nat} (h1:1≤ver) (h2:ver≤16) (h3:who≤3):Calls Tryz.prog 20 #[.pointer (some ⟨nt,0,none⟩),.int .i64 (ver:Int),.int .i64 (who:Int)] w fun e w'=>e=.returned (.bool true)∧w'=w:=by
 have i1:(1:Int)≤(ver:Int):=by omega
 have i2:(ver:Int)≤16:=by omega
 have HIS:=hide (aEi (who:Int) w (by omega) (by omega))
 clear h1 h2 h3
 go_enter Tryz.func20,Tryz.ntmps20
 go_wp2_with fail
 refine HIS.out.mono ?_
 rintro e w2 ⟨rfl,hw⟩
 have hw:=hw.symm
 subst hw
 go_wp2
 go_ret
 exact ⟨rfl,rfl⟩
theorem AsF.nsf {B gb:Nat} {w w1 w2:World} (h1:Below w.heap.size w w1) (hB:B≤w.heap.size) (h2:AsF B gb w1 w2) (hg:w.heap.size≤gb):NsF B w w2:=by
 have h3:=NsF.of h1 hB
 exact ⟨h3.1.trans h2.1,fun k cs t fz e n1 n2 n3 n4 n5=>h2.2 k cs t fz (h3.2 k cs t fz e n1 n2 n3 n4 n5) n1 n2 n3 n4 n5 (by have:=(lO e);omega)⟩
theorem enC_pos {l:List Sg} (h:CH l):1≤(enC l).length:=by
 unfold enC
 rw [lA,aAj _ (aAi l.length (by have:=h.n2;omega)).1]
 have:=(aAi l.length (by have:=h.n2;omega)).1
 omega
section
variable {B N nt gh ver who mm:Nat} {P:Nat→NdP} {lr:List LR} {R:Nat→Rec} {W w:World}
theorem MN.propose {v:Value} {L Lx:List Sg} (h:MN B N nt gh P lr R mm W w) (hl:SGV w v L) (hc:CH L) (hx:CH Lx) (he:enC Lx=dval (R ver) (enC L)) (h1:1≤ver) (h2:ver≤16) (h3:who≤3) (hrp:(R ver).1<1000000000) (hm:mm≤84) (hN:mm+33≤N) (hrv:(R ver).2.2.length≤1800) :
  Calls Tryz.prog 9 #[.pointer (some ⟨nt,0,none⟩),.int .i64 (ver:Int),.int .i64 (who:Int),v] w fun e w'=>(∃ v',e=.returned (.tuple #[v',.int .i64 0])∧SGV w' v' Lx)∧MN B N nt gh P lr (upR R ver (bb (R ver).1 who,bb (R ver).1 who,enC Lx)) (mm+3) W w'∧NsF B w w':=by
 have lt:∀ {k:Nat} {o:Obj} {ww:World},ww.heap[k]?=some o→k<ww.heap.size:=fun e=>(lO e)
 have HEN:=hide (encode_ok (B:=B) hl hc)
 have HM:=hide h
 have HX:=hide hx
 have HE:=hide he
 have HAL:=hide hc.all
 have HPO:=hide (enC_pos hc)
 have HMB:=hide (fun ww=>aD8 (w:=ww) (nt:=nt) h1 h2 h3)
 have HDF:=hide (fun (ww:World) (gb on oc:Nat) (oa:Option Addr) (q1:MN B N nt gh P lr R mm W ww) (q2:ww.heap[gb]?=some (.cells #[.pointer (some ⟨nt,0,none⟩),.int .i64 (ver:Int),.int .i64 (who:Int),.int .i64 0] 62 (0,0))) (q3:B≤gb) (q4:BK B ww oa on oc (enC L)) (q5:on≤1800)=>aC5 q1 q2 q3 h2 h3 hrp hm hN q4 q5 hrv)
 obtain ⟨g,c,cs,rfl,_⟩:=hl
 clear h hc hx he h1 h2 h3 hrp hm hN hrv
 generalize hln:(enC L).length=ln at *
 have HLN:=hide hln
 clear hln
 generalize L.length=n at *
 go_enter Tryz.func9,Tryz.ntmps9
 go_wp2_with fail
 refine HEN.out.mono ?_
 rintro e w1 ⟨⟨a,oc,rfl,hk1⟩,hb1⟩
 have HK1:=hide hk1
 have HB1:=hide hb1
 have HM1:=hide (HM.out.later hb1)
 clear hk1 hb1 HEN
 go_wp2_with fail
 refine (HMB.out w1).mono ?_
 rintro e w1' ⟨rfl,hw⟩
 have hw:=hw.symm
 subst hw
 have HBA:=hide (aAc w1 (.cells #[.pointer (some ⟨nt,0,none⟩),.int .i64 (ver:Int),.int .i64 (who:Int),.int .i64 0] 62))
 have HGB:Hid ((w1.alloc (.cells #[.pointer (some ⟨nt,0,none⟩),.int .i64 (ver:Int),.int .i64 (who:Int),.int .i64 0] 62)).heap[w1.heap.size]?=some (.cells #[.pointer (some ⟨nt,0,none⟩),.int .i64 (ver:Int),.int .i64 (who:Int),.int .i64 0] 62 (0,0))):=heap_alloc_new w1 _
 have HD:=hide (HDF.out _ _ _ _ _ (HM1.out.later HBA.out) HGB.out HM1.out.bw (HK1.out.later HBA.out HM1.out.bw) (by have:=HAL.out;omega))
 have HB2:Hid (Below w.heap.size w (w1.alloc (.cells #[.pointer (some ⟨nt,0,none⟩),.int .i64 (ver:Int),.int .i64 (who:Int),.int .i64 0] 62))):=HB1.out.trans (HBA.out.mono HB1.out.size)
 clear HMB HDF HK1 HM1 HBA HGB
 go_wp2_with fail
 refine HD.out.mono ?_
 rintro e w3 ⟨hf,hd⟩
 have hd2:∃ xa xc,e=.returned (.tuple #[.slice xa (enC Lx).length xc,.bool true,.int .i64 0])∧BK B w3 xa (enC Lx).length xc (enC Lx)∧MN B N nt gh P lr (upR R ver (bb (R ver).1 who,bb (R ver).1 who,enC Lx)) (mm+3) W w3:=by
  rcases hd with ⟨_,h9,_⟩ | ⟨_,h9⟩
  ·have:=HPO.out
   omega
  ·rw [←HE.out] at h9
   exact h9
 clear hd
 obtain ⟨xa,xc,rfl,hk3,hm3⟩:=hd2
 have HF3:Hid (NsF B w w3):=AsF.nsf HB2.out HM.out.bw hf HB1.out.size
 have HM3:=hide hm3
 have HDC:=hide (decode_ok hk3.1 HX.out)
 clear hf hk3 hm3 HD HB2
 generalize (enC Lx).length=xn at HDC ⊢
 go_wp2_with fail
 refine HDC.out.mono ?_
 rintro e w4 ⟨⟨v',rfl,hs4⟩,hb4⟩
 have HS4:=hide hs4
 have HM4:=hide (HM3.out.later hb4)
 have HF4:=hide (HF3.out.trans (NsF.of hb4 HM3.out.bw))
 clear hs4 hb4 HDC
 go_wp2
 go_ret2
 exact ⟨⟨v',rfl,HS4.out⟩,HM4.out,HF4.out⟩
theorem MN.learn0 (h:MN B N nt gh P lr R mm W w) (h0:(R ver).2.1=0) (h1:1≤ver) (h2:ver≤16) (h3:who≤3) (hrp:(R ver).1<1000000000) (hm:mm≤84) (hN:mm+33≤N) (hrv:(R ver).2.2.length≤1800) :
  Calls Tryz.prog 12 #[.pointer (some ⟨nt,0,none⟩),.int .i64 (ver:Int),.int .i64 (who:Int)] w fun e w'=>e=.returned (.tuple #[.slice none 0 0,.bool false,.int .i64 0])∧MN B N nt gh P lr (upR R ver (bb (R ver).1 who,(R ver).2.1,(R ver).2.2)) (mm+1) W w'∧NsF B w w':=by
 have HM:=hide h
 have H0:=hide h0
 have HMB:=hide (aD8 (w:=w) (nt:=nt) h1 h2 h3)
 have HBA:=hide (aAc w (.cells #[.pointer (some ⟨nt,0,none⟩),.int .i64 (ver:Int),.int .i64 (who:Int),.int .i64 0] 62))
 have HD:=hide (aC5 (oa:=none) (on:=0) (oc:=0) (ov:=[]) (h.later HBA.out) (heap_alloc_new w (.cells #[.pointer (some ⟨nt,0,none⟩),.int .i64 (ver:Int),.int .i64 (who:Int),.int .i64 0] 62)) h.bw h2 h3 hrp hm hN (BK.nil _ _) (by decide) hrv)
 clear h h0 h1 h2 h3 hrp hm hN hrv
 go_enter Tryz.func12,Tryz.ntmps12
 go_wp2_with fail
 refine HMB.out.mono ?_
 rintro e w1 ⟨rfl,hw⟩
 have hw:=hw.symm
 subst hw
 clear HMB
 go_wp2_with fail
 refine HD.out.mono ?_
 rintro e w3 ⟨hf,hd⟩
 have hd2:e=.returned (.tuple #[.slice none 0 0,.bool false,.int .i64 0])∧MN B N nt gh P lr (upR R ver (bb (R ver).1 who,(R ver).2.1,(R ver).2.2)) (mm+1) W w3:=by
  rcases hd with ⟨_,_,h9⟩ | ⟨h8,_⟩
  ·exact h9
  ·exact absurd ⟨H0.out,rfl⟩ h8
 clear hd
 obtain ⟨rfl,hm3⟩:=hd2
 have HM3:=hide hm3
 have HF3:Hid (NsF B w w3):=AsF.nsf HBA.out HM.out.bw hf (nR _)
 clear hm3 hf HD
 go_wp2
 go_ret3
 exact ⟨rfl,HM3.out,HF3.out⟩
theorem MN.learn1 {Lx:List Sg} (h:MN B N nt gh P lr R mm W w) (h0:(R ver).2.1≠0) (hx:CH Lx) (he:(R ver).2.2=enC Lx) (h1:1≤ver) (h2:ver≤16) (h3:who≤3) (hrp:(R ver).1<1000000000) (hm:mm≤84) (hN:mm+33≤N) (hrv:(R ver).2.2.length≤1800) :
  Calls Tryz.prog 12 #[.pointer (some ⟨nt,0,none⟩),.int .i64 (ver:Int),.int .i64 (who:Int)] w fun e w'=>(∃ v',e=.returned (.tuple #[v',.bool true,.int .i64 0])∧SGV w' v' Lx)∧MN B N nt gh P lr (upR R ver (bb (R ver).1 who,bb (R ver).1 who,enC Lx)) (mm+3) W w'∧NsF B w w':=by
 have HM:=hide h
 have H0:=hide h0
 have HX:=hide hx
 have HE:Hid (dval (R ver) []=enC Lx):=by show dval _ _=_;unfold dval;rw [if_neg h0];exact he
 have HMB:=hide (aD8 (w:=w) (nt:=nt) h1 h2 h3)
 have HBA:=hide (aAc w (.cells #[.pointer (some ⟨nt,0,none⟩),.int .i64 (ver:Int),.int .i64 (who:Int),.int .i64 0] 62))
 have HD:=hide (aC5 (oa:=none) (on:=0) (oc:=0) (ov:=[]) (h.later HBA.out) (heap_alloc_new w (.cells #[.pointer (some ⟨nt,0,none⟩),.int .i64 (ver:Int),.int .i64 (who:Int),.int .i64 0] 62)) h.bw h2 h3 hrp hm hN (BK.nil _ _) (by decide) hrv)
 clear h h0 h1 h2 h3 hrp hm hN hrv hx he
 go_enter Tryz.func12,Tryz.ntmps12
 go_wp2_with fail
 refine HMB.out.mono ?_
 rintro e w1 ⟨rfl,hw⟩
 have hw:=hw.symm
 subst hw
 clear HMB
 go_wp2_with fail
 refine HD.out.mono ?_
 rintro e w3 ⟨hf,hd⟩
 have hd2:∃ xa xc,e=.returned (.tuple #[.slice xa (enC Lx).length xc,.bool true,.int .i64 0])∧BK B w3 xa (enC Lx).length xc (enC Lx)∧MN B N nt gh P lr (upR R ver (bb (R ver).1 who,bb (R ver).1 who,enC Lx)) (mm+3) W w3:=by
  rcases hd with ⟨h9,_⟩ | ⟨_,h9⟩
  ·exact absurd h9 H0.out
  ·rw [HE.out] at h9
   exact h9
 clear hd
 obtain ⟨xa,xc,rfl,hk3,hm3⟩:=hd2
 have HM3:=hide hm3
 have HF3:Hid (NsF B w w3):=AsF.nsf HBA.out HM.out.bw hf (nR _)
 have HDC:=hide (decode_ok hk3.1 HX.out)
 clear hm3 hf HD hk3
 generalize (enC Lx).length=xn at HDC ⊢
 go_wp2_with fail
 refine HDC.out.mono ?_
 rintro e w4 ⟨⟨v',rfl,hs4⟩,hb4⟩
 have HS4:=hide hs4
 have HM4:=hide (HM3.out.later hb4)
 have HF4:=hide (HF3.out.trans (NsF.of hb4 HM3.out.bw))
 clear hs4 hb4 HDC
 go_wp2
 go_ret3
 exact ⟨⟨v',rfl,HS4.out⟩,HM4.out,HF4.out⟩
end
def ch2 (e o:Int):List Sg:=[⟨0,0,e,0⟩,⟨1,e,-1,o⟩]
theorem aEk {e o:Int} (h1:0≤e) (h2:e≤4611686018427387904) (h3:0≤o) (h4:o<4):CH (ch2 e o) where
 n1:=by show 1≤2;decide
 n2:=by show 2≤17;decide
 s0:=fun s hs=>by
  have hs:some (⟨0,0,e,0⟩:Sg)=some s:=hs
  cases hs
  rfl
 el:=fun i s hs=>by
  have hi:i<2:=(lL hs)
  have hi:i=0∨i=1:=by omega
  rcases hi with rfl | rfl
  ·have hs:some (⟨0,0,e,0⟩:Sg)=some s:=hs
   cases hs
   exact ⟨rfl,Int.le_refl 0,(show (0:Int)<4 by decide),Int.le_refl 0,(show (0:Int)≤4611686018427387904 by decide)⟩
  ·have hs:some (⟨1,e,-1,o⟩:Sg)=some s:=hs
   cases hs
   exact ⟨rfl,h3,h4,h1,h2⟩
 nx:=fun i s u hs hu=>by
  have hi:i+1<2:=(lL hu)
  have hi:i=0:=by omega
  subst hi
  have hs:some (⟨0,0,e,0⟩:Sg)=some s:=hs
  have hu:some (⟨1,e,-1,o⟩:Sg)=some u:=hu
  cases hs
  cases hu
  exact ⟨rfl,h1,h2⟩
 la:=fun s hs=>by
  have hs:some (⟨1,e,-1,o⟩:Sg)=some s:=hs
  cases hs
  rfl
theorem SGV.new {w:World} {e o:Int}:SGV (w.alloc (.cells #[.int .i64 0,.int .i64 0,.int .i64 e,.int .i64 0,.int .i64 1,.int .i64 e,.int .i64 (-1),.int .i64 o] 56)) (.slice (some ⟨w.heap.size,0,none⟩) 2 2) (ch2 e o):=by
 refine ⟨w.heap.size,2,_,rfl,by show 2≤2;decide,by decide,heap_alloc_new w _,fun i s hs=>?_⟩
 have hi:i<2:=(lL hs)
 have hi:i=0∨i=1:=by omega
 rcases hi with rfl | rfl
 ·have hs:some (⟨0,0,e,0⟩:Sg)=some s:=hs
  cases hs
  exact ⟨rfl,rfl,rfl,rfl⟩
 ·have hs:some (⟨1,e,-1,o⟩:Sg)=some s:=hs
  cases hs
  exact ⟨rfl,rfl,rfl,rfl⟩
theorem aCs (e o:Int) (w:World):Calls Tryz.prog 8 #[.int .i64 e,.int .i64 o] w fun ev w'=>ev=.returned (.slice (some ⟨w.heap.size,0,none⟩) 2 2)∧SGV w' (.slice (some ⟨w.heap.size,0,none⟩) 2 2) (ch2 e o)∧Below w.heap.size w w':=by
 go_enter Tryz.func8,Tryz.ntmps8
 go_wp2
 go_ret
 exact ⟨rfl,SGV.new,aAc w _⟩
def ch1:List Sg:=[⟨0,0,-1,0⟩]
theorem ch1_ok:CH ch1 where
 n1:=by show 1≤1;decide
 n2:=by show 1≤17;decide
 s0:=fun s hs=>by
  have hs:some (⟨0,0,-1,0⟩:Sg)=some s:=hs
  cases hs
  rfl
 el:=fun i s hs=>by
  have hi:i<1:=(lL hs)
  have hi:i=0:=by omega
  subst hi
  have hs:some (⟨0,0,-1,0⟩:Sg)=some s:=hs
  cases hs
  exact ⟨rfl,by decide,by decide,by decide,by decide⟩
 nx:=fun i s u hs hu=>by
  have hi:i+1<1:=(lL hu)
  omega
 la:=fun s hs=>by
  have hs:some (⟨0,0,-1,0⟩:Sg)=some s:=hs
  cases hs
  rfl
theorem first_any (w:World):Calls Tryz.prog 24 #[] w fun ev w'=>ev=.returned (.slice (some ⟨w.heap.size,0,none⟩) 1 1)∧SGV w' (.slice (some ⟨w.heap.size,0,none⟩) 1 1) ch1∧Below w.heap.size w w':=by
 go_enter Tryz.func24,Tryz.ntmps24
 go_wp2
 go_ret
 refine ⟨rfl,⟨w.heap.size,1,_,rfl,by show 1≤1;decide,by decide,heap_alloc_new w _,fun i s hs=>?_⟩,aAc w _⟩
 have hi:i<1:=(lL hs)
 have hi:i=0:=by omega
 subst hi
 have hs:some (⟨0,0,-1,0⟩:Sg)=some s:=hs
 cases hs
 exact ⟨rfl,rfl,rfl,rfl⟩
theorem aBq {w:World} {v v2:Value} {l:List Sg} (h:SGV w v l) (h2:SGV w v2 l) (hn2:l.length≤17):Calls Tryz.prog 13 #[v,v2] w fun e w'=>e=.returned (.bool true)∧Below w.heap.size w w':=by
 obtain ⟨g,c,cs,rfl,k1,k2,k3,k4⟩:=h
 obtain ⟨g2,c2,cs2,rfl,m1,m2,m3,m4⟩:=h2
 have H3:=hide k3
 have H4:=hide k4
 have M3:=hide m3
 have M4:=hide m4
 generalize hn:l.length=n at *
 have HN:=hide hn
 have lt:∀ {k:Nat} {o:Obj} {ww:World},ww.heap[k]?=some o→k<ww.heap.size:=fun e=>(lO e)
 clear k3 k4 m3 m4 hn
 go_enter Tryz.func13,Tryz.ntmps13
 go_wp2_with fail
 go_loopw [5] (fun i wx=>∃ j:Nat,j≤n∧i=.int .i64 (j:Int)∧Below w.heap.size w wx) (fun i _=>n-(intOf i).toNat)
 case atStart=>exact ⟨0,by omega,rfl,Below.refl _ _⟩
 case round =>
  obtain ⟨j,hj,rfl,hbx⟩:=hrel
  have HBX:=hide hbx
  clear hbx
  by_cases hjn:j<n
  ·have i1:(j:Int)<(n:Int):=by omega
   have i2:(0:Int)≤(j:Int):=by omega
   have i3:(j:Int)<1000:=by omega
   obtain ⟨s,hs⟩:∃ s,l[j]?=some s:=⟨_,gE (by have:=HN.out;omega)⟩
   obtain ⟨a0,a1,a2,a3⟩:=H4.out j s hs
   obtain ⟨b0,b1,b2,b3⟩:=M4.out j s hs
   have hg:=(HBX.out.block g (lt H3.out)).trans H3.out
   have hg2:=(HBX.out.block g2 (lt M3.out)).trans M3.out
   obtain ⟨slg,sst,sen,sow⟩:=s
   have HX1:Hid ((fun wx=>wx.cell? ⟨g,j*4,none⟩=some (.int .i64 slg)∧wx.cell? ⟨g,j*4+1,none⟩=some (.int .i64 sst)∧wx.cell? ⟨g,j*4+2,none⟩=some (.int .i64 sen)∧wx.cell? ⟨g,j*4+3,none⟩=some (.int .i64 sow)∧wx.cell? ⟨g2,j*4,none⟩=some (.int .i64 slg)∧wx.cell? ⟨g2,j*4+1,none⟩=some (.int .i64 sst)∧wx.cell? ⟨g2,j*4+2,none⟩=some (.int .i64 sen)∧wx.cell? ⟨g2,j*4+3,none⟩=some (.int .i64 sow)) wr.drew):=⟨(aAa (show wr.drew.heap[g]?=_ from hg)).trans a0,(aAa (show wr.drew.heap[g]?=_ from hg)).trans a1,(aAa (show wr.drew.heap[g]?=_ from hg)).trans a2,(aAa (show wr.drew.heap[g]?=_ from hg)).trans a3,(aAa (show wr.drew.heap[g2]?=_ from hg2)).trans b0,(aAa (show wr.drew.heap[g2]?=_ from hg2)).trans b1,(aAa (show wr.drew.heap[g2]?=_ from hg2)).trans b2,(aAa (show wr.drew.heap[g2]?=_ from hg2)).trans b3⟩
   have HB2:Hid (Below w.heap.size w wr.drew):=HBX.out.trans (Below.refl _ _).drew
   clear a0 a1 a2 a3 b0 b1 b2 b3 hg hg2 hs
   go_upto_region 6 with fail
   refine wp_region_noPanic ?_
   refine wp_region_held_drew (S:=fun wx=>wx.cell? ⟨g,j*4,none⟩=some (.int .i64 slg)∧wx.cell? ⟨g,j*4+1,none⟩=some (.int .i64 sst)∧wx.cell? ⟨g,j*4+2,none⟩=some (.int .i64 sen)∧wx.cell? ⟨g,j*4+3,none⟩=some (.int .i64 sow)∧wx.cell? ⟨g2,j*4,none⟩=some (.int .i64 slg)∧wx.cell? ⟨g2,j*4+1,none⟩=some (.int .i64 sst)∧wx.cell? ⟨g2,j*4+2,none⟩=some (.int .i64 sen)∧wx.cell? ⟨g2,j*4+3,none⟩=some (.int .i64 sow)) (by kernel_rfl) HX1.out (fun hHeld=>?_)
   refine wpAnyH_tk 0 17 ?_
   refine wpAnyH_tk 1 18 ?_
   refine wpAnyH_tk 2 19 ?_
   refine wpAnyH_tk 3 20 ?_
   refine wpAnyH_tk 4 21 ?_
   refine wpAnyH_tk 5 22 ?_
   refine wpAnyH_tk 6 23 ?_
   refine wpAnyH_tk 7 24 ?_
   refine wpAnyH_tk 8 25 ?_
   refine wpAnyH_done (by kernel_rfl) ?_ _
   refine NoPanic.normal ?_
   clear hHeld
   go_wp2_with fail
   go_roundw
   case rel=>exact ⟨j+1,by omega,by go_num,HB2.out⟩
   case measure=>simp [intOf];omega
  ·have i1:¬ (j:Int)<(n:Int):=by omega
   go_wp2
   go_ret
   exact ⟨rfl,HBX.out⟩
theorem SGV.ns {B:Nat} {w w':World} {v:Value} {l:List Sg} (h:SGV w v l) (hf:NsF B w w'):SGV w' v l:=h.stay fun k cs e=>hf.2 k cs _ _ e (by decide) (by decide) (by decide) (by decide) (by decide)
def R0:Nat→Rec:=fun _=>(0,0,[])
theorem MN.new {B N nt gh:Nat} {P:Nat→NdP} {W w:World} (h:NSw B N 3 nt gh P nd0 (.slice none 0 0) [] [] W w):MN B N nt gh P [] R0 0 W w:=⟨nd0,_,h,fun i hi=>⟨RL.nil,nR _⟩⟩
def MN1 (B N nt gh:Nat) (P:Nat→NdP) (l:List LR) (r:Rec) (mm:Nat) (W w:World):Prop:=∃ R:Nat→Rec,R 1=r∧MN B N nt gh P l R mm W w
theorem MN1.later {B N nt gh mm:Nat} {P:Nat→NdP} {l:List LR} {r:Rec} {W w w':World} (h:MN1 B N nt gh P l r mm W w) (hb:Below w.heap.size w w'):MN1 B N nt gh P l r mm W w':=by
 obtain ⟨R,h1,h2⟩:=h
 exact ⟨R,h1,h2.later hb⟩
theorem MN1.bw {B N nt gh mm:Nat} {P:Nat→NdP} {l:List LR} {r:Rec} {W w:World} (h:MN1 B N nt gh P l r mm W w):B≤w.heap.size:=by
 obtain ⟨R,h1,h2⟩:=h
 exact h2.bw
theorem bb_le (rp who:Nat) (h:who≤3):bb rp who≤rp+8:=by
 unfold bb
 split
 ·unfold bal
  omega
 ·unfold bal
  omega
theorem aFp (rp who:Nat):bb rp who≠0:=by have:=bb_lt rp who;omega
section
variable {B N nt gh who mm p:Nat} {P:Nat→NdP} {l:List LR} {W w:World}
theorem MN1.learn0 (h:MN1 B N nt gh P l (p,0,[]) mm W w) (h3:who≤3) (hrp:p<1000000000) (hm:mm≤84) (hN:mm+33≤N) :
  Calls Tryz.prog 12 #[.pointer (some ⟨nt,0,none⟩),.int .i64 1,.int .i64 (who:Int)] w fun e w'=>e=.returned (.tuple #[.slice none 0 0,.bool false,.int .i64 0])∧MN1 B N nt gh P l (bb p who,0,[]) (mm+1) W w'∧NsF B w w':=by
 obtain ⟨R,h1,h2⟩:=h
 refine (h2.learn0 (ver:=1) (by rw [h1]) (by decide) (by decide) h3 (by rw [h1];exact hrp) hm hN (by rw [h1];exact Nat.zero_le _)).mono ?_
 rintro e w' ⟨rfl,q1,q2⟩
 rw [h1] at q1
 exact ⟨rfl,⟨_,aE2 _ _ _,q1⟩,q2⟩
theorem MN1.prop0 {v:Value} {L:List Sg} (h:MN1 B N nt gh P l (p,0,[]) mm W w) (hl:SGV w v L) (hc:CH L) (h3:who≤3) (hrp:p<1000000000) (hm:mm≤84) (hN:mm+33≤N) :
  Calls Tryz.prog 9 #[.pointer (some ⟨nt,0,none⟩),.int .i64 1,.int .i64 (who:Int),v] w fun e w'=>(∃ v',e=.returned (.tuple #[v',.int .i64 0])∧SGV w' v' L)∧MN1 B N nt gh P l (bb p who,bb p who,enC L) (mm+3) W w'∧NsF B w w':=by
 obtain ⟨R,h1,h2⟩:=h
 refine (h2.propose (ver:=1) (Lx:=L) hl hc hc (by rw [h1];rfl) (by decide) (by decide) h3 (by rw [h1];exact hrp) hm hN (by rw [h1];exact Nat.zero_le _)).mono ?_
 rintro e w' ⟨q0,q1,q2⟩
 rw [h1] at q1
 exact ⟨q0,⟨_,aE2 _ _ _,q1⟩,q2⟩
theorem MN1.prop1 {v:Value} {L Lx:List Sg} {q:Nat} (h:MN1 B N nt gh P l (p,q,enC Lx) mm W w) (hq:q≠0) (hl:SGV w v L) (hc:CH L) (hx:CH Lx) (h3:who≤3) (hrp:p<1000000000) (hm:mm≤84) (hN:mm+33≤N) :
  Calls Tryz.prog 9 #[.pointer (some ⟨nt,0,none⟩),.int .i64 1,.int .i64 (who:Int),v] w fun e w'=>(∃ v',e=.returned (.tuple #[v',.int .i64 0])∧SGV w' v' Lx)∧MN1 B N nt gh P l (bb p who,bb p who,enC Lx) (mm+3) W w'∧NsF B w w':=by
 obtain ⟨R,h1,h2⟩:=h
 refine (h2.propose (ver:=1) (Lx:=Lx) hl hc hx (by rw [h1];unfold dval;rw [if_neg hq]) (by decide) (by decide) h3 (by rw [h1];exact hrp) hm hN (by rw [h1];have:=hx.all;show (enC Lx).length≤1800;omega)).mono ?_
 rintro e w' ⟨q0,q1,q2⟩
 rw [h1] at q1
 exact ⟨q0,⟨_,aE2 _ _ _,q1⟩,q2⟩
theorem MN1.learn1 {Lx:List Sg} {q:Nat} (h:MN1 B N nt gh P l (p,q,enC Lx) mm W w) (hq:q≠0) (hx:CH Lx) (h3:who≤3) (hrp:p<1000000000) (hm:mm≤84) (hN:mm+33≤N) :
  Calls Tryz.prog 12 #[.pointer (some ⟨nt,0,none⟩),.int .i64 1,.int .i64 (who:Int)] w fun e w'=>(∃ v',e=.returned (.tuple #[v',.bool true,.int .i64 0])∧SGV w' v' Lx)∧MN1 B N nt gh P l (bb p who,bb p who,enC Lx) (mm+3) W w'∧NsF B w w':=by
 obtain ⟨R,h1,h2⟩:=h
 refine (h2.learn1 (ver:=1) (Lx:=Lx) (by rw [h1];exact hq) hx (by rw [h1]) (by decide) (by decide) h3 (by rw [h1];exact hrp) hm hN (by rw [h1];have:=hx.all;show (enC Lx).length≤1800;omega)).mono ?_
 rintro e w' ⟨q0,q1,q2⟩
 rw [h1] at q1
 exact ⟨q0,⟨_,aE2 _ _ _,q1⟩,q2⟩
end
theorem told11 (w:World):Calls Tryz.prog 14 #[] w fun e w'=>e=.returned (.bool true)∧Below w.heap.size w w':=by
 generalize hB:w.heap.size=B
 have HNN:Hid (Calls Tryz.prog 6 #[.int .i64 3,.int .i64 60] w fun e w'=>∃ nt gh P,e=.returned (.tuple #[.pointer (some ⟨nt,0,none⟩),.int .i64 0])∧NSw B 60 3 nt gh P nd0 (.slice none 0 0) [] [] w w'∧NsF B w w'):=net_new (n:=60) (M:=3) (by omega) (Below.refl _ _) (by decide) (by decide) (by decide) (by decide)
 go_enter Tryz.func14,Tryz.ntmps14
 go_wp2_with fail
 refine HNN.out.mono ?_
 rintro e x1 ⟨nt,gh,P,rfl,h1,hf1⟩
 have H1:Hid (MN1 B 60 nt gh P [] (0,0,[]) 0 w x1):=⟨R0,rfl,MN.new h1⟩
 have HF1:=hide hf1.1
 have C1:Hid (Calls Tryz.prog 12 #[.pointer (some ⟨nt,0,none⟩),.int .i64 1,.int .i64 0] x1 fun e w'=>e=.returned (.tuple #[.slice none 0 0,.bool false,.int .i64 0])∧MN1 B 60 nt gh P [] (bb 0 0,0,[]) (0+1) w w'∧NsF B x1 w'):=H1.out.learn0 (who:=0) (by decide) (by decide) (by decide) (by decide)
 clear h1 hf1 HNN
 go_wp2_with fail
 refine C1.out.mono ?_
 rintro e x2 ⟨rfl,h2,hf2⟩
 have H2:=hide h2
 have HF2:=hide (HF1.out.trans hf2.1)
 have C2:=hide (aCs 5 2 x2)
 clear h2 hf2 C1 H1 HF1
 go_wp2_with fail
 refine C2.out.mono ?_
 rintro e x3 ⟨rfl,hs3,hb3⟩
 have H3:=hide (H2.out.later hb3)
 have HF3:=hide (HF2.out.trans (hb3.mono H2.out.bw))
 have CK:Hid (CH (ch2 5 2)):=aEk (by decide) (by decide) (by decide) (by decide)
 have C3:Hid (Calls Tryz.prog 9 #[.pointer (some ⟨nt,0,none⟩),.int .i64 1,.int .i64 2,.slice (some ⟨x2.heap.size,0,none⟩) 2 2] x3 fun e w'=>(∃ v',e=.returned (.tuple #[v',.int .i64 0])∧SGV w' v' (ch2 5 2))∧MN1 B 60 nt gh P [] (bb (bb 0 0) 2,bb (bb 0 0) 2,enC (ch2 5 2)) (0+1+3) w w'∧NsF B x3 w'):=H3.out.prop0 (who:=2) hs3 CK.out (by decide) (by decide) (by decide) (by decide)
 clear hs3 hb3 C2 H2 HF2
 generalize x2.heap.size=n2 at *
 go_wp2_with fail
 refine C3.out.mono ?_
 rintro e x4 ⟨⟨v4,rfl,hs4⟩,h4,hf4⟩
 have H4:=hide h4
 have HS4:=hide hs4
 have HF4:=hide (HF3.out.trans hf4.1)
 have C4:=hide (aCs 6 0 x4)
 clear hs4 h4 hf4 C3 H3 HF3
 go_wp2_with fail
 refine C4.out.mono ?_
 rintro e x5 ⟨rfl,hs5,hb5⟩
 have H5:=hide (H4.out.later hb5)
 have HS5:=hide (HS4.out.later hb5)
 have HF5:=hide (HF4.out.trans (hb5.mono H4.out.bw))
 have C5:Hid (Calls Tryz.prog 9 #[.pointer (some ⟨nt,0,none⟩),.int .i64 1,.int .i64 0,.slice (some ⟨x4.heap.size,0,none⟩) 2 2] x5 fun e w'=>(∃ v',e=.returned (.tuple #[v',.int .i64 0])∧SGV w' v' (ch2 5 2))∧MN1 B 60 nt gh P [] (bb (bb (bb 0 0) 2) 0,bb (bb (bb 0 0) 2) 0,enC (ch2 5 2)) (0+1+3+3) w w'∧NsF B x5 w'):=H5.out.prop1 (who:=0) (aFp _ _) hs5 (aEk (by decide) (by decide) (by decide) (by decide)) CK.out (by decide) (by decide) (by decide) (by decide)
 clear hs5 hb5 C4 H4 HF4 HS4
 generalize x4.heap.size=n4 at *
 go_wp2_with fail
 refine C5.out.mono ?_
 rintro e x6 ⟨⟨v6,rfl,hs6⟩,h6,hf6⟩
 have HS6:=hide hs6
 have HT6:=hide (HS5.out.ns hf6)
 have HF6:=hide (HF5.out.trans hf6.1)
 have C6:Hid (Calls Tryz.prog 12 #[.pointer (some ⟨nt,0,none⟩),.int .i64 1,.int .i64 1] x6 fun e w'=>(∃ v',e=.returned (.tuple #[v',.bool true,.int .i64 0])∧SGV w' v' (ch2 5 2))∧MN1 B 60 nt gh P [] (bb (bb (bb (bb 0 0) 2) 0) 1,bb (bb (bb (bb 0 0) 2) 0) 1,enC (ch2 5 2)) (0+1+3+3+3) w w'∧NsF B x6 w'):=h6.learn1 (who:=1) (aFp _ _) CK.out (by decide) (by decide) (by decide) (by decide)
 clear hs6 h6 hf6 C5 H5 HF5 HS5
 go_wp2_with fail
 refine C6.out.mono ?_
 rintro e x7 ⟨⟨v7,rfl,hs7⟩,h7,hf7⟩
 have HS7:=hide hs7
 have HT7:=hide (HT6.out.ns hf7)
 have HU7:=hide (HS6.out.ns hf7)
 have HF7:=hide (HF6.out.trans hf7.1)
 have HBW:=hide h7.bw
 have C7:=hide (aCs 5 2 x7)
 clear hs7 h7 hf7 C6 HT6 HF6 HS6
 go_wp2_with fail
 refine C7.out.mono ?_
 rintro e x8 ⟨rfl,hs8,hb8⟩
 have HS8:=hide (HS7.out.later hb8)
 have HT8:=hide (HT7.out.later hb8)
 have HU8:=hide (HU7.out.later hb8)
 have HF8:=hide (HF7.out.trans (hb8.mono HBW.out))
 have HBW8:Hid (B≤x8.heap.size):=nT HBW.out hb8.size
 have C8:=hide (aBq HT8.out hs8 (by decide))
 clear hs8 hb8 C7 HS7 HT7 HU7 HF7 HBW
 generalize x7.heap.size=n7 at *
 go_wp2_with fail
 refine C8.out.mono ?_
 rintro e x9 ⟨rfl,hb9⟩
 have HS9:=hide (HS8.out.later hb9)
 have HT9:=hide (HT8.out.later hb9)
 have HU9:=hide (HU8.out.later hb9)
 have HF9:=hide (HF8.out.trans (hb9.mono HBW8.out))
 have HBW9:Hid (B≤x9.heap.size):=nT HBW8.out hb9.size
 have C9:=hide (aBq HU9.out HT9.out (by decide))
 clear hb9 C8 HS8 HT8 HU8 HF8 HBW8
 go_wp2_with fail
 refine C9.out.mono ?_
 rintro e y1 ⟨rfl,hb1⟩
 have HS1:=hide (HS9.out.later hb1)
 have HT1:=hide (HT9.out.later hb1)
 have HF1:=hide (HF9.out.trans (hb1.mono HBW9.out))
 have HBW1:Hid (B≤y1.heap.size):=nT HBW9.out hb1.size
 have D1:=hide (aBq HS1.out HT1.out (by decide))
 clear hb1 C9 HS9 HT9 HU9 HF9 HBW9
 go_wp2_with fail
 refine D1.out.mono ?_
 rintro e y2 ⟨rfl,hb2⟩
 have HF2:=hide (HF1.out.trans (hb2.mono HBW1.out))
 have HBW2:Hid (B≤y2.heap.size):=nT HBW1.out hb2.size
 have D2:=hide (first_any y2)
 clear hb2 D1 HS1 HT1 HF1 HBW1
 go_wp2_with fail
 refine D2.out.mono ?_
 rintro e y3 ⟨rfl,hs3,hb3⟩
 have HF3:=hide (HF2.out.trans (hb3.mono HBW2.out))
 have HBW3:Hid (B≤y3.heap.size):=nT HBW2.out hb3.size
 have D3:=hide (first_any y3)
 clear hs3 hb3 D2 HF2 HBW2
 go_wp2_with fail
 refine D3.out.mono ?_
 rintro e y4 ⟨rfl,hs4,hb4⟩
 have HF4:=hide (HF3.out.trans (hb4.mono HBW3.out))
 have HBW4:Hid (B≤y4.heap.size):=nT HBW3.out hb4.size
 have D4:=hide (aGt hs4 ch1_ok)
 clear hs4 hb4 D3 HF3 HBW3
 go_wp2_with fail
 refine D4.out.mono ?_
 rintro e y5 ⟨rfl,hb5⟩
 have HF5:=hide (HF4.out.trans (hb5.mono HBW4.out))
 clear hb5 D4
 go_wp2
 go_ret
 exact ⟨by simp,HF5.out⟩
def IRw (W:World) (a:Option Addr) (n:Nat) (Z:Nat→Int):Prop:=0<n→∃ b o,a=some ⟨b,o,none⟩∧∀ i,i<n→W.cell? ⟨b,o+i,none⟩=some (.int .i64 (Z i))
theorem bel_cell {B:Nat} {W w:World} (h:Below B W w) {a:Addr} {v:Value} (hc:W.cell? a=some v) (hB:W.heap.size≤B):w.cell? a=some v:=by
 rw [h.cell (Nat.lt_of_lt_of_le (World.block_lt_of_cell? W a hc) hB)]
 exact hc
theorem and15 (z:Int):∃ v:Nat,v≤15∧bits BinOp.and IntKind.i64 z 15=(v:Int):=⟨(z % 16).toNat,by omega,by rw [aG5 z 4 (by omega) 15 (by decide)];omega⟩
theorem and3 (z:Int):∃ v:Nat,v≤3∧bits BinOp.and IntKind.i64 z 3=(v:Int):=⟨(z % 4).toNat,by omega,by rw [aG5 z 2 (by omega) 3 (by decide)];omega⟩
theorem MN.mono {B N nt gh mm mm':Nat} {P:Nat→NdP} {l:List LR} {R:Nat→Rec} {W w:World} (h:MN B N nt gh P l R mm W w) (hm:mm≤mm'):MN B N nt gh P l R mm' W w:=by
 obtain ⟨A,wv,h1,h2⟩:=h
 exact ⟨A,wv,h1,fun i hi=>⟨(h2 i hi).1,nT (h2 i hi).2 hm⟩⟩
theorem MN.setA {B N nt gh mm ga o:Nat} {P:Nat→NdP} {l:List LR} {R:Nat→Rec} {W w:World} {fs:Array Value} {u:Value} (h:MN B N nt gh P l R mm W w) (ha:w.heap[ga]?=some (.cells fs 39 (0,0))) (hB:B≤ga):MN B N nt gh P l R mm W (w.setCell ⟨ga,o,none⟩ u):=by
 obtain ⟨A,wv,h1,h2⟩:=h
 exact ⟨A,wv,h1.set1 ha hB (by unfold DTy;decide) (by decide) (by decide) (by decide) (by decide) (by decide),h2⟩
def VF (w:World) (r:Rec) (fv:Value):Prop:=(r.2.1=0∧r.2.2=[]∧fv=.slice none 0 0)∨(r.2.1≠0∧∃ e o:Nat,e≤12∧o≤3∧r.2.2=enC (ch2 e o)∧SGV w fv (ch2 e o))
theorem VF.stay {w w':World} {r:Rec} {fv:Value} (h:VF w r fv) (hs:∀ (k:Nat) (cs:Array Value),w.heap[k]?=some (.cells cs 56 (0,0))→w'.heap[k]?=some (.cells cs 56 (0,0))):VF w' r fv:=by
 rcases h with h | ⟨h1,e,o,h2,h3,h4,h5⟩
 ·exact Or.inl h
 ·exact Or.inr ⟨h1,e,o,h2,h3,h4,h5.stay hs⟩
theorem VF.len {w:World} {r:Rec} {fv:Value} (h:VF w r fv):r.2.2.length≤1800:=by
 rcases h with ⟨_,h,_⟩ | ⟨_,e,o,h2,h3,h4,_⟩
 ·rw [h]
  exact Nat.zero_le _
 ·rw [h4]
  have:=(aEk (e:=(e:Int)) (o:=(o:Int)) (by omega) (by omega) (by omega) (by omega)).all
  omega
structure MAI (B nt gh ga j:Nat) (P:Nat→NdP) (R:Nat→Rec) (fs:Array Value) (W w:World):Prop where
 m:MN B 300 nt gh P [] R (3*j) W w
 r:∀ v,(R v).1≤8*j
 a:w.heap[ga]?=some (.cells fs 39 (0,0))
 z:fs.size=17
 b:B≤ga
 v:∀ v,v≤16→∃ fv,fs[v]?=some fv∧VF w (R v) fv
theorem MAI.later {B nt gh ga j:Nat} {P:Nat→NdP} {R:Nat→Rec} {fs:Array Value} {W w w':World} (h:MAI B nt gh ga j P R fs W w) (hb:Below w.heap.size w w'):MAI B nt gh ga j P R fs W w':=by
 have blk:∀ {k:Nat} {o:Obj},w.heap[k]?=some o→w'.heap[k]?=some o:=fun e=>(hb.block _ (lO e)).trans e
 exact ⟨h.m.later hb,h.r,blk h.a,h.z,h.b,fun v hv=>by
  obtain ⟨fv,q1,q2⟩:=h.v v hv
  exact ⟨fv,q1,q2.stay fun k cs e=>blk e⟩⟩
theorem MAI.next {B nt gh ga j v p:Nat} {P:Nat→NdP} {R:Nat→Rec} {r:Rec} {fs:Array Value} {fv:Value} {W w w':World} (h:MAI B nt gh ga j P R fs W w) (hf:NsF B w w') (hm:MN B 300 nt gh P [] (upR R v r) (3*(j+1)) W w') (hr:r.1≤8*(j+1)) (hv:fs[v]?=some fv) (hq:VF w' r fv):MAI B nt gh ga (j+1) P (upR R v r) fs W w' :=
 ⟨hm,fun u=>by
  unfold upR
  split
  ·exact hr
  ·have:=h.r u
   omega,hf.2 _ _ _ _ h.a (by decide) (by decide) (by decide) (by decide) (by decide),h.z,h.b,fun u hu=>by
  by_cases e:u=v
  ·subst e
   rw [aE2]
   exact ⟨fv,hv,hq⟩
  ·obtain ⟨gv,q1,q2⟩:=h.v u hu
   have e2:upR R v r u=R u:=if_neg e
   rw [e2]
   exact ⟨gv,q1,q2.stay fun k cs e=>hf.2 k cs _ _ e (by decide) (by decide) (by decide) (by decide) (by decide)⟩⟩
theorem MAI.note {B nt gh ga j v:Nat} {P:Nat→NdP} {R:Nat→Rec} {r:Rec} {fs:Array Value} {fv:Value} {W w w':World} (h:MAI B nt gh ga j P R fs W w) (hf:NsF B w w') (hm:MN B 300 nt gh P [] (upR R v r) (3*(j+1)) W w') (hr:r.1≤8*(j+1)) (hv16:v≤16) (hq:VF w' r fv):MAI B nt gh ga (j+1) P (upR R v r) (fs.setIfInBounds v fv) W (w'.setCell ⟨ga,v,none⟩ fv):=by
 have ha:=hf.2 _ _ _ _ h.a (by decide) (by decide) (by decide) (by decide) (by decide)
 have st:∀ (k:Nat) (cs:Array Value),w'.heap[k]?=some (.cells cs 56 (0,0))→(w'.setCell ⟨ga,v,none⟩ fv).heap[k]?=some (.cells cs 56 (0,0)):=fun k cs e=>(heap_setCell_other _ _ _ _ (aAr e ha (by decide))).trans e
 refine ⟨hm.setA ha h.b,fun u=>?_,heap_setCell_same _ _ _ _ _ _ ha,by rw [Array.size_setIfInBounds];exact h.z,h.b,fun u hu=>?_⟩
 ·unfold upR
  split
  ·exact hr
  ·have:=h.r u
   omega
 ·by_cases e:u=v
  ·subst e
   rw [aE2]
   exact ⟨fv,Array.getElem?_setIfInBounds_self_of_lt (by have:=h.z;omega),hq.stay st⟩
  ·obtain ⟨gv,q1,q2⟩:=h.v u hu
   have e2:upR R v r u=R u:=if_neg e
   rw [e2,Array.getElem?_setIfInBounds_ne (Ne.symm e)]
   exact ⟨gv,q1,(q2.stay fun k cs e=>hf.2 k cs _ _ e (by decide) (by decide) (by decide) (by decide) (by decide)).stay st⟩
theorem aFv {W:World} {av ao:Option Addr} {lv cv lo co:Nat} {Zv Zo:Nat→Int} (hV0:lv≤9223372036854775807) (hO0:lo≤9223372036854775807) (hV:IRw W av lv Zv) (hO:IRw W ao lo Zo) :
  Calls Tryz.prog 4 #[.slice av lv cv,.slice ao lo co] W fun e w'=>e=.returned (.bool true)∧Below W.heap.size W w':=by
 have lt:∀ {k:Nat} {o:Obj} {ww:World},ww.heap[k]?=some o→k<ww.heap.size:=fun e=>(lO e)
 have HV:=hide hV
 have HO:=hide hO
 have HTD:=hide told11
 generalize hB:W.heap.size=B at *
 have HNN:Hid (Calls Tryz.prog 6 #[.int .i64 3,.int .i64 300] W fun e w'=>∃ nt gh P,e=.returned (.tuple #[.pointer (some ⟨nt,0,none⟩),.int .i64 0])∧NSw B 300 3 nt gh P nd0 (.slice none 0 0) [] [] W w'∧NsF B W w'):=net_new (n:=300) (M:=3) (by omega) (Below.refl _ _) (by decide) (by decide) (by decide) (by decide)
 clear hV hO
 go_enter Tryz.func4,Tryz.ntmps4
 go_wp2_with fail
 refine HNN.out.mono ?_
 rintro e x1 ⟨nt,gh,P,rfl,h1,hf1⟩
 have HM1:=hide (MN.new h1)
 have HBE:=hide hf1.1
 clear h1 hf1 HNN
 go_upto_region 5 with fail
 have HI0:Hid (MAI B nt gh x1.heap.size 0 P R0 #[.slice none 0 0,.slice none 0 0,.slice none 0 0,.slice none 0 0,.slice none 0 0,.slice none 0 0,.slice none 0 0,.slice none 0 0,.slice none 0 0,.slice none 0 0,.slice none 0 0,.slice none 0 0,.slice none 0 0,.slice none 0 0,.slice none 0 0,.slice none 0 0,.slice none 0 0] W (x1.alloc (.cells #[.slice none 0 0,.slice none 0 0,.slice none 0 0,.slice none 0 0,.slice none 0 0,.slice none 0 0,.slice none 0 0,.slice none 0 0,.slice none 0 0,.slice none 0 0,.slice none 0 0,.slice none 0 0,.slice none 0 0,.slice none 0 0,.slice none 0 0,.slice none 0 0,.slice none 0 0] 39))):=by
  refine ⟨HM1.out.later (aAc x1 _),fun v=>nR _,heap_alloc_new x1 _,rfl,HM1.out.bw,fun v hv=>⟨.slice none 0 0,?_,Or.inl ⟨rfl,rfl,rfl⟩⟩⟩
  have h:v=0∨v=1∨v=2∨v=3∨v=4∨v=5∨v=6∨v=7∨v=8∨v=9∨v=10∨v=11∨v=12∨v=13∨v=14∨v=15∨v=16:=by omega
  rcases h with rfl | rfl | rfl | rfl | rfl | rfl | rfl | rfl | rfl | rfl | rfl | rfl | rfl | rfl | rfl | rfl | rfl<;>rfl
 have HB0:Hid (Below B W (x1.alloc (.cells #[.slice none 0 0,.slice none 0 0,.slice none 0 0,.slice none 0 0,.slice none 0 0,.slice none 0 0,.slice none 0 0,.slice none 0 0,.slice none 0 0,.slice none 0 0,.slice none 0 0,.slice none 0 0,.slice none 0 0,.slice none 0 0,.slice none 0 0,.slice none 0 0,.slice none 0 0] 39))):=HBE.out.trans ((aAc x1 _).mono HM1.out.bw)
 generalize x1.alloc (.cells #[.slice none 0 0,.slice none 0 0,.slice none 0 0,.slice none 0 0,.slice none 0 0,.slice none 0 0,.slice none 0 0,.slice none 0 0,.slice none 0 0,.slice none 0 0,.slice none 0 0,.slice none 0 0,.slice none 0 0,.slice none 0 0,.slice none 0 0,.slice none 0 0,.slice none 0 0] 39)=x2 at *
 generalize x1.heap.size=ga at *
 obtain ⟨fs0,hfs0⟩:∃ x:Array Value,x=#[.slice none 0 0,.slice none 0 0,.slice none 0 0,.slice none 0 0,.slice none 0 0,.slice none 0 0,.slice none 0 0,.slice none 0 0,.slice none 0 0,.slice none 0 0,.slice none 0 0,.slice none 0 0,.slice none 0 0,.slice none 0 0,.slice none 0 0,.slice none 0 0,.slice none 0 0]:=⟨_,rfl⟩
 rw [←hfs0] at HI0
 clear hfs0 HM1 HBE
 go_wp2_with fail
 go_loopw [8] (fun i wx=>∃ j:Nat,j≤12∧i=.int .i64 (j:Int)∧∃ R fs,MAI B nt gh ga j P R fs W wx∧Below B W wx) (fun i _=>12-(intOf i).toNat)
 case atStart=>exact ⟨0,by omega,rfl,R0,fs0,HI0.out,HB0.out⟩
 case round =>
  obtain ⟨j,hj,rfl,R,fs,hI,hbx⟩:=hrel
  have HI:=hide hI
  have HBX:=hide hbx
  clear hI hbx HI0 HB0
  obtain ⟨cb,HCB⟩:∃ cb,Hid (cb=decide (j<lv∧j<12)):=⟨_,rfl⟩
  go_upto_region 6 with fail
  go_cut [35] from 28 to 80 (fun c wx=>c=.bool cb∧wx=wr)
  case first =>
   by_cases c1:j<lv
   ·have i1:(j:Int)<(lv:Int):=by omega
    by_cases c2:j<12
    ·have i2:(j:Int)<12:=by omega
     go_wp2
     go_meet
     case rel=>exact ⟨by rw [HCB.out];simp [c1,c2],rfl⟩
    ·have i2:¬ (j:Int)<12:=by omega
     go_wp2
     go_meet
     case rel=>exact ⟨by rw [HCB.out];simp [c1,c2],rfl⟩
   ·have i1:¬ (j:Int)<(lv:Int):=by omega
    go_wp2
    go_meet
    case rel=>exact ⟨by rw [HCB.out];simp [c1],rfl⟩
  case rest =>
   obtain ⟨rfl,rfl⟩:=hcut
   by_cases hgo:j<lv∧j<12
   ·have hcb:cb=true:=by rw [HCB.out];simp [hgo.1,hgo.2]
    subst hcb
    obtain ⟨vb,vo,hva,hvc⟩:=HV.out (by omega)
    have q0:wc.cell? ⟨vb,vo+j,none⟩=some (.int .i64 (Zv j)):=bel_cell HBX.out (hvc j hgo.1) (by omega)
    obtain ⟨q,hq1,hq2⟩:=and15 (Zv j)
    generalize Zv j=z at *
    have i1:(j:Int)<(lv:Int):=by omega
    have i2:(0:Int)≤(j:Int):=by omega
    have i3:(j:Int)<12:=by omega
    have i4:(q:Int)+1<17:=by omega
    have i5:(0:Int)≤(q:Int)+1:=by omega
    have i6:IntKind.i64.wrap ((q:Int)+1)=(q:Int)+1:=wrap_small _ (by omega) (by omega)
    have hj12:j<12:=hgo.2
    subst hva
    clear hvc hgo
    by_cases ho:j<lo
    ·obtain ⟨ob,oo,hoa,hoc⟩:=HO.out (by omega)
     have q1:wc.cell? ⟨ob,oo+j,none⟩=some (.int .i64 (Zo j)):=bel_cell HBX.out (hoc j ho) (by omega)
     obtain ⟨who,hw1,hw2⟩:=and3 (Zo j)
     generalize Zo j=z2 at *
     have j1:(j:Int)<(lo:Int):=by omega
     subst hoa
     clear hoc
     have HCH:=hide (aCs (j:Int) (who:Int) wc)
     go_wp2_with fail
     refine HCH.out.mono ?_
     rintro e0 w2 ⟨rfl,hs2,hb2⟩
     have HI2:=hide (HI.out.later hb2)
     have HB2:Hid (Below B W w2):=HBX.out.trans (hb2.mono HI.out.m.bw)
     have HL2:=hide hs2
     clear hs2 hb2 HCH HI HBX
     generalize wc.heap.size=n2 at *
     obtain ⟨fv,hfv,hvf⟩:=HI2.out.v (q+1) (by omega)
     have HFV:=hide hfv
     have HLEN:=hide hvf.len
     have HCC:Hid (CH (ch2 (j:Int) (who:Int))):=aEk (by omega) (by omega) (by omega) (by omega)
     rcases hvf with ⟨v1,v2,rfl⟩ | ⟨v1,e,o,v2,v3,v4,v5⟩
     ·have HC2:Hid (Calls Tryz.prog 9 #[.pointer (some ⟨nt,0,none⟩),.int .i64 ((q:Int)+1),.int .i64 (who:Int),.slice (some ⟨n2,0,none⟩) 2 2] w2 fun e w'=>(∃ v',e=.returned (.tuple #[v',.int .i64 0])∧SGV w' v' (ch2 (j:Int) (who:Int)))∧MN B 300 nt gh P [] (upR R (q+1) (bb (R (q+1)).1 who,bb (R (q+1)).1 who,enC (ch2 (j:Int) (who:Int)))) (3*j+3) W w'∧NsF B w2 w'):=HI2.out.m.propose (ver:=q+1) (who:=who) HL2.out HCC.out HCC.out (by unfold dval;rw [if_pos v1]) (by omega) (by omega) (by omega) (by have:=HI2.out.r (q+1);omega) (by omega) (by omega) HLEN.out
      clear v1 v2 hfv
      go_wp2_with fail
      refine HC2.out.mono ?_
      rintro e0 w3 ⟨⟨v',rfl,hs3⟩,hm3,hf3⟩
      have HS3:=hide hs3
      have HL3:=hide (HL2.out.ns hf3)
      have HQ3:Hid (VF w3 (bb (R (q+1)).1 who,bb (R (q+1)).1 who,enC (ch2 (j:Int) (who:Int))) (.slice (some ⟨n2,0,none⟩) 2 2)):=Or.inr ⟨aFp _ _,j,who,by omega,by omega,rfl,HL3.out⟩
      have HA3:Hid (w3.heap[ga]?=_):=hf3.2 _ _ _ _ HI2.out.a (by decide) (by decide) (by decide) (by decide) (by decide)
      have HI4:=hide (HI2.out.note (v:=q+1) (fv:=.slice (some ⟨n2,0,none⟩) 2 2) hf3 hm3 (by have:=bb_le (R (q+1)).1 who (by omega);have:=HI2.out.r (q+1);show bb (R (q+1)).1 who≤_;omega) (by omega) HQ3.out)
      have HB4:Hid (Below B W (w3.setCell ⟨ga,q+1,none⟩ (.slice (some ⟨n2,0,none⟩) 2 2))):=(HB2.out.trans hf3.1).setCell (p:=⟨ga,q+1,none⟩) HI2.out.b _
      have y1:w3.cell? ⟨ga,q+1,none⟩=some (.slice none 0 0):=(aAa HA3.out).trans HFV.out
      have yf1:w3.frozen? ⟨ga,q+1,none⟩=false:=aAb HA3.out
      have hqn:=fun (n c:Nat) (ww:World)=>Lib.run_eql_slice_nil (P:=Tryz.prog) ww 28 56 none n c 0 0 Tryz.underlying28
      have HST:Hid (∀ (k:Nat) (cs:Array Value),w3.heap[k]?=some (.cells cs 56 (0,0))→(w3.setCell ⟨ga,q+1,none⟩ (.slice (some ⟨n2,0,none⟩) 2 2)).heap[k]?=some (.cells cs 56 (0,0))):=fun k cs e=>(heap_setCell_other _ _ _ _ (aAr e HA3.out (by decide))).trans e
      have HS4:=hide (HS3.out.stay HST.out)
      have HL4:=hide (HL3.out.stay HST.out)
      have HA4:Hid ((w3.setCell ⟨ga,q+1,none⟩ (.slice (some ⟨n2,0,none⟩) 2 2)).heap[ga]?=_):=heap_setCell_same _ _ _ _ _ _ HA3.out
      have HC4:Hid ((fs.setIfInBounds (q+1) (.slice (some ⟨n2,0,none⟩) 2 2))[q+1]?=some (.slice (some ⟨n2,0,none⟩) 2 2)):=Array.getElem?_setIfInBounds_self_of_lt (by have:=HI2.out.z;omega)
      clear hs3 hm3 hf3 HC2 HI2 HB2
      go_upto_region 16 with fail
      clear y1 yf1
      generalize w3.setCell ⟨ga,q+1,none⟩ (.slice (some ⟨n2,0,none⟩) 2 2)=w4 at *
      generalize fs.setIfInBounds (q+1) (.slice (some ⟨n2,0,none⟩) 2 2)=fs4 at *
      have y2:w4.cell? ⟨ga,q+1,none⟩=some (.slice (some ⟨n2,0,none⟩) 2 2):=(aAa HA4.out).trans HC4.out
      have HSM:=hide (aBq HS4.out HL4.out (by show 2≤17;decide))
      go_wp2_with fail
      refine HSM.out.mono ?_
      rintro e w5 ⟨rfl,hb5⟩
      have HI5:=hide (HI4.out.later hb5)
      have HB5:Hid (Below B W w5):=HB4.out.trans (hb5.mono HI4.out.m.bw)
      clear hb5 HSM y2
      go_wp2_with fail
      go_roundw
      case rel=>exact ⟨j+1,by omega,by go_num,_,_,HI5.out,HB5.out⟩
      case measure=>simp [intOf];omega
     ·obtain ⟨gf,cf,csf,hfe,hf2,hf3',hf4⟩:=v5
      have hfe:fv=.slice (some ⟨gf,0,none⟩) 2 cf:=hfe
      subst hfe
      have HFS:Hid (SGV w2 (.slice (some ⟨gf,0,none⟩) 2 cf) (ch2 (e:Int) (o:Int))):=⟨gf,cf,csf,rfl,hf2,hf3',hf4⟩
      have HEO:Hid (e≤12∧o≤3):=⟨v2,v3⟩
      have HC2:Hid (Calls Tryz.prog 9 #[.pointer (some ⟨nt,0,none⟩),.int .i64 ((q:Int)+1),.int .i64 (who:Int),.slice (some ⟨n2,0,none⟩) 2 2] w2 fun e' w'=>(∃ v',e'=.returned (.tuple #[v',.int .i64 0])∧SGV w' v' (ch2 (e:Int) (o:Int)))∧MN B 300 nt gh P [] (upR R (q+1) (bb (R (q+1)).1 who,bb (R (q+1)).1 who,enC (ch2 (e:Int) (o:Int)))) (3*j+3) W w'∧NsF B w2 w'):=HI2.out.m.propose (ver:=q+1) (who:=who) HL2.out HCC.out (aEk (by omega) (by omega) (by omega) (by omega)) (by unfold dval;rw [if_neg v1];exact v4.symm) (by omega) (by omega) (by omega) (by have:=HI2.out.r (q+1);omega) (by omega) (by omega) HLEN.out
      clear v1 v2 v3 v4 hfv hf2 hf3' hf4
      go_wp2_with fail
      refine HC2.out.mono ?_
      rintro e0 w3 ⟨⟨v',rfl,hs3⟩,hm3,hf3⟩
      have HS3:=hide hs3
      have HF3:=hide (HFS.out.ns hf3)
      have HQ3:Hid (VF w3 (bb (R (q+1)).1 who,bb (R (q+1)).1 who,enC (ch2 (e:Int) (o:Int))) (.slice (some ⟨gf,0,none⟩) 2 cf)):=Or.inr ⟨aFp _ _,e,o,HEO.out.1,HEO.out.2,rfl,HF3.out⟩
      have HI3:=hide (HI2.out.next (v:=q+1) (p:=0) hf3 hm3 (by have:=bb_le (R (q+1)).1 who (by omega);have:=HI2.out.r (q+1);show bb (R (q+1)).1 who≤_;omega) HFV.out HQ3.out)
      have HB3:Hid (Below B W w3):=HB2.out.trans hf3.1
      have y1:w3.cell? ⟨ga,q+1,none⟩=some (.slice (some ⟨gf,0,none⟩) 2 cf):=(aAa HI3.out.a).trans HFV.out
      have HSM:=hide (aBq HS3.out HF3.out (by show 2≤17;decide))
      have hqn:=fun (n c:Nat) (ww:World)=>Lib.run_eql_slice_nil (P:=Tryz.prog) ww 28 56 (some ⟨gf,0,none⟩) n c 0 0 Tryz.underlying28
      clear hs3 hm3 hf3 HC2 HI2 HB2
      go_wp2_with fail
      refine HSM.out.mono ?_
      rintro e9 w5 ⟨rfl,hb5⟩
      have HI5:=hide (HI3.out.later hb5)
      have HB5:Hid (Below B W w5):=HB3.out.trans (hb5.mono HI3.out.m.bw)
      clear hb5 HSM y1
      go_wp2_with fail
      go_roundw
      case rel=>exact ⟨j+1,by omega,by go_num,_,_,HI5.out,HB5.out⟩
      case measure=>simp [intOf];omega
    ·have j1:¬ (j:Int)<(lo:Int):=by omega
     have HCH:=hide (aCs (j:Int) 0 wc)
     go_wp2_with fail
     refine HCH.out.mono ?_
     rintro e0 w2 ⟨rfl,hs2,hb2⟩
     have HI2:=hide (HI.out.later hb2)
     have HB2:Hid (Below B W w2):=HBX.out.trans (hb2.mono HI.out.m.bw)
     have HL2:=hide hs2
     clear hs2 hb2 HCH HI HBX
     generalize wc.heap.size=n2 at *
     obtain ⟨fv,hfv,hvf⟩:=HI2.out.v (q+1) (by omega)
     have HFV:=hide hfv
     have HLEN:=hide hvf.len
     have HCC:Hid (CH (ch2 (j:Int) 0)):=aEk (by omega) (by omega) (by omega) (by omega)
     rcases hvf with ⟨v1,v2,rfl⟩ | ⟨v1,e,o,v2,v3,v4,v5⟩
     ·have HC2:Hid (Calls Tryz.prog 9 #[.pointer (some ⟨nt,0,none⟩),.int .i64 ((q:Int)+1),.int .i64 0,.slice (some ⟨n2,0,none⟩) 2 2] w2 fun e w'=>(∃ v',e=.returned (.tuple #[v',.int .i64 0])∧SGV w' v' (ch2 (j:Int) 0))∧MN B 300 nt gh P [] (upR R (q+1) (bb (R (q+1)).1 0,bb (R (q+1)).1 0,enC (ch2 (j:Int) 0))) (3*j+3) W w'∧NsF B w2 w'):=HI2.out.m.propose (ver:=q+1) (who:=0) HL2.out HCC.out HCC.out (by unfold dval;rw [if_pos v1]) (by omega) (by omega) (by omega) (by have:=HI2.out.r (q+1);omega) (by omega) (by omega) HLEN.out
      clear v1 v2 hfv
      go_wp2_with fail
      refine HC2.out.mono ?_
      rintro e0 w3 ⟨⟨v',rfl,hs3⟩,hm3,hf3⟩
      have HS3:=hide hs3
      have HL3:=hide (HL2.out.ns hf3)
      have HQ3:Hid (VF w3 (bb (R (q+1)).1 0,bb (R (q+1)).1 0,enC (ch2 (j:Int) 0)) (.slice (some ⟨n2,0,none⟩) 2 2)):=Or.inr ⟨aFp _ _,j,0,by omega,by omega,rfl,HL3.out⟩
      have HA3:Hid (w3.heap[ga]?=_):=hf3.2 _ _ _ _ HI2.out.a (by decide) (by decide) (by decide) (by decide) (by decide)
      have HI4:=hide (HI2.out.note (v:=q+1) (fv:=.slice (some ⟨n2,0,none⟩) 2 2) hf3 hm3 (by have:=bb_le (R (q+1)).1 0 (by omega);have:=HI2.out.r (q+1);show bb (R (q+1)).1 0≤_;omega) (by omega) HQ3.out)
      have HB4:Hid (Below B W (w3.setCell ⟨ga,q+1,none⟩ (.slice (some ⟨n2,0,none⟩) 2 2))):=(HB2.out.trans hf3.1).setCell (p:=⟨ga,q+1,none⟩) HI2.out.b _
      have y1:w3.cell? ⟨ga,q+1,none⟩=some (.slice none 0 0):=(aAa HA3.out).trans HFV.out
      have yf1:w3.frozen? ⟨ga,q+1,none⟩=false:=aAb HA3.out
      have hqn:=fun (n c:Nat) (ww:World)=>Lib.run_eql_slice_nil (P:=Tryz.prog) ww 28 56 none n c 0 0 Tryz.underlying28
      have HST:Hid (∀ (k:Nat) (cs:Array Value),w3.heap[k]?=some (.cells cs 56 (0,0))→(w3.setCell ⟨ga,q+1,none⟩ (.slice (some ⟨n2,0,none⟩) 2 2)).heap[k]?=some (.cells cs 56 (0,0))):=fun k cs e=>(heap_setCell_other _ _ _ _ (aAr e HA3.out (by decide))).trans e
      have HS4:=hide (HS3.out.stay HST.out)
      have HL4:=hide (HL3.out.stay HST.out)
      have HA4:Hid ((w3.setCell ⟨ga,q+1,none⟩ (.slice (some ⟨n2,0,none⟩) 2 2)).heap[ga]?=_):=heap_setCell_same _ _ _ _ _ _ HA3.out
      have HC4:Hid ((fs.setIfInBounds (q+1) (.slice (some ⟨n2,0,none⟩) 2 2))[q+1]?=some (.slice (some ⟨n2,0,none⟩) 2 2)):=Array.getElem?_setIfInBounds_self_of_lt (by have:=HI2.out.z;omega)
      clear hs3 hm3 hf3 HC2 HI2 HB2
      go_upto_region 16 with fail
      clear y1 yf1
      generalize w3.setCell ⟨ga,q+1,none⟩ (.slice (some ⟨n2,0,none⟩) 2 2)=w4 at *
      generalize fs.setIfInBounds (q+1) (.slice (some ⟨n2,0,none⟩) 2 2)=fs4 at *
      have y2:w4.cell? ⟨ga,q+1,none⟩=some (.slice (some ⟨n2,0,none⟩) 2 2):=(aAa HA4.out).trans HC4.out
      have HSM:=hide (aBq HS4.out HL4.out (by show 2≤17;decide))
      go_wp2_with fail
      refine HSM.out.mono ?_
      rintro e w5 ⟨rfl,hb5⟩
      have HI5:=hide (HI4.out.later hb5)
      have HB5:Hid (Below B W w5):=HB4.out.trans (hb5.mono HI4.out.m.bw)
      clear hb5 HSM y2
      go_wp2_with fail
      go_roundw
      case rel=>exact ⟨j+1,by omega,by go_num,_,_,HI5.out,HB5.out⟩
      case measure=>simp [intOf];omega
     ·obtain ⟨gf,cf,csf,hfe,hf2,hf3',hf4⟩:=v5
      have hfe:fv=.slice (some ⟨gf,0,none⟩) 2 cf:=hfe
      subst hfe
      have HFS:Hid (SGV w2 (.slice (some ⟨gf,0,none⟩) 2 cf) (ch2 (e:Int) (o:Int))):=⟨gf,cf,csf,rfl,hf2,hf3',hf4⟩
      have HEO:Hid (e≤12∧o≤3):=⟨v2,v3⟩
      have HC2:Hid (Calls Tryz.prog 9 #[.pointer (some ⟨nt,0,none⟩),.int .i64 ((q:Int)+1),.int .i64 0,.slice (some ⟨n2,0,none⟩) 2 2] w2 fun e' w'=>(∃ v',e'=.returned (.tuple #[v',.int .i64 0])∧SGV w' v' (ch2 (e:Int) (o:Int)))∧MN B 300 nt gh P [] (upR R (q+1) (bb (R (q+1)).1 0,bb (R (q+1)).1 0,enC (ch2 (e:Int) (o:Int)))) (3*j+3) W w'∧NsF B w2 w'):=HI2.out.m.propose (ver:=q+1) (who:=0) HL2.out HCC.out (aEk (by omega) (by omega) (by omega) (by omega)) (by unfold dval;rw [if_neg v1];exact v4.symm) (by omega) (by omega) (by omega) (by have:=HI2.out.r (q+1);omega) (by omega) (by omega) HLEN.out
      clear v1 v2 v3 v4 hfv hf2 hf3' hf4
      go_wp2_with fail
      refine HC2.out.mono ?_
      rintro e0 w3 ⟨⟨v',rfl,hs3⟩,hm3,hf3⟩
      have HS3:=hide hs3
      have HF3:=hide (HFS.out.ns hf3)
      have HQ3:Hid (VF w3 (bb (R (q+1)).1 0,bb (R (q+1)).1 0,enC (ch2 (e:Int) (o:Int))) (.slice (some ⟨gf,0,none⟩) 2 cf)):=Or.inr ⟨aFp _ _,e,o,HEO.out.1,HEO.out.2,rfl,HF3.out⟩
      have HI3:=hide (HI2.out.next (v:=q+1) (p:=0) hf3 hm3 (by have:=bb_le (R (q+1)).1 0 (by omega);have:=HI2.out.r (q+1);show bb (R (q+1)).1 0≤_;omega) HFV.out HQ3.out)
      have HB3:Hid (Below B W w3):=HB2.out.trans hf3.1
      have y1:w3.cell? ⟨ga,q+1,none⟩=some (.slice (some ⟨gf,0,none⟩) 2 cf):=(aAa HI3.out.a).trans HFV.out
      have HSM:=hide (aBq HS3.out HF3.out (by show 2≤17;decide))
      have hqn:=fun (n c:Nat) (ww:World)=>Lib.run_eql_slice_nil (P:=Tryz.prog) ww 28 56 (some ⟨gf,0,none⟩) n c 0 0 Tryz.underlying28
      clear hs3 hm3 hf3 HC2 HI2 HB2
      go_wp2_with fail
      refine HSM.out.mono ?_
      rintro e9 w5 ⟨rfl,hb5⟩
      have HI5:=hide (HI3.out.later hb5)
      have HB5:Hid (Below B W w5):=HB3.out.trans (hb5.mono HI3.out.m.bw)
      clear hb5 HSM y1
      go_wp2_with fail
      go_roundw
      case rel=>exact ⟨j+1,by omega,by go_num,_,_,HI5.out,HB5.out⟩
      case measure=>simp [intOf];omega
   ·have hcb:cb=false:=by rw [HCB.out];simp only [decide_eq_false_iff_not];exact hgo
    subst hcb
    go_wp2_with fail
    go_loopw [14] (fun i wx=>∃ (v c:Nat) (R:Nat→Rec) (fs:Array Value),1≤v∧v≤17∧c≤11+v∧i=.int .i64 (v:Int)∧MAI B nt gh ga c P R fs W wx∧Below B W wx) (fun i _=>17-(intOf i).toNat)
    case atStart=>exact ⟨1,j,R,fs,by omega,by omega,by omega,rfl,HI.out,HBX.out⟩
    case round =>
     obtain ⟨v,c,R,fs,hv1,hv2,hc,rfl,hI,hbx⟩:=hrel
     clear HI HBX
     have HI:=hide hI
     have HBX:=hide hbx
     clear hI hbx
     by_cases hvn:v≤16
     ·have i1:(v:Int)≤16:=by omega
      have i2:(0:Int)≤(v:Int):=by omega
      have i3:(v:Int)<17:=by omega
      obtain ⟨fv,hfv,hvf⟩:=HI.out.v v (by omega)
      have HFV:=hide hfv
      have HLEN:=hide hvf.len
      rcases hvf with ⟨v1,v2,rfl⟩ | ⟨v1,e,o,v2,v3,v4,v5⟩
      ·have HC2:Hid (Calls Tryz.prog 12 #[.pointer (some ⟨nt,0,none⟩),.int .i64 (v:Int),.int .i64 3] wr fun e w'=>e=.returned (.tuple #[.slice none 0 0,.bool false,.int .i64 0])∧MN B 300 nt gh P [] (upR R v (bb (R v).1 3,(R v).2.1,(R v).2.2)) (3*c+1) W w'∧NsF B wr w'):=HI.out.m.learn0 (ver:=v) (who:=3) v1 (by omega) (by omega) (by omega) (by have:=HI.out.r v;omega) (by omega) (by omega) HLEN.out
       have HQQ:Hid ((R v).2.1=0∧(R v).2.2=[]):=⟨v1,v2⟩
       clear v1 v2 hfv
       go_wp2_with fail
       refine HC2.out.mono ?_
       rintro e0 w3 ⟨rfl,hm3,hf3⟩
       have HI3:=hide (HI.out.next (v:=v) (p:=0) hf3 (hm3.mono (by omega)) (by have:=bb_le (R v).1 3 (by omega);have:=HI.out.r v;show bb (R v).1 3≤_;omega) HFV.out (Or.inl ⟨HQQ.out.1,HQQ.out.2,rfl⟩))
       have HB3:Hid (Below B W w3):=HBX.out.trans hf3.1
       have y1:w3.cell? ⟨ga,v,none⟩=some (.slice none 0 0):=(aAa HI3.out.a).trans HFV.out
       clear hm3 hf3 HC2 HI HBX
       go_wp2_with fail
       go_roundw
       case rel=>exact ⟨v+1,c+1,_,_,by omega,by omega,by omega,by go_num,HI3.out,HB3.out⟩
       case measure=>simp [intOf];omega
      ·obtain ⟨gf,cf,csf,hfe,hf2,hf3',hf4⟩:=v5
       have hfe:fv=.slice (some ⟨gf,0,none⟩) 2 cf:=hfe
       subst hfe
       have HFS:Hid (SGV wr (.slice (some ⟨gf,0,none⟩) 2 cf) (ch2 (e:Int) (o:Int))):=⟨gf,cf,csf,rfl,hf2,hf3',hf4⟩
       have HEO:Hid (e≤12∧o≤3):=⟨v2,v3⟩
       have HC2:Hid (Calls Tryz.prog 12 #[.pointer (some ⟨nt,0,none⟩),.int .i64 (v:Int),.int .i64 3] wr fun e' w'=>(∃ v',e'=.returned (.tuple #[v',.bool true,.int .i64 0])∧SGV w' v' (ch2 (e:Int) (o:Int)))∧MN B 300 nt gh P [] (upR R v (bb (R v).1 3,bb (R v).1 3,enC (ch2 (e:Int) (o:Int)))) (3*c+3) W w'∧NsF B wr w'):=HI.out.m.learn1 (ver:=v) (who:=3) v1 (aEk (by omega) (by omega) (by omega) (by omega)) v4 (by omega) (by omega) (by omega) (by have:=HI.out.r v;omega) (by omega) (by omega) HLEN.out
       clear v1 v2 v3 v4 hfv hf2 hf3' hf4
       go_wp2_with fail
       refine HC2.out.mono ?_
       rintro e0 w3 ⟨⟨v',rfl,hs3⟩,hm3,hf3⟩
       have HS3:=hide hs3
       have HF3:=hide (HFS.out.ns hf3)
       have HI3:=hide (HI.out.next (v:=v) (p:=0) hf3 hm3 (by have:=bb_le (R v).1 3 (by omega);have:=HI.out.r v;show bb (R v).1 3≤_;omega) HFV.out (Or.inr ⟨aFp _ _,e,o,HEO.out.1,HEO.out.2,rfl,HF3.out⟩))
       have HB3:Hid (Below B W w3):=HBX.out.trans hf3.1
       have y1:w3.cell? ⟨ga,v,none⟩=some (.slice (some ⟨gf,0,none⟩) 2 cf):=(aAa HI3.out.a).trans HFV.out
       have HSM:=hide (aBq HS3.out HF3.out (by show 2≤17;decide))
       clear hs3 hm3 hf3 HC2 HI HBX
       go_wp2_with fail
       refine HSM.out.mono ?_
       rintro e9 w5 ⟨rfl,hb5⟩
       have HI5:=hide (HI3.out.later hb5)
       have HB5:Hid (Below B W w5):=HB3.out.trans (hb5.mono HI3.out.m.bw)
       clear hb5 HSM y1
       go_wp2_with fail
       go_roundw
       case rel=>exact ⟨v+1,c+1,_,_,by omega,by omega,by omega,by go_num,HI5.out,HB5.out⟩
       case measure=>simp [intOf];omega
     ·have i1:¬ (v:Int)≤16:=by omega
      have HT:=hide (HTD.out wr)
      go_wp2_with fail
      refine HT.out.mono ?_
      rintro e0 w9 ⟨rfl,hb9⟩
      have HB9:Hid (Below B W w9):=HBX.out.trans (hb9.mono HI.out.m.bw)
      clear hb9 HT
      go_wp2
      go_ret
      exact ⟨rfl,HB9.out⟩
end Go.Proofs.YtfkaeefpigoapaaGreat
