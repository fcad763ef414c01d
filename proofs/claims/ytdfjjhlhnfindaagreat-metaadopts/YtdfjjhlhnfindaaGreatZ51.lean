import Derived.Test.YtdfjjhlhnfindaaGreatZ50
import Derived.Test.YtdfjjhlhnfindaaGreatZ49
set_option maxRecDepth 100000
set_option maxHeartbeats 16000000
set_option linter.unusedVariables false
namespace Go.Proofs.YtdfjjhlhnfindaaGreat
open Go.RowKit
theorem and15 (z:Int):∃ v:Nat,v<=15/\bits BinOp.and IntKind.i64 z 15=(v:Int):=⟨(z % 16).toNat,by omega,by rw [aE5 z 4 (by omega) 15 (by decide)];omega⟩
theorem and7n (z:Int):∃ v:Nat,v<=7/\bits BinOp.and IntKind.i64 z 7=(v:Int):=⟨(z % 8).toNat,by omega,by rw [aE5 z 3 (by omega) 7 (by decide)];omega⟩
theorem and1 (z:Int):∃ v:Nat,v<=1/\bits BinOp.and IntKind.i64 z 1=(v:Int):=⟨(z % 2).toNat,by omega,by rw [aE5 z 1 (by omega) 1 (by decide)];omega⟩
def wOk (F:List Int):Prop:=∀ z∈F,fv [z]=0\/fv [z]=1\/fv [z]=2
theorem wOk.tl (F:List Int) (h:wOk F):wOk F.tail:=fun z hz=>h z (List.mem_of_mem_tail hz)
theorem wOk.snoc {F:List Int} {z:Int} (h:wOk F) (hz:fv [z]=0\/fv [z]=1\/fv [z]=2):wOk (F++[z]):=fun y hy=>by
 rcases List.mem_append.1 hy with q | q
 ·exact h y q
 ·rw [List.mem_singleton.1 q]
  exact hz
instance wfA:WF:=⟨wOk,wOk.tl⟩
theorem wOk_no {F:List Int} (h:wOk F) (hx:fv F=3\/fv F=4):False:=by
 cases F with
 | nil=>rcases hx with q | q<;>exact absurd q (by decide)
 | cons z F =>
  have h1:fv (z::F)=fv [z]:=rfl
  rw [h1] at hx
  have h2:=h z (List.mem_cons_self ..)
  omega
instance wcA:WC:=⟨fun _ hw hx _ _ _ _ _ _ _ _ _=>False.elim (wOk_no hw hx)⟩
theorem w4 (x:Int):fv [wrap64 (4+bits BinOp.and IntKind.i64 x 1)]=0\/fv [wrap64 (4+bits BinOp.and IntKind.i64 x 1)]=1\/fv [wrap64 (4+bits BinOp.and IntKind.i64 x 1)]=2:=by
 obtain ⟨c,hc,hb⟩:=and1 x
 rw [hb]
 have h:c=0\/c=1:=by omega
 rcases h with rfl | rfl
 ·exact Or.inr (Or.inl (by kernel_rfl))
 ·exact Or.inr (Or.inr (by kernel_rfl))
theorem aFj (lost one two:Int) (W:World):Calls Tryz.prog 3 #[.int .i64 lost,.int .i64 one,.int .i64 two] W fun e w'=>e=.returned (.bool true)/\Below W.heap.size W w':=by
 have lt:∀ {k:Nat} {o:Obj} {ww:World},ww.heap[k]?=some o->k<ww.heap.size:=fun e=>(lO e)
 generalize hB:W.heap.size=B
 have HNN:Hid (Calls Tryz.prog 5 #[.int .i64 3,.int .i64 100] W fun e w'=>∃ nt gh P,e=.returned (.tuple #[.pointer (some ⟨nt,0,none⟩),.int .i64 0])/\NSw B 100 3 nt gh P nd0 (.slice none 0 0) [] [] W w'/\NsF B W w'):=net_new (n:=100) (M:=3) (by omega) (Below.refl _ _) (by decide) (by decide) (by decide) (by decide)
 obtain ⟨lv,hlv,hlb⟩:=and7n lost
 obtain ⟨av,hav,hab⟩:=and15 one
 obtain ⟨tv,htv,htb⟩:=and15 two
 have hw16:IntKind.i64.wrap (16+(tv:Int))=16+(tv:Int):=wrap_small _ (by omega) (by omega)
 have HT:=hide (fun ww=>told11h (fun z hz=>nomatch hz) ww)
 go_enter Tryz.func3,Tryz.ntmps3
 go_wp2_with fail
 refine HNN.out.mono ?_
 rintro e w1 ⟨nt,gh,P,rfl,hs1,hf1⟩
 have HS1:Hid (HN B 100 nt gh 1 P (mt0 []) W w1):=HN.new hs1
 have HF1:=hide hf1.1
 clear hs1 hf1 HNN
 go_wp2_with fail
 go_loopw [9] (fun i wx=>∃ (j:Nat) (F:List Int),j<=lv/\i=.int .i64 (j:Int)/\F.length=j/\wOk F/\HN B 100 nt gh 1 P (mt0 F) W wx/\Below B W wx) (fun i _=>lv-(intOf i).toNat)
 case atStart=>exact ⟨0,[],by omega,rfl,rfl,(fun z hz=>nomatch hz),HS1.out,HF1.out⟩
 case round =>
  obtain ⟨j,F,hj,rfl,hF,hwo,hI,hb⟩:=hrel
  have HWO:=hide hwo
  clear hwo
  have HI:=hide hI
  have HB:=hide hb
  have HFL:=hide hF
  clear hI hb hF HS1 HF1
  by_cases hjn:j<lv
  ·have i1:(j:Int)<(lv:Int):=by omega
   have i2:(j:Int)<1000:=by omega
   have hb2:=aAc wr (.cells #[.int .i64 0] 3)
   have HZ:Hid ((wr.alloc (.cells #[.int .i64 0] 3)).heap[wr.heap.size]?=some (.cells #[.int .i64 0] 3 (0,0))):=heap_alloc_new wr _
   have HW:=hide ((HI.out.later hb2).weatherZ (ga:=wr.heap.size) (oa:=0) (cz:=1) (zs:=[0]) (fun i z hi=>by
    cases i with
    | zero =>
     obtain rfl:=Option.some.inj hi
     exact aAa HZ.out
    | succ i=>cases hi) (by decide) (by show F.length+1<=1000;rw [HFL.out];omega))
   have HB2:Hid (Below B W (wr.alloc (.cells #[.int .i64 0] 3))):=HB.out.trans (hb2.mono HI.out.bw)
   clear hb2
   go_wp2_with fail
   refine HW.out.mono ?_
   rintro e w2 ⟨rfl,hs2,hf2⟩
   have HS2:Hid (HN B 100 nt gh 1 P (mt0 (F++[0])) W w2):=hs2
   have HB3:=hide (HB2.out.trans hf2.1)
   have HL2:Hid ((F++[(0:Int)]).length=j+1):=by show _=_;rw [lA,HFL.out];rfl
   clear hs2 hf2 HW HZ HI HB HB2
   go_wp2_with fail
   go_roundw
   case rel=>exact ⟨j+1,_,by omega,by go_num,HL2.out,HWO.out.snoc (Or.inl rfl),HS2.out,HB3.out⟩
   case measure=>simp [intOf];omega
  ·have i1:¬ (j:Int)<(lv:Int):=by omega
   go_wp2_with fail
   go_loopw [10] (fun i wx=>∃ (k:Nat) (F:List Int),k<=20/\i=.int .i64 (k:Int)/\F.length<=7+k/\wOk F/\HN B 100 nt gh 1 P (mt0 F) W wx/\Below B W wx) (fun i _=>20-(intOf i).toNat)
   case atStart=>exact ⟨0,F,by omega,rfl,by have:=HFL.out;omega,HWO.out,HI.out,HB.out⟩
   case round =>
    obtain ⟨k,F2,hk,rfl,hF2,hwo,hI,hb⟩:=hrel
    clear HI HB HFL HWO
    have HWO:=hide hwo
    clear hwo
    have HI:=hide hI
    have HB:=hide hb
    have HFL:=hide hF2
    clear hI hb hF2
    by_cases hkn:k<20
    ·have i5:(k:Int)<20:=by omega
     have i6:(k:Int)<1000:=by omega
     obtain ⟨cv,hcv,hcb⟩:=and15 (k:Int)
     go_upto_region 12 with fail
     have HW:Hid (∀ z:Int,Calls Tryz.prog 6 #[.pointer (some ⟨nt,0,none⟩),.slice (some ⟨wr.heap.size,0,none⟩) 1 1] (wr.alloc (.cells #[.int .i64 z] 3)) fun e w'=>e=.returned (.tuple #[])/\HN B 100 nt gh 1 P (mt0 (F2++[z])) W w'/\Below B W w'):=by
      intro z
      have hb2:=aAc wr (.cells #[.int .i64 z] 3)
      have hz:(wr.alloc (.cells #[.int .i64 z] 3)).heap[wr.heap.size]?=some (.cells #[.int .i64 z] 3 (0,0)):=heap_alloc_new wr _
      refine ((HI.out.later hb2).weatherZ (ga:=wr.heap.size) (oa:=0) (cz:=1) (zs:=[z]) (fun i z hi=>?_) (nR 1) (by show F2.length+1<=1000;have:=HFL.out;omega)).mono ?_
      ·cases i with
       | zero =>
        obtain rfl:=Option.some.inj hi
        exact aAa hz
       | succ i=>cases hi
      ·rintro e w' ⟨rfl,q1,q2⟩
       exact ⟨rfl,q1,(HB.out.trans (hb2.mono HI.out.bw)).trans q2.1⟩
     have HW4:=hide w4
     go_wp2_with fail
     refine (HW.out _).mono ?_
     rintro e w2 ⟨rfl,hs2,hf2⟩
     have HWN:=hide (HWO.out.snoc (HW4.out (one / 2 ^ cv)))
     have HS2:=hide hs2
     have HB3:=hide hf2
     clear hs2 hf2 HW HI HB
     go_wp2_with fail
     go_roundw
     case rel=>exact ⟨k+1,_,by omega,by go_num,by rw [lA];show F2.length+1<=7+(k+1);have:=HFL.out;omega,HWN.out,HS2.out,HB3.out⟩
     case measure=>simp [intOf];omega
    ·have i5:¬ (k:Int)<20:=by omega
     obtain ⟨La,HLA⟩:∃ La,Hid (La=ch2 (av:Int) 1):=⟨_,rfl⟩
     obtain ⟨Lb,HLB⟩:∃ Lb,Hid (Lb=ch2 (16+(tv:Int)) 2):=⟨_,rfl⟩
     have HCA:Hid (CH La):=by show CH La;rw [HLA.out];exact ch2_ok (by omega) (by omega) (by omega) (by omega)
     have HCB:Hid (CH Lb):=by show CH Lb;rw [HLB.out];exact ch2_ok (by omega) (by omega) (by omega) (by omega)
     have HNA:Hid ((enC La).length≠0):=by show _≠_;have:=aHr HCA.out;omega
     have HNB:Hid ((enC Lb).length≠0):=by show _≠_;have:=aHr HCB.out;omega
     have HCH:=hide (fun ww (e o:Int)=>aD3 e o ww)
     have HF27:Hid (F2.length<=27):=by show F2.length<=27;have:=HFL.out;omega
     have HLT:Hid ((av:Int)<16+(tv:Int)):=by show _<_;omega
     clear hkn hk HFL
     go_wp2_with fail
     refine (HCH.out _ _ _).mono ?_
     rintro e x1 ⟨rfl,hva,hb1⟩
     rw [<-HLA.out] at hva
     have HI1:=hide (HI.out.later hb1)
     have HB1:=hide (HB.out.trans (hb1.mono HI.out.bw))
     have HVA:=hide hva
     clear hva hb1 HI HB
     generalize wr.heap.size=g1 at *
     go_wp2_with fail
     refine (HCH.out _ _ _).mono ?_
     rintro e x2 ⟨rfl,hvb,hb2⟩
     rw [<-HLB.out] at hvb
     have HI2:=hide (HI1.out.later hb2)
     have HB2:=hide (HB1.out.trans (hb2.mono HI1.out.bw))
     have HVA2:=hide (HVA.out.later hb2)
     have HVB2:=hide hvb
     clear hvb hb2 HI1 HB1 HVA HCH
     generalize x1.heap.size=g2 at *
     obtain ⟨d1,HD1⟩:∃ d1,Hid (d1=dec 1 1 (enC La) 3 (mt0 F2) 0):=⟨_,rfl⟩
     have HJQ:Hid (JQ (enC La) d1.2/\(d1.1=none\/d1.1=some (some (enC La))/\(((d1.2.R 0).2.1≠0/\(d1.2.R 1).2.1≠0)\/((d1.2.R 0).2.1≠0/\(d1.2.R 2).2.1≠0)\/((d1.2.R 1).2.1≠0/\(d1.2.R 2).2.1≠0)))):=by
      have h9:=JQ.bid (v:=1) (who:=1) HNA.out 3 0 (mt0 F2) (mt0_jq F2 (enC La))
      rw [<-HD1.out] at h9
      exact h9
     have HOK1:Hid (MtOk 48 15 d1.2):=by
      show MtOk 48 15 d1.2
      rw [HD1.out]
      exact aFt (by decide) (by have:=HCA.out.all;omega) 3 0 0 0 (mt0 F2) (mt0_ok (by have:=HF27.out;omega) HWO.out) (nR _)
     have HP1:Hid (Calls Tryz.prog 8 #[.pointer (some ⟨nt,0,none⟩),.int .i64 1,.int .i64 1,.slice (some ⟨g1,0,none⟩) 2 2] x2 fun e w'=>PrE d1.1 La e w'/\HN B 100 nt gh 1 P d1.2 W w'/\NsF B x2 w'):=by
      have h9:=HI2.out.propose (who:=1) (Lx:=La) (mt0_ok (by have:=HF27.out;omega) HWO.out) HVA2.out HCA.out HCA.out (by
       rw [<-HD1.out]
       rcases HJQ.out.2 with q | q
       ·exact Or.inl q
       ·exact Or.inr q.1) (by decide) (by decide) (by decide) (by decide) (by decide) (by decide)
      rw [<-HD1.out] at h9
      exact h9
     go_wp2_with fail
     refine HP1.out.mono ?_
     rintro e x3 ⟨hpe,hi3,hf3⟩
     have hx9:∃ (xa:Option Addr) (xn xc:Nat) (fe:Int),e=.returned (.tuple #[.slice xa xn xc,.int .i64 fe])/\((fe=40/\d1.1=none)\/(fe=0/\d1.1=some (some (enC La))/\SGV x3 (.slice xa xn xc) La)):=by
      rcases hpe with ⟨q1,q2⟩ | ⟨q1,v',q2,q3⟩
      ·exact ⟨none,0,0,40,q2,Or.inl ⟨rfl,q1⟩⟩
      ·obtain ⟨g,c,cs,rfl,q4⟩:=q3
       exact ⟨_,_,_,0,q2,Or.inr ⟨rfl,q1,⟨g,c,cs,rfl,q4⟩⟩⟩
     obtain ⟨xa,xn,xc,fe,rfl,hfe⟩:=hx9
     have HFE:Hid ((fe=40/\d1.1=none)\/(fe=0/\d1.1=some (some (enC La)))):=by
      rcases hfe with q | q
      ·exact Or.inl q
      ·exact Or.inr ⟨q.1,q.2.1⟩
     have HXV:Hid (fe=0->SGV x3 (.slice xa xn xc) La):=by
      intro h9
      rcases hfe with q | q
      ·rw [q.1] at h9
       cases h9
      ·exact q.2.2
     have HI3:=hide hi3
     have HB3:=hide (HB2.out.trans hf3.1)
     have HVA3:=hide (HVA2.out.ns hf3)
     have HVB3:=hide (HVB2.out.ns hf3)
     clear hpe hi3 hf3 hfe HP1 HI2 HB2 HVA2 HVB2
     go_wp2_with fail
     go_loopg [] 64 (fun q wx=>∃ F:List Int,F.length<=q/\HN B 100 nt gh 1 P ⟨F,d1.2.R,d1.2.l,d1.2.m⟩ W wx/\SGV wx (.slice (some ⟨g1,0,none⟩) 2 2) La/\SGV wx (.slice (some ⟨g2,0,none⟩) 2 2) Lb/\(fe=0->SGV wx (.slice xa xn xc) La)/\Below B W wx)
     case atStart=>exact ⟨d1.2.F,by have:=HOK1.out.f;omega,HI3.out,HVA3.out,HVB3.out,HXV.out,HB3.out⟩
     case round =>
      obtain ⟨F,hFq,hI,hA,hBb,hX,hb⟩:=hrel
      clear HI3 HB3 HVA3 HVB3 HXV
      have HI3:=hide hI
      have HB3:=hide hb
      have HVA3:=hide hA
      have HVB3:=hide hBb
      have HXV:=hide hX
      have HFQ:=hide hFq
      have HAH:=hide hI.ahead
      clear hI hA hBb hX hb hFq
      by_cases hF0:F.length=0
      ·have hF1:F=[]:=List.eq_nil_of_length_eq_zero hF0
       subst hF1
       clear hF0
       go_wp2_with fail
       refine HAH.out.mono ?_
       rintro e w9 ⟨rfl,hw9⟩
       have hw9:=hw9.symm
       subst hw9
       clear HAH
       obtain ⟨s2,HS2⟩:∃ s2:Mt,Hid (s2=⟨[],d1.2.R,d1.2.l,d1.2.m⟩):=⟨_,rfl⟩
       have HI4:Hid (HN B 100 nt gh 1 P s2 W wr):=by show HN B 100 nt gh 1 P s2 W wr;rw [HS2.out];exact HI3.out
       have HJ2:Hid (JQ (enC La) s2):=by show JQ _ _;rw [HS2.out];exact ⟨HJQ.out.1.j,HJQ.out.1.q⟩
       have HOK2:Hid (MtOk 48 15 s2):=by show MtOk _ _ _;rw [HS2.out];exact ⟨HOK1.out.r,by show d1.2.l.length+0<=64;have:=HOK1.out.f;omega,HOK1.out.m,(fun z hz=>nomatch hz)⟩
       have HEX:=hide (HJ2.out.second (v:=1) (who:=2) (bv:=enC Lb) (by rw [HS2.out]) HNB.out)
       obtain ⟨bb9,y,hy1,hy2,hy3,hy4,hy5⟩:=HEX.out
       have HY5:Hid (fe=0->y=enC La):=by
        intro h9
        refine hy5 ?_
        rw [HS2.out]
        rcases HFE.out with q | q
        ·rw [q.1] at h9
         cases h9
        ·rcases HJQ.out.2 with q9 | q9
         ·rw [q9] at q
          exact nomatch q.2
         ·exact q9.2
       obtain ⟨d2,HD2⟩:∃ d2,Hid (d2=dec 1 2 (enC Lb) 3 s2 0):=⟨_,rfl⟩
       rw [<-HD2.out] at hy1 hy2 hy3
       obtain ⟨d3,HD3⟩:∃ d3,Hid (d3=dec 1 0 [] 3 d2.2 0):=⟨_,rfl⟩
       have hy6:=hy2.learn (v:=1) (who:=0) hy3
       rw [<-HD3.out] at hy6
       have HOK3:Hid (MtOk 96 30 d2.2):=by
        show MtOk _ _ _
        rw [HD2.out]
        exact (aFt (by decide) (by have:=HCB.out.all;omega) 3 48 15 0 s2 HOK2.out (Nat.zero_le _)).up (by decide) (by decide)
       have HY1:=hide hy1
       have HY4:=hide hy4
       have HY6:=hide hy6
       clear hy1 hy2 hy3 hy4 hy5 hy6 HEX HI3 HJ2 HJQ HOK1
       by_cases hyA:y=enC La
       ·obtain ⟨Ly,HLY⟩:∃ Ly,Hid (Ly=La):=⟨_,rfl⟩
        have HCY:Hid (CH Ly):=by show CH Ly;rw [HLY.out];exact HCA.out
        have HYY:Hid (y=enC Ly):=by show y=_;rw [HLY.out];exact hyA
        clear hyA
        have HP2:Hid (Calls Tryz.prog 8 #[.pointer (some ⟨nt,0,none⟩),.int .i64 1,.int .i64 2,.slice (some ⟨g2,0,none⟩) 2 2] wr fun e w'=>(∃ v',e=.returned (.tuple #[v',.int .i64 0])/\SGV w' v' Ly)/\HN B 100 nt gh 1 P d2.2 W w'/\NsF B wr w'):=by
         have h9:=HI4.out.propose (who:=2) (Lx:=Ly) HOK2.out HVB3.out HCB.out HCY.out (by
          rw [<-HD2.out,HY1.out,HYY.out]
          exact Or.inr rfl) (by decide) (by decide) (by decide) (by decide) (by decide) (by decide)
         rw [<-HD2.out] at h9
         refine h9.mono ?_
         rintro e w' ⟨q1,q2,q3⟩
         refine ⟨?_,q2,q3⟩
         rcases q1 with ⟨q4,_⟩ | ⟨_,q5⟩
         ·rw [HY1.out] at q4
          exact nomatch q4
         ·exact q5
        go_wp2_with fail
        refine HP2.out.mono ?_
        rintro e x5 ⟨⟨yv,rfl,hyv⟩,hi5,hf5⟩
        obtain ⟨yg,yc,ycs,rfl,hyv9⟩:=hyv
        have HYV:Hid (SGV x5 (.slice (some ⟨yg,0,none⟩) Ly.length yc) Ly):=⟨yg,yc,ycs,rfl,hyv9⟩
        have HI5:=hide hi5
        have HB5:=hide (HB3.out.trans hf5.1)
        have HVA5:=hide (HVA3.out.ns hf5)
        have HVB5:=hide (HVB3.out.ns hf5)
        have HXV5:Hid (fe=0->SGV x5 (.slice xa xn xc) La):=fun h=>(HXV.out h).ns hf5
        have HL5:Hid (Ly.length=2):=by show _=_;rw [HLY.out,HLA.out];rfl
        clear hyv9 hi5 hf5 HP2 HI4 HB3 HVA3 HVB3 HXV
        have HL1:Hid (Calls Tryz.prog 11 #[.pointer (some ⟨nt,0,none⟩),.int .i64 1,.int .i64 0] x5 fun e w'=>(∃ v',e=.returned (.tuple #[v',.bool true,.int .i64 0])/\SGV w' v' Ly)/\NsF B x5 w'):=by
         have h9:=HI5.out.learn (who:=0) (Lx:=Ly) HOK3.out HCY.out (by
          rw [<-HD3.out,HY6.out,HYY.out]
          exact Or.inr (Or.inr rfl)) (by decide) (by decide) (by decide) (by decide) (by decide) (by decide)
         rw [<-HD3.out] at h9
         refine h9.mono ?_
         rintro e w' ⟨q1,q2,q3⟩
         refine ⟨?_,q3⟩
         rcases q1 with ⟨q4,_⟩ | ⟨q4,_⟩ | ⟨_,q5⟩
         ·rw [HY6.out] at q4
          exact nomatch q4
         ·rw [HY6.out] at q4
          exact nomatch q4
         ·exact q5
        generalize hly:Ly.length=ly at *
        have HLY9:=hide hly
        clear hly
        go_wp2_with fail
        refine HL1.out.mono ?_
        rintro e x6 ⟨⟨zv,rfl,hzv⟩,hf6⟩
        obtain ⟨zg,zc,zcs,rfl,hzv9⟩:=hzv
        have HZV:Hid (SGV x6 (.slice (some ⟨zg,0,none⟩) Ly.length zc) Ly):=⟨zg,zc,zcs,rfl,hzv9⟩
        have HB6:=hide (HB5.out.trans hf6.1)
        have HYV6:=hide (HYV.out.ns hf6)
        have HVA6:=hide (HVA5.out.ns hf6)
        have HVB6:=hide (HVB5.out.ns hf6)
        have HXV6:Hid (fe=0->SGV x6 (.slice xa xn xc) La):=fun h=>(HXV5.out h).ns hf6
        have HBW6:Hid (B<=x6.heap.size):=nT HI5.out.bw hf6.1.size
        clear hzv9 hf6 HL1 HI5 HB5 HYV HVA5 HVB5 HXV5
        rw [HLY9.out] at *
        have HSA:=hide (aBr HYV6.out HZV.out (by rw [HLY.out,HLA.out];show 2<=17;decide))
        clear HZV
        go_wp2_with fail
        refine HSA.out.mono ?_
        rintro e x7 ⟨rfl,hb⟩
        have HYV7:=hide (HYV6.out.later hb)
        have HVA7:=hide (HVA6.out.later hb)
        have HVB7:=hide (HVB6.out.later hb)
        have HXV7:Hid (fe=0->SGV x7 (.slice xa xn xc) La):=fun h=>(HXV6.out h).later hb
        have HB7:=hide (HB6.out.trans (hb.mono HBW6.out))
        have HBW7:Hid (B<=x7.heap.size):=nT HBW6.out hb.size
        clear hb HYV6 HVA6 HVB6 HXV6 HB6 HBW6 HSA
        have HYVA:Hid (SGV x7 (.slice (some ⟨yg,0,none⟩) ly yc) La):=by have h9:=HYV7.out;rw [HLY.out] at h9;exact h9
        have HSA:=hide (aBr HYVA.out HVA7.out (by rw [HLA.out];show 2<=17;decide))
        clear HYVA
        go_wp2_with fail
        refine HSA.out.mono ?_
        rintro e x8 ⟨rfl,hb⟩
        have HYV8:=hide (HYV7.out.later hb)
        have HVA8:=hide (HVA7.out.later hb)
        have HVB8:=hide (HVB7.out.later hb)
        have HXV8:Hid (fe=0->SGV x8 (.slice xa xn xc) La):=fun h=>(HXV7.out h).later hb
        have HB8:=hide (HB7.out.trans (hb.mono HBW7.out))
        have HBW8:Hid (B<=x8.heap.size):=nT HBW7.out hb.size
        clear hb HYV7 HVA7 HVB7 HXV7 HB7 HBW7 HSA
        have HT8:=hide (HT.out x8)
        go_wp2_with fail
        refine HT8.out.mono ?_
        rintro e x9 ⟨rfl,hb⟩
        have HB9:=hide (HB8.out.trans (hb.mono HBW8.out))
        have HYV9:=hide (HYV8.out.later hb)
        have HXV9:Hid (fe=0->SGV x9 (.slice xa xn xc) La):=fun h=>(HXV8.out h).later hb
        have HBW9:Hid (B<=x9.heap.size):=nT HBW8.out hb.size
        clear hb HT8 HYV8 HXV8 HB8 HBW8
        rcases HFE.out with ⟨hfe,_⟩ | ⟨hfe,_⟩
        ·subst hfe
         go_wp2
         go_ret
         exact ⟨rfl,HB9.out⟩
        ·subst hfe
         have HYVA:Hid (SGV x9 (.slice (some ⟨yg,0,none⟩) ly yc) La):=by have h9:=HYV9.out;rw [HLY.out] at h9;exact h9
         have HSA:=hide (aBr (HXV9.out rfl) HYVA.out (by rw [HLA.out];show 2<=17;decide))
         clear HYVA
         go_wp2_with fail
         refine HSA.out.mono ?_
         rintro e y9 ⟨rfl,hb⟩
         have HBA:=hide (HB9.out.trans (hb.mono HBW9.out))
         clear hb HSA
         go_wp2
         go_ret
         exact ⟨rfl,HBA.out⟩
       ·have HYB:Hid (y=enC Lb):=by
         rcases HY4.out with q | q
         ·exact absurd q hyA
         ·exact q
        have HFN:Hid (fe=40):=by
         show fe=40
         rcases HFE.out with q | q
         ·exact q.1
         ·exact absurd (HY5.out q.1) hyA
        have hfe40:=HFN.out
        subst hfe40
        obtain ⟨Ly,HLY⟩:∃ Ly,Hid (Ly=Lb):=⟨_,rfl⟩
        have HCY:Hid (CH Ly):=by show CH Ly;rw [HLY.out];exact HCB.out
        have HYY:Hid (y=enC Ly):=by show y=_;rw [HLY.out];exact HYB.out
        clear hyA
        have HP2:Hid (Calls Tryz.prog 8 #[.pointer (some ⟨nt,0,none⟩),.int .i64 1,.int .i64 2,.slice (some ⟨g2,0,none⟩) 2 2] wr fun e w'=>(∃ v',e=.returned (.tuple #[v',.int .i64 0])/\SGV w' v' Ly)/\HN B 100 nt gh 1 P d2.2 W w'/\NsF B wr w'):=by
         have h9:=HI4.out.propose (who:=2) (Lx:=Ly) HOK2.out HVB3.out HCB.out HCY.out (by
          rw [<-HD2.out,HY1.out,HYY.out]
          exact Or.inr rfl) (by decide) (by decide) (by decide) (by decide) (by decide) (by decide)
         rw [<-HD2.out] at h9
         refine h9.mono ?_
         rintro e w' ⟨q1,q2,q3⟩
         refine ⟨?_,q2,q3⟩
         rcases q1 with ⟨q4,_⟩ | ⟨_,q5⟩
         ·rw [HY1.out] at q4
          exact nomatch q4
         ·exact q5
        go_wp2_with fail
        refine HP2.out.mono ?_
        rintro e x5 ⟨⟨yv,rfl,hyv⟩,hi5,hf5⟩
        obtain ⟨yg,yc,ycs,rfl,hyv9⟩:=hyv
        have HYV:Hid (SGV x5 (.slice (some ⟨yg,0,none⟩) Ly.length yc) Ly):=⟨yg,yc,ycs,rfl,hyv9⟩
        have HI5:=hide hi5
        have HB5:=hide (HB3.out.trans hf5.1)
        have HVA5:=hide (HVA3.out.ns hf5)
        have HVB5:=hide (HVB3.out.ns hf5)
        have HXV5:Hid ((40:Int)=0->SGV x5 (.slice xa xn xc) La):=fun h=>(HXV.out h).ns hf5
        have HL5:Hid (Ly.length=2):=by show _=_;rw [HLY.out,HLB.out];rfl
        clear hyv9 hi5 hf5 HP2 HI4 HB3 HVA3 HVB3 HXV
        have HL1:Hid (Calls Tryz.prog 11 #[.pointer (some ⟨nt,0,none⟩),.int .i64 1,.int .i64 0] x5 fun e w'=>(∃ v',e=.returned (.tuple #[v',.bool true,.int .i64 0])/\SGV w' v' Ly)/\NsF B x5 w'):=by
         have h9:=HI5.out.learn (who:=0) (Lx:=Ly) HOK3.out HCY.out (by
          rw [<-HD3.out,HY6.out,HYY.out]
          exact Or.inr (Or.inr rfl)) (by decide) (by decide) (by decide) (by decide) (by decide) (by decide)
         rw [<-HD3.out] at h9
         refine h9.mono ?_
         rintro e w' ⟨q1,q2,q3⟩
         refine ⟨?_,q3⟩
         rcases q1 with ⟨q4,_⟩ | ⟨q4,_⟩ | ⟨_,q5⟩
         ·rw [HY6.out] at q4
          exact nomatch q4
         ·rw [HY6.out] at q4
          exact nomatch q4
         ·exact q5
        generalize hly:Ly.length=ly at *
        have HLY9:=hide hly
        clear hly
        go_wp2_with fail
        refine HL1.out.mono ?_
        rintro e x6 ⟨⟨zv,rfl,hzv⟩,hf6⟩
        obtain ⟨zg,zc,zcs,rfl,hzv9⟩:=hzv
        have HZV:Hid (SGV x6 (.slice (some ⟨zg,0,none⟩) Ly.length zc) Ly):=⟨zg,zc,zcs,rfl,hzv9⟩
        have HB6:=hide (HB5.out.trans hf6.1)
        have HYV6:=hide (HYV.out.ns hf6)
        have HVA6:=hide (HVA5.out.ns hf6)
        have HVB6:=hide (HVB5.out.ns hf6)
        have HXV6:Hid ((40:Int)=0->SGV x6 (.slice xa xn xc) La):=fun h=>(HXV5.out h).ns hf6
        have HBW6:Hid (B<=x6.heap.size):=nT HI5.out.bw hf6.1.size
        clear hzv9 hf6 HL1 HI5 HB5 HYV HVA5 HVB5 HXV5
        rw [HLY9.out] at *
        have HSA:=hide (aBr HYV6.out HZV.out (by rw [HLY.out,HLB.out];show 2<=17;decide))
        clear HZV
        go_wp2_with fail
        refine HSA.out.mono ?_
        rintro e x7 ⟨rfl,hb⟩
        have HYV7:=hide (HYV6.out.later hb)
        have HVA7:=hide (HVA6.out.later hb)
        have HVB7:=hide (HVB6.out.later hb)
        have HXV7:Hid ((40:Int)=0->SGV x7 (.slice xa xn xc) La):=fun h=>(HXV6.out h).later hb
        have HB7:=hide (HB6.out.trans (hb.mono HBW6.out))
        have HBW7:Hid (B<=x7.heap.size):=nT HBW6.out hb.size
        clear hb HYV6 HVA6 HVB6 HXV6 HB6 HBW6 HSA
        have HYVB:Hid (SGV x7 (.slice (some ⟨yg,0,none⟩) ly yc) Lb):=by have h9:=HYV7.out;rw [HLY.out] at h9;exact h9
        have HSA:=hide (same_no (slg:=0) (sst:=0) (sow:=0) (sen:=16+(tv:Int)) (sen2:=(av:Int)) HYVB.out HVA7.out (by rw [HLA.out,HLB.out];rfl) (by rw [HLB.out];show 2<=17;decide) (by rw [HLB.out];rfl) (by rw [HLA.out];rfl) (by have:=HLT.out;omega))
        clear HYVB
        go_wp2_with fail
        refine HSA.out.mono ?_
        rintro e x8 ⟨rfl,hb⟩
        have HYV8:=hide (HYV7.out.later hb)
        have HVA8:=hide (HVA7.out.later hb)
        have HVB8:=hide (HVB7.out.later hb)
        have HXV8:Hid ((40:Int)=0->SGV x8 (.slice xa xn xc) La):=fun h=>(HXV7.out h).later hb
        have HB8:=hide (HB7.out.trans (hb.mono HBW7.out))
        have HBW8:Hid (B<=x8.heap.size):=nT HBW7.out hb.size
        clear hb HYV7 HVA7 HVB7 HXV7 HB7 HBW7 HSA
        have HYVB:Hid (SGV x8 (.slice (some ⟨yg,0,none⟩) ly yc) Lb):=by have h9:=HYV8.out;rw [HLY.out] at h9;exact h9
        have HSA:=hide (aBr HYVB.out HVB8.out (by rw [HLB.out];show 2<=17;decide))
        clear HYVB
        go_wp2_with fail
        refine HSA.out.mono ?_
        rintro e z8 ⟨rfl,hb⟩
        have HYV1:=hide (HYV8.out.later hb)
        have HVA1:=hide (HVA8.out.later hb)
        have HVB1:=hide (HVB8.out.later hb)
        have HXV1:Hid ((40:Int)=0->SGV z8 (.slice xa xn xc) La):=fun h=>(HXV8.out h).later hb
        have HB1:=hide (HB8.out.trans (hb.mono HBW8.out))
        have HBW1:Hid (B<=z8.heap.size):=nT HBW8.out hb.size
        clear hb HYV8 HVA8 HVB8 HXV8 HB8 HBW8 HSA
        have HT8:=hide (HT.out z8)
        go_wp2_with fail
        refine HT8.out.mono ?_
        rintro e x9 ⟨rfl,hb⟩
        have HB9:=hide (HB1.out.trans (hb.mono HBW1.out))
        clear hb HT8
        go_wp2
        go_ret
        exact ⟨rfl,HB9.out⟩
      ·cases gk with
       | zero=>exact absurd (Nat.le_zero.1 HFQ.out) hF0
       | succ q =>
        have i7:(0:Int)<(F.length:Int):=by omega
        have HFT:=hide HI3.out.fate
        have HTL:Hid (F.tail.length<=q):=by show F.tail.length<=q;rw [List.length_tail];have:=HFQ.out;omega
        clear hF0
        generalize F.length=fl at *
        go_wp2_with fail
        refine HAH.out.mono ?_
        rintro e w9 ⟨rfl,hw9⟩
        have hw9:=hw9.symm
        subst hw9
        clear HAH
        go_wp2_with fail
        refine HFT.out.mono ?_
        rintro e w9 ⟨⟨xx,rfl⟩,hs9,hf9⟩
        have HS9:=hide hs9
        have HB9:=hide (HB3.out.trans hf9.1)
        have HA9:=hide (HVA3.out.ns hf9)
        have HBB9:=hide (HVB3.out.ns hf9)
        have HX9:Hid (fe=0->SGV w9 (.slice xa xn xc) La):=fun h=>(HXV.out h).ns hf9
        clear hs9 hf9 HFT HI3 HB3 HVA3 HVB3 HXV
        go_wp2_with fail
        go_roundg q
        case measure=>omega
        case rel=>exact ⟨F.tail,HTL.out,HS9.out,HA9.out,HBB9.out,HX9.out,HB9.out⟩
end Go.Proofs.YtdfjjhlhnfindaaGreat
