import Derived.Test.YthimmblpmijnlaaGreatZ49
import Derived.Deep.CutBlock
import Derived.Laws.Small
set_option maxRecDepth 100000
set_option maxHeartbeats 16000000
set_option linter.unusedVariables false
namespace Go.Proofs.YthimmblpmijnlaaGreat
open Go.RowKit
def IRw (W:World) (a:Option Addr) (n:Nat) (Z:Nat→Int):Prop:=0<n→∃ b o,a=some ⟨b,o,none⟩∧∀ i,i<n→W.cell? ⟨b,o+i,none⟩=some (.int .i64 (Z i))
theorem rem8 (z:Int):Int.tmod (Int.tmod z 8+8) 8=z % 8:=by
 rw [tmod_eq_if (Int.tmod z 8+8) 8,tmod_eq_if z 8]
 split<;>split<;>omega
theorem rem8b (z:Int):-8<Int.tmod z 8∧Int.tmod z 8<8:=by
 rw [tmod_eq_if z 8]
 split<;>omega
theorem aEk {B:Nat} {W w:World} (h:Below B W w) {a:Addr} {v:Value} (hc:W.cell? a=some v) (hB:W.heap.size≤B):w.cell? a=some v:=by
 rw [h.cell (Nat.lt_of_lt_of_le (World.block_lt_of_cell? W a hc) hB)]
 exact hc
theorem aFi {W:World} {af al:Option Addr} {lf cf ll cl:Nat} {Zf Zl:Nat→Int} (hF0:lf≤9223372036854775807) (hL0:ll≤9223372036854775807) (hF:IRw W af lf Zf) (hL:IRw W al ll Zl) :
  Calls Tryz.prog 3 #[.slice af lf cf,.slice al ll cl] W fun e w'=>e=.returned (.bool true)∧Below W.heap.size W w':=by
 have lt:∀ {k:Nat} {o:Obj} {ww:World},ww.heap[k]?=some o→k<ww.heap.size:=fun e=>(lO e)
 have HF:=hide hF
 have HL:=hide hL
 have HTD:=hide told9
 generalize hB:W.heap.size=B at *
 have HNN:Hid (Calls Tryz.prog 4 #[.int .i64 1,.int .i64 300] W fun e w'=>∃ nt gh P,e=.returned (.tuple #[.pointer (some ⟨nt,0,none⟩),.int .i64 0])∧NSw B 300 1 nt gh P nd0 (.slice none 0 0) [] [] W w'∧NsF B W w'):=net_new (n:=300) (M:=1) (by omega) (Below.refl _ _) (by decide) (by decide) (by decide) (by decide)
 clear hF hL
 go_enter Tryz.func3,Tryz.ntmps3
 go_wp2_with fail
 refine HNN.out.mono ?_
 rintro e x1 ⟨nt,gh,P,rfl,h1,hf1⟩
 have HC:Hid (NC B nt gh P [] 0 [] W x1):=⟨nd0,_,h1,rfl,rfl,fun x hx=>by simp at hx⟩
 have HBE:=hide hf1.1
 clear h1 hf1 HNN
 go_wp2_with fail
 go_loopw [7,8,9] (fun s h i wx=>∃ j sl:Nat,∃ l:List LR,j≤40∧sl≤2*j∧l.length≤j∧s=.int .i64 sl∧h=.int .i64 (l.length:Int)∧i=.int .i64 j∧NC B nt gh P [] sl l W wx∧Below B W wx) (fun _ _ i _=>40-(intOf i).toNat)
 case atStart=>exact ⟨0,0,[],by omega,by omega,by simp,rfl,rfl,rfl,HC.out,HBE.out⟩
 case round =>
  obtain ⟨j,sl,l,hj,hsl,hll,rfl,rfl,rfl,hC,hBE⟩:=hrel
  clear HC HBE
  have HC:=hide hC
  have HBE:=hide hBE
  clear hC hBE
  obtain ⟨cb,HCB⟩:∃ cb,Hid (cb=decide (j<lf∧j<40)):=⟨_,rfl⟩
  go_upto_region 7 with fail
  go_cut [34] from 27 to 156 (fun c wx=>c=.bool cb∧wx=wr)
  case first =>
   by_cases c1:j<lf
   ·have i1:(j:Int)<(lf:Int):=by omega
    by_cases c2:j<40
    ·have i2:(j:Int)<40:=by omega
     go_wp2
     go_meet
     case rel=>exact ⟨by rw [HCB.out];simp [c1,c2],rfl⟩
    ·have i2:¬ (j:Int)<40:=by omega
     go_wp2
     go_meet
     case rel=>exact ⟨by rw [HCB.out];simp [c1,c2],rfl⟩
   ·have i1:¬ (j:Int)<(lf:Int):=by omega
    go_wp2
    go_meet
    case rel=>exact ⟨by rw [HCB.out];simp [c1],rfl⟩
  case rest =>
   obtain ⟨rfl,rfl⟩:=hcut
   by_cases hgo:j<lf∧j<40
   ·have hcb:cb=true:=by rw [HCB.out];simp [hgo.1,hgo.2]
    subst hcb
    obtain ⟨fb,fo,hfa,hfc⟩:=HF.out (by omega)
    obtain ⟨z,hz⟩:∃ z,z=Zf j:=⟨_,rfl⟩
    have q0:wc.cell? ⟨fb,fo+j,none⟩=some (.int .i64 z):=by rw [hz];exact aEk HBE.out (hfc j hgo.1) (by omega)
    obtain ⟨v,hv⟩:∃ v,v=(z % 8).toNat:=⟨_,rfl⟩
    have HVV:Hid ((z % 8).toNat=v):=hv.symm
    have HV7:Hid (v≤7):=by show v≤7;omega
    have HFC:Hid (∀ ww,Below B W ww→ww.cell? ⟨fb,fo+j,none⟩=some (.int .i64 z)):=fun ww hb=>by rw [hz];exact aEk hb (hfc j hgo.1) (by omega)
    have HJ:=hide hgo
    have HBX:=hide (aAc wc (.cells #[.int .i64 z] 3))
    have HZ:Hid ((wc.alloc (.cells #[.int .i64 z] 3)).heap[wc.heap.size]?=some (.cells #[.int .i64 z] 3 (0,0))):=heap_alloc_new wc _
    have HW:=hide ((HC.out.later HBX.out).weather HZ.out)
    have HB1:Hid (Below B W (wc.alloc (.cells #[.int .i64 z] 3))):=HBE.out.trans (HBX.out.mono HC.out.bw)
    have i1:(j:Int)<(lf:Int):=by omega
    have i2:(0:Int)≤(j:Int):=by omega
    have i3:(j:Int)<40:=by omega
    subst hfa
    clear hfc hz hv hgo hF0
    go_wp2_with fail
    refine HW.out.mono ?_
    rintro e w1 ⟨rfl,h1,hf1⟩
    have HC1:=hide h1
    have HB2:Hid (Below B W w1):=HB1.out.trans hf1.1
    clear h1 hf1 HW HZ HBX HB1 HC HBE
    have HBY:=hide (aAc w1 (.cells #[.int .u8 (j:Int)] 5))
    obtain ⟨oa,oc,ov,ok⟩:=BK.owned (B:=B) (xs:=[j]) (aGi w1 j) (by simp) (by intro n hn;simp at hn;omega)
    simp only [Value.slice.injEq] at ov
    obtain ⟨rfl,ho,rfl⟩:=ov
    have hs9:sl≤79:=by omega
    have hl9:l.length<64:=by omega
    have HCL:=hide ((HC1.out.later HBY.out).call HVV.out ok hs9 hl9)
    have HB3:Hid (Below B W (w1.alloc (.cells #[.int .u8 (j:Int)] 5))):=HB2.out.trans (HBY.out.mono HC1.out.bw)
    clear ho ok hs9 hl9 q0
    go_wp2_with fail
    refine HCL.out.mono ?_
    rintro e w2 ⟨e0,tl,bb,tr,bl,vn,sa,sc,rfl,htl,h2,hf2⟩
    have HTL:=hide htl
    have HBA:=hide (aAc w2 (.cells #[.int .i64 e0,.int .i64 tl,.bool bb,.int .i64 tr,.int .i64 bl,.slice sa vn sc] 30))
    have HAN:Hid ((w2.alloc (.cells #[.int .i64 e0,.int .i64 tl,.bool bb,.int .i64 tr,.int .i64 bl,.slice sa vn sc] 30)).heap[w2.heap.size]?=some (.cells #[.int .i64 e0,.int .i64 tl,.bool bb,.int .i64 tr,.int .i64 bl,.slice sa vn sc] 30 (0,0))):=heap_alloc_new w2 _
    have HC2:=hide (h2.later HBA.out)
    have HB4:Hid (Below B W (w2.alloc (.cells #[.int .i64 e0,.int .i64 tl,.bool bb,.int .i64 tr,.int .i64 bl,.slice sa vn sc] 30))):=(HB3.out.trans hf2.1).trans (HBA.out.mono h2.bw)
    clear h2 hf2 HCL HBA HC1 HBY HB2 HB3 htl
    go_upto_region 11 with fail
    generalize w2.alloc (.cells #[.int .i64 e0,.int .i64 tl,.bool bb,.int .i64 tr,.int .i64 bl,.slice sa vn sc] 30)=x2 at *
    generalize w2.heap.size=n2 at *
    have q1:x2.cell? ⟨fb,fo+j,none⟩=some (.int .i64 z):=HFC.out x2 HB4.out
    have r1:=rem8b z
    have r2:Int.tmod (Int.tmod z 8+8) 8=(v:Int):=by rw [rem8];have:=HVV.out;omega
    have r3:-8<Int.tmod z 8:=r1.1
    have r4:Int.tmod z 8<8:=r1.2
    clear r1
    go_upto_region 12 with fail
    clear q1 r2 r3 r4
    have tl1:IntKind.i64.wrap ((sl:Int)+1)=(sl:Int)+1:=wrap_small _ (by omega) (by omega)
    have y1:x2.cell? ⟨n2,1,none⟩=some (.int .i64 tl):=aAa HAN.out
    obtain ⟨okb,HOK⟩:∃ b,Hid (b=okv v):=⟨_,rfl⟩
    rw [←HOK.out]
    go_cut [78] from 27 to 156 (fun c wx=>c=.bool false∧wx=x2)
    case first =>
     have hv7:=HV7.out
     have hc:(v<4∨v=7)∨(v=4∨v=5∨v=6):=by omega
     rcases hc with hc | hc
     ·have ho:okb=true:=by rw [HOK.out];unfold okv;simp [hc]
      have ht:=HTL.out (by rw [←HOK.out];exact ho)
      subst ht ho
      rcases hc with hc | hc
      ·have k1:(v:Int)<4:=by omega
       go_wp2
       go_meet
       case rel=>exact ⟨rfl,rfl⟩
      ·subst hc
       go_wp2
       go_meet
       case rel=>exact ⟨rfl,rfl⟩
     ·have ho:okb=false:=by rw [HOK.out];unfold okv;simp;omega
      subst ho
      have k1:¬ (v:Int)<4:=by omega
      have k2:¬ (v:Int)=7:=by omega
      go_wp2
      go_meet
      case rel=>exact ⟨by simp [k2],rfl⟩
    case rest =>
     obtain ⟨rfl,rfl⟩:=hcut
     clear y1 tl1
     obtain ⟨s2,hs2⟩:∃ s,s=slv v sl:=⟨_,rfl⟩
     obtain ⟨l2,hl2⟩:∃ s,s=lvv v l ⟨0,1,0,(sl:Int),[j]⟩:=⟨_,rfl⟩
     rw [←hs2,←hl2] at HC2
     have HS2:=hide hs2
     have HL2:=hide hl2
     clear hs2 hl2
     go_upto_block 2 with fail
     go_cut [7,8] from 27 to 156 (fun s h wx=>s=.int .i64 (s2:Int)∧h=.int .i64 (l2.length:Int)∧wx=wc)
     case first =>
      have hv7:=HV7.out
      have h6:(v=4∨v=6)∨(v≠4∧v≠6):=by omega
      have k9:(sl:Int)<1000:=by omega
      have k8:(l.length:Int)<1000:=by omega
      rcases h6 with (h6 | h6) | h6
      ·subst h6
       go_wp2
       go_meet
       case rel=>exact ⟨by rw [HS2.out];rfl,by rw [HL2.out];rfl,rfl⟩
      ·subst h6
       go_wp2
       go_meet
       case rel=>exact ⟨by rw [HS2.out];rfl,by rw [HL2.out];show Value.int _ _=Value.int _ (((l++[_]:List LR).length:Nat):Int);rw [lA];rfl,rfl⟩
      ·have k1:¬ (v:Int)=6:=by omega
       have k2:¬ (v:Int)=4:=by omega
       go_wp2
       go_meet
       case rel=>exact ⟨by rw [HS2.out];unfold slv;rw [if_neg (by omega)];rfl,by rw [HL2.out];unfold lvv;rw [if_neg (by omega)],rfl⟩
     case rest =>
      obtain ⟨rfl,rfl,rfl⟩:=hcut
      have hs3:s2≤sl+1:=by rw [HS2.out];unfold slv;split<;>omega
      have hl3:l2.length≤l.length+1:=by rw [HL2.out];unfold lvv;split<;>simp
      have HLK:=hide HC2.out.look
      clear HS2 HL2 HTL HAN HOK
      go_wp2_with fail
      refine HLK.out.mono ?_
      rintro e w4 ⟨⟨s4,c4,rfl⟩,h4,hf4⟩
      have HBA:=hide (aAc w4 (.cells #[.int .i64 0,.int .i64 (s2:Int),.bool false,.int .i64 0,.int .i64 0,.slice s4 0 c4] 30))
      have HAN:Hid ((w4.alloc (.cells #[.int .i64 0,.int .i64 (s2:Int),.bool false,.int .i64 0,.int .i64 0,.slice s4 0 c4] 30)).heap[w4.heap.size]?=some (.cells #[.int .i64 0,.int .i64 (s2:Int),.bool false,.int .i64 0,.int .i64 0,.slice s4 0 c4] 30 (0,0))):=heap_alloc_new w4 _
      have HC4:=hide (h4.later HBA.out)
      have HB5:Hid (Below B W (w4.alloc (.cells #[.int .i64 0,.int .i64 (s2:Int),.bool false,.int .i64 0,.int .i64 0,.slice s4 0 c4] 30))):=(HB4.out.trans hf4.1).trans (HBA.out.mono h4.bw)
      clear h4 hf4 HLK HBA HC2 HB4
      go_upto_region 19 with fail
      generalize w4.alloc (.cells #[.int .i64 0,.int .i64 (s2:Int),.bool false,.int .i64 0,.int .i64 0,.slice s4 0 c4] 30)=x4 at *
      generalize w4.heap.size=n4 at *
      have y1:x4.cell? ⟨n4,1,none⟩=some (.int .i64 (s2:Int)):=aAa HAN.out
      have HLT:=hide (HC4.out.late (by omega))
      go_wp2_with fail
      refine HLT.out.mono ?_
      rintro e w5 ⟨g5,cs5,rfl,_,_,_,hb5⟩
      have HC5:=hide (HC4.out.later hb5)
      have HB6:Hid (Below B W w5):=HB5.out.trans (hb5.mono HC4.out.bw)
      have HAH:=hide HC5.out.ahead
      clear hb5 HLT y1 HAN HC4 HB5
      go_wp2_with fail
      refine HAH.out.mono ?_
      rintro e w5' ⟨rfl,hw⟩
      have hw:=hw.symm
      subst hw
      clear HAH
      go_upto_region 21 with fail
      have j9:(j:Int)<1000:=by omega
      by_cases c1:j<ll
      ·obtain ⟨lb,lo,hla,hlc⟩:=HL.out (by omega)
       obtain ⟨zl,hzl⟩:∃ z,z=Zl j:=⟨_,rfl⟩
       have q2:w5.cell? ⟨lb,lo+j,none⟩=some (.int .i64 zl):=by rw [hzl];exact aEk HB6.out (hlc j c1) (by omega)
       have i4:(j:Int)<(ll:Int):=by omega
       have HLC:Hid (∀ ww,Below B W ww→ww.cell? ⟨lb,lo+j,none⟩=some (.int .i64 zl)):=fun ww hb=>by rw [hzl];exact aEk hb (hlc j c1) (by omega)
       subst hla
       clear hlc hzl
       by_cases c2:zl % 2=1
       ·have k1:bits BinOp.and IntKind.i64 zl 1=1:=by rw [aEi zl 1 (by omega) 1 (by decide)];omega
        by_cases c3:0<l2.length
        ·have k2:(0:Int)<(l2.length:Int):=by omega
         have HLT:=hide (HC5.out.late (by omega))
         go_wp2_with fail
         refine HLT.out.mono ?_
         rintro e w6 ⟨g6,cs6,rfl,hh6,hz6,hc6,hb6⟩
         have HC6:=hide (HC5.out.later hb6)
         have HB7:Hid (Below B W w6):=HB6.out.trans (hb6.mono HC5.out.bw)
         have q3:w6.cell? ⟨lb,lo+j,none⟩=some (.int .i64 zl):=HLC.out w6 HB7.out
         have HH6:=hide hh6
         have HQ6:=hide hc6
         clear hb6 hh6 hz6 hc6 HLT HC5 HB6 q2
         obtain ⟨kk,hk1,hk2⟩:∃ kk:Nat,(bits BinOp.and IntKind.i64 (zl / 2) 65535).tmod (l2.length:Int)=(kk:Int)∧kk<l2.length:=by
          rw [aEi (zl / 2) 16 (by omega) 65535 (by decide)]
          have hp:0≤zl / 2 % 2 ^ 16:=Int.emod_nonneg _ (by decide)
          rw [tmod_eq_if,if_pos hp]
          have h1:=Int.emod_nonneg (zl / 2 % 2 ^ 16) (show (l2.length:Int)≠0 by omega)
          have h2:=Int.emod_lt_of_pos (zl / 2 % 2 ^ 16) (show (0:Int)<(l2.length:Int) by omega)
          exact ⟨(zl / 2 % 2 ^ 16 % (l2.length:Int)).toNat,by omega,by omega⟩
         go_upto_region 24 with fail
         obtain ⟨x,hx⟩:∃ x,l2[kk]?=some x:=⟨_,gE hk2⟩
         have hle:(l2.eraseIdx kk).length=l2.length-1:=by rw [List.length_eraseIdx,if_pos hk2]
         obtain ⟨xa,HXA⟩:∃ xa,Hid (xa=x.at_):=⟨_,rfl⟩
         have q4:w6.cell? ⟨g6,kk*5+3,none⟩=some (.int .i64 xa):=by rw [HXA.out];exact (aAa HH6.out).trans (HQ6.out kk x hx)
         have i5:(kk:Int)<(l2.length:Int):=by omega
         have i6:(0:Int)≤(kk:Int):=by omega
         have i7:(s2:Int)<1000:=by omega
         have i8:(l2.length:Int)<1000:=by omega
         clear hk1 q3
         by_cases c4:xa=(s2:Int)
         ·have hdv:(if x.at_=(s2:Int) then s2+1 else s2)=s2+1:=if_pos (by rw [←HXA.out];exact c4)
          have HDV:=hide (HC6.out.deliver hx (by omega) (by omega))
          rw [hdv] at HDV
          clear hdv
          subst c4
          go_wp2_with fail
          refine HDV.out.mono ?_
          rintro e w7 ⟨rfl,h7,hf7⟩
          have HC7:=hide h7
          have HB8:Hid (Below B W w7):=HB7.out.trans hf7.1
          clear h7 hf7 HDV HC6 HB7
          go_wp2_with fail
          go_roundw
          case rel=>exact ⟨j+1,s2+1,l2.eraseIdx kk,by omega,by omega,by rw [hle];omega,by go_num,by rw [hle];congr 1;omega,by go_num,HC7.out,HB8.out⟩
          case measure=>simp [intOf];omega
         ·have hdv:(if x.at_=(s2:Int) then s2+1 else s2)=s2:=if_neg (by rw [←HXA.out];exact c4)
          have HDV:=hide (HC6.out.deliver hx (by omega) (by omega))
          rw [hdv] at HDV
          clear hdv
          go_wp2_with fail
          refine HDV.out.mono ?_
          rintro e w7 ⟨rfl,h7,hf7⟩
          have HC7:=hide h7
          have HB8:Hid (Below B W w7):=HB7.out.trans hf7.1
          clear h7 hf7 HDV HC6 HB7
          go_wp2_with fail
          go_roundw
          case rel=>exact ⟨j+1,s2,l2.eraseIdx kk,by omega,by omega,by rw [hle];omega,rfl,by rw [hle];congr 1;omega,by go_num,HC7.out,HB8.out⟩
          case measure=>simp [intOf];omega
        ·have k2:¬ (0:Int)<(l2.length:Int):=by omega
         go_wp2_with fail
         go_roundw
         case rel=>exact ⟨j+1,s2,l2,by omega,by omega,by omega,rfl,rfl,by go_num,HC5.out,HB6.out⟩
         case measure=>simp [intOf];omega
       ·have k1:¬ bits BinOp.and IntKind.i64 zl 1=1:=by rw [aEi zl 1 (by omega) 1 (by decide)];omega
        go_wp2_with fail
        go_roundw
        case rel=>exact ⟨j+1,s2,l2,by omega,by omega,by omega,rfl,rfl,by go_num,HC5.out,HB6.out⟩
        case measure=>simp [intOf];omega
      ·have i4:¬ (j:Int)<(ll:Int):=by omega
       go_wp2_with fail
       go_roundw
       case rel=>exact ⟨j+1,s2,l2,by omega,by omega,by omega,rfl,rfl,by go_num,HC5.out,HB6.out⟩
       case measure=>simp [intOf];omega
   ·have hcb:cb=false:=by rw [HCB.out];simp only [decide_eq_false_iff_not];exact hgo
    subst hcb
    have HT:=hide (HTD.out wc)
    go_wp2_with fail
    refine HT.out.mono ?_
    rintro e w9 ⟨rfl,hb9⟩
    have HB9:Hid (Below B W w9):=HBE.out.trans (hb9.mono HC.out.bw)
    clear hb9 HT
    go_wp2
    go_ret
    exact ⟨rfl,HB9.out⟩
end Go.Proofs.YthimmblpmijnlaaGreat
