/- The law TreeShape holds for every input: called with whatever keys and whatever row of bools it returns true, and its arguments read afterwards as they read before. No condition beyond the form's own reach. -/
import Derived.Test.YtimdcaofgapnlaaGreatZ50
import Derived.Test.YtimdcaofgapnlaaGreatZ23
set_option maxRecDepth 100000
set_option maxHeartbeats 16000000
set_option linter.unusedVariables false
namespace Go.Proofs.YtimdcaofgapnlaaGreat
open Go.RowKit
theorem aGi (a0:Option Addr) (T cap0 b0 o0:Nat) (A:Nat→Option Addr) (L C:Nat→Nat) (tf:Nat→List Nat) (a1:Option Addr) (G cap1:Nat) (Z:Nat→Bool) (W:World) (h0:TXS W a0 T 64 b0 o0 A L C tf)
  (h1:G≤9223372036854775807) (h2:0<G→∃ b o,a1=some ⟨b,o,none⟩∧∀ i,i<G→W.cell? ⟨b,o+i,none⟩=some (.bool (Z i))) :
  Calls Tryz.prog 4 #[.slice a0 T cap0,.slice a1 G cap1] W fun e w'=>e=.returned (.bool true)∧Below W.heap.size W w':=by
 letI:Gd:=⟨none⟩
 have hg0:Hid (Gd.g=none):=rfl
 have H0:=hide h0
 have hT63:=h0.hl
 have HOP:=hide (open_any (n:=400) hg0.out W (by decide) (by decide))
 obtain ⟨b1,o1,H1⟩:∃ b1 o1,Hid (0<G→a1=some ⟨b1,o1,none⟩∧∀ i,i<G→W.cell? ⟨b1,o1+i,none⟩=some (.bool (Z i))):=by
  by_cases hG:0<G
  ·obtain ⟨b,o,h3⟩:=h2 hG
   exact ⟨b,o,hide fun _=>h3⟩
  ·exact ⟨0,0,hide fun h=>absurd h hG⟩
 clear h0 h2
 generalize hB:W.heap.size=B at *
 go_enter Tryz.func4,Tryz.ntmps4
 go_wp2_with fail
 refine HOP.out.mono ?_
 rintro e w1 ⟨p,g,rfl,hgB,hO,hb1⟩
 obtain ⟨q,hP0⟩:=hO.shi hb1
 have HP0:=hide hP0
 clear hgB hO hb1 HOP hP0
 go_wp2_with fail
 go_loopw [7] (fun i wx=>∃ j:Nat,j≤80∧i=.int .i64 j∧SHI B p q g j W wx) (fun i _=>80-(intOf i).toNat)
 case atStart=>exact ⟨0,by omega,rfl,HP0.out⟩
 case round =>
  obtain ⟨j,hj,rfl,hP⟩:=hrel
  have HP:=hide hP
  clear hP
  by_cases hjT:j<T
  ·have i1:(j:Int)<(T:Int):=by omega
   by_cases hj8:j<80
   ·have i0:(j:Int)<80:=by omega
    obtain rfl:a0=some ⟨b0,o0,none⟩:=H0.out.place (by omega)
    have HC0:=hide (H0.out.cell j (by omega))
    have hcp:=H0.out.cap j (by omega)
    have HBS:=hide (H0.out.bs j (by omega))
    obtain ⟨aa,haa⟩:∃ x,A j=x:=⟨_,rfl⟩
    obtain ⟨ll,hll⟩:∃ x,L j=x:=⟨_,rfl⟩
    obtain ⟨cc,hcc⟩:∃ x,C j=x:=⟨_,rfl⟩
    obtain ⟨m,hm⟩:∃ m,m=min ll 64:=⟨_,rfl⟩
    rw [haa,hll,hcc] at HC0
    rw [haa,hll,hcc,←hm] at HBS
    rw [hll,hcc] at hcp
    have em:min (ll:Int) 64=(m:Int):=by omega
    have u0:(0:Int)≤(m:Int):=by omega
    have v0:(m:Int)≤(cc:Int):=by omega
    have m64:m≤64:=by omega
    have y0:(cc:Int)≤9223372036854775807:=by omega
    have hdr:Below wr.heap.size wr wr.drew:=(Below.refl _ _).drew
    have HT1:=hide (HP.out.later hdr)
    have HX0:Hid ((fun wx=>wx.cell? ⟨b0,o0+j,none⟩=some (.slice aa ll cc)) wr.drew):=(HT1.out.be.cell (p:=⟨b0,o0+j,none⟩) (by rw [←hB];exact block_lt_of_cell HC0.out)).trans HC0.out
    clear hcp hm hdr HP HP0
    go_upto_region 7 with fail
    refine wp_region_noPanic ?_
    refine wp_region_held_drew (S:=fun wx=>wx.cell? ⟨b0,o0+j,none⟩=some (.slice aa ll cc)) (by kernel_rfl) HX0.out (fun hHeld=>?_)
    refine wpAnyH_tk 0 28 ?_
    refine wpAnyH_tk 1 29 ?_
    refine wpAnyH_tk 2 30 ?_
    refine wpAnyH_tk 3 31 ?_
    refine wpAnyH_tk 4 32 ?_
    refine wpAnyH_tk 5 33 ?_
    refine wpAnyH_tk 6 34 ?_
    refine wpAnyH_tk 7 35 ?_
    refine wpAnyH_tk 8 36 ?_
    refine wpAnyH_tk 9 37 ?_
    refine wpAnyH_tk 10 38 ?_
    refine wpAnyH_tk 11 8 ?_
    refine wpAnyH_done (by kernel_rfl) ?_ _
    refine NoPanic.normal ?_
    clear hHeld HX0
    by_cases hm0:m=0
    ·subst hm0
     go_wp2_with fail
     go_roundw
     case rel=>exact ⟨j+1,by omega,by go_num,HT1.out.next⟩
     case measure=>simp [intOf];omega
    ·have z0:¬ (m:Int)=0:=by omega
     have HK1:=hide (arg_bk (b0:=b0) hB HBS.out HT1.out.be (by omega))
     by_cases hjG:j<G
     ·have z1:(j:Int)<(G:Int):=by omega
      obtain ⟨hpl,hcl⟩:=H1.out (by omega)
      subst hpl
      have hcj:=(HT1.out.be.cell (p:=⟨b1,o1+j,none⟩) (by rw [←hB];exact block_lt_of_cell (hcl j hjG))).trans (hcl j hjG)
      clear hcl
      cases hZ:Z j with
      | true =>
       rw [hZ] at hcj
       have HPU:=hide (HT1.out.Delete hg0.out HBS.out.hlen (by omega) m64 HK1.out)
       go_wp2_with fail
       refine HPU.out.mono ?_
       rintro e w3 ⟨⟨bb,rfl⟩,hJ⟩
       have HJ:=hide hJ
       clear hJ HPU
       have HCM:=hide (HJ.out.commit hj8)
       go_wp2_with fail
       refine HCM.out.mono ?_
       rintro e w4 ⟨rfl,n,d,P,F,hK⟩
       have HCK:=hide (hK.check hj8)
       clear hK HCM HJ
       go_wp2_with fail
       refine HCK.out.mono ?_
       rintro e w5 ⟨rfl,hK⟩
       have HK:=hide hK
       have HLN:=hide hK.len
       have HDP:=hide hK.depth
       have HPG:=hide hK.pages
       have HLF:=hide hK.left
       obtain ⟨hS,d4,n8⟩:=hK.shp
       have HS:=hide hS
       clear hK hS HCK
       go_wp2_with fail
       refine HLN.out.mono ?_
       rintro e w9 ⟨rfl,hw⟩
       have hw:=hw.symm
       subst hw
       go_wp2_with fail
       go_loopw [10,11] (fun q k wx=>wx=w5∧∃ i:Nat,1≤i∧(i=1∨i≤d)∧k=.int .i64 (i:Int)∧q=.int .i64 ((lsN i:Nat):Int)) (fun _ k _=>5-(intOf k).toNat)
       case atStart=>exact ⟨rfl,1,by omega,Or.inl rfl,rfl,rfl⟩
       case round =>
        obtain ⟨rfl,i,x1,x2,rfl,rfl⟩:=hrel
        have x3:=lsN_le (j:=i) (by omega)
        have x4:=aH0 x1
        generalize hli:lsN i=y at *
        by_cases hid:i<d
        ·have x5:(i:Int)<(d:Int):=by omega
         go_wp2_with fail
         refine HDP.out.mono ?_
         rintro e w9 ⟨rfl,hw⟩
         have hw:=hw.symm
         subst hw
         go_wp2_with fail
         go_roundw
         case rel=>exact ⟨trivial,i+1,by omega,Or.inr (by omega),by go_num,by rw [x4];go_num⟩
         case measure=>simp [intOf];omega
        ·have x5:¬ (i:Int)<(d:Int):=by omega
         have y1:=HS.out.pn
         have y2:=HS.out.all
         have y3:¬ (P:Int)>(n:Int):=by omega
         have y4:(F:Int)+(P:Int)+2=400:=by omega
         go_wp2_with fail
         refine HDP.out.mono ?_
         rintro e w9 ⟨rfl,hw⟩
         have hw:=hw.symm
         subst hw
         go_wp2_with fail
         refine HPG.out.mono ?_
         rintro e w9 ⟨rfl,hw⟩
         have hw:=hw.symm
         subst hw
         by_cases hd0:d=0
         ·subst hd0
          go_wp2_with fail
          refine HDP.out.mono ?_
          rintro e w9 ⟨rfl,hw⟩
          have hw:=hw.symm
          subst hw
          go_wp2_with fail
          refine HLF.out.mono ?_
          rintro e w9 ⟨rfl,hw⟩
          have hw:=hw.symm
          subst hw
          go_wp2_with fail
          refine HPG.out.mono ?_
          rintro e w9 ⟨rfl,hw⟩
          have hw:=hw.symm
          subst hw
          go_wp2_with fail
          go_roundw
          case rel=>exact ⟨j+1,by omega,by go_num,HK.out.next⟩
          case measure=>simp [intOf];omega
         ·have hid2:i=d:=by omega
          have y5:=HS.out.ls (by omega)
          have y6:y≤n:=by
           rw [←hli,hid2]
           unfold lsN
           omega
          have y7:(d:Int)>0:=by omega
          have y8:(n:Int)>0:=by
           have:0<3 ^ (d-1):=Nat.pow_pos (by decide)
           omega
          have y9:¬ (n:Int)<(y:Int):=by omega
          go_wp2_with fail
          refine HDP.out.mono ?_
          rintro e w9 ⟨rfl,hw⟩
          have hw:=hw.symm
          subst hw
          go_wp2_with fail
          refine HLF.out.mono ?_
          rintro e w9 ⟨rfl,hw⟩
          have hw:=hw.symm
          subst hw
          go_wp2_with fail
          refine HPG.out.mono ?_
          rintro e w9 ⟨rfl,hw⟩
          have hw:=hw.symm
          subst hw
          go_wp2_with fail
          go_roundw
          case rel=>exact ⟨j+1,by omega,by go_num,HK.out.next⟩
          case measure=>simp [intOf];omega
      | false =>
       rw [hZ] at hcj
       have HPU:=hide (HT1.out.Put hg0.out hj8 (its_ok HBS.out (by omega) m64) HBS.out.hlen HK1.out)
       go_wp2_with fail
       refine HPU.out.mono ?_
       rintro e w3 ⟨rfl,hJ⟩
       have HJ:=hide hJ
       clear hJ HPU
       have HCM:=hide (HJ.out.commit hj8)
       go_wp2_with fail
       refine HCM.out.mono ?_
       rintro e w4 ⟨rfl,n,d,P,F,hK⟩
       have HCK:=hide (hK.check hj8)
       clear hK HCM HJ
       go_wp2_with fail
       refine HCK.out.mono ?_
       rintro e w5 ⟨rfl,hK⟩
       have HK:=hide hK
       have HLN:=hide hK.len
       have HDP:=hide hK.depth
       have HPG:=hide hK.pages
       have HLF:=hide hK.left
       obtain ⟨hS,d4,n8⟩:=hK.shp
       have HS:=hide hS
       clear hK hS HCK
       go_wp2_with fail
       refine HLN.out.mono ?_
       rintro e w9 ⟨rfl,hw⟩
       have hw:=hw.symm
       subst hw
       go_wp2_with fail
       go_loopw [10,11] (fun q k wx=>wx=w5∧∃ i:Nat,1≤i∧(i=1∨i≤d)∧k=.int .i64 (i:Int)∧q=.int .i64 ((lsN i:Nat):Int)) (fun _ k _=>5-(intOf k).toNat)
       case atStart=>exact ⟨rfl,1,by omega,Or.inl rfl,rfl,rfl⟩
       case round =>
        obtain ⟨rfl,i,x1,x2,rfl,rfl⟩:=hrel
        have x3:=lsN_le (j:=i) (by omega)
        have x4:=aH0 x1
        generalize hli:lsN i=y at *
        by_cases hid:i<d
        ·have x5:(i:Int)<(d:Int):=by omega
         go_wp2_with fail
         refine HDP.out.mono ?_
         rintro e w9 ⟨rfl,hw⟩
         have hw:=hw.symm
         subst hw
         go_wp2_with fail
         go_roundw
         case rel=>exact ⟨trivial,i+1,by omega,Or.inr (by omega),by go_num,by rw [x4];go_num⟩
         case measure=>simp [intOf];omega
        ·have x5:¬ (i:Int)<(d:Int):=by omega
         have y1:=HS.out.pn
         have y2:=HS.out.all
         have y3:¬ (P:Int)>(n:Int):=by omega
         have y4:(F:Int)+(P:Int)+2=400:=by omega
         go_wp2_with fail
         refine HDP.out.mono ?_
         rintro e w9 ⟨rfl,hw⟩
         have hw:=hw.symm
         subst hw
         go_wp2_with fail
         refine HPG.out.mono ?_
         rintro e w9 ⟨rfl,hw⟩
         have hw:=hw.symm
         subst hw
         by_cases hd0:d=0
         ·subst hd0
          go_wp2_with fail
          refine HDP.out.mono ?_
          rintro e w9 ⟨rfl,hw⟩
          have hw:=hw.symm
          subst hw
          go_wp2_with fail
          refine HLF.out.mono ?_
          rintro e w9 ⟨rfl,hw⟩
          have hw:=hw.symm
          subst hw
          go_wp2_with fail
          refine HPG.out.mono ?_
          rintro e w9 ⟨rfl,hw⟩
          have hw:=hw.symm
          subst hw
          go_wp2_with fail
          go_roundw
          case rel=>exact ⟨j+1,by omega,by go_num,HK.out.next⟩
          case measure=>simp [intOf];omega
         ·have hid2:i=d:=by omega
          have y5:=HS.out.ls (by omega)
          have y6:y≤n:=by
           rw [←hli,hid2]
           unfold lsN
           omega
          have y7:(d:Int)>0:=by omega
          have y8:(n:Int)>0:=by
           have:0<3 ^ (d-1):=Nat.pow_pos (by decide)
           omega
          have y9:¬ (n:Int)<(y:Int):=by omega
          go_wp2_with fail
          refine HDP.out.mono ?_
          rintro e w9 ⟨rfl,hw⟩
          have hw:=hw.symm
          subst hw
          go_wp2_with fail
          refine HLF.out.mono ?_
          rintro e w9 ⟨rfl,hw⟩
          have hw:=hw.symm
          subst hw
          go_wp2_with fail
          refine HPG.out.mono ?_
          rintro e w9 ⟨rfl,hw⟩
          have hw:=hw.symm
          subst hw
          go_wp2_with fail
          go_roundw
          case rel=>exact ⟨j+1,by omega,by go_num,HK.out.next⟩
          case measure=>simp [intOf];omega
     ·have z1:¬ (j:Int)<(G:Int):=by omega
      have HPU:=hide (HT1.out.Put hg0.out hj8 (its_ok HBS.out (by omega) m64) HBS.out.hlen HK1.out)
      go_wp2_with fail
      refine HPU.out.mono ?_
      rintro e w3 ⟨rfl,hJ⟩
      have HJ:=hide hJ
      clear hJ HPU
      have HCM:=hide (HJ.out.commit hj8)
      go_wp2_with fail
      refine HCM.out.mono ?_
      rintro e w4 ⟨rfl,n,d,P,F,hK⟩
      have HCK:=hide (hK.check hj8)
      clear hK HCM HJ
      go_wp2_with fail
      refine HCK.out.mono ?_
      rintro e w5 ⟨rfl,hK⟩
      have HK:=hide hK
      have HLN:=hide hK.len
      have HDP:=hide hK.depth
      have HPG:=hide hK.pages
      have HLF:=hide hK.left
      obtain ⟨hS,d4,n8⟩:=hK.shp
      have HS:=hide hS
      clear hK hS HCK
      go_wp2_with fail
      refine HLN.out.mono ?_
      rintro e w9 ⟨rfl,hw⟩
      have hw:=hw.symm
      subst hw
      go_wp2_with fail
      go_loopw [10,11] (fun q k wx=>wx=w5∧∃ i:Nat,1≤i∧(i=1∨i≤d)∧k=.int .i64 (i:Int)∧q=.int .i64 ((lsN i:Nat):Int)) (fun _ k _=>5-(intOf k).toNat)
      case atStart=>exact ⟨rfl,1,by omega,Or.inl rfl,rfl,rfl⟩
      case round =>
       obtain ⟨rfl,i,x1,x2,rfl,rfl⟩:=hrel
       have x3:=lsN_le (j:=i) (by omega)
       have x4:=aH0 x1
       generalize hli:lsN i=y at *
       by_cases hid:i<d
       ·have x5:(i:Int)<(d:Int):=by omega
        go_wp2_with fail
        refine HDP.out.mono ?_
        rintro e w9 ⟨rfl,hw⟩
        have hw:=hw.symm
        subst hw
        go_wp2_with fail
        go_roundw
        case rel=>exact ⟨trivial,i+1,by omega,Or.inr (by omega),by go_num,by rw [x4];go_num⟩
        case measure=>simp [intOf];omega
       ·have x5:¬ (i:Int)<(d:Int):=by omega
        have y1:=HS.out.pn
        have y2:=HS.out.all
        have y3:¬ (P:Int)>(n:Int):=by omega
        have y4:(F:Int)+(P:Int)+2=400:=by omega
        go_wp2_with fail
        refine HDP.out.mono ?_
        rintro e w9 ⟨rfl,hw⟩
        have hw:=hw.symm
        subst hw
        go_wp2_with fail
        refine HPG.out.mono ?_
        rintro e w9 ⟨rfl,hw⟩
        have hw:=hw.symm
        subst hw
        by_cases hd0:d=0
        ·subst hd0
         go_wp2_with fail
         refine HDP.out.mono ?_
         rintro e w9 ⟨rfl,hw⟩
         have hw:=hw.symm
         subst hw
         go_wp2_with fail
         refine HLF.out.mono ?_
         rintro e w9 ⟨rfl,hw⟩
         have hw:=hw.symm
         subst hw
         go_wp2_with fail
         refine HPG.out.mono ?_
         rintro e w9 ⟨rfl,hw⟩
         have hw:=hw.symm
         subst hw
         go_wp2_with fail
         go_roundw
         case rel=>exact ⟨j+1,by omega,by go_num,HK.out.next⟩
         case measure=>simp [intOf];omega
        ·have hid2:i=d:=by omega
         have y5:=HS.out.ls (by omega)
         have y6:y≤n:=by
          rw [←hli,hid2]
          unfold lsN
          omega
         have y7:(d:Int)>0:=by omega
         have y8:(n:Int)>0:=by
          have:0<3 ^ (d-1):=Nat.pow_pos (by decide)
          omega
         have y9:¬ (n:Int)<(y:Int):=by omega
         go_wp2_with fail
         refine HDP.out.mono ?_
         rintro e w9 ⟨rfl,hw⟩
         have hw:=hw.symm
         subst hw
         go_wp2_with fail
         refine HLF.out.mono ?_
         rintro e w9 ⟨rfl,hw⟩
         have hw:=hw.symm
         subst hw
         go_wp2_with fail
         refine HPG.out.mono ?_
         rintro e w9 ⟨rfl,hw⟩
         have hw:=hw.symm
         subst hw
         go_wp2_with fail
         go_roundw
         case rel=>exact ⟨j+1,by omega,by go_num,HK.out.next⟩
         case measure=>simp [intOf];omega
   ·have i0:¬ (j:Int)<80:=by omega
    have HTD:=hide (told_any wr)
    go_wp2_with fail
    refine HTD.out.mono ?_
    rintro e w5 ⟨rfl,hb5⟩
    have HB7:=hide ((HP.out.later hb5).be)
    clear hb5 HTD
    go_wp2
    go_ret
    exact ⟨rfl,HB7.out⟩
  ·have i1:¬ (j:Int)<(T:Int):=by omega
   have HTD:=hide (told_any wr)
   go_wp2_with fail
   refine HTD.out.mono ?_
   rintro e w5 ⟨rfl,hb5⟩
   have HB7:=hide ((HP.out.later hb5).be)
   clear hb5 HTD
   go_wp2
   go_ret
   exact ⟨rfl,HB7.out⟩
end Go.Proofs.YtimdcaofgapnlaaGreat
namespace Go.Proofs.YtimdcaofgapnlaaGreat
open Go.ChangeShapes Go.WideShapes Go.ChangeAt Go.RowKit
set_option linter.unusedVariables false
theorem aE7 (os:Os) (started:os.Started) (H:Type) (enc:TypeId×Value→H) :
  ReturnsInHanded {} Tryz.checked os 4 .any (Rows.treeShapeSpec.pre6 enc Tryz.prog Tryz.f4 Rows.treeShapeRow.domain false) (Rows.treeShapeSpec.post enc Tryz.prog Tryz.f4 false true false false):=by
 refine returnsInHanded_of_change_sized (C:=Tryz.checked) own started (by kernel_rfl) Tryz.func4
  (ChangeSpec.witness6 (enc:=enc) (C:=Tryz.checked) false ⟨#[],#[.slice none 0 0,.slice none 0 0],[]⟩ 8 (by kernel_rfl) (by kernel_rfl) (by kernel_rfl) (by kernel_rfl)) ?_
 intro W base args ds gs before hval0 hW hcnd hsz0 _
 have hval:∀ (j:Nat) t v,Tryz.f4.params[j]?=some t→args[j]?=some v→Value.okWide Tryz.prog W .any base t v:=hval0
 have hsz:(DataW.weightsEach Tryz.prog (Tryz.f4.params.toList++Rows.treeShapeSpec.plain.varTypes Tryz.prog) (ds++gs)).all (·≤reachBytes)=true:=hsz0
 have hW':=hW
 obtain ⟨p,q,hA0,hV,rfl,hfz,hnd⟩:=hW
 have hA:DataW.TrodAll enc Tryz.prog W 0 (fun _=>true) true Tryz.f4.params.toList args.toList ds p:=hA0
 rw [Tryz.params4] at hA hval hsz
 obtain ⟨v0,vs0,d0,ds0,p0,q0,hargs,rfl,rfl,h0,r0⟩:=trodAll_cons hA
 obtain ⟨v1,vs1,d1,ds1,p1,q1,rfl,rfl,rfl,h1,r1⟩:=trodAll_cons r0
 obtain ⟨rfl,rfl,rfl⟩:=trodAll_nil r1
 obtain rfl:args=#[v0,v1]:=by cases args;simp_all
 obtain ⟨rfl,rfl⟩:=trodVars_none hV
 obtain ⟨a0,len0,cap0,rfl⟩:=okWide_slice Tryz.underlying55 (hval 0 55 v0 rfl rfl)
 have k0:=h0
 have lt0:∀ x∈p0,x.block<W.heap.size:=by obtain ⟨m,hm⟩:=k0;exact DataW.trod_lt m _ _ _ hm
 obtain ⟨b0,o0,A0,L0,C0,tf0,w0⟩:=open_texts 64 (by omega) h0
 obtain ⟨a1,len1,cap1,rfl⟩:=okWide_slice Tryz.underlying56 (hval 1 56 v1 rfl rfl)
 have k1:=h1
 have lt1:∀ x∈p1,x.block<W.heap.size:=by obtain ⟨m,hm⟩:=k1;exact DataW.trod_lt m _ _ _ hm
 obtain ⟨xs1,w1,s1⟩:=open_bl h1
 clear hA0 hval0 hsz0
 refine (aGi a0 len0 cap0 b0 o0 A0 L0 C0 tf0 a1 len1 cap1 xs1 W w0 w1 s1).mono fun e W' ⟨he,bel⟩=>?_
 subst he
 exact ⟨_,rfl,_,_,_,[],_,[],hW',trodAll_mk1 (shut_bool Tryz.underlying4 _),(trodAll_cons_mk (Below.trod laidOut (by kernel_rfl) (of_decide_eq_true (by kernel_rfl)) k0 bel lt0) (trodAll_cons_mk (Below.trod laidOut (by kernel_rfl) (of_decide_eq_true (by kernel_rfl)) k1 bel lt1) trodAll_mk0)),rfl,bel.frame _,fun h=>by cases h⟩
theorem treeShape_holds:Rows.TreeShapeSaid :=
 OpenClaim.holds_of_wide 4 Tryz.f4 rfl rfl rfl rfl rfl rfl rfl ⟨rfl,rfl,rfl,rfl,rfl⟩ rfl rfl rfl rfl rfl (by kernel_rfl) Tryz.func4 (by kernel_rfl)
  (of_decide_eq_true (by kernel_rfl)) (by unfold Func.isWrapper;first | (rw [if_pos (by decide +kernel)];kernel_rfl) | (rw [if_neg (by decide +kernel)];exact ⟨rfl,rfl⟩))
  (fun os started H enc _=>aE7 os started H enc)
#print axioms treeShape_holds
end Go.Proofs.YtimdcaofgapnlaaGreat
