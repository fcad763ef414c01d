/- The law TreeOrders holds for every input: called with whatever values of its parameters' types it returns true, and each argument reads afterwards as it read before. No condition beyond the form's own reach. -/
import Derived.Test.YtohgmapjokaibaaGreatZ50
import Derived.Test.YtohgmapjokaibaaGreatZ23
set_option maxRecDepth 100000
set_option maxHeartbeats 16000000
set_option linter.unusedVariables false
namespace Go.Proofs.YtohgmapjokaibaaGreat
open Go.RowKit
theorem aId {B m cc:Nat} {W wx:World} {aa:Option Addr} {ys:List Nat} (hB:W.heap.size=B) (h:BS W aa m cc ys) (hb:Below B W wx):BK B wx aa m cc ys:=by
 have hbs:=h.later hb (by rw [hB];exact nR B)
 refine ⟨hbs,fun x hx=>Or.inl ?_⟩
 subst hx
 by_cases hm:m=0
 ·exact Or.inl hm
 ·obtain ⟨bb,ob,e1,e2,e3⟩:=h.place (by omega)
  simp only [oI] at e1
  subst e1
  rw [←hB]
  exact Or.inr (block_lt_of_cell (e3 0 (by omega)))
theorem aFj (a0:Option Addr) (T cap0 b0 o0:Nat) (A:Nat→Option Addr) (L C:Nat→Nat) (tf:Nat→List Nat) (a1:Option Addr) (G cap1:Nat) (Z:Nat→Bool) (W:World) (h0:TXS W a0 T 64 b0 o0 A L C tf)
  (h1:G≤9223372036854775807) (h2:0<G→∃ b o,a1=some ⟨b,o,none⟩∧∀ i,i<G→W.cell? ⟨b,o+i,none⟩=some (.bool (Z i))) :
  Calls Tryz.prog 3 #[.slice a0 T cap0,.slice a1 G cap1] W fun e w'=>e=.returned (.bool true)∧Below W.heap.size W w':=by
 have H0:=hide h0
 have hT63:=h0.hl
 have HOP:=hide (one_open (n:=900) W (by decide) (by decide))
 obtain ⟨b1,o1,H1⟩:∃ b1 o1,Hid (0<G→a1=some ⟨b1,o1,none⟩∧∀ i,i<G→W.cell? ⟨b1,o1+i,none⟩=some (.bool (Z i))):=by
  by_cases hG:0<G
  ·obtain ⟨b,o,h3⟩:=h2 hG
   exact ⟨b,o,hide fun _=>h3⟩
  ·exact ⟨0,0,hide fun h=>absurd h hG⟩
 obtain ⟨N,hN⟩:∃ N,N=min T 50:=⟨_,rfl⟩
 have eN:min (T:Int) 50=(N:Int):=by omega
 have N50:N≤50:=by omega
 have NT':N≤T:=by omega
 have HNN:=hide hN
 clear h0 h2 hN
 generalize hB:W.heap.size=B at *
 go_enter Tryz.func3,Tryz.ntmps3
 go_wp2_with fail
 refine HOP.out.mono ?_
 rintro e w1 ⟨pv,⟨xp,xq,g0,xc,xu,xl⟩,rfl,hO,rfl,rfl,rfl⟩
 have HO2:=hide (two_open hO (by decide) (by decide))
 clear hO HOP
 go_wp2_with fail
 refine HO2.out.mono ?_
 rintro e w2 ⟨pv2,⟨yp,yq,g1,yc,yu,yl⟩,rfl,hO,rfl,rfl,rfl⟩
 have HP0:Hid (TOI B tf N 0 0 g0 g1 W w2):=⟨_,_,hO,⟨rfl,rfl⟩,ORD.zero tf N,⟨Nat.zero_le _,Nat.zero_le _⟩,nR _,nR _⟩
 clear hO HO2
 go_wp2_with fail
 go_loopw [10] (fun i wx=>∃ j:Nat,j≤N∧i=.int .i64 j∧TOI B tf N j (2*j) g0 g1 W wx) (fun i _=>N-(intOf i).toNat)
 case atStart=>exact ⟨0,by omega,rfl,HP0.out⟩
 case round =>
  obtain ⟨j,hj,rfl,hP⟩:=hrel
  have HP:=hide hP
  clear hP
  by_cases hjN:j<N
  ·have i0:(j:Int)<(N:Int):=by omega
   obtain rfl:a0=some ⟨b0,o0,none⟩:=H0.out.place (by omega)
   obtain ⟨r,hr⟩:∃ r,r=N-1-j:=⟨_,rfl⟩
   obtain ⟨M,hM⟩:∃ M,M=N-1:=⟨_,rfl⟩
   have s1:(N:Int)-1=(M:Int):=by omega
   have s2:(M:Int)-(j:Int)=(r:Int):=by omega
   have s3:IntKind.i64.wrap (M:Int)=(M:Int):=wrap_small _ (by omega) (by omega)
   have s4:IntKind.i64.wrap (r:Int)=(r:Int):=wrap_small _ (by omega) (by omega)
   have HC0:=hide (H0.out.cell j (by omega))
   have hcp:=H0.out.cap j (by omega)
   have HBS:=hide (H0.out.bs j (by omega))
   have HD0:=hide (H0.out.cell r (by omega))
   have hdp:=H0.out.cap r (by omega)
   have HDS:=hide (H0.out.bs r (by omega))
   have i1:(j:Int)<(T:Int):=by omega
   have i2:(r:Int)<(T:Int):=by omega
   obtain ⟨aa,haa⟩:∃ x,A j=x:=⟨_,rfl⟩
   obtain ⟨ll,hll⟩:∃ x,L j=x:=⟨_,rfl⟩
   obtain ⟨cc,hcc⟩:∃ x,C j=x:=⟨_,rfl⟩
   obtain ⟨m,hm⟩:∃ m,m=min ll 64:=⟨_,rfl⟩
   rw [haa,hll,hcc] at HC0
   rw [haa,hll,hcc,←hm] at HBS
   rw [hll,hcc] at hcp
   obtain ⟨ab,hab⟩:∃ x,A r=x:=⟨_,rfl⟩
   obtain ⟨lb,hlb⟩:∃ x,L r=x:=⟨_,rfl⟩
   obtain ⟨cb,hcb⟩:∃ x,C r=x:=⟨_,rfl⟩
   obtain ⟨mb,hmb⟩:∃ m,m=min lb 64:=⟨_,rfl⟩
   rw [hab,hlb,hcb] at HD0
   rw [hab,hlb,hcb,←hmb] at HDS
   rw [hlb,hcb] at hdp
   have em:min (ll:Int) 64=(m:Int):=by omega
   have em2:min (lb:Int) 64=(mb:Int):=by omega
   have u0:(0:Int)≤(m:Int):=by omega
   have v0:(m:Int)≤(cc:Int):=by omega
   have u1:(0:Int)≤(mb:Int):=by omega
   have v1:(mb:Int)≤(cb:Int):=by omega
   have m64:m≤64:=by omega
   have mb64:mb≤64:=by omega
   have y0:(cc:Int)≤9223372036854775807:=by omega
   have y1:(cb:Int)≤9223372036854775807:=by omega
   have HR:Hid (r=N-1-j):=hr
   have hdr:Below wr.heap.size wr wr.drew:=(Below.refl _ _).drew
   have HT1:=hide (HP.out.later hdr)
   have HX0:Hid ((fun wx=>wx.cell? ⟨b0,o0+j,none⟩=some (.slice aa ll cc)∧wx.cell? ⟨b0,o0+r,none⟩=some (.slice ab lb cb)) wr.drew):=⟨(HT1.out.be.cell (p:=⟨b0,o0+j,none⟩) (by rw [←hB];exact block_lt_of_cell HC0.out)).trans HC0.out,(HT1.out.be.cell (p:=⟨b0,o0+r,none⟩) (by rw [←hB];exact block_lt_of_cell HD0.out)).trans HD0.out⟩
   clear hcp hm hdr HP HP0 hdp hmb hr hM
   go_upto_region 9 with fail
   refine wp_region_noPanic ?_
   refine wp_region_held_drew (S:=fun wx=>wx.cell? ⟨b0,o0+j,none⟩=some (.slice aa ll cc)∧wx.cell? ⟨b0,o0+r,none⟩=some (.slice ab lb cb)) (by kernel_rfl) HX0.out (fun hHeld=>?_)
   refine wpAnyH_tk 0 45 ?_
   refine wpAnyH_tk 1 46 ?_
   refine wpAnyH_tk 2 47 ?_
   refine wpAnyH_tk 3 48 ?_
   refine wpAnyH_tk 4 49 ?_
   refine wpAnyH_tk 5 50 ?_
   refine wpAnyH_tk 6 51 ?_
   refine wpAnyH_tk 7 52 ?_
   refine wpAnyH_tk 8 53 ?_
   refine wpAnyH_tk 9 54 ?_
   refine wpAnyH_tk 10 55 ?_
   refine wpAnyH_tk 11 56 ?_
   refine wpAnyH_tk 12 57 ?_
   refine wpAnyH_tk 13 58 ?_
   refine wpAnyH_tk 14 59 ?_
   refine wpAnyH_tk 15 60 ?_
   refine wpAnyH_tk 16 61 ?_
   refine wpAnyH_tk 17 62 ?_
   refine wpAnyH_tk 18 63 ?_
   refine wpAnyH_tk 19 64 ?_
   refine wpAnyH_tk 20 65 ?_
   refine wpAnyH_tk 21 66 ?_
   refine wpAnyH_tk 22 67 ?_
   refine wpAnyH_tk 23 68 ?_
   refine wpAnyH_tk 24 69 ?_
   refine wpAnyH_tk 25 70 ?_
   refine wpAnyH_tk 26 71 ?_
   refine wpAnyH_tk 27 72 ?_
   refine wpAnyH_tk 28 11 ?_
   refine wpAnyH_tk 29 12 ?_
   refine wpAnyH_done (by kernel_rfl) ?_ _
   refine NoPanic.normal ?_
   clear hHeld HX0
   have HPU:=hide (HT1.out.put hjN N50 HBS.out.hbyte HBS.out.hlen m64 (aId hB HBS.out HT1.out.be))
   generalize wr.drew=wq at *
   go_wp2_with fail
   refine HPU.out.mono ?_
   rintro e w3 ⟨⟨r3,rfl⟩,hJ⟩
   have HJ:=hide hJ
   have HQ:=HR.out
   have HPV:Hid (Calls Tryz.prog 5 #[.pointer (some ⟨g1,0,none⟩),.slice ab mb cb,.slice ab mb cb] w3 fun e w'=>(∃ r:Int,e=.returned (.int .i64 r))∧TOI B tf N (j+1) (2*j) g0 g1 W w'):=by
    rw [HQ] at HDS
    exact hJ.put hjN N50 HDS.out.hbyte HDS.out.hlen mb64 (aId hB HDS.out hJ.be)
   clear hJ HPU HQ HJ
   go_wp2_with fail
   refine HPV.out.mono ?_
   rintro e w4 ⟨⟨r4,rfl⟩,hI⟩
   have HI:=hide hI
   have HC1:=hide (hI.cmt0 (by omega))
   clear hI HPV
   by_cases c6:(j:Int) % 7=6
   ·go_wp2_with fail
    refine HC1.out.mono ?_
    rintro e w5 ⟨rfl,hI⟩
    have HC2:=hide (hI.cmt1 (by omega))
    clear hI HC1
    go_wp2_with fail
    refine HC2.out.mono ?_
    rintro e w6 ⟨rfl,hI⟩
    have HI6:=hide hI
    clear hI HC2
    go_wp2_with fail
    go_roundw
    case rel=>exact ⟨j+1,by omega,by go_num,HI6.out⟩
    case measure=>simp [intOf];omega
   ·go_wp2_with fail
    go_roundw
    case rel=>exact ⟨j+1,by omega,by go_num,HI.out.more (by omega)⟩
    case measure=>simp [intOf];omega
  ·have i0:¬ (j:Int)<(N:Int):=by omega
   have hjN2:j=N:=by omega
   subst hjN2
   obtain ⟨l,hD⟩:=HP.out.done N50
   have HD:=hide hD
   clear hD HP HP0
   go_wp2_with fail
   go_loopw [13] (fun i wx=>∃ (i1:Nat) (l1:List It),i1≤j∧i=.int .i64 i1∧TOD B i1 g0 g1 l1 W wx) (fun i _=>j-(intOf i).toNat)
   case atStart=>exact ⟨0,l,by omega,rfl,HD.out⟩
   case round =>
    clear HD
    obtain ⟨i,li,hi,rfl,hP⟩:=hrel
    have HP:=hide hP
    clear hP
    by_cases hij:i<j
    ·have x0:(i:Int)<(j:Int):=by omega
     by_cases hiG:i<G
     ·have x1:(i:Int)<(G:Int):=by omega
      obtain ⟨rfl,hz⟩:=H1.out (by omega)
      have HZ:=hide (hz i hiG)
      obtain ⟨zi,hzi⟩:∃ x,Z i=x:=⟨_,rfl⟩
      rw [hzi] at HZ
      obtain rfl:a0=some ⟨b0,o0,none⟩:=H0.out.place (by omega)
      have HC0:=hide (H0.out.cell i (by omega))
      have hcp:=H0.out.cap i (by omega)
      have HBS:=hide (H0.out.bs i (by omega))
      have i1:(i:Int)<(T:Int):=by omega
      obtain ⟨aa,haa⟩:∃ x,A i=x:=⟨_,rfl⟩
      obtain ⟨ll,hll⟩:∃ x,L i=x:=⟨_,rfl⟩
      obtain ⟨cc,hcc⟩:∃ x,C i=x:=⟨_,rfl⟩
      obtain ⟨m,hm⟩:∃ m,m=min ll 64:=⟨_,rfl⟩
      rw [haa,hll,hcc] at HC0
      rw [haa,hll,hcc,←hm] at HBS
      rw [hll,hcc] at hcp
      have em:min (ll:Int) 64=(m:Int):=by omega
      have u0:(0:Int)≤(m:Int):=by omega
      have v0:(m:Int)≤(cc:Int):=by omega
      have m64:m≤64:=by omega
      have y0:(cc:Int)≤9223372036854775807:=by omega
      have hdr:Below wr.heap.size wr wr.drew:=(Below.refl _ _).drew
      have HT1:=hide (HP.out.later hdr)
      have HX0:Hid ((fun wx=>wx.cell? ⟨b0,o0+i,none⟩=some (.slice aa ll cc)) wr.drew):=(HT1.out.be.cell (p:=⟨b0,o0+i,none⟩) (by rw [←hB];exact block_lt_of_cell HC0.out)).trans HC0.out
      have HZ1:Hid (wr.cell? ⟨b1,o1+i,none⟩=some (.bool zi)):=(HT1.out.be.cell (p:=⟨b1,o1+i,none⟩) (by rw [←hB];exact block_lt_of_cell HZ.out)).trans HZ.out
      clear hcp hm hdr HP
      go_upto_region 17 with fail
      refine wp_region_noPanic ?_
      refine wp_region_held_drew (S:=fun wx=>wx.cell? ⟨b0,o0+i,none⟩=some (.slice aa ll cc)) (by kernel_rfl) HX0.out (fun hHeld=>?_)
      refine wpAnyH_tk 0 105 ?_
      refine wpAnyH_tk 1 106 ?_
      refine wpAnyH_tk 2 107 ?_
      refine wpAnyH_tk 3 108 ?_
      refine wpAnyH_tk 4 109 ?_
      refine wpAnyH_tk 5 110 ?_
      refine wpAnyH_tk 6 111 ?_
      refine wpAnyH_tk 7 112 ?_
      refine wpAnyH_tk 8 113 ?_
      refine wpAnyH_tk 9 114 ?_
      refine wpAnyH_tk 10 115 ?_
      refine wpAnyH_tk 11 14 ?_
      refine wpAnyH_done (by kernel_rfl) ?_ _
      refine NoPanic.normal ?_
      clear hHeld HX0
      have hzc:wr.cell? ⟨b1,o1+i,none⟩=some (.bool zi):=HZ1.out
      cases zi with
      | false =>
       go_wp2_with fail
       go_roundw
       case rel=>exact ⟨i+1,li,by omega,by go_num,HT1.out.skip⟩
       case measure=>simp [intOf];omega
      | true =>
       by_cases hm0:m=0
       ·subst hm0
        have x3:¬ (0:Int)>0:=by omega
        go_wp2_with fail
        go_roundw
        case rel=>exact ⟨i+1,li,by omega,by go_num,HT1.out.skip⟩
        case measure=>simp [intOf];omega
       ·have x3:(m:Int)>0:=by omega
        have HDL:=hide (HT1.out.del (by omega) (tf i) HBS.out.hlen (by omega) m64 (aId hB HBS.out HT1.out.be))
        obtain ⟨hb0,hhb⟩:∃ x,hasI li (tf i)=x:=⟨_,rfl⟩
        have HHB:=hide hhb
        rw [hhb] at HDL
        clear hhb
        go_wp2_with fail
        refine HDL.out.mono ?_
        rintro e w3 ⟨rfl,hE⟩
        have HDM:=hide (hE.del (by omega) HBS.out.hlen (by omega) m64 (aId hB HBS.out hE.be))
        rw [HHB.out] at HDM
        clear hE HDL HZ1 hzc
        go_wp2_with fail
        refine HDM.out.mono ?_
        rintro e w4 ⟨rfl,hD⟩
        have HD:=hide hD
        have x4:∀ b:Bool,(b != b)=false:=fun b=>by cases b<;>rfl
        clear hD HDM
        cases hb0<;>(
         go_wp2_with fail
         go_roundw
         case rel=>exact ⟨i+1,_,by omega,by go_num,HD.out⟩
         case measure=>simp [intOf];omega)
     ·have x1:¬ (i:Int)<(G:Int):=by omega
      have HP:=HP
      have hl50:=HP.out.len
      obtain ⟨LN,hLN⟩:∃ n,n=li.length:=⟨_,rfl⟩
      have HLN:=hide hLN
      have HR0:=hide HP.out.rng0
      clear hLN
      go_wp2_with fail
      refine HR0.out.mono ?_
      rintro e w3 ⟨f3,rfl,hp3,hb3⟩
      have HD3:=hide (HP.out.later hb3)
      have HP3:=hide hp3
      obtain ⟨a3,c3,e3⟩:=hp3.form
      rw [←HLN.out] at e3
      subst e3
      have HR1:=hide HD3.out.rng1
      clear hp3 hb3 HR0
      go_wp2_with fail
      refine HR1.out.mono ?_
      rintro e w4 ⟨f4,rfl,hp4,hb4⟩
      have HD4:=hide (HD3.out.later hb4)
      have HQ3:=hide (HP3.out.later hb4 HD3.out.bw)
      have HQ4:=hide hp4
      obtain ⟨a4,c4,e4⟩:=hp4.form
      rw [←HLN.out] at e4
      subst e4
      have HTD:=hide (told_any w4)
      clear hp4 hb4 HR1 HP3
      go_wp2_with fail
      refine HTD.out.mono ?_
      rintro e w5 ⟨rfl,hb5⟩
      have HD5:=hide (HD4.out.later hb5)
      have HSM:=hide (same_ok (HQ3.out.later hb5 HD4.out.bw) (HQ4.out.later hb5 HD4.out.bw) (by omega))
      clear hb5 HTD HQ3 HQ4
      go_wp2_with fail
      refine HSM.out.mono ?_
      rintro e w6 ⟨rfl,hb6⟩
      have HD6:=hide (HD5.out.later hb6)
      have HL0:=hide HD6.out.len0
      have HL1:=hide HD6.out.len1
      have HK0:=hide HD6.out.chk0
      rw [←HLN.out] at HL0 HL1
      clear hb6 HSM
      go_wp2_with fail
      refine HL0.out.mono ?_
      rintro e w7 ⟨rfl,hw⟩
      have hw:=hw.symm
      subst hw
      go_wp2_with fail
      refine HL1.out.mono ?_
      rintro e w7 ⟨rfl,hw⟩
      have hw:=hw.symm
      subst hw
      go_wp2_with fail
      refine HL0.out.mono ?_
      rintro e w7 ⟨rfl,hw⟩
      have hw:=hw.symm
      subst hw
      go_wp2_with fail
      refine HK0.out.mono ?_
      rintro e w7 ⟨rfl,hb7⟩
      have HD7:=hide (HD6.out.later hb7)
      have HK1:=hide HD7.out.chk1
      clear hb7 HK0 HL0 HL1
      go_wp2_with fail
      refine HK1.out.mono ?_
      rintro e w8 ⟨rfl,hb8⟩
      have HB8:=hide (HD7.out.later hb8).be
      clear hb8 HK1
      go_wp2
      go_ret
      exact ⟨rfl,HB8.out⟩
    ·have x0:¬ (i:Int)<(j:Int):=by omega
     have HP:=HP
     have hl50:=HP.out.len
     obtain ⟨LN,hLN⟩:∃ n,n=li.length:=⟨_,rfl⟩
     have HLN:=hide hLN
     have HR0:=hide HP.out.rng0
     clear hLN
     go_wp2_with fail
     refine HR0.out.mono ?_
     rintro e w3 ⟨f3,rfl,hp3,hb3⟩
     have HD3:=hide (HP.out.later hb3)
     have HP3:=hide hp3
     obtain ⟨a3,c3,e3⟩:=hp3.form
     rw [←HLN.out] at e3
     subst e3
     have HR1:=hide HD3.out.rng1
     clear hp3 hb3 HR0
     go_wp2_with fail
     refine HR1.out.mono ?_
     rintro e w4 ⟨f4,rfl,hp4,hb4⟩
     have HD4:=hide (HD3.out.later hb4)
     have HQ3:=hide (HP3.out.later hb4 HD3.out.bw)
     have HQ4:=hide hp4
     obtain ⟨a4,c4,e4⟩:=hp4.form
     rw [←HLN.out] at e4
     subst e4
     have HTD:=hide (told_any w4)
     clear hp4 hb4 HR1 HP3
     go_wp2_with fail
     refine HTD.out.mono ?_
     rintro e w5 ⟨rfl,hb5⟩
     have HD5:=hide (HD4.out.later hb5)
     have HSM:=hide (same_ok (HQ3.out.later hb5 HD4.out.bw) (HQ4.out.later hb5 HD4.out.bw) (by omega))
     clear hb5 HTD HQ3 HQ4
     go_wp2_with fail
     refine HSM.out.mono ?_
     rintro e w6 ⟨rfl,hb6⟩
     have HD6:=hide (HD5.out.later hb6)
     have HL0:=hide HD6.out.len0
     have HL1:=hide HD6.out.len1
     have HK0:=hide HD6.out.chk0
     rw [←HLN.out] at HL0 HL1
     clear hb6 HSM
     go_wp2_with fail
     refine HL0.out.mono ?_
     rintro e w7 ⟨rfl,hw⟩
     have hw:=hw.symm
     subst hw
     go_wp2_with fail
     refine HL1.out.mono ?_
     rintro e w7 ⟨rfl,hw⟩
     have hw:=hw.symm
     subst hw
     go_wp2_with fail
     refine HL0.out.mono ?_
     rintro e w7 ⟨rfl,hw⟩
     have hw:=hw.symm
     subst hw
     go_wp2_with fail
     refine HK0.out.mono ?_
     rintro e w7 ⟨rfl,hb7⟩
     have HD7:=hide (HD6.out.later hb7)
     have HK1:=hide HD7.out.chk1
     clear hb7 HK0 HL0 HL1
     go_wp2_with fail
     refine HK1.out.mono ?_
     rintro e w8 ⟨rfl,hb8⟩
     have HB8:=hide (HD7.out.later hb8).be
     clear hb8 HK1
     go_wp2
     go_ret
     exact ⟨rfl,HB8.out⟩
end Go.Proofs.YtohgmapjokaibaaGreat
namespace Go.Proofs.YtohgmapjokaibaaGreat
open Go.ChangeShapes Go.WideShapes Go.ChangeAt Go.RowKit
set_option linter.unusedVariables false
theorem aEk (os:Os) (started:os.Started) (H:Type) (enc:TypeId×Value→H) :
  ReturnsInHanded {} Tryz.checked os 3 .any (Rows.treeOrdersSpec.pre6 enc Tryz.prog Tryz.f3 Rows.treeOrdersRow.domain false) (Rows.treeOrdersSpec.post enc Tryz.prog Tryz.f3 false true false false):=by
 refine returnsInHanded_of_change_sized (C:=Tryz.checked) own started (by kernel_rfl) Tryz.func3
  (ChangeSpec.witness6 (enc:=enc) (C:=Tryz.checked) false ⟨#[],#[.slice none 0 0,.slice none 0 0],[]⟩ 8 (by kernel_rfl) (by kernel_rfl) (by kernel_rfl) (by kernel_rfl)) ?_
 intro W base args ds gs before hval0 hW hcnd hsz0 _
 have hval:∀ (j:Nat) t v,Tryz.f3.params[j]?=some t→args[j]?=some v→Value.okWide Tryz.prog W .any base t v:=hval0
 have hsz:(DataW.weightsEach Tryz.prog (Tryz.f3.params.toList++Rows.treeOrdersSpec.plain.varTypes Tryz.prog) (ds++gs)).all (·≤reachBytes)=true:=hsz0
 have hW':=hW
 obtain ⟨p,q,hA0,hV,rfl,hfz,hnd⟩:=hW
 have hA:DataW.TrodAll enc Tryz.prog W 0 (fun _=>true) true Tryz.f3.params.toList args.toList ds p:=hA0
 rw [Tryz.params3] at hA hval hsz
 obtain ⟨v0,vs0,d0,ds0,p0,q0,hargs,rfl,rfl,h0,r0⟩:=trodAll_cons hA
 obtain ⟨v1,vs1,d1,ds1,p1,q1,rfl,rfl,rfl,h1,r1⟩:=trodAll_cons r0
 obtain ⟨rfl,rfl,rfl⟩:=trodAll_nil r1
 obtain rfl:args=#[v0,v1]:=by cases args;simp_all
 obtain ⟨rfl,rfl⟩:=trodVars_none hV
 obtain ⟨a0,len0,cap0,rfl⟩:=okWide_slice Tryz.underlying22 (hval 0 22 v0 rfl rfl)
 have k0:=h0
 have lt0:∀ x∈p0,x.block<W.heap.size:=by obtain ⟨m,hm⟩:=k0;exact DataW.trod_lt m _ _ _ hm
 obtain ⟨b0,o0,A0,L0,C0,tf0,w0⟩:=open_texts 64 (by omega) h0
 obtain ⟨a1,len1,cap1,rfl⟩:=okWide_slice Tryz.underlying23 (hval 1 23 v1 rfl rfl)
 have k1:=h1
 have lt1:∀ x∈p1,x.block<W.heap.size:=by obtain ⟨m,hm⟩:=k1;exact DataW.trod_lt m _ _ _ hm
 obtain ⟨xs1,w1,s1⟩:=open_bl h1
 clear hA0 hval0 hsz0
 refine (aFj a0 len0 cap0 b0 o0 A0 L0 C0 tf0 a1 len1 cap1 xs1 W w0 w1 s1).mono fun e W' ⟨he,bel⟩=>?_
 subst he
 exact ⟨_,rfl,_,_,_,[],_,[],hW',trodAll_mk1 (shut_bool Tryz.underlying4 _),(trodAll_cons_mk (Below.trod laidOut (by kernel_rfl) (of_decide_eq_true (by kernel_rfl)) k0 bel lt0) (trodAll_cons_mk (Below.trod laidOut (by kernel_rfl) (of_decide_eq_true (by kernel_rfl)) k1 bel lt1) trodAll_mk0)),rfl,bel.frame _,fun h=>by cases h⟩
theorem treeOrders_holds:Rows.TreeOrdersSaid :=
 OpenClaim.holds_of_wide 3 Tryz.f3 rfl rfl rfl rfl rfl rfl rfl ⟨rfl,rfl,rfl,rfl,rfl⟩ rfl rfl rfl rfl rfl (by kernel_rfl) Tryz.func3 (by kernel_rfl)
  (of_decide_eq_true (by kernel_rfl)) (by unfold Func.isWrapper;first | (rw [if_pos (by decide +kernel)];kernel_rfl) | (rw [if_neg (by decide +kernel)];exact ⟨rfl,rfl⟩))
  (fun os started H enc _=>aEk os started H enc)
#print axioms treeOrders_holds
end Go.Proofs.YtohgmapjokaibaaGreat
