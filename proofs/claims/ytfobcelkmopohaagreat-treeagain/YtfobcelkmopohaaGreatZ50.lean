/- The law TreeAgain holds for every input: called with whatever values of its parameters' types it returns true, and each argument reads afterwards as it read before. No condition beyond the form's own reach. -/
import Derived.Test.YtfobcelkmopohaaGreatZ49
import Derived.Test.YtfobcelkmopohaaGreatZ20
import Derived.Deep.CutBlock
set_option maxRecDepth 100000
set_option maxHeartbeats 16000000
set_option linter.unusedVariables false
namespace Go.Proofs.YtfobcelkmopohaaGreat
open Go.RowKit
theorem aEy {B m cc:Nat} {W wx:World} {aa:Option Addr} {ys:List Nat} (hB:W.heap.size=B) (h:BS W aa m cc ys) (hb:Below B W wx):BK B wx aa m cc ys:=by
 have hbs:=h.later hb (by rw [hB];exact nR B)
 refine ⟨hbs,fun x hx=>Or.inl ?_⟩
 subst hx
 by_cases hm:m=0
 ·exact Or.inl hm
 ·obtain ⟨bb,ob,e1,e2,e3⟩:=h.place (by omega)
  simp only [oI] at e1
  subst e1
  rw [<-hB]
  exact Or.inr (block_lt_of_cell (e3 0 (by omega)))
theorem aGm (a0:Option Addr) (T cap0:Nat) (q:Nat->AV) (W:World) (h0:AS W a0 T q) :
  Calls Tryz.prog 3 #[.slice a0 T cap0] W fun e w'=>e=.returned (.bool true)/\Below W.heap.size W w':=by
 have H0:=zH h0
 have hT63:=h0.hl
 have HOP:=zH (one_open (n:=700) W (by decide) (by decide))
 clear h0
 generalize hB:W.heap.size=B at *
 go_enter Tryz.func3,Tryz.ntmps3
 go_wp2_with fail
 refine HOP.o.mono ?_
 rintro e w1 ⟨p0,q0,g0,rfl,hO⟩
 have HO2:=zH (two_open hO (by decide) (by decide))
 clear hO HOP
 go_wp2_with fail
 refine HO2.o.mono ?_
 rintro e w2 ⟨p1,q1,g1,rfl,hO⟩
 have HP0:Hid (TAM B 0 0 p0 g0 g1 0 0 [] [] (PA 0 0) W w2):=⟨_,_,hO,⟨rfl,rfl,rfl⟩,⟨rfl,rfl,nR _,nR _⟩,⟨rfl,rfl,nR _,nR _⟩,⟨Nat.zero_le _,Nat.zero_le _⟩,rfl,rfl⟩
 clear hO HO2
 go_wp2_with fail
 go_loopw [4,7] (fun a i wx=>∃ (j g0 c:Nat) (l:List It),j<=T/\j<=40/\a=.pointer (some ⟨g0,0,none⟩)/\i=.int .i64 j/\TAM B j j p0 g0 g1 c c l l (PA c j) W wx) (fun _ i _=>40-(intOf i).toNat)
 case atStart=>exact ⟨0,g0,0,[],by omega,by omega,rfl,rfl,HP0.o⟩
 case round =>
  clear HP0
  obtain ⟨k,ga,c,l,hkl,hk40,rfl,rfl,hP⟩:=hrel
  have HP:=zH hP
  clear hP
  obtain ⟨cb,HCB⟩:∃ cb,Hid (cb=decide (k<T/\k<40)):=⟨_,rfl⟩
  go_upto_region 6 with fail
  go_cut [40] from 33 to 127 (fun c wx=>c=.bool cb/\wx=wr)
  case first =>
   by_cases c1:k<T
   ·have i1:(k:Int)<(T:Int):=by omega
    by_cases c2:k<40
    ·have i2:(k:Int)<40:=by omega
     go_wp2
     go_meet
     case rel=>exact ⟨by rw [HCB.o];simp [c1,c2],rfl⟩
    ·have i2:¬ (k:Int)<40:=by omega
     go_wp2
     go_meet
     case rel=>exact ⟨by rw [HCB.o];simp [c1,c2],rfl⟩
   ·have i1:¬ (k:Int)<(T:Int):=by omega
    go_wp2
    go_meet
    case rel=>exact ⟨by rw [HCB.o];simp [c1],rfl⟩
  case rest =>
   obtain ⟨hc1,hc2⟩:=hcut
   have hc2:=hc2.symm
   subst hc2 hc1
   by_cases hgo:k<T/\k<40
   ·obtain rfl:cb=true:=by rw [HCB.o];exact decide_eq_true hgo
    have i1:(k:Int)<(T:Int):=by omega
    obtain ⟨b,o,rfl,hall⟩:=H0.o.place (by omega)
    obtain ⟨hc,hok⟩:=hall k hgo.1
    generalize q k=av at *
    obtain ⟨kind,at_,ka,kl,kc,kx,va,vl,vc,vx,af,kp,tn,cu⟩:=av
    have HOK:=zH hok
    have hbe:=HP.o.be
    have lt9:∀ {ad:Addr} {v:Value},W.cell? ad=some v->ad.block<B:=fun h=>by rw [<-hB];exact aAi h
    have c0:=(hbe.cell (lt9 hc.c0)).trans hc.c0
    have c1:=(hbe.cell (lt9 hc.c1)).trans hc.c1
    have c2:=(hbe.cell (lt9 hc.c2)).trans hc.c2
    have c3:=(hbe.cell (lt9 hc.c3)).trans hc.c3
    have c4:=(hbe.cell (lt9 hc.c4)).trans hc.c4
    have c5:=(hbe.cell (lt9 hc.c5)).trans hc.c5
    have c6:=(hbe.cell (lt9 hc.c6)).trans hc.c6
    have c7:=(hbe.cell (lt9 hc.c7)).trans hc.c7
    simp only at c0 c1 c2 c3 c4 c5 c6 c7
    clear hc hall hok lt9 hbe
    have HBQ:=zH (aAb wr (.cells #[.int .i64 kind,.int .i64 at_,.slice ka kl kc,.slice va vl vc,.int .i64 af,.int .u64 (kp:Int),.int .i64 tn,.int .i64 cu] 32))
    have HNL:Hid ((wr.alloc (.cells #[.int .i64 kind,.int .i64 at_,.slice ka kl kc,.slice va vl vc,.int .i64 af,.int .u64 (kp:Int),.int .i64 tn,.int .i64 cu] 32)).heap[wr.heap.size]?=some (.cells #[.int .i64 kind,.int .i64 at_,.slice ka kl kc,.slice va vl vc,.int .i64 af,.int .u64 (kp:Int),.int .i64 tn,.int .i64 cu] 32 (0,0))):=heap_alloc_new wr _
    have HPX:=zH (HP.o.later HBQ.o)
    go_upto_region 9 with fail
    clear c0 c1 c2 c3 c4 c5 c6 c7 HP
    generalize wr.alloc (.cells #[.int .i64 kind,.int .i64 at_,.slice ka kl kc,.slice va vl vc,.int .i64 af,.int .u64 (kp:Int),.int .i64 tn,.int .i64 cu] 32)=wa at *
    generalize hL:wr.heap.size=L at *
    have hk1:k+1<=T:=hgo.1
    have hk2:k+1<=40:=hgo.2
    obtain ⟨m,hm⟩:∃ m,m=min kl 64:=⟨_,rfl⟩
    obtain ⟨n,hn⟩:∃ n,n=min vl 200:=⟨_,rfl⟩
    have hkc:kl<=kc:=HOK.o.lc
    have hvc:vl<=vc:=HOK.o.vlc
    have y0:(kc:Int)<=9223372036854775807:=by have:kc<=9223372036854775807:=HOK.o.cm;omega
    have y1:(vc:Int)<=9223372036854775807:=by have:vc<=9223372036854775807:=HOK.o.vcm;omega
    have em:min (kl:Int) 64=(m:Int):=by omega
    have en:min (vl:Int) 200=(n:Int):=by omega
    have u0:(0:Int)<=(m:Int):=by omega
    have v0:(m:Int)<=(kc:Int):=by omega
    have u1:(0:Int)<=(n:Int):=by omega
    have v1:(n:Int)<=(vc:Int):=by omega
    have HM64:Hid (m<=64):=by show m<=64;omega
    have HN200:Hid (n<=200):=by show n<=200;omega
    have HKS:Hid (BS W ka m kc kx):=by
     have:=HOK.o.bs
     rw [hm]
     exact this
    have HVS:Hid (BS W va n vc vx):=by
     have:=HOK.o.vbs
     rw [hn]
     exact this
    have HKP:Hid (kp<18446744073709551616):=HOK.o.keep
    have HPD:=zH (HPX.o.later (Below.refl _ _).drew)
    have HNLd:Hid (wa.drew.heap[L]?=some (.cells #[.int .i64 kind,.int .i64 at_,.slice ka kl kc,.slice va vl vc,.int .i64 af,.int .u64 (kp:Int),.int .i64 tn,.int .i64 cu] 32 (0,0))):=HNL.o
    have HX0:Hid ((fun wx=>wx.cell? ⟨L,2,none⟩=some (.slice ka kl kc)/\wx.cell? ⟨L,3,none⟩=some (.slice va vl vc)) wa.drew):=⟨aAa HNLd.o,aAa HNLd.o⟩
    clear hgo hm hn hkc hvc HPX HOK HBQ
    refine wp_region_noPanic ?_
    refine wp_region_held_drew (S:=fun wx=>wx.cell? ⟨L,2,none⟩=some (.slice ka kl kc)/\wx.cell? ⟨L,3,none⟩=some (.slice va vl vc)) (by kernel_rfl) HX0.o (fun hHeld=>?_)
    refine kT 0 47 ?_
    refine kT 1 48 ?_
    refine kT 2 49 ?_
    refine kT 3 50 ?_
    refine kT 4 51 ?_
    refine kT 5 52 ?_
    refine kT 6 53 ?_
    refine kT 7 54 ?_
    refine kT 8 55 ?_
    refine kT 9 56 ?_
    refine kT 10 57 ?_
    refine kT 11 58 ?_
    refine kT 12 59 ?_
    refine kT 13 60 ?_
    refine kT 14 9 ?_
    refine kT 15 10 ?_
    refine wpAnyH_done (by kernel_rfl) ?_ _
    refine NoPanic.normal ?_
    clear hHeld HX0 em en u0 u1 v0 v1 HNL
    generalize wa.drew=wb at *
    have e0:wb.cell? ⟨L,0,none⟩=some (.int .i64 kind):=aAa HNLd.o
    obtain ⟨ec,HEC⟩:∃ ec:Int,Hid (ec=if m=0 then 1 else 0):=⟨_,rfl⟩
    go_upto_block 2 with fail
    go_cut [4,11,12,13,14] from 33 to 127 (fun a _ _ _ _ wx=>∃ (g' c':Nat) (l':List It),a=.pointer (some ⟨g',0,none⟩)/\TAM B (k+1) (k+1) p0 g' g1 c' c' l' l' (PA c' (k+1)) W wx)
    case first =>
     by_cases k1:kind=1
     ·subst k1
      as_aux_lemma =>
       have HDL:=zH (HPD.o.del0 (PA.put c k) (by omega) kx HKS.o.hlen HM64.o (aEy hB HKS.o HPD.o.be))
       obtain ⟨bb,HBB⟩:∃ bb,Hid (bb=if m=0 then false else hasI l kx):=⟨_,rfl⟩
       rw [<-HEC.o,<-HBB.o] at HDL
       go_wp2_with fail
       refine HDL.o.mono ?_
       rintro e w3 ⟨rfl,hD⟩
       have HDM:=zH (hD.del1 (by omega) kx HKS.o.hlen HM64.o (aEy hB HKS.o hD.be))
       rw [<-HEC.o,<-HBB.o] at HDM
       clear hD HDL
       go_wp2_with fail
       refine HDM.o.mono ?_
       rintro e w4 ⟨rfl,hD⟩
       have HD:=zH (hD.turn (PA.pa (Nat.le_succ k)))
       clear hD HDM HBB
       cases bb<;>(
        go_wp2_with fail
        go_meet
        case rel=>exact ⟨ga,c,delV l kx,rfl,HD.o⟩)
     ·by_cases k4:kind=4\/kind=5\/kind=9
      ·as_aux_lemma =>
        have HC0:=zH (HPD.o.cmt0 (by omega))
        obtain ⟨kd,HKD⟩:∃ kd,Hid (kd=decide (kind=9)):=⟨_,rfl⟩
        have hfin:∀ (w4:World),TAM B (k+1) (k+1) p0 ga g1 (c+1) (c+1) l l (PC (c+1) k) W w4->TAM B (k+1) (k+1) p0 ga g1 (c+1) (c+1) l l (PA (c+1) (k+1)) W w4:=fun w4 h=>h.turn (PC.pa (Nat.le_succ k))
        have HFN:=zH hfin
        clear hfin
        have hk4:(kind=4\/kind=5)\/kind=9:=by omega
        rcases hk4 with hk4 | hk4
        ·have k9:¬ kind=9:=by omega
         rcases hk4 with rfl | rfl
         all_goals
          go_wp2_with fail
          refine HC0.o.mono ?_
          rintro e w3 ⟨rfl,hD,hkp⟩
          have HC1:=zH (hD.cmt1 (by omega))
          have HN3:=zH (hkp _ _ _ _ HNLd.o (by decide) (by decide))
          clear hD hkp
          go_wp2_with fail
          refine HC1.o.mono ?_
          rintro e w4 ⟨rfl,hD,hkp⟩
          have HD:=zH hD
          have HN4:=zH (hkp _ _ _ _ HN3.o (by decide) (by decide))
          clear hD hkp HC1 e0
          have e4:w4.cell? ⟨L,0,none⟩=_:=aAa HN4.o
          simp only [List.getElem?_toArray,List.getElem?_cons_zero] at e4
          go_wp2_with fail
          go_meet
          case rel=>exact ⟨ga,c+1,l,rfl,HFN.o _ HD.o⟩
        ·subst hk4
         go_wp2_with fail
         refine HC0.o.mono ?_
         rintro e w3 ⟨rfl,hD,hkp⟩
         have HC1:=zH (hD.cmt1 (by omega))
         have HN3:=zH (hkp _ _ _ _ HNLd.o (by decide) (by decide))
         clear hD hkp
         go_wp2_with fail
         refine HC1.o.mono ?_
         rintro e w4 ⟨rfl,hD,hkp⟩
         have HN4:=zH (hkp _ _ _ _ HN3.o (by decide) (by decide))
         have HAG:=zH (hD.again (by omega) (by omega) af kp tn cu HKP.o)
         clear hD hkp HC1 e0
         have e4:w4.cell? ⟨L,0,none⟩=some (.int .i64 9):=aAa HN4.o
         have f4:w4.cell? ⟨L,4,none⟩=some (.int .i64 af):=aAa HN4.o
         have f5:w4.cell? ⟨L,5,none⟩=some (.int .u64 (kp:Int)):=aAa HN4.o
         have f6:w4.cell? ⟨L,6,none⟩=some (.int .i64 tn):=aAa HN4.o
         have f7:w4.cell? ⟨L,7,none⟩=some (.int .i64 cu):=aAa HN4.o
         go_wp2_with fail
         refine HAG.o.mono ?_
         rintro e w5 ⟨g5,rfl,hD⟩
         have HD:=zH hD
         clear hD HAG
         go_wp2_with fail
         go_meet
         case rel=>exact ⟨g5,c+1,l,rfl,HD.o⟩
      ·have k5:¬ kind=5:=by omega
       have k9:¬ kind=9:=by omega
       have k44:¬ kind=4:=by omega
       clear k4
       as_aux_lemma =>
        have HPU:=zH (HPD.o.put0 (PA.put c k) (by omega) kx vx HKS.o.hbyte HVS.o.hbyte HKS.o.hlen HVS.o.hlen HM64.o HN200.o (aEy hB HKS.o HPD.o.be) (aEy hB HVS.o HPD.o.be))
        rw [<-HEC.o] at HPU
        go_wp2_with fail
        refine HPU.o.mono ?_
        rintro e w3 ⟨rfl,hD⟩
        have HPV:=zH (hD.put1 (by omega) kx vx HKS.o.hbyte HVS.o.hbyte HKS.o.hlen HVS.o.hlen HM64.o HN200.o (aEy hB HKS.o hD.be) (aEy hB HVS.o hD.be))
        rw [<-HEC.o] at HPV
        clear hD HPU
        go_wp2_with fail
        refine HPV.o.mono ?_
        rintro e w4 ⟨rfl,hD⟩
        have HD:=zH (hD.turn (PA.pa (Nat.le_succ k)))
        clear hD HPV
        go_wp2_with fail
        go_meet
        case rel=>exact ⟨ga,c,putV l kx vx,rfl,HD.o⟩
    case rest =>
     clear HPD e0 HNLd HKS HVS HKP
     obtain ⟨g',c',l',rfl,hD⟩:=hcut
     have HD:=zH hD
     have HL0:=zH hD.len0
     have HL1:=zH hD.len1
     have HN0:=zH hD.num0
     have HN1:=zH hD.num1
     generalize hll:l'.length=ll at *
     clear hD
     go_wp2_with fail
     refine HL0.o.mono ?_
     rintro e w7 ⟨rfl,hw⟩
     have hw:=hw.symm
     subst hw
     go_wp2_with fail
     refine HL1.o.mono ?_
     rintro e w7 ⟨rfl,hw⟩
     have hw:=hw.symm
     subst hw
     go_wp2_with fail
     refine HN0.o.mono ?_
     rintro e w7 ⟨rfl,hw⟩
     have hw:=hw.symm
     subst hw
     go_wp2_with fail
     refine HN1.o.mono ?_
     rintro e w7 ⟨rfl,hw⟩
     have hw:=hw.symm
     subst hw
     go_wp2_with fail
     go_roundw
     case rel=>exact ⟨k+1,g',c',l',hk1,hk2,rfl,by go_num,HD.o⟩
     case measure=>simp [intOf];omega
   ·obtain rfl:cb=false:=by rw [HCB.o];exact decide_eq_false hgo
    clear HCB hgo
    have hl40:=HP.o.len.1
    obtain ⟨LN,hLN⟩:∃ n,n=l.length:=⟨_,rfl⟩
    have HLN:=zH hLN
    have HR0:=zH HP.o.rng0
    have HL4:Hid (l.length<=100000):=by show _<=_;omega
    clear hLN hl40
    go_wp2_with fail
    refine HR0.o.mono ?_
    rintro e w3 ⟨f3,rfl,hp3,hb3⟩
    have HD3:=zH (HP.o.later hb3)
    have HP3:=zH hp3
    obtain ⟨a3,c3,e3⟩:=hp3.form
    rw [<-HLN.o] at e3
    subst e3
    have HR1:=zH HD3.o.rng1
    clear hp3 hb3 HR0
    go_wp2_with fail
    refine HR1.o.mono ?_
    rintro e w4 ⟨f4,rfl,hp4,hb4⟩
    have HD4:=zH (HD3.o.later hb4)
    have HQ3:=zH (HP3.o.later hb4 HD3.o.bw)
    have HQ4:=zH hp4
    obtain ⟨a4,c4,e4⟩:=hp4.form
    rw [<-HLN.o] at e4
    subst e4
    have HTD:=zH (told_any w4)
    clear hp4 hb4 HR1 HP3
    go_wp2_with fail
    refine HTD.o.mono ?_
    rintro e w5 ⟨rfl,hb5⟩
    have HD5:=zH (HD4.o.later hb5)
    have HSM:=zH (same_ok (HQ3.o.later hb5 HD4.o.bw) (HQ4.o.later hb5 HD4.o.bw) HL4.o)
    clear hb5 HTD HQ3 HQ4
    go_wp2_with fail
    refine HSM.o.mono ?_
    rintro e w6 ⟨rfl,hb6⟩
    have HD6:=zH (HD5.o.later hb6)
    have HK0:=zH HD6.o.chk0
    clear hb6 HSM
    go_wp2_with fail
    refine HK0.o.mono ?_
    rintro e w7 ⟨rfl,hb7⟩
    have HB8:=zH (HD6.o.later hb7).be
    clear hb7 HK0
    go_wp2
    go_ret
    exact ⟨rfl,HB8.o⟩
end Go.Proofs.YtfobcelkmopohaaGreat
namespace Go.Proofs.YtfobcelkmopohaaGreat
open Go.ChangeShapes Go.WideShapes Go.ChangeAt Go.RowKit
set_option linter.unusedVariables false
theorem aFa (os:Os) (started:os.Started) (H:Type) (enc:TypeId×Value->H) :
  ReturnsInHanded {} Tryz.checked os 3 .any (Rows.treeAgainSpec.pre6 enc Tryz.prog Tryz.f3 Rows.treeAgainRow.domain false) (Rows.treeAgainSpec.post enc Tryz.prog Tryz.f3 false true false false):=by
 refine returnsInHanded_of_change_sized (C:=Tryz.checked) own started (by kernel_rfl) Tryz.func3
  (ChangeSpec.witness6 (enc:=enc) (C:=Tryz.checked) false ⟨#[],#[.slice none 0 0],[]⟩ 8 (by kernel_rfl) (by kernel_rfl) (by kernel_rfl) (by kernel_rfl)) ?_
 intro W base args ds gs before hval0 hW hcnd hsz0 _
 have hval:∀ (j:Nat) t v,Tryz.f3.params[j]?=some t->args[j]?=some v->Value.okWide Tryz.prog W .any base t v:=hval0
 have hsz:(DataW.weightsEach Tryz.prog (Tryz.f3.params.toList++Rows.treeAgainSpec.plain.varTypes Tryz.prog) (ds++gs)).all (·<=reachBytes)=true:=hsz0
 have hW':=hW
 obtain ⟨p,q,hA0,hV,rfl,hfz,hnd⟩:=hW
 have hA:DataW.TrodAll enc Tryz.prog W 0 (fun _=>true) true Tryz.f3.params.toList args.toList ds p:=hA0
 rw [Tryz.params3] at hA hval hsz
 obtain ⟨v0,vs0,d0,ds0,p0,q0,hargs,rfl,rfl,h0,r0⟩:=trodAll_cons hA
 obtain ⟨rfl,rfl,rfl⟩:=trodAll_nil r0
 obtain rfl:args=#[v0]:=by cases args;simp_all
 obtain ⟨rfl,rfl⟩:=trodVars_none hV
 obtain ⟨a0,len0,cap0,rfl⟩:=okWide_slice Tryz.underlying22 (hval 0 22 v0 rfl rfl)
 have k0:=h0
 have lt0:∀ x∈p0,x.block<W.heap.size:=by obtain ⟨m,hm⟩:=k0;exact DataW.trod_lt m _ _ _ hm
 obtain ⟨xs0,w0⟩:=open_as h0
 clear hA0 hval0 hsz0
 refine (aGm a0 len0 cap0 xs0 W w0).mono fun e W' ⟨he,bel⟩=>?_
 subst he
 exact ⟨_,rfl,_,_,_,[],_,[],hW',trodAll_mk1 (shut_bool Tryz.underlying4 _),(trodAll_cons_mk (Below.trod laidOut (by kernel_rfl) (of_decide_eq_true (by kernel_rfl)) k0 bel lt0) trodAll_mk0),rfl,bel.frame _,fun h=>by cases h⟩
theorem treeAgain_holds:Rows.TreeAgainSaid :=
 OpenClaim.holds_of_wide 3 Tryz.f3 rfl rfl rfl rfl rfl rfl rfl ⟨rfl,rfl,rfl,rfl,rfl⟩ rfl rfl rfl rfl rfl (by kernel_rfl) Tryz.func3 (by kernel_rfl)
  (of_decide_eq_true (by kernel_rfl)) (by unfold Func.isWrapper;first | (rw [if_pos (by decide +kernel)];kernel_rfl) | (rw [if_neg (by decide +kernel)];exact ⟨rfl,rfl⟩))
  (fun os started H enc _=>aFa os started H enc)
#print axioms treeAgain_holds
end Go.Proofs.YtfobcelkmopohaaGreat
