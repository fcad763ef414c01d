/- The law TreeFull holds for every input: called with whatever values of its parameters' types it returns true, and each argument reads afterwards as it read before. No condition beyond the form's own reach. -/
import Derived.Test.YtlmaolfajcgmiaaGreatZ51
import Derived.Test.YtlmaolfajcgmiaaGreatZ23
set_option maxRecDepth 100000
set_option maxHeartbeats 16000000
set_option linter.unusedVariables false
namespace Go.Proofs.YtlmaolfajcgmiaaGreat
open Go.RowKit
theorem aGh (a0:Option Addr) (T cap0 b0 o0:Nat) (A:Nat→Option Addr) (L C:Nat→Nat) (tf:Nat→List Nat) (a1:Option Addr) (n1 c1:Nat) (xs:List Nat) (W:World) (h0:TXS W a0 T 64 b0 o0 A L C tf) (h1:BS W a1 n1 c1 xs) (h1b:∀ x,a1=some x→x.block<W.heap.size) :
  Calls Tryz.prog 6 #[.slice a0 T cap0,.slice a1 n1 c1] W fun e w'=>e=.returned (.bool true)∧Below W.heap.size W w':=by
 letI:Gd:=⟨none⟩
 have hg0:Hid (Gd.g=none):=rfl
 have H0:=hide h0
 have hT63:=h0.hl
 have HOP:=hide (open_any (n:=16) hg0.out W (by decide) (by decide))
 generalize hB:W.heap.size=B at *
 obtain ⟨m1,hm1⟩:∃ m,m=min n1 1800:=⟨_,rfl⟩
 have hcp1:=h1.hcap
 have hmx1:=h1.hmax
 have e0:(if (1800:Int)<(n1:Int) then (1800:Int) else (n1:Int))=(m1:Int):=by split<;>omega
 have em1:min (n1:Int) 1800=(m1:Int):=by omega
 have q0:(0:Int)≤(m1:Int):=by omega
 have q1:(m1:Int)≤(c1:Int):=by omega
 have q2:(c1:Int)≤9223372036854775807:=by omega
 have q3:m1≤1800:=by omega
 have hbv:BS W a1 m1 c1 (xs.take m1):=by
  refine ⟨?_,by omega,by have:=h1.hroom;omega,h1.hmax,fun n hn=>h1.hbyte n (List.mem_of_mem_take hn),h1.hnil,fun x hx i hi=>?_⟩
  ·rw [List.length_take,h1.hlen];omega
  ·rw [h1.hcell x hx i (by omega)]
   congr 2
   rw [List.getD_eq_getElem?_getD,List.getD_eq_getElem?_getD,List.getElem?_take,if_pos hi]
 have HBV:Hid (∀ wx,Below B W wx→BK B wx a1 m1 c1 (xs.take m1)):=fun wx hb=>⟨hbv.later hb (by rw [hB];exact nR B),fun x hx=>Or.inl (h1b x hx)⟩
 have HVL:=hide hbv.hlen
 have HVY:=hide hbv.hbyte
 clear h0 h1 h1b hbv hm1 hcp1 hmx1
 generalize xs.take m1=vv at *
 go_enter Tryz.func6,Tryz.ntmps6
 go_wp2_with fail
 refine HOP.out.mono ?_
 rintro e w1 ⟨p,g,rfl,hgB,hO,hb1⟩
 obtain ⟨q,hP0⟩:=hO.fli hb1
 have HP0:=hide hP0
 clear hgB hO hb1 HOP hP0
 go_wp2_with fail
 go_loopw [7,9] (fun v i wx=>∃ (j:Nat) (l:List It) (F d:Nat),j≤60∧i=.int .i64 j∧FLI B p q g j l F d W wx∧PRW B B wx v l) (fun _ i _=>60-(intOf i).toNat)
 case atStart=>exact ⟨0,[],14,0,by omega,rfl,HP0.out,PRW.nil _ _ _⟩
 case round =>
  obtain ⟨j,l,F,d,hj,rfl,hP,hV⟩:=hrel
  rename_i v
  have HP:=hide hP
  have HV:=hide hV
  obtain ⟨va,vc,rfl⟩:=hV.form
  clear hP hV HP0
  generalize hNN:l.length=NN at *
  have HNN:=hide hNN
  clear hNN
  by_cases hjT:j<T
  ·have i1:(j:Int)<(T:Int):=by omega
   by_cases hj8:j<60
   ·have i0:(j:Int)<60:=by omega
    obtain rfl:a0=some ⟨b0,o0,none⟩:=H0.out.place (by omega)
    have HC0:=hide (H0.out.cell j (by omega))
    have hcp:=H0.out.cap j (by omega)
    have HBS:=hide (H0.out.bs j (by omega))
    obtain ⟨aa,haa⟩:∃ x,A j=x:=⟨_,rfl⟩
    obtain ⟨ll,hll⟩:∃ x,L j=x:=⟨_,rfl⟩
    obtain ⟨cc,hcc⟩:∃ x,C j=x:=⟨_,rfl⟩
    obtain ⟨m,hm⟩:∃ m,m=min ll 64:=⟨_,rfl⟩
    rw [haa,hll,hcc] at HC0
    rw [haa,hll,hcc,←hm] at HBS
    rw [hll,hcc] at hcp
    have em:min (ll:Int) 64=(m:Int):=by omega
    have u0:(0:Int)≤(m:Int):=by omega
    have v0:(m:Int)≤(cc:Int):=by omega
    have m64:m≤64:=by omega
    have y0:(cc:Int)≤9223372036854775807:=by omega
    have hdr:Below wr.heap.size wr wr.drew:=(Below.refl _ _).drew
    have HT1:=hide (HP.out.later hdr)
    have HV1:=hide (HV.out.later hdr HP.out.bw)
    have HX0:Hid ((fun wx=>wx.cell? ⟨b0,o0+j,none⟩=some (.slice aa ll cc)) wr.drew):=(HT1.out.be.cell (p:=⟨b0,o0+j,none⟩) (by rw [←hB];exact block_lt_of_cell HC0.out)).trans HC0.out
    clear hcp hm hdr HP HV
    go_upto_region 9 with fail
    refine wp_region_noPanic ?_
    refine wp_region_held_drew (S:=fun wx=>wx.cell? ⟨b0,o0+j,none⟩=some (.slice aa ll cc)) (by kernel_rfl) HX0.out (fun hHeld=>?_)
    refine wpAnyH_tk 0 36 ?_
    refine wpAnyH_tk 1 37 ?_
    refine wpAnyH_tk 2 38 ?_
    refine wpAnyH_tk 3 39 ?_
    refine wpAnyH_tk 4 40 ?_
    refine wpAnyH_tk 5 41 ?_
    refine wpAnyH_tk 6 42 ?_
    refine wpAnyH_tk 7 43 ?_
    refine wpAnyH_tk 8 44 ?_
    refine wpAnyH_tk 9 45 ?_
    refine wpAnyH_tk 10 46 ?_
    refine wpAnyH_tk 11 10 ?_
    refine wpAnyH_done (by kernel_rfl) ?_ _
    refine NoPanic.normal ?_
    clear hHeld HX0
    generalize wr.drew=w2 at *
    by_cases hm0:m=0
    ·subst hm0
     go_wp2_with fail
     go_roundw
     case rel=>exact ⟨j+1,l,F,d,by omega,by go_num,HT1.out.next,HV1.out⟩
     case measure=>simp [intOf];omega
    ·have z0:¬ (m:Int)=0:=by omega
     have HK1:=hide (arg_bk (b0:=b0) hB HBS.out HT1.out.be (by omega))
     have hok:ItOk (tf j,vv):=by
      refine ⟨fun q9=>?_,?_,?_,HBS.out.hbyte,HVY.out⟩
      ·have h9:=HBS.out.hlen
       have q9:tf j=[]:=q9
       rw [q9] at h9
       simp at h9
       omega
      ·show (tf j).length≤64
       rw [HBS.out.hlen];exact m64
      ·show vv.length≤1800
       rw [HVL.out];exact q3
     have HPU:=hide (HT1.out.Put hg0.out hj (tf j,vv) hok HBS.out.hlen HVL.out HK1.out (HBV.out _ HT1.out.be))
     have HLF:=hide HT1.out.Left
     have HDP:=hide HT1.out.Depth
     have hsm:=HT1.out.small hj
     have s1:(F:Int)≤14:=by omega
     have s2:(d:Int)≤4:=by omega
     have HSR:=hide HT1.out.srt
     clear hsm hok
     go_wp2_with fail
     refine HLF.out.mono ?_
     rintro e w9 ⟨rfl,hw⟩
     have hw:=hw.symm
     subst hw
     go_wp2_with fail
     refine HDP.out.mono ?_
     rintro e w9 ⟨rfl,hw⟩
     have hw:=hw.symm
     subst hw
     go_wp2_with fail
     refine HPU.out.mono ?_
     rintro e w3 ⟨hnf,(⟨rfl,hJ⟩ | ⟨rfl,hJ,hlt⟩)⟩
     ·have HJ3:=hide hJ
      have HW3:=hide (HV1.out.nf hnf)
      have HRP:=hide (refPut_ok (it:=(tf j,vv)) HW3.out HSR.out.1 (arg_bk (b0:=b0) hB HBS.out (HT1.out.be.trans hnf.1) (by omega)) (HBV.out _ (HT1.out.be.trans hnf.1)) hJ.bw (by have:=HSR.out.2;omega) (by omega) (by omega))
      clear hJ hnf
      go_wp2_with fail
      refine HRP.out.mono ?_
      rintro e w4 ⟨v4,rfl,hp4,hb4⟩
      obtain ⟨v4a,v4c,rfl⟩:=hp4.form
      have HJ:=hide (HJ3.out.later hb4)
      have HW:=hide (hp4.lowB HJ3.out.bw)
      have HLL:Hid ((putL l (tf j,vv)).length≤100000):=by
       show _≤_
       have h8:=HSR.out.2
       rw [aDj];split<;>omega
      clear hp4 hb4 HRP
      have HRG:=hide (HJ.out.Range hj)
      go_wp2_with fail
      refine HRG.out.mono ?_
      rintro e w5 ⟨fv,rfl,hp5,hb5⟩
      obtain ⟨fa,fc,rfl⟩:=hp5.form
      have HJ5:=hide (HJ.out.later hb5)
      have HW5:=hide (HW.out.later hb5 HJ.out.bw)
      have HSM:=hide (same_ok hp5 HW5.out HLL.out)
      generalize hLN:(putL l (tf j,vv)).length=LN at *
      have HLN:=hide hLN
      clear hLN hp5 hb5 HRG
      go_wp2_with fail
      refine HSM.out.mono ?_
      rintro e w6 ⟨rfl,hb6⟩
      have HJ6:=hide (HJ5.out.later hb6)
      have HW6:=hide (HW5.out.later hb6 HJ5.out.bw)
      have HCK:=hide (HJ6.out.check hj)
      clear hb6 HSM
      go_wp2_with fail
      refine HCK.out.mono ?_
      rintro e w7 ⟨rfl,hb7⟩
      have HJ7:=hide (HJ6.out.later hb7)
      have HW7:=hide (HW6.out.later hb7 HJ6.out.bw)
      have HCM:=hide (HJ7.out.commit hj)
      clear hb7 HCK
      go_wp2_with fail
      refine HCM.out.mono ?_
      rintro e w8 ⟨rfl,hnf8,F8,d8,hI8⟩
      have HI8:=hide hI8
      have HW8:=hide (HW7.out.nf hnf8)
      clear hnf8 hI8 HCM
      go_wp2_with fail
      go_roundw
      case rel=>exact ⟨j+1,putL l (tf j,vv),F8,d8,by omega,by go_num,HI8.out,HW8.out⟩
      case measure=>simp [intOf];omega
     ·have HJ:=hide hJ
      have HW:=hide (HV1.out.nf hnf)
      have HLL:Hid (l.length≤100000):=by show _≤_;have:=HSR.out.2;omega
      have x1:¬ (F:Int)≥2*(d:Int)+1:=by omega
      have x2:¬ 2*(d:Int)+1≤(F:Int):=by omega
      have x3:(F:Int)<2*(d:Int)+1:=by omega
      clear hJ hnf hlt
      have HRG:=hide (HJ.out.Range hj)
      go_wp2_with fail
      refine HRG.out.mono ?_
      rintro e w5 ⟨fv,rfl,hp5,hb5⟩
      obtain ⟨fa,fc,rfl⟩:=hp5.form
      have HJ5:=hide (HJ.out.later hb5)
      have HW5:=hide (HW.out.later hb5 HJ.out.bw)
      have HSM:=hide (same_ok hp5 HW5.out HLL.out)
      generalize hLN:(l).length=LN at *
      have HLN:=hide hLN
      clear hLN hp5 hb5 HRG
      go_wp2_with fail
      refine HSM.out.mono ?_
      rintro e w6 ⟨rfl,hb6⟩
      have HJ6:=hide (HJ5.out.later hb6)
      have HW6:=hide (HW5.out.later hb6 HJ5.out.bw)
      have HCK:=hide (HJ6.out.check hj)
      clear hb6 HSM
      go_wp2_with fail
      refine HCK.out.mono ?_
      rintro e w7 ⟨rfl,hb7⟩
      have HJ7:=hide (HJ6.out.later hb7)
      have HW7:=hide (HW6.out.later hb7 HJ6.out.bw)
      have HCM:=hide (HJ7.out.commit hj)
      clear hb7 HCK
      go_wp2_with fail
      refine HCM.out.mono ?_
      rintro e w8 ⟨rfl,hnf8,F8,d8,hI8⟩
      have HI8:=hide hI8
      have HW8:=hide (HW7.out.nf hnf8)
      clear hnf8 hI8 HCM
      go_wp2_with fail
      go_roundw
      case rel=>exact ⟨j+1,l,F8,d8,by omega,by go_num,HI8.out,HW8.out⟩
      case measure=>simp [intOf];omega
   ·have i0:¬ (j:Int)<60:=by omega
    have HTD:=hide (told_any wr)
    go_wp2_with fail
    refine HTD.out.mono ?_
    rintro e w5 ⟨rfl,hb5⟩
    have HB7:=hide ((HP.out.later hb5).be)
    clear hb5 HTD
    go_wp2
    go_ret
    exact ⟨rfl,HB7.out⟩
  ·have i1:¬ (j:Int)<(T:Int):=by omega
   have HTD:=hide (told_any wr)
   go_wp2_with fail
   refine HTD.out.mono ?_
   rintro e w5 ⟨rfl,hb5⟩
   have HB7:=hide ((HP.out.later hb5).be)
   clear hb5 HTD
   go_wp2
   go_ret
   exact ⟨rfl,HB7.out⟩
end Go.Proofs.YtlmaolfajcgmiaaGreat
namespace Go.Proofs.YtlmaolfajcgmiaaGreat
open Go.ChangeShapes Go.WideShapes Go.ChangeAt Go.RowKit
set_option linter.unusedVariables false
theorem okWide_blk {P:Program} {w:World} {r:Reach} {base len cap:Nat} {t e:TypeId} {x:Addr} (ht:P.underlying t=some (.slice e)) (h:Value.okWide P w r base t (.slice (some x) len cap)):x.block<w.heap.size:=by
 simp only [Value.okWide,ht,Cell.okWide,Cell.ok] at h
 obtain ⟨_,_,_,_,row,cells,hs,_⟩:=h
 unfold World.shape? at hs
 cases hq:w.heap[x.block]? with
 | none=>simp [hq] at hs
 | some o=>exact (lO hq)
theorem aEy (os:Os) (started:os.Started) (H:Type) (enc:TypeId×Value→H) :
  ReturnsInHanded {} Tryz.checked os 6 .any (Rows.treeFullSpec.pre6 enc Tryz.prog Tryz.f6 Rows.treeFullRow.domain false) (Rows.treeFullSpec.post enc Tryz.prog Tryz.f6 false true false false):=by
 refine returnsInHanded_of_change_sized (C:=Tryz.checked) own started (by kernel_rfl) Tryz.func6
  (ChangeSpec.witness6 (enc:=enc) (C:=Tryz.checked) false ⟨#[],#[.slice none 0 0,.slice none 0 0],[]⟩ 8 (by kernel_rfl) (by kernel_rfl) (by kernel_rfl) (by kernel_rfl)) ?_
 intro W base args ds gs before hval0 hW hcnd hsz0 _
 have hval:∀ (j:Nat) t v,Tryz.f6.params[j]?=some t→args[j]?=some v→Value.okWide Tryz.prog W .any base t v:=hval0
 have hsz:(DataW.weightsEach Tryz.prog (Tryz.f6.params.toList++Rows.treeFullSpec.plain.varTypes Tryz.prog) (ds++gs)).all (·≤reachBytes)=true:=hsz0
 have hW':=hW
 obtain ⟨p,q,hA0,hV,rfl,hfz,hnd⟩:=hW
 have hA:DataW.TrodAll enc Tryz.prog W 0 (fun _=>true) true Tryz.f6.params.toList args.toList ds p:=hA0
 rw [Tryz.params6] at hA hval hsz
 obtain ⟨v0,vs0,d0,ds0,p0,q0,hargs,rfl,rfl,h0,r0⟩:=trodAll_cons hA
 obtain ⟨v1,vs1,d1,ds1,p1,q1,rfl,rfl,rfl,h1,r1⟩:=trodAll_cons r0
 obtain ⟨rfl,rfl,rfl⟩:=trodAll_nil r1
 obtain rfl:args=#[v0,v1]:=by cases args;simp_all
 obtain ⟨rfl,rfl⟩:=trodVars_none hV
 obtain ⟨a0,len0,cap0,rfl⟩:=okWide_slice Tryz.underlying55 (hval 0 55 v0 rfl rfl)
 have k0:=h0
 have lt0:∀ x∈p0,x.block<W.heap.size:=by obtain ⟨m,hm⟩:=k0;exact DataW.trod_lt m _ _ _ hm
 obtain ⟨b0,o0,A0,L0,C0,tf0,w0⟩:=open_texts 64 (by omega) h0
 obtain ⟨a1,len1,cap1,rfl⟩:=okWide_slice Tryz.underlying30 (hval 1 30 v1 rfl rfl)
 have z1:∀ x,a1=some x→x.block<W.heap.size:=fun x hx=>by subst hx;exact okWide_blk Tryz.underlying30 (hval 1 30 _ rfl rfl)
 have k1:=h1
 have lt1:∀ x∈p1,x.block<W.heap.size:=by obtain ⟨m,hm⟩:=k1;exact DataW.trod_lt m _ _ _ hm
 obtain ⟨xs1,w1,s1⟩:=open_bs 1 hsz rfl rfl h1
 clear hA0 hval0 hsz0
 refine (aGh a0 len0 cap0 b0 o0 A0 L0 C0 tf0 a1 len1 cap1 xs1 W w0 w1 z1).mono fun e W' ⟨he,bel⟩=>?_
 subst he
 exact ⟨_,rfl,_,_,_,[],_,[],hW',trodAll_mk1 (shut_bool Tryz.underlying4 _),(trodAll_cons_mk (Below.trod laidOut (by kernel_rfl) (of_decide_eq_true (by kernel_rfl)) k0 bel lt0) (trodAll_cons_mk (Below.trod laidOut (by kernel_rfl) (of_decide_eq_true (by kernel_rfl)) k1 bel lt1) trodAll_mk0)),rfl,bel.frame _,fun h=>by cases h⟩
theorem treeFull_holds:Rows.TreeFullSaid :=
 OpenClaim.holds_of_wide 6 Tryz.f6 rfl rfl rfl rfl rfl rfl rfl ⟨rfl,rfl,rfl,rfl,rfl⟩ rfl rfl rfl rfl rfl (by kernel_rfl) Tryz.func6 (by kernel_rfl)
  (of_decide_eq_true (by kernel_rfl)) (by unfold Func.isWrapper;first | (rw [if_pos (by decide +kernel)];kernel_rfl) | (rw [if_neg (by decide +kernel)];exact ⟨rfl,rfl⟩))
  (fun os started H enc _=>aEy os started H enc)
#print axioms treeFull_holds
end Go.Proofs.YtlmaolfajcgmiaaGreat
