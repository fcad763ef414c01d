/- The law DraftBack holds for every input: called with whatever values of its parameters' types it returns true, and each argument reads afterwards as it read before. No condition beyond the form's own reach. -/
import Derived.Test.YthgleplmbnkacaaGreatZ48
import Derived.Test.YthgleplmbnkacaaGreatZ49
set_option maxRecDepth 100000
set_option maxHeartbeats 16000000
set_option linter.unusedVariables false
namespace Go.Proofs.YthgleplmbnkacaaGreat
open Go.RowKit
theorem RwK.fr {te k:Nat} {f:CE→List Value} {B B1 db ls:Nat} {w2 w w':World} {u v v':Value} {F cs:List Ch} (h:RwK te k f B B1 w u F) (d:DD B db ls v cs w2) (hs:w2.heap.size≤B1) (fr:DFr B db v w v' w'):RwK te k f B B1 w' u F :=
 h.keep fr.ft fun i hi=>by
  obtain ⟨h1,h2,_⟩:=h.blk hi
  refine fr.blk i h2 (by have:=d.bw;omega) fun q=>?_
  have:=(d.row.blk q).2.1
  omega
theorem aDj (a0:Option Addr) (l0 c0:Nat) (q0:Nat→AV) (a1:Option Addr) (l1 c1:Nat) (q1:Nat→AV) (W:World) (h0:AS W a0 l0 q0) (h1:AS W a1 l1 q1) :
  Calls Tryz.prog 4 #[.slice a0 l0 c0,.slice a1 l1 c1] W fun e w'=>e=.returned (.bool true)∧Below W.heap.size W w':=by
 letI:Gd:=⟨fun _=>False⟩
 have HNW:=hide (lnew_ok W (fun _ h=>False.elim h))
 obtain ⟨B,hB⟩:∃ B,W.heap.size=B:=⟨_,rfl⟩
 have HA0:=hide (h0.ap hB)
 have HA1:=hide (h1.ap hB)
 have HO0:Hid (∀ i,i<l0→(q0 i).Ok W):=fun i hi=>h0.ok hi
 have HO1:Hid (∀ i,i<l1→(q1 i).Ok W):=fun i hi=>h1.ok hi
 have HL0:=hide h0.hl
 have HL1:=hide h1.hl
 have HB:=hide hB
 rw [hB] at HNW ⊢
 clear hB h0 h1
 go_enter Tryz.func4,Tryz.ntmps4
 go_wp2_with fail
 refine HNW.out.mono ?_
 rintro e w1 ⟨p,q,g,ls,db,w0,rfl,hd1,hb1⟩
 have hb1':Below W.heap.size W w1:=by rw [HB.out];exact hb1
 have HR:=hide (run_ok (cap:=c0) (most:=20) HB.out hd1 (HA0.out.later hb1') HO0.out HL0.out (by decide) (by decide))
 have HA1':=hide (HA1.out.later hb1')
 have HD1:=hide hd1
 clear hd1 hb1 hb1' HNW HA0 HA1 HO0
 go_wp2_with fail
 refine HR.out.mono ?_
 rintro e w2 ⟨rfl,v2,hd2,hf2⟩
 have HA2:=hide (HA1'.out.fr HD1.out.dd hf2)
 obtain ⟨cs,hcs⟩:∃ cs,runC [] q0 (min l0 20)=cs:=⟨_,rfl⟩
 have HCL:Hid (cs.length≤20):=by
  show _≤_
  obtain ⟨m,e1,e2⟩:=aCw [] q0 (min l0 20)
  rw [←hcs,e1,List.nil_append]
  omega
 rw [hcs] at hd2
 obtain ⟨M,hM⟩:∃ M,cs.length=M:=⟨_,rfl⟩
 have HM:=hide hM
 have HM20:Hid (M≤20):=by show _≤_;rw [←hM];exact HCL.out
 have HD2:=hide hd2
 have HMK:=hide (aD0 hd2.dd)
 rw [hM] at HMK
 clear hd2 hf2 HR HD1 HA1' hcs hM
 go_wp2_with fail
 refine HMK.out.mono ?_
 rintro e w9 ⟨rfl,hw⟩
 have hw:=hw.symm
 subst hw
 clear hw HMK
 have HAL:=hide (all_ok HD2.out.now HD2.out.dd (by have:=HCL.out;omega))
 go_wp2_with fail
 refine HAL.out.mono ?_
 rintro e w3 ⟨vw,rfl,hr3,hb3⟩
 have HW3:=hide hr3
 have HD3:=hide (HD2.out.later hb3)
 have HA3:=hide (HA2.out.later hb3)
 have HS3:Hid (w2.heap.size≤w3.heap.size):=hb3.size
 clear hr3 hb3 HAL HA2
 have HCH:=hide (aCj HD3.out.dd (by have:=HCL.out;omega))
 go_wp2_with fail
 refine HCH.out.mono ?_
 rintro e w4 ⟨vc,rfl,hr4,hb4⟩
 have HC4:=hide hr4
 have HW4:=hide (HW3.out.later hb4 HD3.out.bw)
 have HD4:=hide (HD3.out.later hb4)
 have HA4:=hide (HA3.out.later hb4)
 clear hr4 hb4 HCH HA3 HW3 HD3
 have HR:=hide (run_ok (cap:=c1) (most:=20) HB.out HD4.out HA4.out HO1.out HL1.out (by decide) (by have:=HCL.out;omega))
 go_wp2_with fail
 refine HR.out.mono ?_
 rintro e w5 ⟨rfl,v5,hd5,hf5⟩
 obtain ⟨mo,hmo,hml⟩:=aCw cs q1 (min l1 20)
 rw [hmo] at hd5
 have HD5:=hide hd5
 have HF5:=hide hf5
 have HLN:Hid ((cs++mo).length≤1000):=by show _≤_;rw [lA];have:=HCL.out;omega
 obtain ⟨K,hK⟩:∃ K,(cs++mo).length=K:=⟨_,rfl⟩
 have HKM:Hid (M≤K):=by show _≤_;rw [←hK,←HM.out,lA];omega
 have hkm:¬ (K:Int)<(M:Int):=by have:=HKM.out;omega
 have HMK:=hide (aD0 hd5.dd)
 have HBK:=hide (back_ok (m:=M) hd5.dd HLN.out (by rw [hK];exact HKM.out))
 rw [show (cs++mo).take M=cs from by rw [←HM.out];simp] at HBK
 rw [hK] at HMK
 clear hd5 hf5 hmo hml HR HA4 hK
 go_wp2_with fail
 refine HMK.out.mono ?_
 rintro e w9 ⟨rfl,hw⟩
 have hw:=hw.symm
 subst hw
 clear hw HMK
 go_wp2_with fail
 refine HBK.out.mono ?_
 rintro e w6 ⟨v6,rfl,hd6,hf6⟩
 have HD6:=hide (HD5.out.fr hd6 hf6)
 have hf46:=HF5.out.trans hf6
 have HW6:=hide (HW4.out.fr HD2.out.dd (nR _) hf46)
 have HC6:=hide (HC4.out.fr HD2.out.dd HS3.out hf46)
 clear hd6 hf6 hf46 HBK HF5 HW4 HC4 HD5
 have HN1:=hide (back_no (m:=(M:Int)+1) HD6.out.dd (Or.inr (by rw [HM.out];omega)))
 have HN2:=hide (back_no (m:=-1) HD6.out.dd (Or.inl (by decide)))
 have hm20:(M:Int)≤20:=by have:=HM20.out;omega
 go_wp2_with fail
 refine HN1.out.mono ?_
 rintro e w9 ⟨rfl,hw⟩
 have hw:=hw.symm
 subst hw
 clear hw HN1
 go_wp2_with fail
 refine HN2.out.mono ?_
 rintro e w9 ⟨rfl,hw⟩
 have hw:=hw.symm
 subst hw
 clear hw HN2
 go_wp2_with fail
 refine (told13 w6).mono ?_
 rintro e w7 ⟨rfl,hb7⟩
 have HD7:=hide (HD6.out.later hb7)
 have HW7:=hide (HW6.out.later hb7 HD6.out.bw)
 have HC7:=hide (HC6.out.later hb7 HD6.out.bw)
 clear hb7 HD6 HW6 HC6
 have HAL:=hide (all_ok HD7.out.now HD7.out.dd (by have:=HCL.out;omega))
 go_wp2_with fail
 refine HAL.out.mono ?_
 rintro e w8 ⟨v8,rfl,hr8,hb8⟩
 have HS8:=hide (sameP_ok hr8 (HW7.out.later hb8 HD7.out.bw) (by have:=all_len cs 16;have:=HCL.out;omega))
 have HD8:=hide (HD7.out.later hb8)
 have HC8:=hide (HC7.out.later hb8 HD7.out.bw)
 clear hr8 hb8 HAL HW7 HC7 HD7
 go_wp2_with fail
 refine HS8.out.mono ?_
 rintro e w10 ⟨rfl,hb10⟩
 have HD10:=hide (HD8.out.later hb10)
 have HC10:=hide (HC8.out.later hb10 HD8.out.bw)
 clear hb10 HS8 HC8 HD8
 have HCH:=hide (aCj HD10.out.dd (by have:=HCL.out;omega))
 go_wp2_with fail
 refine HCH.out.mono ?_
 rintro e w11 ⟨v11,rfl,hr11,hb11⟩
 have HS11:=hide (sameC_ok hr11 (HC10.out.later hb11 HD10.out.bw) (by have:=chg_len cs 16;have:=HCL.out;omega))
 have HD11:=hide (HD10.out.later hb11)
 clear hr11 hb11 HCH HC10 HD10
 go_wp2_with fail
 refine HS11.out.mono ?_
 rintro e w12 ⟨rfl,hb12⟩
 have HD12:=hide (HD11.out.later hb12)
 have HMK:=hide (aD0 HD12.out.dd)
 rw [HM.out] at HMK
 have HBE:Hid (Below B W w12):=HD12.out.bel
 clear hb12 HS11 HD11 HD12
 go_wp2_with fail
 refine HMK.out.mono ?_
 rintro e w9 ⟨rfl,hw⟩
 have hw:=hw.symm
 subst hw
 clear hw HMK
 go_wp2
 go_ret
 exact ⟨rfl,HBE.out⟩
end Go.Proofs.YthgleplmbnkacaaGreat
namespace Go.Proofs.YthgleplmbnkacaaGreat
open Go.ChangeShapes Go.WideShapes Go.ChangeAt Go.RowKit
set_option linter.unusedVariables false
theorem aCt (os:Os) (started:os.Started) (H:Type) (enc:TypeId×Value→H) :
  ReturnsInHanded {} Tryz.checked os 4 .any (Rows.draftBackSpec.pre6 enc Tryz.prog Tryz.f4 Rows.draftBackRow.domain false) (Rows.draftBackSpec.post enc Tryz.prog Tryz.f4 false true false false):=by
 refine returnsInHanded_of_change_sized (C:=Tryz.checked) own started (by kernel_rfl) Tryz.func4
  (ChangeSpec.witness6 (enc:=enc) (C:=Tryz.checked) false ⟨#[],#[.slice none 0 0,.slice none 0 0],[]⟩ 8 (by kernel_rfl) (by kernel_rfl) (by kernel_rfl) (by kernel_rfl)) ?_
 intro W base args ds gs before hval0 hW hcnd hsz0 _
 have hval:∀ (j:Nat) t v,Tryz.f4.params[j]?=some t→args[j]?=some v→Value.okWide Tryz.prog W .any base t v:=hval0
 have hsz:(DataW.weightsEach Tryz.prog (Tryz.f4.params.toList++Rows.draftBackSpec.plain.varTypes Tryz.prog) (ds++gs)).all (·≤reachBytes)=true:=hsz0
 have hW':=hW
 obtain ⟨p,q,hA0,hV,rfl,hfz,hnd⟩:=hW
 have hA:DataW.TrodAll enc Tryz.prog W 0 (fun _=>true) true Tryz.f4.params.toList args.toList ds p:=hA0
 rw [Tryz.params4] at hA hval hsz
 obtain ⟨v0,vs0,d0,ds0,p0,q0,hargs,rfl,rfl,h0,r0⟩:=trodAll_cons hA
 obtain ⟨v1,vs1,d1,ds1,p1,q1,rfl,rfl,rfl,h1,r1⟩:=trodAll_cons r0
 obtain ⟨rfl,rfl,rfl⟩:=trodAll_nil r1
 obtain rfl:args=#[v0,v1]:=by cases args;simp_all
 obtain ⟨rfl,rfl⟩:=trodVars_none hV
 obtain ⟨a0,len0,cap0,rfl⟩:=okWide_slice Tryz.underlying23 (hval 0 23 v0 rfl rfl)
 have k0:=h0
 have lt0:∀ x∈p0,x.block<W.heap.size:=by obtain ⟨m,hm⟩:=k0;exact DataW.trod_lt m _ _ _ hm
 obtain ⟨xs0,w0⟩:=open_as h0
 obtain ⟨a1,len1,cap1,rfl⟩:=okWide_slice Tryz.underlying23 (hval 1 23 v1 rfl rfl)
 have k1:=h1
 have lt1:∀ x∈p1,x.block<W.heap.size:=by obtain ⟨m,hm⟩:=k1;exact DataW.trod_lt m _ _ _ hm
 obtain ⟨xs1,w1⟩:=open_as h1
 clear hA0 hval0 hsz0
 refine (aDj a0 len0 cap0 xs0 a1 len1 cap1 xs1 W w0 w1).mono fun e W' ⟨he,bel⟩=>?_
 subst he
 exact ⟨_,rfl,_,_,_,[],_,[],hW',trodAll_mk1 (shut_bool Tryz.underlying4 _),(trodAll_cons_mk (Below.trod laidOut (by kernel_rfl) (of_decide_eq_true (by kernel_rfl)) k0 bel lt0) (trodAll_cons_mk (Below.trod laidOut (by kernel_rfl) (of_decide_eq_true (by kernel_rfl)) k1 bel lt1) trodAll_mk0)),rfl,bel.frame _,fun h=>by cases h⟩
theorem draftBack_holds:Rows.DraftBackSaid :=
 OpenClaim.holds_of_wide 4 Tryz.f4 rfl rfl rfl rfl rfl rfl rfl ⟨rfl,rfl,rfl,rfl,rfl⟩ rfl rfl rfl rfl rfl (by kernel_rfl) Tryz.func4 (by kernel_rfl)
  (of_decide_eq_true (by kernel_rfl)) (by unfold Func.isWrapper;first | (rw [if_pos (by decide +kernel)];kernel_rfl) | (rw [if_neg (by decide +kernel)];exact ⟨rfl,rfl⟩))
  (fun os started H enc _=>aCt os started H enc)
#print axioms draftBack_holds
end Go.Proofs.YthgleplmbnkacaaGreat
