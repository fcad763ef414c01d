/- The law TreeEmpty holds for every input: called with whatever keys it returns true, and its argument reads afterwards as it read before. No condition beyond the form's own reach. -/
import Derived.Test.YtimdcaofgapnlabGreatZ48
import Derived.Test.YtimdcaofgapnlabGreatZ23
import Derived.Deep.RegionHeld3
import Derived.Test.YtimdcaofgapnlabGreatZ16
set_option linter.unusedVariables false
namespace Go.Proofs.YtimdcaofgapnlabGreat
open Go.RowKit
def EMI [Gd] (B p q g:Nat) (st0:StT) (m:Nat→Nat) (tf:Nat→List Nat) (j:Nat) (W wx:World):Prop:=∃ s t now left l,TI B p q g 900 0 (9*j) st0 l s t now left W wx∧l.length≤j∧KeysIn l 0 j m tf
def EMD [Gd] (B p q g:Nat) (st1:StT) (m:Nat→Nat) (tf:Nat→List Nat) (N j:Nat) (W wx:World):Prop:=∃ s t now left l,TI B p q g 900 1 (360+9*j) st1 l s t now left W wx∧KeysIn l j N m tf
theorem bs_ok {W:World} {aa:Option Addr} {m cc:Nat} {ys:List Nat} (h:BS W aa m cc ys) (h0:0<m) (h6:m≤64):ItOk (ys,[]):=by
 refine ⟨fun q9=>?_,?_,by show (0:Nat)≤1800;decide,h.hbyte,fun c hc=>by simp at hc⟩
 ·have:=h.hlen
  have q9:ys=[]:=q9
  rw [q9] at this
  simp at this
  omega
 ·show ys.length≤64
  rw [h.hlen];exact h6
theorem valL_del (l:List It) (k:List Nat):valL (delL l k) k=none:=by
 unfold valL
 rw [Option.map_eq_none_iff,List.find?_eq_none]
 intro x hx
 have:=(List.mem_filter.1 hx).2
 simpa using this
set_option maxRecDepth 100000 in
set_option maxHeartbeats 16000000 in
theorem aGc (a0:Option Addr) (T cap0 b0 o0:Nat) (A:Nat→Option Addr) (L C:Nat→Nat) (tf:Nat→List Nat) (W:World) (h0:TXS W a0 T 64 b0 o0 A L C tf) :
  Calls Tryz.prog 4 #[.slice a0 T cap0] W fun e w'=>e=.returned (.bool true)∧Below W.heap.size W w':=by
 letI:Gd:=⟨none⟩
 have hg0:Hid (Gd.g=none):=rfl
 have H0:=hide h0
 have hT63:=h0.hl
 have HOP:=hide (open_any (n:=900) hg0.out W (by decide) (by decide))
 obtain ⟨N,hN⟩:∃ N,N=min T 40:=⟨_,rfl⟩
 have eN:min (T:Int) 40=(N:Int):=by omega
 have N40:N≤40:=by omega
 have NT':N≤T:=by omega
 have HNN:=hide hN
 clear h0 hN
 generalize hB:W.heap.size=B at *
 go_enter Tryz.func4,Tryz.ntmps4
 go_wp2_with fail
 refine HOP.out.mono ?_
 rintro e w1 ⟨p,g,rfl,hgB,hO,hb1⟩
 obtain ⟨q,s0,t0,st0,left0,hTI,hleft⟩:=hO.ti (by decide) hb1
 have HLF:=hide (Left_any hTI.tm)
 have HP0:Hid (EMI B p q g st0 (fun i=>min (L i) 64) tf 0 W w1):=⟨s0,t0,st0,left0,[],hTI,Nat.le_refl _,fun x hx=>by simp at hx⟩
 have HLE:Hid (left0=898):=hleft
 clear hgB hO hTI hb1 HOP hleft
 go_wp2_with fail
 refine HLF.out.mono ?_
 rintro e w9 ⟨rfl,hw⟩
 have hw:=hw.symm
 subst hw
 clear HLF
 go_wp2_with fail
 go_loopw [7] (fun i wx=>∃ j:Nat,j≤N∧i=.int .i64 j∧EMI B p q g st0 (fun i=>min (L i) 64) tf j W wx) (fun i _=>N-(intOf i).toNat)
 case atStart=>exact ⟨0,by omega,rfl,HP0.out⟩
 case round =>
  obtain ⟨j,hj,rfl,hP⟩:=hrel
  have HP:=hide hP
  clear hP
  by_cases hjN:j<N
  ·have i0:(j:Int)<(N:Int):=by omega
   obtain rfl:a0=some ⟨b0,o0,none⟩:=H0.out.place (by omega)
   have HC0:=hide (H0.out.cell j (by omega))
   have hcp:=H0.out.cap j (by omega)
   have HBS:=hide (H0.out.bs j (by omega))
   have i1:(j:Int)<(T:Int):=by omega
   obtain ⟨aa,haa⟩:∃ x,A j=x:=⟨_,rfl⟩
   obtain ⟨ll,hll⟩:∃ x,L j=x:=⟨_,rfl⟩
   obtain ⟨cc,hcc⟩:∃ x,C j=x:=⟨_,rfl⟩
   obtain ⟨m,hm⟩:∃ m,m=min ll 64:=⟨_,rfl⟩
   rw [haa,hll,hcc] at HC0
   rw [haa,hll,hcc,←hm] at HBS
   rw [hll,hcc] at hcp
   have em:min (ll:Int) 64=(m:Int):=by omega
   have u0:(0:Int)≤(m:Int):=by omega
   have v0:(m:Int)≤(cc:Int):=by omega
   have m64:m≤64:=by omega
   have y0:(cc:Int)≤9223372036854775807:=by omega
   have HMJ:Hid (min (L j) 64=m):=by show min (L j) 64=m;rw [hll,hm]
   obtain ⟨s,t,now,left,l,hTI,hl1,hKI⟩:=HP.out
   have hdr:Below wr.heap.size wr wr.drew:=(Below.refl _ _).drew
   have HBW:=hide hTI.be
   have HC1:Hid (wr.cell? ⟨b0,o0+j,none⟩=some (.slice aa ll cc)):=(hTI.be.cell (p:=⟨b0,o0+j,none⟩) (by rw [←hB];exact block_lt_of_cell HC0.out)).trans HC0.out
   have HX0:Hid ((fun wx=>wx.cell? ⟨b0,o0+j,none⟩=some (.slice aa ll cc)) wr.drew):=HC1.out
   have HPU:Hid (Calls Tryz.prog 8 #[.pointer (some ⟨g,0,none⟩),.slice aa m cc,.slice none 0 0] wr.drew fun e w'=>∃ r:Int,e=.returned (.int .i64 r)∧EMI B p q g st0 (fun i=>min (L i) 64) tf (j+1) W w'):=by
    have hT1:=hTI.later hdr
    by_cases hm0:m=0
    ·refine (Put_arg hT1.tm aa none m cc 0 0 (Or.inl hm0)).mono ?_
     rintro e w' ⟨rfl,hb⟩
     exact ⟨_,rfl,s,t,now,left,l,(hT1.later hb).more (by omega),by omega,hKI.skip⟩
    ·refine (hT1.Put hg0.out (by omega) (by omega) (by omega) (tf j,[]) (bs_ok HBS.out (by omega) m64) (kn:=m) (vn:=0) HBS.out.hlen rfl (arg_bk (b0:=b0) hB HBS.out hT1.be (by omega)) (BK.nil _ _)).mono ?_
     rintro e w' ⟨rfl,s',t',now',left',hT2⟩
     have hln:=aHl l (tf j,[])
     refine ⟨0,rfl,s',t',now',left',_,hT2,?_,hKI.put rfl (by show 0<min (L j) 64;rw [HMJ.out];omega)⟩
     rw [hln];split<;>omega
   clear hTI hl1 hKI hcp hm hdr
   go_upto_region 9 with fail
   refine wp_region_noPanic ?_
   refine wp_region_held_drew (S:=fun wx=>wx.cell? ⟨b0,o0+j,none⟩=some (.slice aa ll cc)) (by kernel_rfl) HX0.out (fun hHeld=>?_)
   refine wpAnyH_tk 0 31 ?_
   refine wpAnyH_tk 1 32 ?_
   refine wpAnyH_tk 2 33 ?_
   refine wpAnyH_tk 3 34 ?_
   refine wpAnyH_tk 4 35 ?_
   refine wpAnyH_tk 5 36 ?_
   refine wpAnyH_tk 6 37 ?_
   refine wpAnyH_tk 7 38 ?_
   refine wpAnyH_tk 8 39 ?_
   refine wpAnyH_tk 9 40 ?_
   refine wpAnyH_tk 10 41 ?_
   refine wpAnyH_tk 11 42 ?_
   refine wpAnyH_cm 12 ?_;intro o ho K hK;simp only [List.getElem?_toArray,List.getElem?_cons_succ,List.getElem?_cons_zero,Option.some.injEq] at ho;subst ho
   go_simp
   refine HPU.out.mono ?_
   rintro e w3 ⟨r3,rfl,hP3⟩
   have HP3:=hide hP3
   have HX3:Hid ((fun wx=>wx.cell? ⟨b0,o0+j,none⟩=some (.slice aa ll cc)) w3):=by
    obtain ⟨_,_,_,_,_,h9,_⟩:=hP3
    exact (h9.be.cell (p:=⟨b0,o0+j,none⟩) (by rw [←hB];exact block_lt_of_cell HC0.out)).trans HC0.out
   clear hP3 hHeld
   refine hK.out _ _ HX3.out (fun hHeld=>?_)
   clear hK K
   try simp only [Act.put,List.setIfInBounds_toArray,List.set_cons_zero,List.set_cons_succ]
   refine wpAnyH_done (by kernel_rfl) ?_ _
   refine NoPanic.normal ?_
   clear hHeld HX0 HX3
   go_wp2_with fail
   go_roundw
   case rel=>exact ⟨j+1,by omega,by go_num,HP3.out⟩
   case measure=>simp [intOf];omega
  ·have i0:¬ (j:Int)<(N:Int):=by omega
   have hjN:j=N:=by omega
   subst hjN
   obtain ⟨s,t,now,left,l,hTI,hl1,hKI⟩:=HP.out
   have HCM:=hide ((hTI.more (u':=360) (by omega)).commit (by decide) (by decide))
   clear hTI hl1
   go_wp2_with fail
   refine HCM.out.mono ?_
   rintro e w2 ⟨rfl,s2,t2,k1,k2,k3⟩
   have HD0:Hid (EMD B p q g now (fun i=>min (L i) 64) tf j 0 W w2):=⟨s2,t2,now,_,l,k2,hKI⟩
   generalize now=st1 at *
   clear k1 k2 k3 HCM hKI HP HP0
   go_wp2_with fail
   go_loopw [8] (fun i wx=>∃ k:Nat,k≤j∧i=.int .i64 k∧EMD B p q g st1 (fun i=>min (L i) 64) tf j k W wx) (fun i _=>j-(intOf i).toNat)
   case atStart=>exact ⟨0,by omega,rfl,HD0.out⟩
   case round =>
    obtain ⟨i,hi,rfl,hP⟩:=hrel
    have HP:=hide hP
    clear hP
    by_cases hij:i<j
    ·have i0:(i:Int)<(j:Int):=by omega
     obtain rfl:a0=some ⟨b0,o0,none⟩:=H0.out.place (by omega)
     have HC0:=hide (H0.out.cell i (by omega))
     have hcp:=H0.out.cap i (by omega)
     have HBS:=hide (H0.out.bs i (by omega))
     have i1:(i:Int)<(T:Int):=by omega
     obtain ⟨aa,haa⟩:∃ x,A i=x:=⟨_,rfl⟩
     obtain ⟨ll,hll⟩:∃ x,L i=x:=⟨_,rfl⟩
     obtain ⟨cc,hcc⟩:∃ x,C i=x:=⟨_,rfl⟩
     obtain ⟨m,hm⟩:∃ m,m=min ll 64:=⟨_,rfl⟩
     rw [haa,hll,hcc] at HC0
     rw [haa,hll,hcc,←hm] at HBS
     rw [hll,hcc] at hcp
     have em:min (ll:Int) 64=(m:Int):=by omega
     have u0:(0:Int)≤(m:Int):=by omega
     have v0:(m:Int)≤(cc:Int):=by omega
     have m64:m≤64:=by omega
     have y0:(cc:Int)≤9223372036854775807:=by omega
     have HMJ:Hid (min (L i) 64=m):=by show min (L i) 64=m;rw [hll,hm]
     obtain ⟨s,t,now,left,l,hTI,hKI⟩:=HP.out
     have hdr:Below wr.heap.size wr wr.drew:=(Below.refl _ _).drew
     have HC1:Hid (wr.cell? ⟨b0,o0+i,none⟩=some (.slice aa ll cc)):=(hTI.be.cell (p:=⟨b0,o0+i,none⟩) (by rw [←hB];exact block_lt_of_cell HC0.out)).trans HC0.out
     have HX0:Hid ((fun wx=>wx.cell? ⟨b0,o0+i,none⟩=some (.slice aa ll cc)) wr.drew):=HC1.out
     have HT1:=hide (hTI.later hdr)
     have HKI:=hide hKI
     clear hTI hKI hcp hm hdr
     go_upto_region 15 with fail
     refine wp_region_noPanic ?_
     refine wp_region_held_drew (S:=fun wx=>wx.cell? ⟨b0,o0+i,none⟩=some (.slice aa ll cc)) (by kernel_rfl) HX0.out (fun hHeld=>?_)
     refine wpAnyH_tk 0 52 ?_
     refine wpAnyH_tk 1 53 ?_
     refine wpAnyH_tk 2 54 ?_
     refine wpAnyH_tk 3 55 ?_
     refine wpAnyH_tk 4 56 ?_
     refine wpAnyH_tk 5 57 ?_
     refine wpAnyH_tk 6 58 ?_
     refine wpAnyH_tk 7 59 ?_
     refine wpAnyH_tk 8 60 ?_
     refine wpAnyH_tk 9 61 ?_
     refine wpAnyH_tk 10 62 ?_
     refine wpAnyH_tk 11 9 ?_
     refine wpAnyH_done (by kernel_rfl) ?_ _
     refine NoPanic.normal ?_
     clear hHeld HX0
     by_cases hm0:m=0
     ·subst hm0
      have HP3:Hid (EMD B p q g st1 (fun i=>min (L i) 64) tf j (i+1) W wr.drew):=⟨s,t,now,left,l,HT1.out.more (by omega),HKI.out.miss (by show min (L i) 64=0;exact HMJ.out)⟩
      go_wp2_with fail
      go_roundw
      case rel=>exact ⟨i+1,by omega,by go_num,HP3.out⟩
      case measure=>simp [intOf];omega
     ·have z0:¬ (m:Int)=0:=by omega
      have HK1:=hide (arg_bk (b0:=b0) hB HBS.out HT1.out.be (by omega))
      have HDL:=hide (HT1.out.Delete hg0.out (by omega) (by omega) (tf i) HBS.out.hlen (by omega) m64 HK1.out)
      obtain ⟨hb0,hhb⟩:∃ x,hasI l (tf i)=x:=⟨_,rfl⟩
      rw [hhb] at HDL
      go_wp2_with fail
      refine HDL.out.mono ?_
      rintro e w3 ⟨rfl,s3,t3,now3,left3,hT3⟩
      have HT3:=hide hT3
      have HK3:=hide (arg_bk (b0:=b0) hB HBS.out hT3.be (by omega))
      have HGT:=hide (Get_ok hT3.tm hT3.tr (by have:=hT3.dep;omega) HK3.out (by omega) m64)
      rw [valL_del] at HGT
      clear hT3 HDL
      go_wp2_with fail
      refine HGT.out.mono ?_
      rintro e w4 ⟨v4,is4,rfl,⟨hv1,hv2⟩,hb4⟩
      subst hv1 hv2
      have HP3:Hid (EMD B p q g st1 (fun i=>min (L i) 64) tf j (i+1) W w4):=⟨s3,t3,now3,left3,_,HT3.out.later hb4,HKI.out.del⟩
      clear hb4 HGT
      go_wp2_with fail
      go_roundw
      case rel=>exact ⟨i+1,by omega,by go_num,HP3.out⟩
      case measure=>simp [intOf];omega
    ·have i0:¬ (i:Int)<(j:Int):=by omega
     have hij:i=j:=by omega
     subst hij
     obtain ⟨s,t,now,left,l,hTI,hKI⟩:=HP.out
     have hl:l=[]:=hKI.none
     subst hl
     have HTI:=hide hTI
     have HTD:=hide (told_any wr)
     clear hTI hKI HP
     go_wp2_with fail
     refine HTD.out.mono ?_
     rintro e w5 ⟨rfl,hb5⟩
     have HT5:=hide (HTI.out.later hb5)
     have HCM:=hide (HT5.out.commit (by decide) (by decide))
     clear hb5 HTD
     go_wp2_with fail
     refine HCM.out.mono ?_
     rintro e w6 ⟨rfl,s6,t6,k1,k2,k3⟩
     have hlen:t.st.length=900:=by rw [HT5.out.tm.sn];exact HT5.out.sn
     obtain ⟨d0,d1,d2⟩:=k2.tr.nil
     have HFR:Hid (cntF t6.st=898):=by
      have h9:=k1.free HT5.out.f3 d2 k2.tm.hd (by omega) (by omega)
      rw [hlen] at h9
      exact h9
     have HT6:=hide k2
     have HLN:=hide (Len_any k2.tm)
     have HDP:=hide (Depth_any k2.tm)
     have HPG:=hide (Pages_zero k2.tm d2)
     have HLF:=hide (Left_any k2.tm)
     have HCK:=hide (Check_ok k2.tm k2.tr (by omega) (by decide))
     rw [d1] at HLN
     rw [d0] at HDP
     rw [HFR.out] at HLF
     have hle:left0=898:=HLE.out
     clear k1 k2 k3 HCM hlen d0 d1 d2
     go_wp2_with fail
     refine HLN.out.mono ?_
     rintro e w7 ⟨rfl,hw⟩
     have hw:=hw.symm
     subst hw
     go_wp2_with fail
     refine HDP.out.mono ?_
     rintro e w7 ⟨rfl,hw⟩
     have hw:=hw.symm
     subst hw
     go_wp2_with fail
     refine HPG.out.mono ?_
     rintro e w7 ⟨rfl,hw⟩
     have hw:=hw.symm
     subst hw
     go_wp2_with fail
     refine HLF.out.mono ?_
     rintro e w7 ⟨rfl,hw⟩
     have hw:=hw.symm
     subst hw
     go_wp2_with fail
     refine HCK.out.mono ?_
     rintro e w7 ⟨rfl,hb7⟩
     have HB7:=hide (HT6.out.be.trans (hb7.mono HT6.out.tm.bw))
     clear hb7
     go_wp2
     go_ret
     exact ⟨rfl,HB7.out⟩
end Go.Proofs.YtimdcaofgapnlabGreat
namespace Go.Proofs.YtimdcaofgapnlabGreat
open Go.ChangeShapes Go.WideShapes Go.ChangeAt Go.RowKit
set_option linter.unusedVariables false
set_option maxRecDepth 100000 in
theorem aE3 (os:Os) (started:os.Started) (H:Type) (enc:TypeId×Value→H) :
  ReturnsInHanded {} Tryz.checked os 4 .any (Rows.treeEmptySpec.pre6 enc Tryz.prog Tryz.f4 Rows.treeEmptyRow.domain false) (Rows.treeEmptySpec.post enc Tryz.prog Tryz.f4 false true false false):=by
 refine returnsInHanded_of_change_sized (C:=Tryz.checked) own started (by kernel_rfl) Tryz.func4
  (ChangeSpec.witness6 (enc:=enc) (C:=Tryz.checked) false ⟨#[],#[.slice none 0 0],[]⟩ 8 (by kernel_rfl) (by kernel_rfl) (by kernel_rfl) (by kernel_rfl)) ?_
 intro W base args ds gs before hval0 hW hcnd hsz0 _
 have hval:∀ (j:Nat) t v,Tryz.f4.params[j]?=some t→args[j]?=some v→Value.okWide Tryz.prog W .any base t v:=hval0
 have hsz:(DataW.weightsEach Tryz.prog (Tryz.f4.params.toList++Rows.treeEmptySpec.plain.varTypes Tryz.prog) (ds++gs)).all (·≤reachBytes)=true:=hsz0
 have hW':=hW
 obtain ⟨p,q,hA0,hV,rfl,hfz,hnd⟩:=hW
 have hA:DataW.TrodAll enc Tryz.prog W 0 (fun _=>true) true Tryz.f4.params.toList args.toList ds p:=hA0
 rw [Tryz.params4] at hA hval hsz
 obtain ⟨v0,vs0,d0,ds0,p0,q0,hargs,rfl,rfl,h0,r0⟩:=trodAll_cons hA
 obtain ⟨rfl,rfl,rfl⟩:=trodAll_nil r0
 obtain rfl:args=#[v0]:=by cases args;simp_all
 obtain ⟨rfl,rfl⟩:=trodVars_none hV
 obtain ⟨a0,len0,cap0,rfl⟩:=okWide_slice Tryz.underlying22 (hval 0 22 v0 rfl rfl)
 have k0:=h0
 have lt0:∀ x∈p0,x.block<W.heap.size:=by obtain ⟨m,hm⟩:=k0;exact DataW.trod_lt m _ _ _ hm
 obtain ⟨b0,o0,A0,L0,C0,tf0,w0⟩:=open_texts 64 (by omega) h0
 clear hA0 hval0 hsz0
 refine (aGc a0 len0 cap0 b0 o0 A0 L0 C0 tf0 W w0).mono fun e W' ⟨he,bel⟩=>?_
 subst he
 exact ⟨_,rfl,_,_,_,[],_,[],hW',trodAll_mk1 (shut_bool Tryz.underlying4 _),(trodAll_cons_mk (Below.trod laidOut (by kernel_rfl) (of_decide_eq_true (by kernel_rfl)) k0 bel lt0) trodAll_mk0),rfl,bel.frame _,fun h=>by cases h⟩
theorem treeEmpty_holds:Rows.TreeEmptySaid :=
 OpenClaim.holds_of_wide 4 Tryz.f4 rfl rfl rfl rfl rfl rfl rfl ⟨rfl,rfl,rfl,rfl,rfl⟩ rfl rfl rfl rfl rfl (by kernel_rfl) Tryz.func4 (by kernel_rfl)
  (of_decide_eq_true (by kernel_rfl)) (by unfold Func.isWrapper;first | (rw [if_pos (by decide +kernel)];kernel_rfl) | (rw [if_neg (by decide +kernel)];exact ⟨rfl,rfl⟩))
  (fun os started H enc _=>aE3 os started H enc)
#print axioms treeEmpty_holds
end Go.Proofs.YtimdcaofgapnlabGreat
