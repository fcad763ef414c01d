import Derived.Test.YtfobcelkmopohaaGreatZ40
set_option maxRecDepth 100000
set_option maxHeartbeats 16000000
set_option linter.unusedVariables false
namespace Go.Proofs.YtfobcelkmopohaaGreat
theorem aH9:∀ {h:Nat} {e:ED h},isNew e->1<=frE h e
 | 0,.inr _,_=>nR _
 | _+1,.inr _,_=>Nat.le_add_right _ _
theorem fr_kids {h:Nat}:∀ (e:ED (h+1)),((opS e).2.map (frE h)).sum<=frE (h+1) e/\(1<=frE (h+1) e->((opS e).2.map (frE h)).sum+1<=frE (h+1) e)
 | .inl t=>by
  have:((opS (.inl t:ED (h+1))).2.map (frE h)).sum=0:=aFr t.2.2
  rw [this]
  exact ⟨Nat.zero_le _,fun h=>by simp [frE] at h⟩
 | .inr x=>by
  show (x.2.map (frE h)).sum<=1+(x.2.map (frE h)).sum/\(_->(x.2.map (frE h)).sum+1<=1+(x.2.map (frE h)).sum)
  omega
theorem fr_mrg:∀ {h:Nat} (a:ED h) (x:It) (b:ED h),1<=frE h a\/1<=frE h b->frE h (mrgE a x b)<=frE h a+frE h b
 | 0,a,x,b,h=>by
  show 1<=_
  omega
 | h+1,a,x,b,hh=>by
  show 1+(((opS a).2++(opS b).2).map (frE h)).sum<=_
  rw [List.map_append,List.sum_append]
  have ha:=fr_kids a
  have hb:=fr_kids b
  rcases hh with q | q
  ·have:=ha.2 q
   omega
  ·have:=hb.2 q
   omega
theorem fr_setD {h:Nat} {l:List It} {c:List (ED h)} {i:Nat} (hl:c.length=l.length+1) (hc:∀ e,c[i]?=some e->1<=frE h e):((setD l c i).2.map (frE h)).sum<=(c.map (frE h)).sum+1:=by
 unfold setD
 cases hi:c[i]? with
 | none=>exact Nat.le_succ _
 | some e =>
  simp only
  split
  ·rename_i h2
   unfold mgd
   cases ha:c[i-1]? with
   | none=>exact aDl fun q hq=>by rw [ha] at hq;cases hq
   | some a =>
    cases hx:l[i-1]? with
    | none =>
     by_cases q0:i=0
     ·subst q0
      exact aDl fun q hq=>hc q hq
     ·refine aDl fun q hq=>?_
      rw [ha] at hq
      simp only [oI] at hq
      subst hq
      have h9:=(lL hi)
      rw [List.getElem?_eq_none_iff] at hx
      omega
    | some x =>
     cases hb:c[i-1+1]? with
     | none =>
      by_cases q0:i=0
      ·subst q0
       exact aDl fun q hq=>hc q hq
      ·rw [show i-1+1=i by omega,hi] at hb
       cases hb
     | some b =>
      simp only
      have hor:1<=frE h a\/1<=frE h b:=by
       by_cases q0:i=0
       ·subst q0
        exact Or.inl (hc a ha)
       ·rw [show i-1+1=i by omega] at hb
        exact Or.inr (hc b hb)
      have hm:=fr_mrg a x b hor
      have ha1:=(lL ha)
      have h9:=aDl (l:=l.eraseIdx (i-1)) (c:=c.take (i-1)++mrgE a x b::c.drop (i-1+2)) (i:=i-1) (fun q hq=>by
       rw [List.getElem?_append_right (by simp;omega)] at hq
       have em:i-1-(List.take (i-1) c).length=0:=by rw [List.length_take];omega
       rw [em,List.getElem?_cons_zero] at hq
       simp only [oI] at hq
       subst hq
       exact aH9 (aC5 a x b))
      refine nT h9 ?_
      conv=>rhs;rw [aIe ha hb]
      simp only [List.map_append,List.sum_append,List.map_cons,List.sum_cons]
      omega
  ·exact aDl fun q hq=>by rw [hi] at hq;simp only [oI] at hq;subst hq;exact hc e hi
theorem fr_wol:∀ {h:Nat} (b:BT h),ShB h b->frE h (wolE h (old b)).1<=2*h+1
 | 0,_,_=>nR _
 | h+1,b,⟨_,s2,s3⟩=>by
  have hlen:(opS (old b)).2.length=(opS (old b)).1.length+1:=by
   show (b.2.2.map old).length=b.2.1.length+1
   rw [List.length_map];exact s2
  have hk0:((opS (old b)).2.map (frE h)).sum=0:=aFr b.2.2
  cases hd:(opS (old b)).2[(opS (old b)).1.length]? with
  | some d =>
   rw [aDk hd]
   obtain ⟨kb,hkb,rfl⟩:=List.mem_map.1 (show d∈b.2.2.map old from mG hd)
   have h1:=fr_wol kb (s3 kb hkb).1
   have h2:=aFq (frE h) (opS (old b)).2 (opS (old b)).1.length (wolE h (old kb)).1
   have h3:=fr_setD (l:=(opS (old b)).1) (c:=(opS (old b)).2.set (opS (old b)).1.length (wolE h (old kb)).1) (i:=(opS (old b)).1.length) (by rw [List.length_set];exact hlen) fun e he=>by
    rw [List.getElem?_set_self (lL hd)] at he
    simp only [oI] at he
    subst he
    exact aH9 (aCs _)
   show 1+((setD (opS (old b)).1 ((opS (old b)).2.set (opS (old b)).1.length (wolE h (old kb)).1) (opS (old b)).1.length).2.map (frE h)).sum<=_
   omega
  | none =>
   have:(wolE (h+1) (old b)).1=.inr (opS (old b)):=by
    show (match (opS (old b)).2[(opS (old b)).1.length]? with
     | some d=>(Sum.inr (setD (opS (old b)).1 ((opS (old b)).2.set (opS (old b)).1.length (wolE h d).1) (opS (old b)).1.length),(wolE h d).2)
     | none=>(Sum.inr (opS (old b)),([],[]))).1=_
    rw [hd]
   rw [this]
   show 1+((opS (old b)).2.map (frE h)).sum<=_
   omega
theorem fr_del:∀ {h:Nat} (b:BT h) (k:List Nat),ShB h b->frE h (delE h (old b) k).1<=2*h+1
 | 0,_,_,_=>nR _
 | h+1,b,k,⟨_,s2,s3⟩=>by
  have hlen:(opS (old b)).2.length=(opS (old b)).1.length+1:=by
   show (b.2.2.map old).length=b.2.1.length+1
   rw [List.length_map];exact s2
  have hk0:((opS (old b)).2.map (frE h)).sum=0:=aFr b.2.2
  cases hd:(opS (old b)).2[fndI (opS (old b)).1 k]? with
  | some d =>
   obtain ⟨kb,hkb,rfl⟩:=List.mem_map.1 (show d∈b.2.2.map old from mG hd)
   have hi:=(lL hd)
   have key:∀ (l:List It) (d':ED h),l.length=(opS (old b)).1.length->isNew d'->frE h d'<=2*h+1->1+((setD l ((opS (old b)).2.set (fndI (opS (old b)).1 k) d') (fndI (opS (old b)).1 k)).2.map (frE h)).sum<=2*(h+1)+1:=by
    intro l d' hll hn hf
    have h2:=aFq (frE h) (opS (old b)).2 (fndI (opS (old b)).1 k) d'
    have h3:=fr_setD (l:=l) (c:=(opS (old b)).2.set (fndI (opS (old b)).1 k) d') (i:=fndI (opS (old b)).1 k) (by rw [List.length_set,hll];exact hlen) fun e he=>by
     rw [List.getElem?_set_self hi] at he
     simp only [oI] at he
     subst he
     exact aH9 hn
    omega
   rw [aDm hd]
   split
   ·exact key _ _ (by simp) (aCs _) (fr_wol kb (s3 kb hkb).1)
   ·split
    ·exact key _ _ rfl (aCi _ k) (fr_del kb k (s3 kb hkb).1)
    ·have h2:=aFq (frE h) (opS (old b)).2 (fndI (opS (old b)).1 k) (delE h (old kb) k).1
     have:=fr_del kb k (s3 kb hkb).1
     show 1+(((opS (old b)).2.set (fndI (opS (old b)).1 k) (delE h (old kb) k).1).map (frE h)).sum<=_
     omega
  | none =>
   have:(delE (h+1) (old b) k).1=.inr (opS (old b)):=by
    show (match (opS (old b)).2[fndI (opS (old b)).1 k]? with
     | some d=>if hasI (opS (old b)).1 k then (Sum.inr (setD ((opS (old b)).1.set (fndI (opS (old b)).1 k) (wolE h d).2) ((opS (old b)).2.set (fndI (opS (old b)).1 k) (wolE h d).1) (fndI (opS (old b)).1 k)),true)
      else if (delE h d k).2 then (Sum.inr (setD (opS (old b)).1 ((opS (old b)).2.set (fndI (opS (old b)).1 k) (delE h d k).1) (fndI (opS (old b)).1 k)),true)
      else (Sum.inr ((opS (old b)).1,(opS (old b)).2.set (fndI (opS (old b)).1 k) (delE h d k).1),false)
     | none=>(Sum.inr (opS (old b)),false)).1=_
    rw [hd]
   rw [this]
   show 1+((opS (old b)).2.map (frE h)).sum<=_
   omega
section
variable {s:DS} {t:PS}
theorem OldOn.gn1:∀ {h:Nat} {e:ED h},OldOn s t h e->∀ x∈Go.Proofs.YtfobcelkmopohaaGreat.gn1 e,x<s.n
 | 0,.inl b,hb,x,hx=>by
  have:x=b.1:=by simpa [Go.Proofs.YtfobcelkmopohaaGreat.gn1] using hx
  subst this
  exact hb.1.lt
 | 0,.inr _,_,x,hx=>by cases hx
 | h+1,.inl b,⟨h1,_⟩,x,hx=>by
  have:x=b.1:=by simpa [Go.Proofs.YtfobcelkmopohaaGreat.gn1] using hx
  subst this
  exact h1.lt
 | _+1,.inr _,_,x,hx=>by cases hx
theorem OldOn.gnS {h:Nat} {c:List (ED h)} {i:Nat} (hc:∀ k∈c,OldOn s t h k):∀ x∈Go.Proofs.YtfobcelkmopohaaGreat.gnS c i,x<s.n:=by
 have hO:∀ j:Nat,∀ x∈gnO c[j]?,x<s.n:=by
  intro j x hx
  cases hj:c[j]? with
  | none=>rw [hj] at hx;cases hx
  | some e=>rw [hj] at hx;exact (hc e (mG hj)).gn1 x hx
 unfold Go.Proofs.YtfobcelkmopohaaGreat.gnS
 split
 ·split
  ·intro x hx
   rcases List.mem_append.1 hx with q | q
   ·exact hO _ x q
   ·exact hO _ x q
  ·intro x hx;cases hx
 ·intro x hx;cases hx
theorem OldOn.gnW:∀ {h:Nat} {e:ED h},OldOn s t h e->∀ x∈Go.Proofs.YtfobcelkmopohaaGreat.gnW h e,x<s.n
 | 0,e,ho,x,hx=>ho.gn1 x hx
 | h+1,e,ho,x,hx=>by
  rcases List.mem_append.1 (show x∈Go.Proofs.YtfobcelkmopohaaGreat.gn1 e++_ from hx) with q | q
  ·exact ho.gn1 x q
  ·cases hd:(opS e).2[(opS e).1.length]? with
   | some d =>
    rw [hd] at q
    have hod:=ho.kids d (mG hd)
    rcases List.mem_append.1 q with q | q
    ·exact OldOn.gnW hod x q
    ·exact OldOn.gnS (aA4 ho.kids hod.wol) x q
   | none=>rw [hd] at q;cases q
theorem OldOn.gnD:∀ {h:Nat} {e:ED h} (k:List Nat),OldOn s t h e->∀ x∈Go.Proofs.YtfobcelkmopohaaGreat.gnD h e k,x<s.n
 | 0,e,k,ho,x,hx=>ho.gn1 x hx
 | h+1,e,k,ho,x,hx=>by
  rcases List.mem_append.1 (show x∈Go.Proofs.YtfobcelkmopohaaGreat.gn1 e++_ from hx) with q | q
  ·exact ho.gn1 x q
  ·cases hd:(opS e).2[fndI (opS e).1 k]? with
   | some d =>
    rw [hd] at q
    have hod:=ho.kids d (mG hd)
    simp only at q
    split at q
    ·rcases List.mem_append.1 q with q | q
     ·exact hod.gnW x q
     ·exact OldOn.gnS (aA4 ho.kids hod.wol) x q
    ·rcases List.mem_append.1 q with q | q
     ·exact OldOn.gnD k hod x q
     ·split at q
      ·exact OldOn.gnS (aA4 ho.kids (hod.del k)) x q
      ·cases q
   | none=>rw [hd] at q;cases q
end
theorem aEx:∀ {h:Nat} (e:ED h),(gn1 e).length<=1
 | 0,.inl _=>nR _
 | 0,.inr _=>Nat.zero_le _
 | _+1,.inl _=>nR _
 | _+1,.inr _=>Nat.zero_le _
theorem gnS_len {h:Nat} (c:List (ED h)) (i:Nat):(gnS c i).length<=2:=by
 have hO:∀ o:Option (ED h),(gnO o).length<=1:=by
  intro o
  cases o with
  | none=>exact Nat.zero_le _
  | some e=>exact aEx e
 unfold gnS
 split
 ·split
  ·have h1:=hO c[i-1]?
   have h2:=hO c[i-1+1]?
   rw [lA]
   omega
  ·exact Nat.zero_le _
 ·exact Nat.zero_le _
theorem aH7:∀ {h:Nat} (e:ED h),(gnW h e).length<=3*h+1
 | 0,e=>aEx e
 | h+1,e=>by
  show (gn1 e++_).length<=_
  have h1:=aEx e
  rw [lA]
  cases hd:(opS e).2[(opS e).1.length]? with
  | some d =>
   have h2:=aH7 d
   have h3:=gnS_len ((opS e).2.set (opS e).1.length (wolE h d).1) (opS e).1.length
   simp only [lA]
   omega
  | none=>simp only [List.length_nil];omega
theorem aH8:∀ {h:Nat} (e:ED h) (k:List Nat),(gnD h e k).length<=3*h+1
 | 0,e,_=>aEx e
 | h+1,e,k=>by
  show (gn1 e++_).length<=_
  have h1:=aEx e
  rw [lA]
  cases hd:(opS e).2[fndI (opS e).1 k]? with
  | some d =>
   have h2:=aH7 d
   have h3:=gnS_len ((opS e).2.set (fndI (opS e).1 k) (wolE h d).1) (fndI (opS e).1 k)
   have h4:=aH8 d k
   have h5:=gnS_len ((opS e).2.set (fndI (opS e).1 k) (delE h d k).1) (fndI (opS e).1 k)
   simp only
   split
   ·rw [lA];omega
   ·rw [lA]
    split
    ·omega
    ·simp only [List.length_nil];omega
  | none=>simp only [List.length_nil];omega
end Go.Proofs.YtfobcelkmopohaaGreat
set_option linter.unusedVariables false
namespace Go.Proofs.YtfobcelkmopohaaGreat
def rootD:(h:Nat)->ED h->Σ h,ED h
 | 0,e=>⟨0,e⟩
 | h+1,e=>if (opS e).1.length=0 then match (opS e).2 with
   | c::_=>⟨h,c⟩
   | []=>⟨h+1,e⟩
  else ⟨h+1,e⟩
theorem rootD_yes {h:Nat} {e:ED (h+1)} (h0:(opS e).1.length=0) (hl:(opS e).2.length=(opS e).1.length+1):∃ c,(opS e).2=[c]/\rootD (h+1) e=⟨h,c⟩:=by
 obtain ⟨c,hc⟩:∃ c,(opS e).2=[c]:=List.length_eq_one_iff.1 (by omega)
 refine ⟨c,hc,?_⟩
 show (if (opS e).1.length=0 then match (opS e).2 with
   | c::_=>(⟨h,c⟩:Σ h,ED h)
   | []=>⟨h+1,e⟩
  else ⟨h+1,e⟩)=_
 rw [if_pos h0,hc]
theorem rootD_no {h:Nat} {e:ED (h+1)} (h0:(opS e).1.length≠0):rootD (h+1) e=⟨h+1,e⟩:=by
 show (if (opS e).1.length=0 then match (opS e).2 with
   | c::_=>(⟨h,c⟩:Σ h,ED h)
   | []=>⟨h+1,e⟩
  else ⟨h+1,e⟩)=_
 rw [if_neg h0]
def dpD:(h:Nat)->ED h->Nat
 | 0,_=>0
 | h+1,e=>if (opS e).1.length=0 then h else h+1
theorem rootD_all:∀ {h:Nat} {e:ED h},ShE h 4 e->isNew e->(1<=h\/1<=(itE e).length)->(rootD h e).1=dpD h e/\flE (rootD h e).1 (rootD h e).2=flE h e/\ShE (rootD h e).1 4 (rootD h e).2/\1<=(itE (rootD h e).2).length/\frE (rootD h e).1 (rootD h e).2<=frE h e/\olP (rootD h e).1 (rootD h e).2=olP h e/\∀ s t,OldOn s t h e->OldOn s t (rootD h e).1 (rootD h e).2
 | 0,e,hs,hn,h1=>⟨rfl,rfl,hs,by rcases h1 with h1 | h1;exact absurd h1 (by decide);exact h1,nR _,rfl,fun _ _ h=>h⟩
 | h+1,.inr x,⟨h4,h2,h3⟩,hn,_=>by
  by_cases c:(opS (.inr x:ED (h+1))).1.length=0
  ·obtain ⟨k,hk,e⟩:=rootD_yes c h2
   have hk3:=h3 k (by rw [hk];exact List.mem_singleton.2 rfl)
   have hx2:x.2=[k]:=hk
   have hx1:x.1=[]:=List.eq_nil_of_length_eq_zero c
   rw [e]
   refine ⟨(if_pos c).symm,?_,hk3.1,by show 1<=(itE k).length;omega,?_,?_,fun s t ho=>?_⟩
   ·show flE h k=weave x.1 (x.2.map (flE h))
    rw [hx1,hx2]
    simp [weave]
   ·show frE h k<=frE (h+1) (.inr x)
    have:=(fr_kids (.inr x:ED (h+1))).1
    rw [hk] at this
    simpa using this
   ·show olP h k=(x.2.map (olP h)).flatten
    rw [hx2]
    simp
   ·exact ho k (by rw [hx2];exact List.mem_singleton.2 rfl)
  ·rw [rootD_no c]
   exact ⟨(if_neg c).symm,rfl,⟨h4,h2,h3⟩,Nat.one_le_iff_ne_zero.2 c,nR _,rfl,fun _ _ h=>h⟩
theorem le_sumN:∀ {l:List Nat} {x:Nat},x∈l->x<=l.sum
 | y::l,x,hx=>by
  rw [List.sum_cons]
  rcases List.mem_cons.1 hx with rfl | hx
  ·omega
  ·have:=le_sumN hx
   omega
section
variable {h:Nat} {b:BT h} {s:DS} {t:PS} {l:List It}
theorem on_it (e6:OnD s t h b):1<=(itE (old b)).length:=by
 rw [aCh]
 cases h with
 | zero=>exact e6.2.n1
 | succ h=>exact e6.2.1.n1
theorem aGg (k:List Nat) (e4:flB h b=l) (e5:Srt l) (e6:OnD s t h b) (e7:ShB h b):(delE h (old b) k).2=hasI l k:=by
 have:=(fl_del (old b) k (aBh b e7) (on_it e6) (by rw [aBv,e4];exact e5)).1
 rw [aBv,e4] at this
 exact this
theorem del_fl (k:List Nat) (e4:flB h b=l) (e5:Srt l) (e6:OnD s t h b) (e7:ShB h b) (hw:hasI l k=true):flE h (delE h (old b) k).1=delL l k:=by
 have:=(fl_del (old b) k (aBh b e7) (on_it e6) (by rw [aBv,e4];exact e5)).2 (by rw [aGg k e4 e5 e6 e7];exact hw)
 rw [aBv,e4] at this
 exact this
theorem del_sh (k:List Nat) (e4:flB h b=l) (e5:Srt l) (e6:OnD s t h b) (e7:ShB h b) (hw:hasI l k=true):ShE h 4 (delE h (old b) k).1 :=
 (Sh_del (old b) k (aBh b e7) (on_it e6) (by rw [aBv,e4];exact e5) (by rw [aGg k e4 e5 e6 e7];exact hw)).1
theorem aIf (k:List Nat) (e4:flB h b=l) (e5:Srt l) (e6:OnD s t h b) (e7:ShB h b) (hw:hasI l k=true) (hne:delL l k≠[]):1<=h\/1<=(itE (delE h (old b) k).1).length:=by
 cases h with
 | succ h=>exact Or.inl (by omega)
 | zero =>
  right
  have hf:=del_fl k e4 e5 e6 e7 hw
  have:op0 (delE 0 (old b) k).1=delL l k:=hf
  show 1<=(op0 (delE 0 (old b) k).1).length
  rw [this]
  exact List.length_pos_iff.2 hne
theorem on_del (k:List Nat) (e4:flB h b=l) (e5:Srt l) (e6:OnD s t h b) (e7:ShB h b) (hw:hasI l k=true) (hne:delL l k≠[]) :
  flE (rootD h (delE h (old b) k).1).1 (rootD h (delE h (old b) k).1).2=delL l k/\ShE (rootD h (delE h (old b) k).1).1 4 (rootD h (delE h (old b) k).1).2/\1<=(itE (rootD h (delE h (old b) k).1).2).length/\OnE s t (rootD h (delE h (old b) k).1).1 (rootD h (delE h (old b) k).1).2/\frE (rootD h (delE h (old b) k).1).1 (rootD h (delE h (old b) k).1).2<=2*h+1:=by
 obtain ⟨_,r1,r2,r3,r4,_,r5⟩:=rootD_all (del_sh k e4 e5 e6 e7 hw) (aCi (old b) k) (aIf k e4 e5 e6 e7 hw hne)
 rw [del_fl k e4 e5 e6 e7 hw] at r1
 refine ⟨r1,r2,r3,OnE.of (r5 s t (OldOn.del k (OldOn.old e6))) r2 (by rw [r1];exact delL_srt e5) (fun x hx=>?_) r3,nT r4 (fr_del b k e7)⟩
 rw [r1] at hx
 have:=delL_mem hx
 rw [<-e4] at this
 exact e6.ok x this
theorem Tr.del {k:List Nat} {s':DS} {t':PS} {L:List Nat} {ps:List Nat} {b':BT (rootD h (delE h (old b) k).1).1} (e4:flB h b=l) (e5:Srt l) (e6:OnD s t h b) (e7:ShB h b) (e9:PgS ps (pgB h b)) (hsl:t.st.length<=4096) (hw:hasI l k=true) (hne:delL l k≠[])
  (hl:LdR (rootD h (delE h (old b) k).1).1 (rootD h (delE h (old b) k).1).2 b' L) (hg:Gw s t s' t' L) (hb':OnD s' t' (rootD h (delE h (old b) k).1).1 b') :
  Tr s' t' ⟨((BT.id b':Nat):Int),((dpD h (delE h (old b) k).1+1:Nat):Int),((l.length:Nat):Int)-1,L.foldl adP ((gnD h (old b) k).foldl drP ps)⟩ (delL l k):=by
 obtain ⟨f1,f2,f3,f4,_⟩:=on_del k e4 e5 e6 e7 hw hne
 obtain ⟨r0,_,_,_,_,r6,_⟩:=rootD_all (del_sh k e4 e5 e6 e7 hw) (aCi (old b) k) (aIf k e4 e5 e6 e7 hw hne)
 refine Or.inr ⟨_,b',rfl,?_,?_,by rw [hl.fl,f1],delL_srt e5,hb',hl.sh f2,by rw [hl.it];exact f3,?_⟩
 ·show ((dpD h (delE h (old b) k).1+1:Nat):Int)=_
  rw [r0]
 ·have e:=aFk (k:=k) e5
  rw [if_pos hw] at e
  show ((l.length:Nat):Int)-1=_
  omega
 ·have hp:=pg_del (old b) k (aBh b e7) (on_it e6) (by rw [aGg k e4 e5 e6 e7];exact hw)
  rw [olP_old] at hp
  refine e9.step hp ?_ hg.nd (gw_lt hg hsl) fun x hx q=>?_
  ·have:=hl.pg
   rw [r6] at this
   exact this
  ·have h1:=(hg.new x hx).1
   have h2:=(e6.held x q).1
   omega
theorem Tr.del0 {k:List Nat} {ps:List Nat} (e4:flB h b=l) (e5:Srt l) (e6:OnD s t h b) (e7:ShB h b) (e9:PgS ps (pgB h b)) (hw:hasI l k=true) (hne:delL l k=[]):h=0/\l.length=1/\(itE (delE h (old b) k).1).length=0/\Tr s t ⟨0,0,0,(gnD h (old b) k).foldl drP ps⟩ []:=by
 have e:=aFk (k:=k) e5
 rw [if_pos hw,hne] at e
 have hl1:l.length=1:=by simpa using e.symm
 have h0:h=0:=by
  cases h with
  | zero=>rfl
  | succ h =>
   exfalso
   obtain ⟨q1,q2,q3⟩:=e7
   have n1:=e6.2.1.n1
   have hw2:(flB (h+1) b).length=b.2.1.length+((b.2.2.map (flB h)).map List.length).sum:=aB0 _ _ (by rw [List.length_map];exact q2)
   obtain ⟨k0,hk0⟩:∃ k0,k0∈b.2.2:=List.exists_mem_of_length_pos (by omega)
   have h2:=deep (q3 k0 hk0).1 (q3 k0 hk0).2
   have hp:3<=3 ^ (h+1):=by
    calc 3=3 ^ 1:=rfl
     _<=3 ^ (h+1):=Nat.pow_le_pow_right (by decide) (by omega)
   have hle:(flB h k0).length<=((b.2.2.map (flB h)).map List.length).sum:=le_sumN (List.mem_map_of_mem (List.mem_map_of_mem hk0))
   have:(flB (h+1) b).length=l.length:=by rw [e4]
   omega
 subst h0
 have hf:=del_fl k e4 e5 e6 e7 hw
 have hop:op0 (delE 0 (old b) k).1=[]:=by
  have:op0 (delE 0 (old b) k).1=delL l k:=hf
  rw [this,hne]
 refine ⟨rfl,hl1,by show (op0 (delE 0 (old b) k).1).length=0;rw [hop];rfl,Or.inl ⟨rfl,rfl,rfl,rfl,?_⟩⟩
 have hp:=pg_del (old b) k (aBh b e7) (on_it e6) (by rw [aGg k e4 e5 e6 e7];exact hw)
 rw [olP_old] at hp
 refine e9.step (L:=[]) (old:=olP 0 (delE 0 (old b) k).1) hp (List.Perm.refl _) List.nodup_nil (fun x hx=>by simp at hx) fun x hx=>by simp at hx
end
end Go.Proofs.YtfobcelkmopohaaGreat
set_option linter.unusedVariables false
namespace Go.Proofs.YtfobcelkmopohaaGreat
open Go.RowKit
theorem rootE_le {h:Nat} {e:ED h} (h4:(itE e).length<=4):rootE h e=⟨h,e⟩:=by
 unfold rootE
 rw [if_neg (by omega)]
theorem aFu {B px q g:Nat} {w:World} {d n:Int} {gone:List Nat} {iv:Value} (hE:EV B w px q (lfP g) d n gone) (hg:w.heap[g]?=some (.cells #[iv] 120 (0,0))) (hiv:∃ a c,iv=.slice a 0 c) :
  Calls Tryz.prog 46 #[.pointer (some ⟨px,0,none⟩)] w fun e' w'=>e'=.returned (.tuple #[])/\EV B w' px q (plV 0) 0 n gone/\FE B w w':=by
 obtain ⟨a0,c0',rfl⟩:=hiv
 have HIO:=zH (aAq hg)
 have ta:=aAm (.pointer (some ⟨g,0,none⟩)) w
 obtain ⟨c0,c1,c2,c3,fz⟩:=hE.cellsx
 have f1:=fz 1
 have f2:=fz 2
 have HE:=zH hE
 unfold lfP at HIO c1
 clear hE hg fz
 go_enter Tryz.func46,Tryz.ntmps46
 go_wp2_with fail
 refine HIO.o.mono ?_
 rintro e' w1 ⟨rfl,hw⟩
 have hw:=hw.symm
 subst hw
 go_wp2
 go_end0
 obtain ⟨t1,t2⟩:=HE.o.turn (rv':=plV 0) (d':=0)
 exact ⟨rfl,t1,t2⟩
theorem aFv {B px q g gc oc cc:Nat} {w:World} {d n:Int} {gone:List Nat} {iv:Value} {vt:TypeId} {vv:Value} (hE:EV B w px q (brP g) d n gone) (hg:w.heap[g]?=some (.cells #[iv,.slice (some ⟨gc,oc,none⟩) 1 cc] 138 (0,0))) (hiv:∃ a c,iv=.slice a 0 c) (hk:w.cell? ⟨gc,oc,none⟩=some (.iface vt vv)) (hd0:0<=d) (hd1:d<1000) :
  Calls Tryz.prog 46 #[.pointer (some ⟨px,0,none⟩)] w fun e' w'=>e'=.returned (.tuple #[])/\EV B w' px q (.iface vt vv) (d-1) n gone/\FE B w w'/\∀ k,k≠px->w'.heap[k]?=w.heap[k]?:=by
 obtain ⟨a0,c0',rfl⟩:=hiv
 have HIO:=zH (aAn hg)
 have ta:=aAk (.pointer (some ⟨g,0,none⟩)) w
 obtain ⟨c0,c1,c2,c3,fz⟩:=hE.cellsx
 have hgp:g≠px:=by
  intro q9
  obtain ⟨gv,h1,_⟩:=hE.hx
  rw [<-q9,hg] at h1
  simp only [oI,cI] at h1
  exact absurd h1.2.1 (by decide)
 have HE:=zH hE
 have HG:=zH hg
 have HCK:=zH hk
 have hwr:IntKind.i64.wrap (d-1)=d-1:=by rw [IntKind.wrap_i64];omega
 unfold brP at HIO c1
 have HFZ:=zH fz
 have f1:=fz 1
 have f2:=fz 2
 clear hE hg fz
 go_enter Tryz.func46,Tryz.ntmps46
 go_wp2_with fail
 refine HIO.o.mono ?_
 rintro e' w1 ⟨rfl,hw⟩
 have hw:=hw.symm
 subst hw
 have r1:w.cell? ⟨g,1,none⟩=some (.slice (some ⟨gc,oc,none⟩) 1 cc):=aAa HG.o
 go_upto_region 7 with fail
 go_region
 all_goals
  go_wp2
  go_end0
  obtain ⟨t1,t2⟩:=HE.o.turn (rv':=.iface vt vv) (d':=d-1)
  have hdr:Below ((w.setCell ⟨px,1,none⟩ (.iface vt vv)).setCell ⟨px,2,none⟩ (.int .i64 (d-1))).heap.size ((w.setCell ⟨px,1,none⟩ (.iface vt vv)).setCell ⟨px,2,none⟩ (.int .i64 (d-1))) ((w.setCell ⟨px,1,none⟩ (.iface vt vv)).setCell ⟨px,2,none⟩ (.int .i64 (d-1))).drew:=(Below.refl _ _).drew
  refine ⟨rfl,t1.later hdr,⟨t2.1.drew,t2.2⟩,fun k hk=>?_⟩
  show ((w.setCell ⟨px,1,none⟩ (.iface vt vv)).setCell ⟨px,2,none⟩ (.int .i64 (d-1))).heap[k]?=_
  rw [heap_setCell_other _ _ _ _ (by exact hk),heap_setCell_other _ _ _ _ (by exact hk)]
def ChZ [Gd] (B p q g:Nat) (s:DS) (t:PS) (w:World) (now last:StT) (sv:Value) (gone:List Nat) (w':World):Prop :=
 ∃ cs',w'.heap[g]?=some (.cells cs' 58 (0,0))/\TV cs' p q ⟨0,0,0,gone.foldl drP now.pgs⟩ last sv (cntF t.st:Nat) false/\ST B p q s t w'/\ChF B g w w'
theorem change1_no [Gd] {B p q g tb hb hf ty1 ty2:Nat} {s:DS} {t:PS} {w:World} {cs:Array Value} {now last:StT} {sv:Value} {left:Int} {cap:Array Value} (hg0:True) (hST:ST B p q s t w) (hB:B<=w.heap.size) (hgB:B<=g) (hg:w.heap[g]?=some (.cells cs 58 (0,0))) (hT:TV cs p q now last sv left false)
  (htb:w.heap[tb]?=some (.cells #[.pointer (some ⟨g,0,none⟩)] ty1 (0,0))) (hhb:w.heap[hb]?=some (.cells #[.func (Fn.func hf) #[] cap] ty2 (0,0))) (hty1:NT ty1) (hcf:∀ (v:Value) (ww:World),(callFunc hf (#[v]++cap)).run Tryz.prog ww=.ok (.enter hf (#[v]++cap)) ww)
  (hHow:∀ (w1:World) (px:Nat),B<=px->Below w.heap.size w w1->EV B w1 px q (.iface 92 (.int .i64 now.root)) now.depth now.keys []->ST B p q s t w1->B<=w1.heap.size->Calls Tryz.prog hf (#[.pointer (some ⟨px,0,none⟩)]++cap) w1 fun e' w'=>e'=.returned (.bool false)/\FE B w1 w') :
  Calls Tryz.prog 41 #[.pointer (some ⟨tb,0,none⟩),.pointer (some ⟨hb,0,none⟩)] w fun e' w'=>e'=.returned (.int .i64 0)/\FE B w w':=by
 have r1:w.cell? ⟨g,1,none⟩=some (.pointer (some ⟨q,0,none⟩)):=(aAa hg).trans hT.c1
 have r2:w.cell? ⟨g,2,none⟩=some (.int .i64 now.root):=(aAa hg).trans hT.n0
 have r3:w.cell? ⟨g,3,none⟩=some (.int .i64 now.depth):=(aAa hg).trans hT.n1
 have r4:w.cell? ⟨g,4,none⟩=some (.int .i64 now.keys):=(aAa hg).trans hT.n2
 have r5:w.cell? ⟨tb,0,none⟩=some (.pointer (some ⟨g,0,none⟩)):=aAa htb
 have r6:w.cell? ⟨hb,0,none⟩=some (.func (Fn.func hf) #[] cap):=aAa hhb
 have HG:=zH hg
 have HT:=zH hT
 have HST:=zH hST
 have HTB:=zH htb
 have HHW:=zH hHow
 have HNT:=zH hty1
 clear hg hT hST htb hhb hHow hty1
 go_enter Tryz.func41,Tryz.ntmps41
 go_upto_region 1 with fail
 have HY0:Hid ((fun wx=>wx.cell? ⟨tb,0,none⟩=some (.pointer (some ⟨g,0,none⟩))/\wx.cell? ⟨g,1,none⟩=some (.pointer (some ⟨q,0,none⟩))/\wx.cell? ⟨g,2,none⟩=some (.int .i64 now.root)/\wx.cell? ⟨g,3,none⟩=some (.int .i64 now.depth)/\wx.cell? ⟨g,4,none⟩=some (.int .i64 now.keys)) w.drew):=⟨r5,r1,r2,r3,r4⟩
 have HBQ:=zH ((aAb w (.cells #[.pointer (some ⟨q,0,none⟩),.iface 92 (.int .i64 now.root),.int .i64 now.depth,.int .i64 now.keys,.slice none 0 0,.slice none 0 0] 97)).drew)
 have HX1:Hid ((w.alloc (.cells #[.pointer (some ⟨q,0,none⟩),.iface 92 (.int .i64 now.root),.int .i64 now.depth,.int .i64 now.keys,.slice none 0 0,.slice none 0 0] 97)).drew.heap[w.heap.size]?=some (.cells #[.pointer (some ⟨q,0,none⟩),.iface 92 (.int .i64 now.root),.int .i64 now.depth,.int .i64 now.keys,.slice none 0 0,.slice none 0 0] 97 (0,0))):=heap_alloc_new w _
 have HY1:Hid ((fun wx=>wx.cell? ⟨tb,0,none⟩=some (.pointer (some ⟨g,0,none⟩))/\wx.cell? ⟨g,1,none⟩=some (.pointer (some ⟨q,0,none⟩))/\wx.cell? ⟨g,2,none⟩=some (.int .i64 now.root)/\wx.cell? ⟨g,3,none⟩=some (.int .i64 now.depth)/\wx.cell? ⟨g,4,none⟩=some (.int .i64 now.keys)) ((w.alloc (.cells #[.pointer (some ⟨q,0,none⟩),.iface 92 (.int .i64 now.root),.int .i64 now.depth,.int .i64 now.keys,.slice none 0 0,.slice none 0 0] 97)).drew)):=by
  have k5:=block_lt_of_cell r5
  have k1:=block_lt_of_cell r1
  exact ⟨(HBQ.o.cell (p:=⟨tb,0,none⟩) k5).trans r5,(HBQ.o.cell (p:=⟨g,1,none⟩) k1).trans r1,(HBQ.o.cell (p:=⟨g,2,none⟩) k1).trans r2,(HBQ.o.cell (p:=⟨g,3,none⟩) k1).trans r3,(HBQ.o.cell (p:=⟨g,4,none⟩) k1).trans r4⟩
 have HR5:=zH r5
 have HR6:=zH r6
 clear r1 r2 r3 r4 r5 r6
 refine wp_region_noPanic ?_
 refine wp_region_held_drew (S:=fun wx=>wx.cell? ⟨tb,0,none⟩=some (.pointer (some ⟨g,0,none⟩))/\wx.cell? ⟨g,1,none⟩=some (.pointer (some ⟨q,0,none⟩))/\wx.cell? ⟨g,2,none⟩=some (.int .i64 now.root)/\wx.cell? ⟨g,3,none⟩=some (.int .i64 now.depth)/\wx.cell? ⟨g,4,none⟩=some (.int .i64 now.keys)) (by kernel_rfl) HY0.o (fun hHeld=>?_)
 refine kT 0 6 ?_
 refine kT 1 7 ?_
 refine kT 2 8 ?_
 refine kT 3 9 ?_
 refine kT 4 10 ?_
 refine kT 5 11 ?_
 refine kT 6 12 ?_
 refine kT 7 13 ?_
 refine kT 8 14 ?_
 refine kT 9 15 ?_
 refine kT 10 16 ?_
 refine kT 11 17 ?_
 refine kT 12 18 ?_
 refine kT 13 19 ?_
 refine kT 14 20 ?_
 refine kT 15 21 ?_
 refine kT 16 22 ?_
 refine kT 17 23 ?_
 refine kT 18 24 ?_
 refine kT 19 25 ?_
 refine kT 20 26 ?_
 refine kC 21 ?_;intro K hK
 go_simp
 clear hHeld
 refine hK.out _ _ HY1.o (fun hHeld=>?_)
 clear hK K
 try simp only [Act.put,siT,scZ,scS]
 refine kT 22 3 ?_
 refine wpAnyH_done (by kernel_rfl) ?_ _
 refine NoPanic.normal ?_
 clear hHeld HY0 HY1
 have HB1:=HBQ
 clear HBQ
 generalize ((w.alloc (.cells #[.pointer (some ⟨q,0,none⟩),.iface 92 (.int .i64 now.root),.int .i64 now.depth,.int .i64 now.keys,.slice none 0 0,.slice none 0 0] 97)).drew)=w1 at *
 have r5:=HR5.o
 have r6:=HR6.o
 have t1:w1.cell? ⟨tb,0,none⟩=some (.pointer (some ⟨g,0,none⟩)):=(HB1.o.cell (p:=⟨tb,0,none⟩) (block_lt_of_cell r5)).trans r5
 have h1:w1.cell? ⟨hb,0,none⟩=some (.func (Fn.func hf) #[] cap):=(HB1.o.cell (p:=⟨hb,0,none⟩) (block_lt_of_cell r6)).trans r6
 have c1:=hcf (.pointer (some ⟨w.heap.size,0,none⟩)) w1
 have HF1:=zH (FE.of HB1.o hB)
 have HEV1:Hid (EV B w1 w.heap.size q (.iface 92 (.int .i64 now.root)) now.depth now.keys []):=⟨hB,⟨_,HX1.o,aHw⟩,by simp⟩
 have HCL:=zH (HHW.o w1 w.heap.size hB HB1.o HEV1.o (HST.o.later HB1.o) (nT hB HB1.o.size))
 have HBw1:Hid (B<=w1.heap.size):=nT hB HB1.o.size
 clear r5 r6 hcf HX1 HEV1 HHW HB1 HR5 HR6
 generalize hpx:w.heap.size=px at *
 go_wp2_with fail
 refine HCL.o.mono ?_
 rintro e2 w2 ⟨rfl,v4⟩
 have HF2:=zH (HF1.o.trans v4)
 clear v4 t1 h1 c1 HCL
 go_wp2
 go_ret
 exact ⟨rfl,HF2.o⟩
theorem change1_zero [Gd] {B p q g tb hb hf ty1 ty2:Nat} {s:DS} {t:PS} {w:World} {cs:Array Value} {now last:StT} {sv:Value} {left:Int} {cap:Array Value} {gone:List Nat} (hg0:True) (hST:ST B p q s t w) (hB:B<=w.heap.size) (hgB:B<=g) (hg:w.heap[g]?=some (.cells cs 58 (0,0))) (hT:TV cs p q now last sv left false)
  (htb:w.heap[tb]?=some (.cells #[.pointer (some ⟨g,0,none⟩)] ty1 (0,0))) (hhb:w.heap[hb]?=some (.cells #[.func (Fn.func hf) #[] cap] ty2 (0,0))) (hty1:NT ty1) (hcf:∀ (v:Value) (ww:World),(callFunc hf (#[v]++cap)).run Tryz.prog ww=.ok (.enter hf (#[v]++cap)) ww)
  (hHow:∀ (w1:World) (px:Nat),B<=px->Below w.heap.size w w1->EV B w1 px q (.iface 92 (.int .i64 now.root)) now.depth now.keys []->ST B p q s t w1->B<=w1.heap.size->Calls Tryz.prog hf (#[.pointer (some ⟨px,0,none⟩)]++cap) w1 fun e' w'=>e'=.returned (.bool true)/\EV B w' px q (plV 0) 0 0 gone/\FE B w1 w') (hgo:∀ x∈gone,x<4096) (hgl:gone.length<100000) :
  Calls Tryz.prog 41 #[.pointer (some ⟨tb,0,none⟩),.pointer (some ⟨hb,0,none⟩)] w fun e' w'=>e'=.returned (.int .i64 0)/\ChZ B p q g s t w now last sv gone w':=by
 have r1:w.cell? ⟨g,1,none⟩=some (.pointer (some ⟨q,0,none⟩)):=(aAa hg).trans hT.c1
 have r2:w.cell? ⟨g,2,none⟩=some (.int .i64 now.root):=(aAa hg).trans hT.n0
 have r3:w.cell? ⟨g,3,none⟩=some (.int .i64 now.depth):=(aAa hg).trans hT.n1
 have r4:w.cell? ⟨g,4,none⟩=some (.int .i64 now.keys):=(aAa hg).trans hT.n2
 have r5:w.cell? ⟨tb,0,none⟩=some (.pointer (some ⟨g,0,none⟩)):=aAa htb
 have r6:w.cell? ⟨hb,0,none⟩=some (.func (Fn.func hf) #[] cap):=aAa hhb
 have hsl:t.st.length<=4096:=by obtain ⟨_,gs,h2⟩:=hST;exact h2.ok.sl
 have HG:=zH hg
 have HT:=zH hT
 have HST:=zH hST
 have HTB:=zH htb
 have HHW:=zH hHow
 have HGO:=zH hgo
 have HGL:=zH hgl
 have HNT:=zH hty1
 clear hg hT hST htb hhb hHow hgo hgl hty1
 go_enter Tryz.func41,Tryz.ntmps41
 go_upto_region 1 with fail
 have HY0:Hid ((fun wx=>wx.cell? ⟨tb,0,none⟩=some (.pointer (some ⟨g,0,none⟩))/\wx.cell? ⟨g,1,none⟩=some (.pointer (some ⟨q,0,none⟩))/\wx.cell? ⟨g,2,none⟩=some (.int .i64 now.root)/\wx.cell? ⟨g,3,none⟩=some (.int .i64 now.depth)/\wx.cell? ⟨g,4,none⟩=some (.int .i64 now.keys)) w.drew):=⟨r5,r1,r2,r3,r4⟩
 have HBQ:=zH ((aAb w (.cells #[.pointer (some ⟨q,0,none⟩),.iface 92 (.int .i64 now.root),.int .i64 now.depth,.int .i64 now.keys,.slice none 0 0,.slice none 0 0] 97)).drew)
 have HX1:Hid ((w.alloc (.cells #[.pointer (some ⟨q,0,none⟩),.iface 92 (.int .i64 now.root),.int .i64 now.depth,.int .i64 now.keys,.slice none 0 0,.slice none 0 0] 97)).drew.heap[w.heap.size]?=some (.cells #[.pointer (some ⟨q,0,none⟩),.iface 92 (.int .i64 now.root),.int .i64 now.depth,.int .i64 now.keys,.slice none 0 0,.slice none 0 0] 97 (0,0))):=heap_alloc_new w _
 have HY1:Hid ((fun wx=>wx.cell? ⟨tb,0,none⟩=some (.pointer (some ⟨g,0,none⟩))/\wx.cell? ⟨g,1,none⟩=some (.pointer (some ⟨q,0,none⟩))/\wx.cell? ⟨g,2,none⟩=some (.int .i64 now.root)/\wx.cell? ⟨g,3,none⟩=some (.int .i64 now.depth)/\wx.cell? ⟨g,4,none⟩=some (.int .i64 now.keys)) ((w.alloc (.cells #[.pointer (some ⟨q,0,none⟩),.iface 92 (.int .i64 now.root),.int .i64 now.depth,.int .i64 now.keys,.slice none 0 0,.slice none 0 0] 97)).drew)):=by
  have k5:=block_lt_of_cell r5
  have k1:=block_lt_of_cell r1
  exact ⟨(HBQ.o.cell (p:=⟨tb,0,none⟩) k5).trans r5,(HBQ.o.cell (p:=⟨g,1,none⟩) k1).trans r1,(HBQ.o.cell (p:=⟨g,2,none⟩) k1).trans r2,(HBQ.o.cell (p:=⟨g,3,none⟩) k1).trans r3,(HBQ.o.cell (p:=⟨g,4,none⟩) k1).trans r4⟩
 have HR5:=zH r5
 have HR6:=zH r6
 clear r1 r2 r3 r4 r5 r6
 refine wp_region_noPanic ?_
 refine wp_region_held_drew (S:=fun wx=>wx.cell? ⟨tb,0,none⟩=some (.pointer (some ⟨g,0,none⟩))/\wx.cell? ⟨g,1,none⟩=some (.pointer (some ⟨q,0,none⟩))/\wx.cell? ⟨g,2,none⟩=some (.int .i64 now.root)/\wx.cell? ⟨g,3,none⟩=some (.int .i64 now.depth)/\wx.cell? ⟨g,4,none⟩=some (.int .i64 now.keys)) (by kernel_rfl) HY0.o (fun hHeld=>?_)
 refine kT 0 6 ?_
 refine kT 1 7 ?_
 refine kT 2 8 ?_
 refine kT 3 9 ?_
 refine kT 4 10 ?_
 refine kT 5 11 ?_
 refine kT 6 12 ?_
 refine kT 7 13 ?_
 refine kT 8 14 ?_
 refine kT 9 15 ?_
 refine kT 10 16 ?_
 refine kT 11 17 ?_
 refine kT 12 18 ?_
 refine kT 13 19 ?_
 refine kT 14 20 ?_
 refine kT 15 21 ?_
 refine kT 16 22 ?_
 refine kT 17 23 ?_
 refine kT 18 24 ?_
 refine kT 19 25 ?_
 refine kT 20 26 ?_
 refine kC 21 ?_;intro K hK
 go_simp
 clear hHeld
 refine hK.out _ _ HY1.o (fun hHeld=>?_)
 clear hK K
 try simp only [Act.put,siT,scZ,scS]
 refine kT 22 3 ?_
 refine wpAnyH_done (by kernel_rfl) ?_ _
 refine NoPanic.normal ?_
 clear hHeld HY0 HY1
 have HB1:=HBQ
 clear HBQ
 generalize ((w.alloc (.cells #[.pointer (some ⟨q,0,none⟩),.iface 92 (.int .i64 now.root),.int .i64 now.depth,.int .i64 now.keys,.slice none 0 0,.slice none 0 0] 97)).drew)=w1 at *
 have r5:=HR5.o
 have r6:=HR6.o
 have t1:w1.cell? ⟨tb,0,none⟩=some (.pointer (some ⟨g,0,none⟩)):=(HB1.o.cell (p:=⟨tb,0,none⟩) (block_lt_of_cell r5)).trans r5
 have h1:w1.cell? ⟨hb,0,none⟩=some (.func (Fn.func hf) #[] cap):=(HB1.o.cell (p:=⟨hb,0,none⟩) (block_lt_of_cell r6)).trans r6
 have c1:=hcf (.pointer (some ⟨w.heap.size,0,none⟩)) w1
 have HF1:=zH (FE.of HB1.o hB)
 have HEV1:Hid (EV B w1 w.heap.size q (.iface 92 (.int .i64 now.root)) now.depth now.keys []):=⟨hB,⟨_,HX1.o,aHw⟩,by simp⟩
 have HCL:=zH (HHW.o w1 w.heap.size hB HB1.o HEV1.o (HST.o.later HB1.o) (nT hB HB1.o.size))
 have HBw1:Hid (B<=w1.heap.size):=nT hB HB1.o.size
 clear r5 r6 hcf HX1 HEV1 HHW HB1 HR5 HR6
 generalize hpx:w.heap.size=px at *
 go_wp2_with fail
 refine HCL.o.mono ?_
 rintro e2 w2 ⟨rfl,v1,v4⟩
 have HF2:=zH (HF1.o.trans v4)
 have HBw2:Hid (B<=w2.heap.size):=nT HBw1.o v4.1.size
 have HEV2:=zH v1
 have HST2:=zH (HF2.o.st HST.o hg0)
 have HG2:=zH (HF2.o.nt HG.o (by decide))
 have HMR:=zH (aEc HST2.o HG2.o HT.o v1 (aGd w2 0) (Nat.zero_le _))
 have t2:w2.cell? ⟨tb,0,none⟩=some (.pointer (some ⟨g,0,none⟩)):=aAa (HF2.o.nt HTB.o HNT.o)
 clear v1 v4 t1 h1 c1 HCL
 go_wp2_with fail
 refine HMR.o.mono ?_
 rintro e3 w3 ⟨rfl,hb3⟩
 have HB3:=zH hb3
 have HB3d:Hid (Below w2.heap.size w2 w3.drew):=hb3.drew
 have HF3:=zH (HF2.o.trans (FE.of HB3d.o HBw2.o))
 have HG3:Hid (w3.heap[g]?=some (.cells cs 58 (0,0))):=HF3.o.nt HG.o (by decide)
 have t3:w3.cell? ⟨tb,0,none⟩=some (.pointer (some ⟨g,0,none⟩)):=aAa (show w3.heap[tb]?=_ from HF3.o.nt HTB.o HNT.o)
 have g3:w3.cell? ⟨g,1,none⟩=some (.pointer (some ⟨q,0,none⟩)):=(aAa HG3.o).trans HT.o.c1
 have p3:w3.cell? ⟨px,1,none⟩=some (.iface 92 (.int .i64 0)):=((HEV2.o.later hb3).cellsx).2.1
 have HLY:=zH (aF6 (px:=px) (q:=q) (w:=w3.drew) (i:=0))
 unfold plV at HLY
 change Hid (Calls Tryz.prog 43 #[.pointer (some ⟨px,0,none⟩),.pointer (some ⟨q,0,none⟩),.iface 92 (.int .i64 0)] w3.drew fun e w'=>e=.returned (.tuple #[.int .i64 0,.int .i64 0])/\Below w3.heap.size w3.drew w') at HLY
 clear hb3 t2 HMR
 go_upto_region 6 with fail
 have HX0:Hid ((fun wx=>wx.cell? ⟨tb,0,none⟩=some (.pointer (some ⟨g,0,none⟩))/\wx.cell? ⟨g,1,none⟩=some (.pointer (some ⟨q,0,none⟩))/\wx.cell? ⟨px,1,none⟩=some (.iface 92 (.int .i64 0))) w3.drew):=⟨t3,g3,p3⟩
 clear t3 g3 p3
 refine wp_region_noPanic ?_
 refine wp_region_held_drew (S:=fun wx=>wx.cell? ⟨tb,0,none⟩=some (.pointer (some ⟨g,0,none⟩))/\wx.cell? ⟨g,1,none⟩=some (.pointer (some ⟨q,0,none⟩))/\wx.cell? ⟨px,1,none⟩=some (.iface 92 (.int .i64 0))) (by kernel_rfl) HX0.o (fun hHeld=>?_)
 refine kT 0 37 ?_
 refine kT 1 38 ?_
 refine kT 2 39 ?_
 refine kT 3 40 ?_
 refine kT 4 41 ?_
 refine kT 5 42 ?_
 refine kT 6 43 ?_
 refine kT 7 44 ?_
 refine kT 8 45 ?_
 refine kC 9 ?_;intro K hK
 go_simp
 refine HLY.o.mono ?_
 rintro e4 w4 ⟨rfl,hb4⟩
 have HB4:Hid (Below w2.heap.size w2 w4):=HB3d.o.trans (hb4.mono HB3.o.size)
 have HF4:=zH (HF2.o.trans (FE.of HB4.o HBw2.o))
 have HG4:Hid (w4.heap[g]?=some (.cells cs 58 (0,0))):=HF4.o.nt HG.o (by decide)
 have HTB4:Hid (w4.heap[tb]?=some (.cells #[.pointer (some ⟨g,0,none⟩)] ty1 (0,0))):=HF4.o.nt HTB.o HNT.o
 have HX1:Hid ((fun wx=>wx.cell? ⟨tb,0,none⟩=some (.pointer (some ⟨g,0,none⟩))/\wx.cell? ⟨g,1,none⟩=some (.pointer (some ⟨q,0,none⟩))/\wx.cell? ⟨px,1,none⟩=some (.iface 92 (.int .i64 0))) w4):=⟨aAa HTB4.o,(aAa HG4.o).trans HT.o.c1,(HEV2.o.later HB4.o).cellsx.2.1⟩
 clear hb4 hHeld
 refine hK.out _ _ HX1.o (fun hHeld=>?_)
 clear hK K
 try simp only [Act.put,siT,scZ,scS]
 refine kT 10 36 ?_
 refine kT 11 47 ?_
 refine kT 12 48 ?_
 refine kT 13 4 ?_
 refine kT 14 5 ?_
 refine wpAnyH_done (by kernel_rfl) ?_ _
 refine NoPanic.normal ?_
 clear hHeld HX0 HX1 HLY
 have t4x:w4.cell? ⟨tb,0,none⟩=some (.pointer (some ⟨g,0,none⟩)):=aAa HTB4.o
 have HTK:=zH (take_ok (root:=0) hgB (HST2.o.later HB4.o) HG4.o HT.o (HEV2.o.later HB4.o).el HGO.o (fun x hx=>by simp at hx) HGL.o (by simp))
 change Hid (Calls Tryz.prog 44 #[.pointer (some ⟨g,0,none⟩),.pointer (some ⟨px,0,none⟩),.int .i64 0] w4 _) at HTK
 go_wp2_with fail
 refine HTK.o.mono ?_
 rintro e5 w5 ⟨rfl,cs',k1,k2,k3⟩
 have HK1:=zH k1
 have HK2:=zH k2
 have HK3:=zH k3
 clear k1 k2 k3 t4x HTK
 go_wp2
 go_ret
 refine ⟨rfl,cs',HK1.o,HK2.o,(HST2.o.later HB4.o).exT HK3.o HG4.o,HF4.o.1.trans HK3.o.1,fun k cs0 t0 fz k1 k2 k3=>?_,HF4.o.gdk.trans (HK3.o.gdk HG4.o (by unfold DTy;decide))⟩
 have m1:=HF4.o.nt k1 k2
 rw [HK3.o.2 k (lO m1) (by simpa using k3),m1]
theorem change_no [Gd] {B p q g hf:Nat} {s:DS} {t:PS} {w:World} {cs:Array Value} {now last:StT} {sv:Value} {left:Int} {cap:Array Value} (hg0:True) (hST:ST B p q s t w) (hB:B<=w.heap.size) (hgB:B<=g) (hg:w.heap[g]?=some (.cells cs 58 (0,0))) (hT:TV cs p q now last sv left false)
  (hcf:∀ (v:Value) (ww:World),(callFunc hf (#[v]++cap)).run Tryz.prog ww=.ok (.enter hf (#[v]++cap)) ww)
  (hHow:∀ (w1:World) (px:Nat),B<=px->Below w.heap.size w w1->EV B w1 px q (.iface 92 (.int .i64 now.root)) now.depth now.keys []->ST B p q s t w1->B<=w1.heap.size->Calls Tryz.prog hf (#[.pointer (some ⟨px,0,none⟩)]++cap) w1 fun e' w'=>e'=.returned (.bool false)/\FE B w1 w') :
  Calls Tryz.prog 18 #[.pointer (some ⟨g,0,none⟩),.func (Fn.func hf) #[] cap] w fun e' w'=>e'=.returned (.int .i64 0)/\FE B w w':=by
 have hmf:∀ (fn:Fn) (first cap:Array Value) (w:World),(Instr.makeFunc fn first cap).run Tryz.prog w=.ok (.func fn first cap) w:=fun _ _ _ _=>rfl
 have hgl':=(lO hg)
 have x1:Hid ((w.alloc (.cells #[.pointer (some ⟨g,0,none⟩)] 24)).heap[w.heap.size]?=some (.cells #[.pointer (some ⟨g,0,none⟩)] 24 (0,0))):=heap_alloc_new w _
 have b1:=aAb w (.cells #[.pointer (some ⟨g,0,none⟩)] 24)
 have e1:(w.alloc (.cells #[.pointer (some ⟨g,0,none⟩)] 24)).heap.size=w.heap.size+1:=Array.size_push _
 have HCR:Hid (Calls Tryz.prog 40 #[.func (Fn.func 41) #[] #[.pointer (some ⟨w.heap.size,0,none⟩),.pointer (some ⟨w.heap.size+1,0,none⟩)]] ((w.alloc (.cells #[.pointer (some ⟨g,0,none⟩)] 24)).alloc (.cells #[.func (Fn.func hf) #[] cap] 62)) fun e' w'=>e'=.returned (.int .i64 0)/\FE B w w'):=by
  generalize hw1:(w.alloc (.cells #[.pointer (some ⟨g,0,none⟩)] 24))=w1 at *
  have x2:(w1.alloc (.cells #[.func (Fn.func hf) #[] cap] 62)).heap[w1.heap.size]?=some (.cells #[.func (Fn.func hf) #[] cap] 62 (0,0)):=heap_alloc_new w1 _
  have b2:=aAb w1 (.cells #[.func (Fn.func hf) #[] cap] 62)
  generalize hw2:(w1.alloc (.cells #[.func (Fn.func hf) #[] cap] 62))=w2 at *
  have x3:(w2.alloc (.cells #[.int .i64 0] 33)).heap[w2.heap.size]?=some (.cells #[.int .i64 0] 33 (0,0)):=heap_alloc_new w2 _
  have b3:=aAb w2 (.cells #[.int .i64 0] 33)
  have b12:Below w.heap.size w w2:=b1.trans (b2.mono b1.size)
  have b13:Below w.heap.size w (w2.alloc (.cells #[.int .i64 0] 33)):=b12.trans (b3.mono b12.size)
  have hbx:B<=w2.heap.size:=nT hB b12.size
  have y1:=((b2.block w.heap.size (by omega)).trans x1.out)
  have y1':=((b3.block w.heap.size (lO y1)).trans y1)
  have y2':=((b3.block w1.heap.size (lO x2)).trans x2)
  rw [e1] at y2'
  have hC:=change1_no (w:=w2.alloc (.cells #[.int .i64 0] 33)) hg0 (hST.later b13) (nT hB b13.size) hgB ((b13.block g hgl').trans hg) hT y1' y2' (by decide) hcf (fun wx px k1 k2=>hHow wx px k1 (b13.trans (k2.mono b13.size)))
  refine (aB8 (w:=w2) (P:=fun r ww=>r=0/\FE B (w2.alloc (.cells #[.int .i64 0] 33)) ww) (fun ww=>by rfl) (hC.mono ?_)).mono ?_
  ·rintro e9 w9 ⟨rfl,hc⟩
   exact ⟨0,rfl,⟨rfl,hc⟩,hc.2 _ _ _ _ x3 (by decide) (by decide)⟩
  ·rintro e9 w9 ⟨r,w8,rfl,⟨rfl,hc⟩,rfl⟩
   refine ⟨rfl,?_⟩
   have x9:=hc.2 _ _ _ _ x3 (by decide) (by decide)
   have hex:Ex B [w2.heap.size] w8 (w8.setCell ⟨w2.heap.size,0,none⟩ (.int .i64 0)):=Ex.set hbx
   have hbase:=(FE.of b13 hB).trans hc
   refine ⟨hbase.1.trans hex.1,fun k cs0 t0 fz m1 m2 m3=>?_⟩
   have m4:=hbase.2 k cs0 t0 fz m1 m2 m3
   have hkl:=(lO m1)
   have hs2:=b12.size
   rw [hex.2 k (lO m4) (by simp;omega),m4]
 clear hST hg hT hcf hHow x1 b1
 go_enter Tryz.func18,Tryz.ntmps18
 go_wp2_with fail
 refine HCR.o.mono ?_
 rintro e9 w9 ⟨rfl,hc⟩
 have HC:=zH hc
 clear hc
 go_wp2
 go_ret
 exact ⟨rfl,HC.o⟩
theorem change_zero [Gd] {B p q g hf:Nat} {s:DS} {t:PS} {w:World} {cs:Array Value} {now last:StT} {sv:Value} {left:Int} {cap:Array Value} {gone:List Nat} (hg0:True) (hST:ST B p q s t w) (hB:B<=w.heap.size) (hgB:B<=g) (hg:w.heap[g]?=some (.cells cs 58 (0,0))) (hT:TV cs p q now last sv left false)
  (hcf:∀ (v:Value) (ww:World),(callFunc hf (#[v]++cap)).run Tryz.prog ww=.ok (.enter hf (#[v]++cap)) ww)
  (hHow:∀ (w1:World) (px:Nat),B<=px->Below w.heap.size w w1->EV B w1 px q (.iface 92 (.int .i64 now.root)) now.depth now.keys []->ST B p q s t w1->B<=w1.heap.size->Calls Tryz.prog hf (#[.pointer (some ⟨px,0,none⟩)]++cap) w1 fun e' w'=>e'=.returned (.bool true)/\EV B w' px q (plV 0) 0 0 gone/\FE B w1 w') (hgo:∀ x∈gone,x<4096) (hgl:gone.length<100000) :
  Calls Tryz.prog 18 #[.pointer (some ⟨g,0,none⟩),.func (Fn.func hf) #[] cap] w fun e' w'=>e'=.returned (.int .i64 0)/\ChZ B p q g s t w now last sv gone w':=by
 have hmf:∀ (fn:Fn) (first cap:Array Value) (w:World),(Instr.makeFunc fn first cap).run Tryz.prog w=.ok (.func fn first cap) w:=fun _ _ _ _=>rfl
 have hgl':=(lO hg)
 have x1:Hid ((w.alloc (.cells #[.pointer (some ⟨g,0,none⟩)] 24)).heap[w.heap.size]?=some (.cells #[.pointer (some ⟨g,0,none⟩)] 24 (0,0))):=heap_alloc_new w _
 have b1:=aAb w (.cells #[.pointer (some ⟨g,0,none⟩)] 24)
 have e1:(w.alloc (.cells #[.pointer (some ⟨g,0,none⟩)] 24)).heap.size=w.heap.size+1:=Array.size_push _
 have HCR:Hid (Calls Tryz.prog 40 #[.func (Fn.func 41) #[] #[.pointer (some ⟨w.heap.size,0,none⟩),.pointer (some ⟨w.heap.size+1,0,none⟩)]] ((w.alloc (.cells #[.pointer (some ⟨g,0,none⟩)] 24)).alloc (.cells #[.func (Fn.func hf) #[] cap] 62)) fun e' w'=>e'=.returned (.int .i64 0)/\ChZ B p q g s t w now last sv gone w'):=by
  generalize hw1:(w.alloc (.cells #[.pointer (some ⟨g,0,none⟩)] 24))=w1 at *
  have x2:(w1.alloc (.cells #[.func (Fn.func hf) #[] cap] 62)).heap[w1.heap.size]?=some (.cells #[.func (Fn.func hf) #[] cap] 62 (0,0)):=heap_alloc_new w1 _
  have b2:=aAb w1 (.cells #[.func (Fn.func hf) #[] cap] 62)
  generalize hw2:(w1.alloc (.cells #[.func (Fn.func hf) #[] cap] 62))=w2 at *
  have x3:(w2.alloc (.cells #[.int .i64 0] 33)).heap[w2.heap.size]?=some (.cells #[.int .i64 0] 33 (0,0)):=heap_alloc_new w2 _
  have b3:=aAb w2 (.cells #[.int .i64 0] 33)
  have b12:Below w.heap.size w w2:=b1.trans (b2.mono b1.size)
  have b13:Below w.heap.size w (w2.alloc (.cells #[.int .i64 0] 33)):=b12.trans (b3.mono b12.size)
  have hbx:B<=w2.heap.size:=nT hB b12.size
  have y1:=((b2.block w.heap.size (by omega)).trans x1.out)
  have y1':=((b3.block w.heap.size (lO y1)).trans y1)
  have y2':=((b3.block w1.heap.size (lO x2)).trans x2)
  rw [e1] at y2'
  have hC:=change1_zero (w:=w2.alloc (.cells #[.int .i64 0] 33)) hg0 (hST.later b13) (nT hB b13.size) hgB ((b13.block g hgl').trans hg) hT y1' y2' (by decide) hcf (fun wx px k1 k2=>hHow wx px k1 (b13.trans (k2.mono b13.size))) hgo hgl
  have hgs:g<w2.heap.size:=Nat.lt_of_lt_of_le hgl' b12.size
  refine (aB8 (w:=w2) (P:=fun r ww=>r=0/\ChZ B p q g s t (w2.alloc (.cells #[.int .i64 0] 33)) now last sv gone ww) (fun ww=>by rfl) (hC.mono ?_)).mono ?_
  ·rintro e9 w9 ⟨rfl,hc⟩
   refine ⟨0,rfl,⟨rfl,hc⟩,?_⟩
   obtain ⟨cs',k1,k2,k3,k4⟩:=hc
   exact k4.2 _ _ _ _ x3 (by decide) (by omega)
  ·rintro e9 w9 ⟨r,w8,rfl,⟨rfl,hc⟩,rfl⟩
   refine ⟨rfl,?_⟩
   obtain ⟨cs',k1,k2,k3,k4⟩:=hc
   have x9:=k4.2 _ _ _ _ x3 (by decide) (by omega)
   have hex:Ex B [w2.heap.size] w8 (w8.setCell ⟨w2.heap.size,0,none⟩ (.int .i64 0)):=Ex.set hbx
   refine ⟨cs',hex.keepX x9 k1 (by decide),k2,k3.exE hex x9,(b13.mono hB).trans (k4.1.trans hex.1),fun k cs0 t0 fz m1 m2 m3=>?_,(GdK.of b13).trans (k4.gd.trans (hex.gdk x9 (by unfold DTy;decide)))⟩
   have m4:=k4.2 k cs0 t0 fz ((b13.block k (lO m1)).trans m1) m2 m3
   have hkl:=(lO m1)
   have hs2:=b12.size
   rw [hex.2 k (lO m4) (by simp;omega),m4]
 clear hST hg hT hcf hHow hgo hgl x1 b1
 go_enter Tryz.func18,Tryz.ntmps18
 go_wp2_with fail
 refine HCR.o.mono ?_
 rintro e9 w9 ⟨rfl,hc⟩
 have HC:=zH hc
 clear hc
 go_wp2
 go_ret
 exact ⟨rfl,HC.o⟩
end Go.Proofs.YtfobcelkmopohaaGreat
set_option linter.unusedVariables false
namespace Go.Proofs.YtfobcelkmopohaaGreat
def mk8 (c:Nat):Nat->Nat
 | 0=>0
 | n+1=>c+256*mk8 c n
def st2 (n x:Nat):Nat:=(x / 4 &&& mk8 51 n)+(x &&& mk8 51 n)
def st3 (n x:Nat):Nat:=(x / 16+x) &&& mk8 15 n
def y1 (b:Nat):Nat:=(b / 2 &&& 85)+(b &&& 85)
def y2 (b:Nat):Nat:=(b / 4 &&& 51)+(b &&& 51)
end Go.Proofs.YtfobcelkmopohaaGreat
set_option linter.unusedVariables false
namespace Go.Proofs.YtfobcelkmopohaaGreat
theorem endB_nil (k:List Nat):endB [] k=false:=rfl
theorem scan_take {most:Nat}:∀ (l F:List It),F.length<most->(scan [] most F l).1=F++l.take (most-F.length)
 | [],F,_=>by simp [scan]
 | x::l,F,h=>by
  simp only [scan,endB_nil,Bool.false_eq_true,if_false]
  have e:most-F.length=(most-(F.length+1))+1:=by omega
  by_cases c:F.length+1<most
  ·rw [if_pos c,scan_take l (F++[x]) (by simpa using c),e,List.take_succ_cons]
   simp
  ·rw [if_neg c]
   have:most-F.length=1:=by omega
   rw [this]
   simp
theorem rngL_take (l:List It) (lo:List Nat) {most:Nat} (h:0<most):rngL l lo [] most=(frm l lo).take most:=by
 unfold rngL
 rw [scan_take _ [] (by simpa using h)]
 simp
end Go.Proofs.YtfobcelkmopohaaGreat
set_option linter.unusedVariables false
namespace Go.Proofs.YtfobcelkmopohaaGreat
open Go.RowKit
theorem cmpB_ge_nil (x:List Nat):0<=cmpB x []:=by
 by_cases c:x=[]
 ·rw [c,aBe];exact Int.le_refl 0
 ·have:=cmpB_nil.2 c;omega
theorem rng_all {l:List It} (h:l.length<=999):rngL l [] [] 999=l:=by
 rw [rngL_take l [] (by decide)]
 have:frm l []=l:=by
  unfold frm
  rw [List.filter_eq_self]
  intro x _
  simpa using cmpB_ge_nil x.1
 rw [this,List.take_of_length_le h]
end Go.Proofs.YtfobcelkmopohaaGreat
