import Derived.Test.YtmmcebojbbdfmaaGreatZ29
import Derived.Laws.IdiomStrings
set_option maxRecDepth 100000
set_option maxHeartbeats 16000000
set_option linter.unusedVariables false
namespace Go.Proofs.YtmmcebojbbdfmaaGreat
open Go.RowKit
def sl (s:ByteArray):List Nat:=s.data.toList.map UInt8.toNat
theorem uint_ob (n:Nat) (w:World) (h:n<9223372036854775808):Calls Tryz.prog 50 #[.int .i64 n] w fun e w'=>∃ g c,e=.returned (.slice (some ⟨g,0,none⟩) (grp n) c)∧OB w.heap.size w' (.slice (some ⟨g,0,none⟩) (grp n) c) (encW n)∧Below w.heap.size w w':=by
 refine (aDc n w h).mono ?_
 rintro e w' ⟨g,c,rfl,h1,h2⟩
 refine ⟨g,c,rfl,?_,h2⟩
 show World.ownsRow _ _ _ _ _ _ _
 rw [aAv n (aAr n h).1]
 exact h1
def wb (s:ByteArray):List Nat:=encW s.size++sl s
theorem aAo (n:Nat) (h:n<9223372036854775808):(encW n).length≤9:=by rw [aAv n (aAr n h).1];exact (aAr n h).2.1
theorem colsN_at {l:List Col}:∀ {n j:Nat} {c:Col},colsN l n=true→j<n→l[j]?=some c→colAt l j c=true
 | 0,j,c,_,hj,_=>by omega
 | n+1,j,c,h,hj,hc=>by
  have h':(colsN l n && (match l[n]? with | some c=>colAt l n c | none=>true))=true:=h
  rw [Bool.and_eq_true] at h'
  by_cases e:j=n
  ·subst e
   have:=h'.2
   rw [hc] at this
   exact this
  ·exact colsN_at h'.1 (by omega) hc
theorem ixsN_at {m:Nat} {l:List Idx}:∀ {n j:Nat} {c:Idx},ixsN m l n=true→j<n→l[j]?=some c→ixAt m l j c=true
 | 0,j,c,_,hj,_=>by omega
 | n+1,j,c,h,hj,hc=>by
  have h':(ixsN m l n && (match l[n]? with | some c=>ixAt m l n c | none=>true))=true:=h
  rw [Bool.and_eq_true] at h'
  by_cases e:j=n
  ·subst e
   have:=h'.2
   rw [hc] at this
   exact this
  ·exact ixsN_at h'.1 (by omega) hc
theorem isNm_size {s:ByteArray} (h:isNm s=true):s.size≤8:=by
 unfold isNm at h
 simp only [Bool.and_eq_true,decide_eq_true_eq] at h
 exact h.1.2
theorem isMx_num {k m:Int} (h:isMx k m=true):1≤k∧k≤3∧0≤m∧m≤8:=by
 unfold isMx at h
 split at h
 ·simp only [Bool.and_eq_true,decide_eq_true_eq] at h
  omega
 ·split at h
  ·simp only [beq_iff_eq] at h
   omega
  ·cases h
structure ColOk (c:Col):Prop where
 nm:c.1.size≤8
 k0:1≤c.2.1
 k1:c.2.1≤3
 m0:0≤c.2.2
 m1:c.2.2≤8
theorem Sch.parts {s:Sch} (h:s.ok=true):s.nm.size≤8∧s.cs.length≤3∧s.xs.length≤3∧(∀ (j:Nat) c,s.cs[j]?=some c→ColOk c)∧(∀ (j:Nat) x,s.xs[j]?=some x→1≤x.1∧x.1≤3):=by
 unfold Sch.ok colsOk ixsOk at h
 simp only [Bool.and_eq_true,decide_eq_true_eq] at h
 obtain ⟨⟨h1,⟨h2,h3⟩,h4⟩,h5,h6⟩:=h
 refine ⟨isNm_size h1,h3,h5,fun j c hc=>?_,fun j x hx=>?_⟩
 ·have:=colsN_at h4 (lL hc) hc
  unfold colAt at this
  simp only [Bool.and_eq_true] at this
  have hm:=isMx_num this.1.2
  exact ⟨isNm_size this.1.1,hm.1,hm.2.1,hm.2.2.1,hm.2.2.2⟩
 ·have:=ixsN_at h6 (lL hx) hx
  unfold ixAt at this
  simp only [Bool.and_eq_true,decide_eq_true_eq] at this
  omega
theorem flat_le {α:Type} {f:α→List Nat} {m:Nat} {l:List α} (h:∀ (j:Nat) x,l[j]?=some x→(f x).length≤m):∀ j,((l.take j).flatMap f).length≤m*j
 | 0=>by simp
 | j+1=>by
  have ih:=flat_le h j
  rw [List.take_add_one,List.flatMap_append,lA,Nat.mul_add]
  cases hx:l[j]? with
  | none =>
   show ((l.take j).flatMap f).length+0≤m*j+m*1
   omega
  | some x =>
   have h1:=h j x hx
   have e:[x].flatMap f=f x:=by simp
   show ((l.take j).flatMap f).length+([x].flatMap f).length≤m*j+m*1
   rw [e]
   omega
theorem flat_next {α:Type} {f:α→List Nat} {l:List α} {j:Nat} {x:α} (h:l[j]?=some x):(l.take (j+1)).flatMap f=(l.take j).flatMap f++f x:=by
 rw [List.take_add_one,h,List.flatMap_append]
 simp
structure RdF (rb:Nat) (w w':World):Prop where
 bel:Below rb w w'
 oth:∀ i,i<w.heap.size→i≠rb→w'.heap[i]?=w.heap[i]?
theorem RdF.trans {rb:Nat} {w w' w2:World} (h:RdF rb w w') (k:RdF rb w' w2):RdF rb w w2:=⟨h.bel.trans k.bel,fun i hi hn=>(k.oth i (Nat.lt_of_lt_of_le hi h.bel.size) hn).trans (h.oth i hi hn)⟩
theorem RdF.of {rb:Nat} {w w':World} (h:Below w.heap.size w w') (hr:rb≤w.heap.size):RdF rb w w':=⟨h.mono hr,fun i hi _=>h.block i hi⟩
theorem RdF.set {rb:Nat} {w w':World} (h:RdF rb w w') (i:Nat) (u:Value):RdF rb w (w'.setCell ⟨rb,i,none⟩ u):=⟨h.bel.setCell (p:=⟨rb,i,none⟩) (nR _) u,fun j hj hn=>(heap_setCell_other _ _ _ _ (show j≠rb from hn)).trans (h.oth j hj hn)⟩
theorem bs_rd {rb n c:Nat} {a:Option Addr} {xs:List Nat} {w w':World} (h:BS w a n c xs) (f:RdF rb w w') (ha:∀ b o,a=some ⟨b,o,none⟩→b≠rb):BS w' a n c xs:=by
 refine ⟨h.hlen,h.hcap,h.hroom,h.hmax,h.hbyte,h.hnil,fun x hx i hi=>?_⟩
 rw [←h.hcell x hx i hi]
 refine World.cell?_of_block ?_
 have hl:(x.add i).block<w.heap.size:=aBv (h.hcell x hx i hi)
 have e:(x.add i).block=x.block:=by unfold Addr.add;split<;>rfl
 rw [e] at hl ⊢
 refine f.oth _ hl fun q=>?_
 obtain ⟨b,o,sp⟩:=x
 have hsp:sp=none:=by
  have:=World.cell?_spot (h.hcell _ hx 0 (by omega))
  simpa [Addr.add] using this
 subst hsp
 exact ha b o hx q
theorem rd_num {pre rest:List Nat} {n:Nat} (hn:n<9223372036854775808):ruN (pre++(encW n++rest)) (pre.length:Int)=n∧ruP (pre++(encW n++rest)) (pre.length:Int)=pre.length+(encW n).length∧ruE (pre++(encW n++rest)) (pre.length:Int)=0:=by
 have h:=rd_enc n hn pre rest
 have hc:(0:Int)≤(pre.length:Int)∧(pre.length:Int)≤((pre++(encW n++rest)).length:Int):=by
  constructor
  ·omega
  ·rw [lA];omega
 have ht:((pre.length:Nat):Int).toNat=pre.length:=rfl
 refine ⟨?_,?_,?_⟩
 ·unfold ruN
  rw [if_pos hc,ht,h]
 ·unfold ruP
  rw [if_pos hc,ht]
  unfold rdNext
  rw [h,if_pos rfl,aAv n (aAr n hn).1]
 ·unfold ruE
  rw [if_pos hc,ht,h]
def z1:Col:=(⟨#[]⟩,0,0)
theorem set_oth3 {w:World} {g i j k b:Nat} {u v x:Value} (h:b≠g):(((w.setCell ⟨g,i,none⟩ u).setCell ⟨g,j,none⟩ v).setCell ⟨g,k,none⟩ x).heap[b]?=w.heap[b]?:=by
 rw [heap_setCell_other _ _ _ _ (show b≠g from h),heap_setCell_other _ _ _ _ (show b≠g from h),heap_setCell_other _ _ _ _ (show b≠g from h)]
theorem RdF.put {rb b:Nat} {w w':World} (h:RdF rb w w') (hb:w.heap.size≤b) (hr:rb≤b) (i:Nat) (u:Value):RdF rb w (w'.setCell ⟨b,i,none⟩ u):=⟨h.bel.setCell (p:=⟨b,i,none⟩) hr u,fun j hj hn=>(heap_setCell_other _ _ _ _ (show j≠b by omega)).trans (h.oth j hj hn)⟩
end Go.Proofs.YtmmcebojbbdfmaaGreat
