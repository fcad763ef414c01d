import Derived.Test.YthgleplmbnkacaaGreatY49
import Derived.Test.YthgleplmbnkacaaGreatY45
set_option maxRecDepth 100000
set_option maxHeartbeats 16000000
set_option linter.unusedVariables false
namespace Go.Proofs.YthgleplmbnkacaaGreat
open Go.RowKit
def one (a:AV):List Ch:=addC [] (chA a)
theorem addC_one (cs:List Ch) (c:Ch):addC cs c=cs++addC [] c:=by
 unfold addC
 split<;>simp
theorem aD4 (a:AV):(one a).length≤1:=by
 have:=addC_len [] (chA a)
 simpa [one] using this
theorem runC_one (cs:List Ch) (q:Nat→AV):∀ n,runC cs q n=cs++((List.range n).map q).flatMap one
 | 0=>by simp [runC]
 | n+1=>by
  show addC (runC cs q n) (chA (q n))=_
  rw [addC_one,runC_one cs q n,List.range_succ,List.map_append,List.flatMap_append,List.append_assoc]
  simp [one]
theorem one_rev (a:AV):(one a).reverse=one a:=by
 have h:=aD4 a
 match one a,h with
 | [],_=>rfl
 | [x],_=>rfl
theorem rev_one:∀ L:List AV,L.reverse.flatMap one=(L.flatMap one).reverse
 | []=>rfl
 | a::L=>by
  rw [List.reverse_cons,List.flatMap_append,rev_one L]
  simp only [List.flatMap_cons,List.flatMap_nil,List.append_nil,List.reverse_append,one_rev]
def kS (a:AV):ByteArray:=str [(a.sp % 256).toNat]++str a.xs
def keepA (q:Nat→AV):Nat→List AV
 | 0=>[]
 | n+1=>if (keepA q n).any (fun a=>(kS a).toList == (kS (q n)).toList) then keepA q n else keepA q n++[q n]
theorem aDd (q:Nat→AV):∀ n,(keepA q n).length≤n
 | 0=>by simp [keepA]
 | n+1=>by
  have:=aDd q n
  unfold keepA
  split
  ·omega
  ·rw [lA,List.length_singleton];omega
theorem aDc (q:Nat→AV):∀ n a,a∈keepA q n→∃ i,i<n∧a=q i
 | 0,a,h=>by simp [keepA] at h
 | n+1,a,h=>by
  unfold keepA at h
  split at h
  ·obtain ⟨i,h1,h2⟩:=aDc q n a h
   exact ⟨i,by omega,h2⟩
  ·rcases List.mem_append.1 h with h | h
   ·obtain ⟨i,h1,h2⟩:=aDc q n a h
    exact ⟨i,by omega,h2⟩
   ·exact ⟨n,by omega,by simpa using h⟩
theorem aDq (q:Nat→AV):∀ n,(keepA q n).Pairwise fun a b=>kS a≠kS b
 | 0=>by simp [keepA]
 | n+1=>by
  have ih:=aDq q n
  unfold keepA
  split
  ·exact ih
  ·rename_i h
   rw [List.pairwise_append]
   refine ⟨ih,by simp,fun a ha b hb e=>h ?_⟩
   have hb:b=q n:=by simpa using hb
   subst hb
   rw [List.any_eq_true]
   exact ⟨a,ha,by rw [e];exact beq_self_eq_true _⟩
theorem kS_one {a b:AV} (ha:∀ n∈a.xs,n<256) (hb:∀ n∈b.xs,n<256) (h:kS a≠kS b) {c d:Ch} (hc:c∈one a) (hd:d∈one b):¬ (c.sp=d.sp∧c.key=d.key):=by
 have key:∀ {a:AV} {c:Ch},c∈one a→c.sp=a.sp∧c.key=a.xs∧0≤a.sp∧a.sp<16:=by
  intro a c hc
  have h1:c=chA a∧refE (chA a).sp (chA a).key.length (chA a).val.length=0:=by
   unfold one addC at hc
   split at hc
   ·exact ⟨by simpa using hc,by assumption⟩
   ·simp at hc
  have h2:(chA a).sp=a.sp∧(chA a).key=a.xs:=by unfold chA;split<;>exact ⟨rfl,rfl⟩
  obtain ⟨h3,h4⟩:=h1
  subst h3
  refine ⟨h2.1,h2.2,?_⟩
  rw [h2.1] at h4
  unfold refE at h4
  split at h4
  ·cases h4
  ·rename_i q
   constructor<;>omega
 obtain ⟨a1,a2,a3,a4⟩:=key hc
 obtain ⟨b1,b2,b3,b4⟩:=key hd
 rintro ⟨e1,e2⟩
 apply h
 unfold kS
 rw [a1,b1] at e1
 rw [a2,b2] at e2
 rw [e1,e2]
theorem aCr {x:Ch}:∀ (cs:List Ch) {l:List Ch},SrC l→(∀ c∈cs,∀ d∈l,c.key≠d.key)→(cs.Pairwise fun c d=>c.key≠d.key)→(x∈cs.foldl (fun l c=>insC c l) l↔x∈l∨x∈cs)
 | [],l,_,_,_=>by simp
 | c::cs,l,hl,h1,h2=>by
  rw [List.pairwise_cons] at h2
  rw [List.foldl_cons,aCr cs (hl.ins (c:=c)) ?_ h2.2,aBj hl,List.mem_cons]
  ·constructor
   ·rintro ((rfl | ⟨h,_⟩) | h)
    ·exact Or.inr (Or.inl rfl)
    ·exact Or.inl h
    ·exact Or.inr (Or.inr h)
   ·rintro (h | rfl | h)
    ·exact Or.inl (Or.inr ⟨h,fun e=>h1 c List.mem_cons_self x h e.symm⟩)
    ·exact Or.inl (Or.inl rfl)
    ·exact Or.inr h
  ·intro d hd e he
   rcases (aBj hl).1 he with rfl | ⟨he,_⟩
   ·exact fun q=>h2.1 d hd q.symm
   ·exact h1 d (List.mem_cons_of_mem _ hd) e he
def Unl (cs:List Ch):Prop:=cs.Pairwise fun c d=>¬ (c.sp=d.sp∧c.key=d.key)
theorem Unl.last {cs:List Ch} (h:Unl cs) (sp:Int) (lo hi:List Nat) {x:Ch}:x∈lastL (inR sp lo hi) cs↔x∈cs.filter (inR sp lo hi):=by
 unfold lastL
 rw [aCr _ (by simp [SrC]) (fun c _ d hd=>by simp at hd) ?_]
 ·simp
 ·have h2:=h.filter (inR sp lo hi)
  refine h2.imp_of_mem ?_
  intro c d hc hd q e
  have hs:∀ {c:Ch},c∈cs.filter (inR sp lo hi)→c.sp=sp:=by
   intro c hc
   have:=(List.mem_filter.1 hc).2
   unfold inR at this
   simp only [Bool.and_eq_true,decide_eq_true_eq] at this
   exact this.1.1
  exact q ⟨(hs hc).trans (hs hd).symm,e⟩
theorem Unl.rev {cs:List Ch} (h:Unl cs):Unl cs.reverse:=by
 unfold Unl
 rw [List.pairwise_reverse]
 exact h.imp fun q e=>q ⟨e.1.symm,e.2.symm⟩
theorem Unl.last_rev {cs:List Ch} (h:Unl cs) (sp:Int) (lo hi:List Nat):lastL (inR sp lo hi) cs.reverse=lastL (inR sp lo hi) cs:=by
 refine SrC.uniq (srC_last _ _) (srC_last _ _) fun x=>?_
 rw [h.rev.last,h.last]
 simp [List.mem_filter]
theorem Unl.chg {cs:List Ch} (h:Unl cs):∀ n,chgC cs.reverse n=chgC cs n
 | 0=>rfl
 | n+1=>by
  show chgC cs.reverse n++_=chgC cs n++_
  rw [h.chg n,h.last_rev]
theorem Unl.all {cs:List Ch} (h:Unl cs):∀ n,allC cs.reverse n=allC cs n
 | 0=>rfl
 | n+1=>by
  show allC cs.reverse n++rngC cs.reverse n [] [] 1000=allC cs n++rngC cs n [] [] 1000
  unfold rngC
  rw [h.all n,h.last_rev]
theorem unl_flat:∀ (L:List AV),(∀ a∈L,∀ n∈a.xs,n<256)→(L.Pairwise fun a b=>kS a≠kS b)→Unl (L.flatMap one)
 | [],_,_=>by simp [Unl]
 | a::L,h1,h2=>by
  rw [List.pairwise_cons] at h2
  unfold Unl
  rw [List.flatMap_cons,List.pairwise_append]
  refine ⟨?_,unl_flat L (fun b hb=>h1 b (List.mem_cons_of_mem _ hb)) h2.2,fun c hc d hd=>?_⟩
  ·have:=aD4 a
   match one a,this with
   | [],_=>simp
   | [x],_=>simp
  ·obtain ⟨b,hb,hd⟩:=List.mem_flatMap.1 hd
   exact kS_one (h1 a List.mem_cons_self) (h1 b (List.mem_cons_of_mem _ hb)) (h2.1 b hb) hc hd
end Go.Proofs.YthgleplmbnkacaaGreat
