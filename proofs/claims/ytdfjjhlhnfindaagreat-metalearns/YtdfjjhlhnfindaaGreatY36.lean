import Derived.Test.YtdfjjhlhnfindaaGreatY35
import Derived.Defers
import Derived.Recover
set_option maxRecDepth 100000
set_option maxHeartbeats 16000000
set_option linter.unusedVariables false
namespace Go.Proofs.YtdfjjhlhnfindaaGreat
open Go.RowKit Tryz
variable {B g k kc kn px vc vn:Nat} {L:List Nat} {cs:Array Value} {fz:Nat×Nat} {ka va:Option Addr} {s s':DS} {t t':PS} {w w':World}
theorem caught_idle (p:Addr) (w:World) :
  CallsD prog 137 #[.pointer (some p)] .returning w fun e u' w'=>e=.returned (.tuple #[])/\u'=.returning/\w'=w:=by
 refine callsD_of_wpS func137 rfl fun c₀ cs hu=>?_
 apply wpS_seq;apply wpS_region;simp [wpOpsS,go_sem,recoverD,hu,ntmps137,Exit.thenS];refine wpS_cond (t:=false) (by simp [Act.eval,Array.replicate]) ?_;simp only [Bool.false_eq_true,if_false];refine wpS_of_wp (wp_skip ?_);cases c₀;simp_all [bodyPostS,results,results137]
theorem aEl {fn:Nat} {cap:Array Value} {P:Int->World->Prop} (hcf:∀ ww:World,(callFunc fn cap).run prog ww=.ok (.enter fn cap) ww)
  (hC:Calls prog fn cap (w.alloc (.cells #[.int .i64 0] 23)) fun e w'=>∃ r:Int,e=.returned (.int .i64 r)/\P r w'/\w'.heap[w.heap.size]?=some (.cells #[.int .i64 0] 23 (0,0))) :
  Calls prog 114 #[.func (Fn.func fn) #[] cap] w fun e w'=>∃ r w1,e=.returned (.int .i64 r)/\P r w1/\w'=w1.setCell ⟨w.heap.size,0,none⟩ (.int .i64 r):=by
 have hmf:∀ (fn:Fn) (first cap:Array Value) (w:World),(Instr.makeFunc fn first cap).run prog w=.ok (.func fn first cap) w:=fun _ _ _ _=>rfl
 have HC:=zH hC;clear hC;go_enter_defers func114,ntmps114;go_wp2_with fail;refine HC.o.mono ?_;rintro e w1 ⟨r,rfl,hp,hb⟩;have HP:=zH hp;have HB:=zH hb;have c0:w1.cell? ⟨w.heap.size,0,none⟩=some (.int .i64 0):=aAa hb;have f0:w1.frozen? ⟨w.heap.size,0,none⟩=false:=aAb hb;clear hp hb;go_wp2;refine leaves_cons (f:=137) (args:=#[.pointer (some ⟨w.heap.size,0,none⟩)]) (by simp) (by simp [go_sem]) ?_;refine (caught_idle ⟨w.heap.size,0,none⟩ _).mono ?_;rintro e u' w'' ⟨rfl,rfl,rfl⟩;have c1:(w1.setCell ⟨w.heap.size,0,none⟩ (.int .i64 r)).cell? ⟨w.heap.size,0,none⟩=some (.int .i64 r):=by
  rw [aAa (heap_setCell_same _ _ _ _ _ _ HB.o)];rfl
 simp only [Leaves,settle,results,results114];exact ⟨.int .i64 r,by simp [go_sem,c1],r,w1,rfl,HP.o,rfl⟩
theorem put1_any {kb vb:Nat} {P:World->Prop} (hk:w.cell? ⟨kb,0,none⟩=some (.slice ka kn kc)) (hv:w.cell? ⟨vb,0,none⟩=some (.slice va vn vc))
  (hP:Calls prog 155 #[.pointer (some ⟨px,0,none⟩),.agg #[.slice ka kn kc,.slice va vn vc]] w fun e w'=>e=.returned (.bool true)/\P w') :
  Calls prog 154 #[.pointer (some ⟨px,0,none⟩),.pointer (some ⟨kb,0,none⟩),.pointer (some ⟨vb,0,none⟩)] w fun e w'=>e=.returned (.bool true)/\P w':=by
 have HP:=zH hP;clear hP;go_enter func154,ntmps154;go_wp2_with fail;refine HP.o.mono ?_;rintro e w1 ⟨rfl,hp⟩;have HQ:=zH hp;clear hp;go_wp2;go_ret;exact ⟨rfl,HQ.o⟩
structure ChF [Gd] (B g:Nat) (w w':World):Prop where
 bel:Below B w w'
 stay:∀ (k:Nat) (cs:Array Value) (t:TypeId) (fz:Nat×Nat),w.heap[k]?=some (Obj.cells cs t fz)->NT t->k≠g->w'.heap[k]?=some (Obj.cells cs t fz)
 gd:GdK w w'
theorem Ex.gdk [Gd] {t:TypeId} (h:Ex B [g] w w') (hg:w.heap[g]?=some (Obj.cells cs t fz)) (ht:¬ DTy t):GdK w w':=fun k _ hf=>h.2 k hf.lt (by simpa using hf.ne hg ht)
theorem FE.nt {t:TypeId} (f:FE B w w') (e:w.heap[k]?=some (Obj.cells cs t fz)) (ht:NT t):w'.heap[k]?=some (Obj.cells cs t fz) :=
 f.2 k cs t fz e (fun q=>ht (by rw [q];decide)) (fun q=>ht (by rw [q];decide))
def ChR [Gd] (B p q g:Nat) (s:DS) (t:PS) (w:World) (now last:StT) (sv:Value) (d n:Int) (gone:List Nat) (h:Nat) (e:ED h) (w':World):Prop :=
 ∃ (b:BT h) (s':DS) (t':PS) (L:List Nat) (cs':Array Value),LdR h e b L/\Gw s t s' t' L/\ST B p q s' t' w'/\OnD s' t' h b/\w'.heap[g]?=some (.cells cs' 183 (0,0))/\TV cs' p q ⟨(BT.id b:Nat),d,n,L.foldl adP (gone.foldl drP now.pgs)⟩ last sv (cntF t'.st:Nat) false/\ChF B g w w'
theorem gw_lt (h:Gw s t s' t' L) (hl:t.st.length<=4096):∀ x∈L,x<4096:=by
 intro x hx;have h1:=(h.new x hx).1;apply Classical.byContradiction;intro q;rw [List.getD_eq_getElem?_getD,List.getElem?_eq_none (by omega)] at h1;cases h1
end Go.Proofs.YtdfjjhlhnfindaaGreat
set_option linter.unusedVariables false
namespace Go.Proofs.YtdfjjhlhnfindaaGreat
open Tryz
theorem LdR.fl:∀ {h:Nat} {e:ED h} {b:BT h} {L:List Nat},LdR h e b L->flB h b=flE h e
 | 0,.inl t,b,L,⟨e,_⟩=>by subst e;rfl
 | 0,.inr l,b,L,⟨i,e,_⟩=>by subst e;rfl
 | h+1,.inl t,b,L,⟨e,_⟩=>by subst e;rfl
 | h+1,.inr x,b,L,⟨i,bs,Ls,e,_,h1,h2,h3⟩=>by
  subst e
  show weave x.1 (bs.map (flB h))=weave x.1 (x.2.map (flE h))
  congr 1
  apply List.ext_getElem?
  intro j
  rw [List.getElem?_map,List.getElem?_map]
  by_cases hj:j<x.2.length
  ·obtain ⟨k,hk⟩:∃ k,x.2[j]?=some k:=⟨_,gE hj⟩
   obtain ⟨bj,hb⟩:∃ bj,bs[j]?=some bj:=⟨_,gE (by omega)⟩
   obtain ⟨Lj,hL⟩:∃ Lj,Ls[j]?=some Lj:=⟨_,gE (by omega)⟩
   rw [hk,hb]
   exact congrArg some (LdR.fl (h3 j k bj Lj hk hb hL))
  ·rw [List.getElem?_eq_none (by omega),List.getElem?_eq_none (by omega)]
   rfl
theorem LdR.it:∀ {h:Nat} {e:ED h} {b:BT h} {L:List Nat},LdR h e b L->BT.it b=itE e
 | 0,.inl t,b,L,⟨e,_⟩=>by subst e;rfl
 | 0,.inr l,b,L,⟨i,e,_⟩=>by subst e;rfl
 | h+1,.inl t,b,L,⟨e,_⟩=>by subst e;rfl
 | h+1,.inr x,b,L,⟨i,bs,Ls,e,_,h1,h2,h3⟩=>by subst e;rfl
theorem ShB_old:∀ {h:Nat} (t:BT h),ShE h 4 (old t)->ShB h t
 | 0,_,h=>h
 | h+1,t,⟨h1,h2,h3⟩=>by
  have h2':(t.2.2.map old).length=t.2.1.length+1:=h2
  rw [List.length_map] at h2'
  refine ⟨h1,h2',fun k hk=>?_⟩
  have h4:=h3 (old k) (show old k∈t.2.2.map old from List.mem_map_of_mem hk)
  rw [aFs] at h4
  exact ⟨ShB_old k h4.1,h4.2⟩
theorem LdR.sh:∀ {h:Nat} {e:ED h} {b:BT h} {L:List Nat},LdR h e b L->ShE h 4 e->ShB h b
 | 0,.inl t,b,L,⟨e,_⟩,hs=>by subst e;exact hs
 | 0,.inr l,b,L,⟨i,e,_⟩,hs=>by subst e;exact hs
 | h+1,.inl t,b,L,⟨e,_⟩,hs=>by subst e;exact ShB_old _ hs
 | h+1,.inr x,b,L,⟨i,bs,Ls,e,_,h1,h2,h3⟩,⟨s1,s2,s3⟩=>by
  subst e
  refine ⟨s1,h1.trans s2,fun k hk=>?_⟩
  obtain ⟨j,hj⟩:=List.getElem?_of_mem hk
  have hjl:j<x.2.length:=by rw [<-h1];exact (lL hj)
  obtain ⟨c,hc⟩:∃ c,x.2[j]?=some c:=⟨_,gE hjl⟩;obtain ⟨Lj,hL⟩:∃ Lj,Ls[j]?=some Lj:=⟨_,gE (by omega)⟩;have h4:=h3 j c k Lj hc hj hL;have h5:=s3 c (mG hc);rw [h4.it];exact ⟨h4.sh h5.1,h5.2⟩
end Go.Proofs.YtdfjjhlhnfindaaGreat
set_option linter.unusedVariables false
namespace Go.Proofs.YtdfjjhlhnfindaaGreat
open Tryz
def OldOn (s:DS) (t:PS):(h:Nat)->ED h->Prop
 | 0,.inl b=>OnD s t 0 b
 | 0,.inr _=>True
 | h+1,.inl b=>OnD s t (h+1) b
 | h+1,.inr x=>∀ k∈x.2,OldOn s t h k
theorem aCq:∀ (l:List It) (c:List (List It)),c.length=l.length+1->l.Sublist (weave l c)
 | l,[],h=>by simp at h
 | [],c::_,_=>List.nil_sublist _
 | x::l,c::cs,h=>by
  show (x::l).Sublist (c++x::weave l cs)
  exact List.Sublist.trans (List.Sublist.cons_cons x (aCq l cs (by simpa using h))) (List.sublist_append_right c _)
theorem aCr:∀ (l:List It) (c:List (List It)) (k:List It),c.length=l.length+1->k∈c->k.Sublist (weave l c)
 | l,[],k,_,hk=>by simp at hk
 | [],[c],k,_,hk=>by
  simp only [List.mem_singleton] at hk
  subst hk
  exact List.Sublist.refl _
 | [],_::_::_,k,h,_=>by simp at h
 | x::l,c::cs,k,h,hk=>by
  show k.Sublist (c++x::weave l cs)
  rcases List.mem_cons.1 hk with hk | hk
  ·subst hk
   exact List.sublist_append_left _ _
  ·exact List.Sublist.trans (List.Sublist.cons x (aCr l cs k (by simpa using h) hk)) (List.sublist_append_right c _)
theorem OnE.of {s:DS} {t:PS}:∀ {h:Nat} {e:ED h},OldOn s t h e->ShE h 4 e->Srt (flE h e)->(∀ x∈flE h e,ItOk x)->1<=(itE e).length->OnE s t h e
 | 0,.inl b,ho,_,_,_,_=>ho
 | 0,.inr l,_,hs,hr,hi,h1=>⟨h1,hs,hi,hr⟩
 | h+1,.inl b,ho,_,_,_,_=>ho
 | h+1,.inr x,ho,⟨s1,s2,s3⟩,hr,hi,h1=>by
  have hl:(x.2.map (flE h)).length=x.1.length+1:=by rw [List.length_map];exact s2
  have e1:=aCq x.1 (x.2.map (flE h)) hl;refine ⟨⟨h1,s1,fun y hy=>hi y (e1.subset hy),hr.sublist e1⟩,s2,fun k hk=>?_⟩;have e2:=aCr x.1 (x.2.map (flE h)) (flE h k) hl (List.mem_map_of_mem hk);exact OnE.of (ho k hk) (s3 k hk).1 (hr.sublist e2) (fun y hy=>hi y (e2.subset hy)) (nT (by omega) (s3 k hk).2)
end Go.Proofs.YtdfjjhlhnfindaaGreat
set_option linter.unusedVariables false
namespace Go.Proofs.YtdfjjhlhnfindaaGreat
open Tryz
variable {h i:Nat} {l:List It}
section
variable {s:DS} {t:PS}
theorem OldOn.old:∀ {h:Nat} {b:BT h},OnD s t h b->OldOn s t h (old b)
 | 0,_,hb=>hb
 | _+1,_,hb=>hb
theorem OldOn.kids:∀ {h:Nat} {e:ED (h+1)},OldOn s t (h+1) e->∀ k∈(opS e).2,OldOn s t h k
 | h,.inl b,ho,k,hk=>by
  obtain ⟨_,_,_,_,h5⟩:=ho
  obtain ⟨x,hx,rfl⟩:=List.mem_map.1 (show k∈b.2.2.map _ from hk)
  exact OldOn.old (h5 x hx)
 | h,.inr x,ho,k,hk=>ho k hk
theorem OldOn.lef:∀ {h:Nat} {e:ED h},OldOn s t h e->OldOn s t h (lefE e)
 | 0,_,_=>trivial
 | _+1,e,ho=>fun k hk=>ho.kids k (List.mem_of_mem_take hk)
theorem OldOn.rig:∀ {h:Nat} {e:ED h},OldOn s t h e->OldOn s t h (rigE e)
 | 0,_,_=>trivial
 | _+1,e,ho=>fun k hk=>ho.kids k (List.mem_of_mem_drop hk)
theorem OldOn.setl {c:List (ED h)} (hc:∀ k∈c,OldOn s t h k):∀ k∈(setl l c i).2,OldOn s t h k:=by
 unfold Go.Proofs.YtdfjjhlhnfindaaGreat.setl
 cases hi:c[i]? with
 | none=>exact hc
 | some e =>
  have he:=hc e (mG hi);show ∀ k∈(if 4<(itE e).length then (l.take i++midE e::l.drop i,c.take i++lefE e::rigE e::c.drop (i+1)) else (l,c)).2,OldOn s t h k;by_cases h4:4<(itE e).length
  ·rw [if_pos h4];intro k hk;rcases List.mem_append.1 hk with hk | hk
   ·exact hc k (List.mem_of_mem_take hk)
   ·rcases List.mem_cons.1 hk with hk | hk
    ·subst hk;exact he.lef
    ·rcases List.mem_cons.1 hk with hk | hk
     ·subst hk;exact he.rig
     ·exact hc k (List.mem_of_mem_drop hk)
  ·rw [if_neg h4];exact hc
theorem OldOn.put:∀ {h:Nat} {e:ED h} (it:It),OldOn s t h e->OldOn s t h (putE h e it)
 | 0,_,_,_=>trivial
 | h+1,e,it,ho=>by
  by_cases c:hasI (opS e).1 it.1=true
  ·rw [aBl c]
   exact ho.kids
  ·cases hk:(opS e).2[fndI (opS e).1 it.1]? with
   | some k =>
    rw [aB4 c hk]
    refine OldOn.setl fun k' hk'=>?_
    rcases List.mem_or_eq_of_mem_set hk' with q | q
    ·exact ho.kids k' q
    ·subst q
     exact OldOn.put it (ho.kids k (mG hk))
   | none =>
    have e1:putE (h+1) e it=Sum.inr (opS e):=(if_neg c).trans (by rw [hk])
    rw [e1]
    exact ho.kids
theorem OldOn.root {e:ED h} (ho:OldOn s t h e):OldOn s t (rootE h e).1 (rootE h e).2:=by
 unfold rootE;by_cases c:4<(itE e).length
 ·rw [if_pos c];intro k hk;have hk:k∈[lefE e,rigE e]:=hk;simp only [List.mem_cons,List.not_mem_nil,or_false] at hk;rcases hk with hk | hk
  ·subst hk;exact ho.lef
  ·subst hk;exact ho.rig
 ·rw [if_neg c];exact ho
end
end Go.Proofs.YtdfjjhlhnfindaaGreat
set_option linter.unusedVariables false
namespace Go.Proofs.YtdfjjhlhnfindaaGreat
open Tryz
variable {h i:Nat} {l:List It} {s:DS} {t:PS}
theorem sum_set {α:Type} (f:α->Nat):∀ (c:List α) (i:Nat) (k:α),((c.set i k).map f).sum<=(c.map f).sum+f k
 | [],_,_=>by simp
 | a::c,0,k=>by simp;omega
 | a::c,i+1,k=>by
  have:=sum_set f c i k
  simp only [List.set_cons_succ,List.map_cons,List.sum_cons]
  omega
theorem fr_old:∀ {h:Nat} (b:BT h),frE h (old b)=0
 | 0,_=>rfl
 | _+1,_=>rfl
theorem sum_old:∀ (c:List (BT h)),((c.map old).map (frE h)).sum=0
 | []=>rfl
 | b::c=>by
  rw [List.map_cons,List.map_cons,List.sum_cons,fr_old,sum_old c]
theorem fr_halves:∀ {h:Nat} {e:ED h},1<=frE h e->frE h (lefE e)+frE h (rigE e)<=frE h e+1
 | 0,.inl _,h=>by simp [frE] at h
 | 0,.inr _,_=>nR _
 | h+1,.inl _,hh=>by simp [frE] at hh
 | h+1,.inr x,_=>by
  show (1+((x.2.take (x.1.length / 2+1)).map (frE h)).sum)+(1+((x.2.drop (x.1.length / 2+1)).map (frE h)).sum)<=(1+(x.2.map (frE h)).sum)+1
  have e:(x.2.map (frE h)).sum=((x.2.take (x.1.length / 2+1)).map (frE h)).sum+((x.2.drop (x.1.length / 2+1)).map (frE h)).sum:=by
   conv=>lhs;rw [<-List.take_append_drop (x.1.length / 2+1) x.2]
   rw [List.map_append,List.sum_append]
  omega
theorem fr_setl {c:List (ED h)} (hc:∀ e,c[i]?=some e->1<=frE h e):((setl l c i).2.map (frE h)).sum<=(c.map (frE h)).sum+1:=by
 unfold setl
 cases hi:c[i]? with
 | none=>exact Nat.le_succ _
 | some e =>
  show ((if 4<(itE e).length then (l.take i++midE e::l.drop i,c.take i++lefE e::rigE e::c.drop (i+1)) else (l,c)).2.map (frE h)).sum<=_;by_cases h4:4<(itE e).length
  ·rw [if_pos h4];have h1:=fr_halves (hc e hi)
   conv=>rhs;rw [aAp hi]
   simp only [List.map_append,List.sum_append,List.map_cons,List.sum_cons];omega
  ·rw [if_neg h4];exact Nat.le_succ _
theorem fr_new:∀ {h:Nat} (e:ED h) (it:It),1<=frE h (putE h e it)
 | 0,_,_=>nR _
 | h+1,e,it=>by
  by_cases c:hasI (opS e).1 it.1=true
  ·rw [aBl c]
   exact Nat.le_add_right _ _
  ·cases hk:(opS e).2[fndI (opS e).1 it.1]? with
   | some k=>rw [aB4 c hk];exact Nat.le_add_right _ _
   | none =>
    have e1:putE (h+1) e it=Sum.inr (opS e):=(if_neg c).trans (by rw [hk])
    rw [e1];exact Nat.le_add_right _ _
theorem fr_put:∀ {h:Nat} (b:BT h) (it:It),frE h (putE h (old b) it)<=2*h+1
 | 0,_,_=>nR _
 | h+1,b,it=>by
  have hk0:((opS (old b)).2.map (frE h)).sum=0:=sum_old b.2.2
  by_cases c:hasI (opS (old b)).1 it.1=true
  ·rw [aBl c]
   show 1+((opS (old b)).2.map (frE h)).sum<=_
   omega
  ·cases hk:(opS (old b)).2[fndI (opS (old b)).1 it.1]? with
   | some k =>
    rw [aB4 c hk]
    obtain ⟨kb,_,rfl⟩:=List.mem_map.1 (show k∈b.2.2.map old from mG hk)
    have h1:=fr_put kb it
    have h2:=sum_set (frE h) (opS (old b)).2 (fndI (opS (old b)).1 it.1) (putE h (old kb) it)
    have h3:=fr_setl (l:=(opS (old b)).1) (c:=(opS (old b)).2.set (fndI (opS (old b)).1 it.1) (putE h (old kb) it)) (i:=fndI (opS (old b)).1 it.1) fun e he=>by
     rw [List.getElem?_set_self (lL hk)] at he
     simp only [oI] at he
     subst he
     exact fr_new _ _
    show 1+((setl (opS (old b)).1 ((opS (old b)).2.set (fndI (opS (old b)).1 it.1) (putE h (old kb) it)) (fndI (opS (old b)).1 it.1)).2.map (frE h)).sum<=_
    omega
   | none =>
    have e1:putE (h+1) (old b) it=Sum.inr (opS (old b)):=(if_neg c).trans (by rw [hk])
    rw [e1]
    show 1+((opS (old b)).2.map (frE h)).sum<=_
    omega
theorem OnD.pth:∀ {h:Nat} {b:BT h} (k:List Nat),OnD s t h b->∀ x∈pthB h b k,x<s.n
 | 0,b,k,hb,x,hx=>by
  simp only [pthB,List.mem_singleton] at hx
  subst hx
  exact hb.1.lt
 | h+1,b,k,⟨h1,h2,h3,h4,h5⟩,x,hx=>by
  rcases List.mem_cons.1 hx with hx | hx
  ·subst hx
   exact h1.lt
  ·by_cases c:hasI b.2.1 k=true
   ·rw [if_pos c] at hx
    simp at hx
   ·rw [if_neg c] at hx
    cases hc:b.2.2[fndI b.2.1 k]? with
    | none=>rw [hc] at hx;simp at hx
    | some d =>
     rw [hc] at hx
     exact OnD.pth k (h5 d (mG hc)) x hx
theorem pth_len:∀ {h:Nat} (b:BT h) (k:List Nat),(pthB h b k).length<=h+1
 | 0,_,_=>nR _
 | h+1,b,k=>by
  show (if hasI b.2.1 k then [] else match b.2.2[fndI b.2.1 k]? with
   | some c=>pthB h c k
   | none=>[]).length+1<=_
  by_cases c:hasI b.2.1 k=true
  ·rw [if_pos c]
   simp
  ·rw [if_neg c]
   cases hc:b.2.2[fndI b.2.1 k]? with
   | none=>simp
   | some d=>have:=pth_len d k;simp only;omega
theorem fr_root {e:ED h} (he:1<=frE h e):frE (rootE h e).1 (rootE h e).2<=frE h e+2:=by
 unfold rootE;by_cases c:4<(itE e).length
 ·rw [if_pos c];show 1+([lefE e,rigE e].map (frE h)).sum<=_;have:=fr_halves he;simp only [List.map_cons,List.map_nil,List.sum_cons,List.sum_nil];omega
 ·rw [if_neg c];exact Nat.le_add_right _ _
end Go.Proofs.YtdfjjhlhnfindaaGreat
set_option linter.unusedVariables false
namespace Go.Proofs.YtdfjjhlhnfindaaGreat
open Tryz
variable {L gone ps:List Nat} {h i:Nat} {l:List It}
def pgB:(h:Nat)->BT h->List Nat
 | 0,b=>[b.1]
 | h+1,b=>b.1::(b.2.2.map (pgB h)).flatten
def olP:(h:Nat)->ED h->List Nat
 | 0,.inl b=>[b.1]
 | 0,.inr _=>[]
 | h+1,.inl b=>pgB (h+1) b
 | h+1,.inr x=>(x.2.map (olP h)).flatten
theorem olP_old:∀ {h:Nat} (b:BT h),olP h (old b)=pgB h b
 | 0,_=>rfl
 | _+1,_=>rfl
theorem aE7:∀ (c:List (BT h)),(c.map old).map (olP h)=c.map (pgB h)
 | []=>rfl
 | b::c=>by rw [List.map_cons,List.map_cons,List.map_cons,olP_old,aE7 c]
theorem flat_perm:∀ (A B C:List (List Nat)),B.length=A.length->C.length=A.length->(∀ (j:Nat) a b c,A[j]?=some a->B[j]?=some b->C[j]?=some c->a.Perm (b++c))->A.flatten.Perm (B.flatten++C.flatten)
 | [],[],[],_,_,_=>List.Perm.refl _
 | [],_::_,_,h,_,_=>by simp at h
 | [],[],_::_,_,h,_=>by simp at h
 | _::_,[],_,h,_,_=>by simp at h
 | _::_,_::_,[],_,h,_=>by simp at h
 | a::A,b::B,c::C,h1,h2,h3=>by
  have e1:=h3 0 a b c rfl rfl rfl
  have e2:=flat_perm A B C (by simpa using h1) (by simpa using h2) fun j x y z p q r=>h3 (j+1) x y z (by simpa using p) (by simpa using q) (by simpa using r)
  rw [List.perm_iff_count] at e1 e2 ⊢
  intro x
  have f1:=e1 x
  have f2:=e2 x
  simp only [List.flatten_cons,List.count_append] at f1 f2 ⊢
  omega
theorem LdR.pg:∀ {h:Nat} {e:ED h} {b:BT h} {L:List Nat},LdR h e b L->(pgB h b).Perm (L++olP h e)
 | 0,.inl t,b,L,⟨e,e2⟩=>by subst e;subst e2;exact List.Perm.refl _
 | 0,.inr l,b,L,⟨i,e,e2⟩=>by subst e;subst e2;exact List.Perm.refl _
 | h+1,.inl t,b,L,⟨e,e2⟩=>by subst e;subst e2;exact List.Perm.refl _
 | h+1,.inr x,b,L,⟨i,bs,Ls,e,e2,h1,h2,h3⟩=>by
  subst e
  subst e2
  show (i::(bs.map (pgB h)).flatten).Perm ((Ls.flatten++[i])++(x.2.map (olP h)).flatten)
  have hp:=flat_perm (bs.map (pgB h)) Ls (x.2.map (olP h)) (by simp;omega) (by simp;omega) fun j a b c p q r=>by
   rw [List.getElem?_map] at p r
   obtain ⟨bj,hb,rfl⟩:=Option.map_eq_some_iff.1 p
   obtain ⟨k,hk,rfl⟩:=Option.map_eq_some_iff.1 r
   exact LdR.pg (h3 j k bj b hk hb q)
  rw [List.perm_iff_count] at hp ⊢
  intro y
  have f:=hp y
  simp only [List.count_append,List.count_cons,List.count_nil] at f ⊢
  omega
theorem aGp:∀ {h:Nat} {e:ED h},isNew e->olP h (lefE e)++olP h (rigE e)=olP h e
 | 0,.inr _,_=>rfl
 | h+1,.inr x,_=>by
  show ((x.2.take (x.1.length / 2+1)).map (olP h)).flatten++((x.2.drop (x.1.length / 2+1)).map (olP h)).flatten=(x.2.map (olP h)).flatten
  rw [<-List.flatten_append,<-List.map_append,List.take_append_drop]
theorem olP_setl {c:List (ED h)} (hc:∀ e,c[i]?=some e->isNew e):((setl l c i).2.map (olP h)).flatten=(c.map (olP h)).flatten:=by
 unfold setl
 cases hi:c[i]? with
 | none=>rfl
 | some e =>
  show ((if 4<(itE e).length then (l.take i++midE e::l.drop i,c.take i++lefE e::rigE e::c.drop (i+1)) else (l,c)).2.map (olP h)).flatten=_;by_cases h4:4<(itE e).length
  ·rw [if_pos h4]
   conv=>rhs;rw [aAp hi]
   simp only [List.map_append,List.flatten_append,List.map_cons,List.flatten_cons];rw [<-aGp (hc e hi),List.append_assoc]
  ·rw [if_neg h4]
theorem olP_root {e:ED h} (he:isNew e):olP (rootE h e).1 (rootE h e).2=olP h e:=by
 unfold rootE;by_cases c:4<(itE e).length
 ·rw [if_pos c];show ([lefE e,rigE e].map (olP h)).flatten=_;rw [<-aGp he];simp
 ·rw [if_neg c]
theorem aGt:∀ {h:Nat} (e:ED h) (it:It),isNew (putE h e it)
 | 0,_,_=>trivial
 | h+1,e,it=>by
  by_cases c:hasI (opS e).1 it.1=true
  ·rw [aBl c];trivial
  ·cases hk:(opS e).2[fndI (opS e).1 it.1]? with
   | some k=>rw [aB4 c hk];trivial
   | none =>
    have e1:putE (h+1) e it=Sum.inr (opS e):=(if_neg c).trans (by rw [hk])
    rw [e1];trivial
theorem pg_put:∀ {h:Nat} (b:BT h) (it:It),ShB h b->(pgB h b).Perm (pthB h b it.1++olP h (putE h (old b) it))
 | 0,b,it,_=>List.Perm.refl _
 | h+1,b,it,⟨s1,s2,s3⟩=>by
  by_cases c:hasI (opS (old b)).1 it.1=true
  ·rw [aBl c]
   have c':hasI b.2.1 it.1=true:=c
   show (b.1::(b.2.2.map (pgB h)).flatten).Perm ((b.1::if hasI b.2.1 it.1 then [] else match b.2.2[fndI b.2.1 it.1]? with
    | some c=>pthB h c it.1
    | none=>[])++((b.2.2.map old).map (olP h)).flatten)
   rw [if_pos c',aE7]
   exact List.Perm.refl _
  ·have c':¬ hasI b.2.1 it.1=true:=c
   have hlt:fndI b.2.1 it.1<b.2.2.length:=by have:=aBj b.2.1 it.1;omega
   obtain ⟨kb,hkb⟩:∃ kb,b.2.2[fndI b.2.1 it.1]?=some kb:=⟨_,gE hlt⟩;have hk:(opS (old b)).2[fndI (opS (old b)).1 it.1]?=some (old kb):=by
    show (b.2.2.map old)[fndI b.2.1 it.1]?=_;rw [List.getElem?_map,hkb];rfl
   rw [aB4 c hk]
   show (b.1::(b.2.2.map (pgB h)).flatten).Perm ((b.1::if hasI b.2.1 it.1 then [] else match b.2.2[fndI b.2.1 it.1]? with
    | some c=>pthB h c it.1
    | none=>[])++((setl b.2.1 ((b.2.2.map old).set (fndI b.2.1 it.1) (putE h (old kb) it)) (fndI b.2.1 it.1)).2.map (olP h)).flatten)
   rw [if_neg c',hkb];simp only
   rw [olP_setl (c:=(b.2.2.map old).set (fndI b.2.1 it.1) (putE h (old kb) it)) fun e he=>by
    rw [List.getElem?_set_self (by simpa using hlt)] at he;simp only [oI] at he;subst he
    exact aGt _ _]
   have ih:=pg_put kb it (s3 kb (mG hkb)).1;have e1:(b.2.2.map (pgB h)).flatten=((b.2.2.take (fndI b.2.1 it.1)).map (pgB h)).flatten++(pgB h kb++((b.2.2.drop (fndI b.2.1 it.1+1)).map (pgB h)).flatten):=by
    conv=>lhs;rw [aAp hkb]
    simp only [List.map_append,List.flatten_append,List.map_cons,List.flatten_cons]
   have e2:(((b.2.2.map old).set (fndI b.2.1 it.1) (putE h (old kb) it)).map (olP h)).flatten=((b.2.2.take (fndI b.2.1 it.1)).map (pgB h)).flatten++(olP h (putE h (old kb) it)++((b.2.2.drop (fndI b.2.1 it.1+1)).map (pgB h)).flatten):=by
    rw [List.set_eq_take_append_cons_drop,if_pos (by simpa using hlt),<-List.map_take,<-List.map_drop];simp only [List.map_append,List.flatten_append,List.map_cons,List.flatten_cons];rw [aE7,aE7]
   rw [e1,e2];rw [List.perm_iff_count] at ih ⊢;intro y;have f:=ih y;simp only [List.cons_append,List.count_append,List.count_cons] at f ⊢;omega
theorem aBs:∀ (l:List It) (c:List (List It)),c.length=l.length+1->(weave l c).length=l.length+(c.map List.length).sum
 | [],[c],_=>by simp [weave]
 | [],[],h=>by simp at h
 | [],_::_::_,h=>by simp at h
 | x::l,[],h=>by simp at h
 | x::l,c::cs,h=>by
  have:=aBs l cs (by simpa using h)
  simp only [weave,lA,List.length_cons,List.map_cons,List.sum_cons,this]
  omega
theorem aHi (l:List It) (it:It):(putL l it).length=l.length+(if hasI l it.1 then 0 else 1):=by
 have:=aBj l it.1;unfold putL;by_cases c:hasI l it.1=true
 ·rw [if_pos c,if_pos c];simp
 ·rw [if_neg c,if_neg c];simp;omega
theorem len_put:∀ {h:Nat} (b:BT h) (it:It),ShB h b->(flE h (putE h (old b) it)).length=(flB h b).length+(if nwB h b it.1 then 1 else 0)
 | 0,b,it,_=>by
  show (putL b.2 it).length=b.2.length+(if !hasI b.2 it.1 then 1 else 0)
  rw [aHi]
  cases hasI b.2 it.1<;>rfl
 | h+1,b,it,hs=>by
  obtain ⟨s1,s2,s3⟩:=hs
  have hw:(flB (h+1) b).length=b.2.1.length+((b.2.2.map (flB h)).map List.length).sum:=aBs _ _ (by rw [List.length_map];exact s2)
  by_cases c:hasI (opS (old b)).1 it.1=true
  ·rw [aBl c]
   have c':hasI b.2.1 it.1=true:=c
   have e0:nwB (h+1) b it.1=false:=if_pos c'
   rw [e0]
   show (weave (b.2.1.set (fndI b.2.1 it.1) it) ((b.2.2.map old).map (flE h))).length=_
   rw [aBs _ _ (by simp;omega),hw,List.length_set]
   have:(b.2.2.map old).map (flE h)=b.2.2.map (flB h):=by
    rw [List.map_map];congr 1;funext x;exact aC9 x
   rw [this];simp
  ·have c':¬ hasI b.2.1 it.1=true:=c;have hlt:fndI b.2.1 it.1<b.2.2.length:=by have:=aBj b.2.1 it.1;omega
   obtain ⟨kb,hkb⟩:∃ kb,b.2.2[fndI b.2.1 it.1]?=some kb:=⟨_,gE hlt⟩;have hk:(opS (old b)).2[fndI (opS (old b)).1 it.1]?=some (old kb):=by
    show (b.2.2.map old)[fndI b.2.1 it.1]?=_;rw [List.getElem?_map,hkb];rfl
   have e0:nwB (h+1) b it.1=nwB h kb it.1:=(if_neg c').trans (by rw [hkb]);rw [e0,aB4 c hk];show (weave (setl b.2.1 ((b.2.2.map old).set (fndI b.2.1 it.1) (putE h (old kb) it)) (fndI b.2.1 it.1)).1 ((setl b.2.1 ((b.2.2.map old).set (fndI b.2.1 it.1) (putE h (old kb) it)) (fndI b.2.1 it.1)).2.map (flE h))).length=_;have hsk:=s3 kb (mG hkb)
   rw [fl_setl _ _ _ (by simpa using s2) fun k he=>by
    rw [List.getElem?_set_self (by simpa using hlt)] at he;simp only [oI] at he;subst he
    exact aG3 _ _ (aCy _ hsk.1)]
   have ih:=len_put kb it hsk.1;rw [aBs _ _ (by simp;omega),hw];have e1:(b.2.2.map (flB h)).map List.length=((b.2.2.take (fndI b.2.1 it.1)).map (flB h)).map List.length++(flB h kb).length::((b.2.2.drop (fndI b.2.1 it.1+1)).map (flB h)).map List.length:=by
    conv=>lhs;rw [aAp hkb]
    simp only [List.map_append,List.map_cons]
   have eo:∀ (d:List (BT h)),(d.map old).map (flE h)=d.map (flB h):=fun d=>by
    rw [List.map_map];congr 1;funext x;exact aC9 x
   have e2:(((b.2.2.map old).set (fndI b.2.1 it.1) (putE h (old kb) it)).map (flE h)).map List.length=((b.2.2.take (fndI b.2.1 it.1)).map (flB h)).map List.length++(flE h (putE h (old kb) it)).length::((b.2.2.drop (fndI b.2.1 it.1+1)).map (flB h)).map List.length:=by
    rw [List.set_eq_take_append_cons_drop,if_pos (by simpa using hlt),<-List.map_take,<-List.map_drop];simp only [List.map_append,List.map_cons];rw [eo,eo]
   rw [e1,e2,ih];simp only [List.sum_append,List.sum_cons];omega
theorem hs_fold:∀ (gone:List Nat) (ps:List Nat) (j:Nat),ps.length=64->(∀ x∈gone,x<4096)->hsP (gone.foldl drP ps) j=(hsP ps j && !decide (j∈gone))/\(gone.foldl drP ps).length=64
 | [],ps,j,h,_=>by simp [h]
 | x::g,ps,j,h,hx=>by
  have e:=hs_fold g (drP ps x) j ((drP_len _ _).trans h) fun y hy=>hx y (List.mem_cons_of_mem _ hy)
  refine ⟨?_,e.2⟩
  rw [List.foldl_cons,e.1,hs_dr h (hx x List.mem_cons_self)]
  by_cases c1:j=x<;>by_cases c2:j∈g<;>simp [c1,c2]
theorem aHv:∀ (L:List Nat) (ps:List Nat) (j:Nat),ps.length=64->(∀ x∈L,x<4096)->hsP (L.foldl adP ps) j=(hsP ps j || decide (j∈L))/\(L.foldl adP ps).length=64
 | [],ps,j,h,_=>by simp [h]
 | x::g,ps,j,h,hx=>by
  have e:=aHv g (adP ps x) j ((adP_len _ _).trans h) fun y hy=>hx y (List.mem_cons_of_mem _ hy)
  refine ⟨?_,e.2⟩
  rw [List.foldl_cons,e.1,hs_ad h (hx x List.mem_cons_self)]
  by_cases c1:j=x<;>by_cases c2:j∈g<;>simp [c1,c2]
def PgS (ps:List Nat) (l:List Nat):Prop:=ps.length=64/\l.Nodup/\(∀ x∈l,x<4096)/\∀ j,hsP ps j=decide (j∈l)
theorem PgS.step {l old l':List Nat} (h:PgS ps l) (h1:l.Perm (gone++old)) (h2:l'.Perm (L++old)) (hL:L.Nodup) (hL4:∀ x∈L,x<4096) (hd:∀ x∈L,x∉l):PgS (L.foldl adP (gone.foldl drP ps)) l':=by
 obtain ⟨a1,a2,a3,a4⟩:=h;have hg4:∀ x∈gone,x<4096:=fun x hx=>a3 x (h1.mem_iff.2 (List.mem_append_left _ hx))
 have hnd:=h1.nodup a2;obtain ⟨n1,n2,n3⟩:=List.nodup_append.1 hnd;have hold:∀ x,x∈old->x∈l:=fun x hx=>h1.mem_iff.2 (List.mem_append_right _ hx)
 have e1:=fun j=>hs_fold gone ps j a1 hg4
 have e2:=fun j=>aHv L (gone.foldl drP ps) j (e1 0).2 hL4
 refine ⟨(e2 0).2,?_,fun x hx=>?_,fun j=>?_⟩
 ·refine h2.symm.nodup (List.nodup_append.2 ⟨hL,n2,fun a ha b hb=>?_⟩);rintro rfl;exact hd a ha (hold a hb)
 ·rcases List.mem_append.1 (h2.mem_iff.1 hx) with q | q
  ·exact hL4 x q
  ·exact a3 x (hold x q)
 ·rw [(e2 j).1,(e1 j).1,a4 j,Bool.eq_iff_iff];simp only [Bool.or_eq_true,Bool.and_eq_true,Bool.not_eq_true',decide_eq_true_eq,decide_eq_false_iff_not];rw [h2.mem_iff,h1.mem_iff,List.mem_append,List.mem_append];constructor
  ·rintro (⟨q | q,r⟩ | q)
   ·exact absurd q r
   ·exact Or.inr q
   ·exact Or.inl q
  ·rintro (q | q)
   ·exact Or.inr q
   ·exact Or.inl ⟨Or.inr q,fun r=>n3 j r j q rfl⟩
end Go.Proofs.YtdfjjhlhnfindaaGreat
set_option linter.unusedVariables false
namespace Go.Proofs.YtdfjjhlhnfindaaGreat
open Tryz
variable {L ps:List Nat} {h:Nat} {it:It} {l:List It} {s s':DS} {st:StT} {t t':PS}
theorem mem_weave:∀ (l:List It) (c:List (List It)) (x:It),x∈weave l c->x∈l\/∃ k∈c,x∈k
 | l,[],x,h=>by rw [weave_nil] at h;exact Or.inl h
 | [],c::_,x,h=>Or.inr ⟨c,List.mem_cons_self,h⟩
 | y::l,c::cs,x,h=>by
  rcases List.mem_append.1 (show x∈c++y::weave l cs from h) with h | h
  ·exact Or.inr ⟨c,List.mem_cons_self,h⟩
  ·rcases List.mem_cons.1 h with h | h
   ·exact Or.inl (by rw [h];exact List.mem_cons_self)
   ·rcases mem_weave l cs x h with h | ⟨k,h1,h2⟩
    ·exact Or.inl (List.mem_cons_of_mem _ h)
    ·exact Or.inr ⟨k,List.mem_cons_of_mem _ h1,h2⟩
theorem OnD.ok:∀ {h:Nat} {b:BT h},OnD s t h b->∀ x∈flB h b,ItOk x
 | 0,b,⟨_,hi⟩,x,hx=>hi.ok x hx
 | h+1,b,⟨_,hi,_,_,hk⟩,x,hx=>by
  rcases mem_weave _ _ x hx with q | ⟨k,q1,q2⟩
  ·exact hi.ok x q
  ·obtain ⟨kb,q3,rfl⟩:=List.mem_map.1 q1
   exact OnD.ok (hk kb q3) x q2
theorem OnD.held:∀ {h:Nat} {b:BT h},OnD s t h b->∀ x∈pgB h b,t.st.getD x 0=2/\x<s.n
 | 0,b,⟨hp,_⟩,x,hx=>by
  simp only [pgB,List.mem_singleton] at hx
  subst hx
  exact ⟨by rw [<-aBw];exact hp.of,hp.lt⟩
 | h+1,b,⟨hp,_,_,_,hk⟩,x,hx=>by
  rcases List.mem_cons.1 hx with q | q
  ·subst q
   exact ⟨by rw [<-aBw];exact hp.of,hp.lt⟩
  ·obtain ⟨l,q1,q2⟩:=List.mem_flatten.1 q
   obtain ⟨kb,q3,rfl⟩:=List.mem_map.1 q1
   exact OnD.held (hk kb q3) x q2
def Tr (s:DS) (t:PS) (st:StT) (l:List It):Prop :=
 (st.root=0/\st.depth=0/\st.keys=0/\l=[]/\PgS st.pgs []) \/
 ∃ (h:Nat) (b:BT h),st.root=((BT.id b:Nat):Int)/\st.depth=((h+1:Nat):Int)/\st.keys=((l.length:Nat):Int)/\flB h b=l/\Srt l/\OnD s t h b/\ShB h b/\1<=(BT.it b).length/\PgS st.pgs (pgB h b)
theorem Tr.srt {s:DS} {t:PS} {st:StT} {l:List It} (h:Tr s t st l):Srt l:=by
 rcases h with ⟨_,_,_,rfl,_⟩ | ⟨h,b,e1,e2,e3,e4,e5,e6,e7,e8,e9⟩
 ·exact List.Pairwise.nil
 ·exact e5
theorem Tr.keys (h:Tr s t st l):st.keys=((l.length:Nat):Int):=by
 rcases h with ⟨_,_,h,rfl,_⟩ | ⟨h,b,e1,e2,e3,e4,e5,e6,e7,e8,e9⟩
 ·exact h
 ·exact e3
theorem mem_putL {x:It} (h:x∈putL l it):x∈l\/x=it:=by
 unfold putL at h;by_cases c:hasI l it.1=true
 ·rw [if_pos c] at h;exact (List.mem_or_eq_of_mem_set h)
 ·rw [if_neg c] at h;rcases List.mem_append.1 h with h | h
  ·exact Or.inl (List.mem_of_mem_take h)
  ·rcases List.mem_cons.1 h with h | h
   ·exact Or.inr h
   ·exact Or.inl (List.mem_of_mem_drop h)
theorem deep:∀ {h:Nat} {b:BT h},ShB h b->2<=(BT.it b).length->3 ^ (h+1)<=(flB h b).length+1
 | 0,b,hs,h2=>by
  have h2:2<=b.2.length:=h2
  show 3<=b.2.length+1
  omega
 | h+1,b,⟨s1,s2,s3⟩,h2=>by
  have h2:2<=b.2.1.length:=h2
  have hw:(flB (h+1) b).length=b.2.1.length+((b.2.2.map (flB h)).map List.length).sum:=aBs _ _ (by rw [List.length_map];exact s2)
  have key:∀ (c:List (BT h)),(∀ k∈c,ShB h k/\2<=(BT.it k).length)->c.length*3 ^ (h+1)<=((c.map (flB h)).map List.length).sum+c.length:=by
   intro c
   induction c with
   | nil=>intro _;simp
   | cons k c ih =>
    intro hc;have i1:=ih fun x hx=>hc x (List.mem_cons_of_mem _ hx)
    obtain ⟨a1,a2⟩:=hc k List.mem_cons_self;have i2:=deep a1 a2;simp only [List.length_cons,List.map_cons,List.sum_cons,Nat.add_mul,Nat.one_mul];omega
  have hk:=key b.2.2 s3;have h3:3*3 ^ (h+1)<=b.2.2.length*3 ^ (h+1):=Nat.mul_le_mul_right _ (by omega);have e:3 ^ (h+1+1)=3*3 ^ (h+1):=by rw [Nat.pow_succ,Nat.mul_comm]
  omega
theorem deepR:∀ {h:Nat} {b:BT h},ShB h b->1<=(BT.it b).length->2*3 ^ h<=(flB h b).length+1
 | 0,b,hs,h2=>by
  have h2:1<=b.2.length:=h2
  show 2<=b.2.length+1
  omega
 | h+1,b,⟨s1,s2,s3⟩,h2=>by
  have h2:1<=b.2.1.length:=h2
  have hw:(flB (h+1) b).length=b.2.1.length+((b.2.2.map (flB h)).map List.length).sum:=aBs _ _ (by rw [List.length_map];exact s2)
  have key:∀ (c:List (BT h)),(∀ k∈c,ShB h k/\2<=(BT.it k).length)->c.length*3 ^ (h+1)<=((c.map (flB h)).map List.length).sum+c.length:=by
   intro c
   induction c with
   | nil=>intro _;simp
   | cons k c ih =>
    intro hc;have i1:=ih fun x hx=>hc x (List.mem_cons_of_mem _ hx)
    obtain ⟨a1,a2⟩:=hc k List.mem_cons_self;have i2:=deep a1 a2;simp only [List.length_cons,List.map_cons,List.sum_cons,Nat.add_mul,Nat.one_mul];omega
  have hk:=key b.2.2 s3;have h3:2*3 ^ (h+1)<=b.2.2.length*3 ^ (h+1):=Nat.mul_le_mul_right _ (by omega);omega
theorem Tr.depth80 (h:Tr s t st l) (hl:l.length<=100):0<=st.depth/\st.depth<=4:=by
 rcases h with ⟨_,h,_,rfl,_⟩ | ⟨h,b,e1,e2,e3,e4,e5,e6,e7,e8,e9⟩
 ·omega
 ·have:=deepR e7 e8;rw [e4] at this;have:h<=3:=by
   apply Classical.byContradiction;intro q;have h4:3 ^ 4<=3 ^ h:=Nat.pow_le_pow_right (by omega) (by omega);omega
  omega
theorem root_ht (e:ED h):(rootE h e).1=if 4<(itE e).length then h+1 else h:=by
 unfold rootE;by_cases c:4<(itE e).length
 ·rw [if_pos c,if_pos c]
 ·rw [if_neg c,if_neg c]
section
variable {s:DS} {t:PS} {h:Nat} {b:BT h} {l:List It}
theorem on_put (it:It) (hit:ItOk it) (e4:flB h b=l) (e5:Srt l) (e6:OnD s t h b) (e7:ShB h b) :
  flE (rootE h (putE h (old b) it)).1 (rootE h (putE h (old b) it)).2=putL l it/\ShE (rootE h (putE h (old b) it)).1 4 (rootE h (putE h (old b) it)).2/\1<=(itE (rootE h (putE h (old b) it)).2).length/\OnE s t (rootE h (putE h (old b) it)).1 (rootE h (putE h (old b) it)).2:=by
 have hsh:=aG3 (old b) it (aCy b e7);have hfl:flE (rootE h (putE h (old b) it)).1 (rootE h (putE h (old b) it)).2=putL l it:=by
  rw [fl_root hsh,fl_put (old b) it (aCy b e7) (by rw [aC9,e4];exact e5),aC9,e4]
 have h1:1<=(itE (rootE h (putE h (old b) it)).2).length:=by
  have hp:=(aBz (old b) it (aCy b e7)).1;have hb:1<=(itE (old b)).length:=by
   rw [aFs]
   cases h with
   | zero=>exact e6.2.n1
   | succ h=>exact e6.2.1.n1
  unfold rootE;by_cases c:4<(itE (putE h (old b) it)).length
  ·rw [if_pos c];exact nR _
  ·rw [if_neg c];exact nT hb hp
 refine ⟨hfl,Sh_root hsh,h1,OnE.of (((OldOn.old e6).put it).root) (Sh_root hsh) (by rw [hfl];exact aB6 e5) (fun x hx=>?_) h1⟩;rw [hfl] at hx;rcases mem_putL hx with q | q
 ·rw [<-e4] at q;exact e6.ok x q
 ·rw [q];exact hit
theorem Tr.put {b':BT (rootE h (putE h (old b) it)).1} (hit:ItOk it) (e4:flB h b=l) (e5:Srt l) (e6:OnD s t h b) (e7:ShB h b) (e9:PgS ps (pgB h b)) (hsl:t.st.length<=4096)
  (hl:LdR (rootE h (putE h (old b) it)).1 (rootE h (putE h (old b) it)).2 b' L) (hg:Gw s t s' t' L) (hb':OnD s' t' (rootE h (putE h (old b) it)).1 b') :
  Tr s' t' ⟨((BT.id b':Nat):Int),(if 4<(itE (putE h (old b) it)).length then ((h+1:Nat):Int)+1 else ((h+1:Nat):Int)),cntN ((l.length:Nat):Int) (nwB h b it.1),L.foldl adP ((pthB h b it.1).foldl drP ps)⟩ (putL l it):=by
 obtain ⟨f1,f2,f3,f4⟩:=on_put it hit e4 e5 e6 e7;refine Or.inr ⟨_,b',rfl,?_,?_,by rw [hl.fl,f1],aB6 e5,hb',hl.sh f2,by rw [hl.it];exact f3,?_⟩
 ·show (if 4<(itE (putE h (old b) it)).length then ((h+1:Nat):Int)+1 else ((h+1:Nat):Int))=(((rootE h (putE h (old b) it)).1+1:Nat):Int);rw [root_ht];by_cases c:4<(itE (putE h (old b) it)).length
  ·rw [if_pos c,if_pos c];simp
  ·rw [if_neg c,if_neg c]
 ·have e:=len_put b it e7;rw [fl_put (old b) it (aCy b e7) (by rw [aC9,e4];exact e5),aC9,e4] at e;show cntN _ _=_;unfold cntN;rw [e]
  cases nwB h b it.1<;>simp
 ·refine e9.step (pg_put b it e7) ?_ hg.nd (gw_lt hg hsl) fun x hx q=>?_
  ·have:=hl.pg;rw [olP_root (aGt _ _)] at this;exact this
  ·have h1:=(hg.new x hx).1;have h2:=(e6.held x q).1;omega
theorem fr_put2 (it:It):frE (rootE h (putE h (old b) it)).1 (rootE h (putE h (old b) it)).2<=2*h+3:=by
 have h1:=fr_put b it;have h2:=fr_root (fr_new (old b) it);omega
end
end Go.Proofs.YtdfjjhlhnfindaaGreat
set_option linter.unusedVariables false
namespace Go.Proofs.YtdfjjhlhnfindaaGreat
open Go.RowKit Tryz
variable {B g h k p q:Nat} {cs:Array Value} {d left:Int} {fz:Nat×Nat} {gone:List Nat} {last now:StT} {s:DS} {sv:Value} {t:PS} {w w':World}
theorem change1_ok [Gd] {tb hb hf ty1 ty2:Nat} {n:Int} {cap:Array Value} {e:ED h} (hg0:True) (hST:ST B p q s t w) (hB:B<=w.heap.size) (hgB:B<=g) (hg:w.heap[g]?=some (.cells cs 183 (0,0))) (hT:TV cs p q now last sv left false)
  (htb:w.heap[tb]?=some (.cells #[.pointer (some ⟨g,0,none⟩)] ty1 (0,0))) (hhb:w.heap[hb]?=some (.cells #[.func (Fn.func hf) #[] cap] ty2 (0,0))) (hty1:NT ty1) (hcf:∀ (v:Value) (ww:World),(callFunc hf (#[v]++cap)).run prog ww=.ok (.enter hf (#[v]++cap)) ww)
  (hHow:∀ (w1:World) (px:Nat),B<=px->Below w.heap.size w w1->EV B w1 px q (.iface 217 (.int .i64 now.root)) now.depth now.keys []->ST B p q s t w1->B<=w1.heap.size->Calls prog hf (#[.pointer (some ⟨px,0,none⟩)]++cap) w1 fun e' w'=>e'=.returned (.bool true)/\∃ rv S,EV B w' px q rv d n gone/\NV B w1.heap.size w' h e S rv/\S.Nodup/\FE B w1 w')
  (hlf:s.life=t.life) (hdn:s.down=false) (haf:s.after<1) (hl1:s.life<100000) (hm:s.m+frE h e<=100000) (hsn:t.st.length=s.n) (hf1:frE h e<=1000) (hfr:frE h e<=cntF t.st) (hon:OnE s t h e) (hgo:∀ x∈gone,x<4096) (hgl:gone.length<100000) :
  Calls prog 176 #[.pointer (some ⟨tb,0,none⟩),.pointer (some ⟨hb,0,none⟩)] w fun e' w'=>e'=.returned (.int .i64 0)/\ChR B p q g s t w now last sv d n gone h e w':=by
 have r1:w.cell? ⟨g,1,none⟩=some (.pointer (some ⟨q,0,none⟩)):=(aAa hg).trans hT.c1;have r2:w.cell? ⟨g,2,none⟩=some (.int .i64 now.root):=(aAa hg).trans hT.n0;have r3:w.cell? ⟨g,3,none⟩=some (.int .i64 now.depth):=(aAa hg).trans hT.n1;have r4:w.cell? ⟨g,4,none⟩=some (.int .i64 now.keys):=(aAa hg).trans hT.n2;have r5:w.cell? ⟨tb,0,none⟩=some (.pointer (some ⟨g,0,none⟩)):=aAa htb;have r6:w.cell? ⟨hb,0,none⟩=some (.func (Fn.func hf) #[] cap):=aAa hhb;have hsl:t.st.length<=4096:=by obtain ⟨_,gs,h2⟩:=hST;exact h2.ok.sl
 have HG:=zH hg;have HT:=zH hT;have HST:=zH hST;have HTB:=zH htb;have HHW:=zH hHow;have HLP:=zH (fun (ww:World) (px:Nat) (rv:Value) (S:List Nat) (B1:Nat) (a1:ST B p q s t ww) (a2:B<=ww.heap.size) (a3:B<=B1) (a4:EL B ww px q rv d n gone []) (a5:NV B B1 ww h e S rv) (a6:S.Nodup)=>lay_ok hg0 h s t ww [] e S rv (⟨a1,a2,a3,hlf,hdn,haf,hl1,hm,hsn,a4,by simpa using hf1,hfr,hon,a5,a6⟩:LayP B B1 p q px s t ww rv d n gone [] h e S rv));have HFR:=zH (fun (B1:Nat) (ww:World) (S:List Nat) (v:Value) (a1:B<=ww.heap.size) (a2:NV B B1 ww h e S v)=>fresh_ok h ww e S v a1 hf1 a2);have HGO:=zH hgo;have HGL:=zH hgl;have HMM:=zH hm;have HSM:Hid (∀ (s':DS) (t':PS) (L:List Nat) (a b:Nat),Gw s t s' t' L->L.length<=4096):=fun s' t' L a b hg=>by
  have h1:=hg.nd;have h2:=gw_lt hg hsl;have:=List.Nodup.length_le_of_subset (l₂:=List.range 4096) h1 fun x hx=>List.mem_range.2 (h2 x hx)
  simpa using this
 have HNT:=zH hty1;clear hg hT hST htb hhb hHow hlf hdn haf hl1 hm hsn hon hgo hgl hty1;go_enter func176,ntmps176;go_upto_region 1 with fail;have HY0:Hid ((fun wx=>wx.cell? ⟨tb,0,none⟩=some (.pointer (some ⟨g,0,none⟩))/\wx.cell? ⟨g,1,none⟩=some (.pointer (some ⟨q,0,none⟩))/\wx.cell? ⟨g,2,none⟩=some (.int .i64 now.root)/\wx.cell? ⟨g,3,none⟩=some (.int .i64 now.depth)/\wx.cell? ⟨g,4,none⟩=some (.int .i64 now.keys)) w.drew):=⟨r5,r1,r2,r3,r4⟩;have HBQ:=zH ((aAc w (.cells #[.pointer (some ⟨q,0,none⟩),.iface 217 (.int .i64 now.root),.int .i64 now.depth,.int .i64 now.keys,.slice none 0 0,.slice none 0 0] 279)).drew);have HX1:Hid ((w.alloc (.cells #[.pointer (some ⟨q,0,none⟩),.iface 217 (.int .i64 now.root),.int .i64 now.depth,.int .i64 now.keys,.slice none 0 0,.slice none 0 0] 279)).drew.heap[w.heap.size]?=some (.cells #[.pointer (some ⟨q,0,none⟩),.iface 217 (.int .i64 now.root),.int .i64 now.depth,.int .i64 now.keys,.slice none 0 0,.slice none 0 0] 279 (0,0))):=heap_alloc_new w _;have HY1:Hid ((fun wx=>wx.cell? ⟨tb,0,none⟩=some (.pointer (some ⟨g,0,none⟩))/\wx.cell? ⟨g,1,none⟩=some (.pointer (some ⟨q,0,none⟩))/\wx.cell? ⟨g,2,none⟩=some (.int .i64 now.root)/\wx.cell? ⟨g,3,none⟩=some (.int .i64 now.depth)/\wx.cell? ⟨g,4,none⟩=some (.int .i64 now.keys)) ((w.alloc (.cells #[.pointer (some ⟨q,0,none⟩),.iface 217 (.int .i64 now.root),.int .i64 now.depth,.int .i64 now.keys,.slice none 0 0,.slice none 0 0] 279)).drew)):=by
  have k5:=block_lt_of_cell r5;have k1:=block_lt_of_cell r1;exact ⟨(HBQ.o.cell (p:=⟨tb,0,none⟩) k5).trans r5,(HBQ.o.cell (p:=⟨g,1,none⟩) k1).trans r1,(HBQ.o.cell (p:=⟨g,2,none⟩) k1).trans r2,(HBQ.o.cell (p:=⟨g,3,none⟩) k1).trans r3,(HBQ.o.cell (p:=⟨g,4,none⟩) k1).trans r4⟩
 have HR5:=zH r5;have HR6:=zH r6;clear r1 r2 r3 r4 r5 r6;refine wp_region_noPanic ?_;refine wp_region_held_drew (S:=fun wx=>wx.cell? ⟨tb,0,none⟩=some (.pointer (some ⟨g,0,none⟩))/\wx.cell? ⟨g,1,none⟩=some (.pointer (some ⟨q,0,none⟩))/\wx.cell? ⟨g,2,none⟩=some (.int .i64 now.root)/\wx.cell? ⟨g,3,none⟩=some (.int .i64 now.depth)/\wx.cell? ⟨g,4,none⟩=some (.int .i64 now.keys)) (by kernel_rfl) HY0.o (fun hHeld=>?_);refine kT 0 6 ?_;refine kT 1 7 ?_;refine kT 2 8 ?_;refine kT 3 9 ?_;refine kT 4 10 ?_;refine kT 5 11 ?_;refine kT 6 12 ?_;refine kT 7 13 ?_;refine kT 8 14 ?_;refine kT 9 15 ?_;refine kT 10 16 ?_;refine kT 11 17 ?_;refine kT 12 18 ?_;refine kT 13 19 ?_;refine kT 14 20 ?_;refine kT 15 21 ?_;refine kT 16 22 ?_;refine kT 17 23 ?_;refine kT 18 24 ?_;refine kT 19 25 ?_;refine kT 20 26 ?_;refine kC 21 ?_;intro K hK;go_simp;clear hHeld;refine hK.out _ _ HY1.o (fun hHeld=>?_);clear hK K
 try simp only [Act.put,siT,scZ,scS]
 refine kT 22 3 ?_;refine wpAnyH_done (by kernel_rfl) ?_ _;refine NoPanic.normal ?_;clear hHeld HY0 HY1;have HB1:=HBQ;clear HBQ;generalize ((w.alloc (.cells #[.pointer (some ⟨q,0,none⟩),.iface 217 (.int .i64 now.root),.int .i64 now.depth,.int .i64 now.keys,.slice none 0 0,.slice none 0 0] 279)).drew)=w1 at *
 have r5:=HR5.o;have r6:=HR6.o;have t1:w1.cell? ⟨tb,0,none⟩=some (.pointer (some ⟨g,0,none⟩)):=(HB1.o.cell (p:=⟨tb,0,none⟩) (block_lt_of_cell r5)).trans r5;have h1:w1.cell? ⟨hb,0,none⟩=some (.func (Fn.func hf) #[] cap):=(HB1.o.cell (p:=⟨hb,0,none⟩) (block_lt_of_cell r6)).trans r6;have c1:=hcf (.pointer (some ⟨w.heap.size,0,none⟩)) w1;have HF1:=zH (FE.of HB1.o hB);have HEV1:Hid (EV B w1 w.heap.size q (.iface 217 (.int .i64 now.root)) now.depth now.keys []):=⟨hB,⟨_,HX1.o,own_nil⟩,by simp⟩;have HCL:=zH (HHW.o w1 w.heap.size hB HB1.o HEV1.o (HST.o.later HB1.o) (nT hB HB1.o.size));have HBw1:Hid (B<=w1.heap.size):=nT hB HB1.o.size;clear r5 r6 hcf HX1 HEV1 HHW HB1 HR5 HR6;generalize hpx:w.heap.size=px at *
 go_wp2_with fail;refine HCL.o.mono ?_;rintro e2 w2 ⟨rfl,rv,S,v1,v2,v3,v4⟩;obtain ⟨ty,pv,rfl⟩:=v2.form;have HF2:=zH (HF1.o.trans v4);have HBw2:Hid (B<=w2.heap.size):=nT HBw1.o v4.1.size;have HEV2:=zH v1;have HNV2:=zH v2;have HND:=zH v3;have HST2:=zH (HF2.o.st HST.o hg0);have HG2:=zH (HF2.o.nt HG.o (by decide));have HMR:=zH (aHo HST2.o HG2.o HT.o v1 (HFR.o _ w2 S _ HBw2.o v2) hfr);have t2:w2.cell? ⟨tb,0,none⟩=some (.pointer (some ⟨g,0,none⟩)):=aAa (HF2.o.nt HTB.o HNT.o);clear v1 v2 v3 v4 t1 h1 c1 HCL;go_wp2_with fail;refine HMR.o.mono ?_;rintro e3 w3 ⟨rfl,hb3⟩;have HB3:=zH hb3;have HB3d:Hid (Below w2.heap.size w2 w3.drew):=hb3.drew;have HF3:=zH (HF2.o.trans (FE.of HB3d.o HBw2.o));have HG3:Hid (w3.heap[g]?=some (.cells cs 183 (0,0))):=HF3.o.nt HG.o (by decide);have t3:w3.cell? ⟨tb,0,none⟩=some (.pointer (some ⟨g,0,none⟩)):=aAa (show w3.heap[tb]?=_ from HF3.o.nt HTB.o HNT.o);have g3:w3.cell? ⟨g,1,none⟩=some (.pointer (some ⟨q,0,none⟩)):=(aAa HG3.o).trans HT.o.c1;have p3:w3.cell? ⟨px,1,none⟩=some (.iface ty pv):=((HEV2.o.later hb3).cellsx).2.1;have HLY:=zH (HLP.o w3.drew px (.iface ty pv) S w1.heap.size (HST2.o.later HB3d.o) (nT HBw2.o HB3d.o.size) HBw1.o (HEV2.o.later HB3d.o).el (NV.lf (T:=[]) (Lf.fe [] (FE.of HB3d.o HBw2.o)) (fun _ _=>List.not_mem_nil) HNV2.o) HND.o);clear hb3 t2 HMR;go_upto_region 6 with fail;have HX0:Hid ((fun wx=>wx.cell? ⟨tb,0,none⟩=some (.pointer (some ⟨g,0,none⟩))/\wx.cell? ⟨g,1,none⟩=some (.pointer (some ⟨q,0,none⟩))/\wx.cell? ⟨px,1,none⟩=some (.iface ty pv)) w3.drew):=⟨t3,g3,p3⟩;clear t3 g3 p3;refine wp_region_noPanic ?_;refine wp_region_held_drew (S:=fun wx=>wx.cell? ⟨tb,0,none⟩=some (.pointer (some ⟨g,0,none⟩))/\wx.cell? ⟨g,1,none⟩=some (.pointer (some ⟨q,0,none⟩))/\wx.cell? ⟨px,1,none⟩=some (.iface ty pv)) (by kernel_rfl) HX0.o (fun hHeld=>?_);refine kT 0 37 ?_;refine kT 1 38 ?_;refine kT 2 39 ?_;refine kT 3 40 ?_;refine kT 4 41 ?_;refine kT 5 42 ?_;refine kT 6 43 ?_;refine kT 7 44 ?_;refine kT 8 45 ?_;refine kC 9 ?_;intro K hK;go_simp;refine HLY.o.mono ?_;rintro e4 w4 ⟨v4,rfl,b,s4,t4,L,rfl,l1,l2,l3,l4,l5,l6⟩;have HL1:=zH l1;have HL2:=zH l2;have HL3:=zH l3;have HL4:=zH l4;have HL5:=zH l5;have HL6:=zH l6;have HG4:Hid (w4.heap[g]?=some (.cells cs 183 (0,0))):=l6.2.1 g cs _ _ (show w3.drew.heap[g]?=_ from HG3.o) (by decide);have HTB4:Hid (w4.heap[tb]?=some (.cells #[.pointer (some ⟨g,0,none⟩)] ty1 (0,0))):=l6.2.1 tb _ _ _ (show w3.drew.heap[tb]?=_ from HF3.o.nt HTB.o HNT.o) HNT.o;have HX1:Hid ((fun wx=>wx.cell? ⟨tb,0,none⟩=some (.pointer (some ⟨g,0,none⟩))/\wx.cell? ⟨g,1,none⟩=some (.pointer (some ⟨q,0,none⟩))/\wx.cell? ⟨px,1,none⟩=some (.iface ty pv)) w4):=by
  obtain ⟨gv,lv,k1,k2,k3,k4⟩:=l5.hx;exact ⟨aAa HTB4.o,(aAa HG4.o).trans HT.o.c1,aAa k1⟩
 clear l1 l2 l3 l4 l5 l6 hHeld;refine hK.out _ _ HX1.o (fun hHeld=>?_);clear hK K
 try simp only [Act.put,siT,scZ,scS]
 refine kT 10 36 ?_;refine kT 11 47 ?_;refine kT 12 48 ?_;refine kT 13 4 ?_;refine kT 14 5 ?_;refine wpAnyH_done (by kernel_rfl) ?_ _;refine NoPanic.normal ?_;clear hHeld HX0 HX1 HLY;have t4x:w4.cell? ⟨tb,0,none⟩=some (.pointer (some ⟨g,0,none⟩)):=aAa HTB4.o;have hLn:L.length<100000:=by exact Nat.lt_of_le_of_lt (HSM.o _ _ _ 0 0 HL2.o) (by decide)
 have HTK:=zH (take_ok (root:=BT.id b) hgB HL3.o HG4.o HT.o HL5.o HGO.o (by rw [List.nil_append];exact gw_lt HL2.o hsl) HGL.o (by rw [List.nil_append];exact hLn));go_wp2_with fail;refine HTK.o.mono ?_;rintro e5 w5 ⟨rfl,cs',k1,k2,k3⟩;rw [List.nil_append] at k2;have HK1:=zH k1;have HK2:=zH k2;have HK3:=zH k3;clear k1 k2 k3 t4x HTK;go_wp2;go_ret;refine ⟨rfl,b,s4,t4,L,cs',HL1.o,HL2.o,HL3.o.exT HK3.o HG4.o,HL4.o,HK1.o,HK2.o,((HF3.o.1.trans HL6.o.1).trans HK3.o.1),fun k cs0 t0 fz k1 k2 k3=>?_,(HF3.o.gdk.trans HL6.o.2.2.2).trans (HK3.o.gdk HG4.o (by unfold DTy;decide))⟩;have m1:=HL6.o.2.1 k cs0 t0 fz (show w3.drew.heap[k]?=_ from HF3.o.nt k1 k2) k2;rw [HK3.o.2 k (lO m1) (by simpa using k3),m1]
theorem Ex.keepX {cs':Array Value} {t T0:TypeId} {fz0:Nat×Nat} (h:Ex B [g] w w') (hg:w.heap[g]?=some (.cells cs T0 fz0)) (hk:w.heap[k]?=some (.cells cs' t fz)) (ht:t≠T0):w'.heap[k]?=some (.cells cs' t fz):=by
 rw [h.2 k (lO hk) ?_,hk];intro q9;simp only [List.mem_singleton] at q9;subst q9;rw [hg] at hk;simp only [oI,cI] at hk;exact ht hk.2.1.symm
theorem ST.exE [Gd] (h:ST B p q s t w) (f:Ex B [g] w w') (hg:w.heap[g]?=some (.cells cs 23 (0,0))):ST B p q s t w':=by
 obtain ⟨h1,gs,h2⟩:=h;refine ⟨?_,gs,f.keepX hg h2.hq (by decide),f.keepX hg h2.hs (by decide),h2.qB,h2.gB,h2.ok,h2.hG⟩;exact h1.of_stay (fun k cs t e ht=>f.keepX hg e (by rcases ht with rfl | rfl | rfl | rfl | rfl | rfl | rfl<;>decide))
theorem change_ok [Gd] {hf:Nat} {n:Int} {cap:Array Value} {e:ED h} (hg0:True) (hST:ST B p q s t w) (hB:B<=w.heap.size) (hgB:B<=g) (hg:w.heap[g]?=some (.cells cs 183 (0,0))) (hT:TV cs p q now last sv left false)
  (hcf:∀ (v:Value) (ww:World),(callFunc hf (#[v]++cap)).run prog ww=.ok (.enter hf (#[v]++cap)) ww)
  (hHow:∀ (w1:World) (px:Nat),B<=px->Below w.heap.size w w1->EV B w1 px q (.iface 217 (.int .i64 now.root)) now.depth now.keys []->ST B p q s t w1->B<=w1.heap.size->Calls prog hf (#[.pointer (some ⟨px,0,none⟩)]++cap) w1 fun e' w'=>e'=.returned (.bool true)/\∃ rv S,EV B w' px q rv d n gone/\NV B w1.heap.size w' h e S rv/\S.Nodup/\FE B w1 w')
  (hlf:s.life=t.life) (hdn:s.down=false) (haf:s.after<1) (hl1:s.life<100000) (hm:s.m+frE h e<=100000) (hsn:t.st.length=s.n) (hf1:frE h e<=1000) (hfr:frE h e<=cntF t.st) (hon:OnE s t h e) (hgo:∀ x∈gone,x<4096) (hgl:gone.length<100000) :
  Calls prog 153 #[.pointer (some ⟨g,0,none⟩),.func (Fn.func hf) #[] cap] w fun e' w'=>e'=.returned (.int .i64 0)/\ChR B p q g s t w now last sv d n gone h e w':=by
 have hmf:∀ (fn:Fn) (first cap:Array Value) (w:World),(Instr.makeFunc fn first cap).run prog w=.ok (.func fn first cap) w:=fun _ _ _ _=>rfl
 have hgl':=(lO hg);have x1:Hid ((w.alloc (.cells #[.pointer (some ⟨g,0,none⟩)] 121)).heap[w.heap.size]?=some (.cells #[.pointer (some ⟨g,0,none⟩)] 121 (0,0))):=heap_alloc_new w _;have b1:=aAc w (.cells #[.pointer (some ⟨g,0,none⟩)] 121);have e1:(w.alloc (.cells #[.pointer (some ⟨g,0,none⟩)] 121)).heap.size=w.heap.size+1:=Array.size_push _;have HCR:Hid (Calls prog 114 #[.func (Fn.func 176) #[] #[.pointer (some ⟨w.heap.size,0,none⟩),.pointer (some ⟨w.heap.size+1,0,none⟩)]] ((w.alloc (.cells #[.pointer (some ⟨g,0,none⟩)] 121)).alloc (.cells #[.func (Fn.func hf) #[] cap] 262)) fun e' w'=>e'=.returned (.int .i64 0)/\ChR B p q g s t w now last sv d n gone h e w'):=by
  generalize hw1:(w.alloc (.cells #[.pointer (some ⟨g,0,none⟩)] 121))=w1 at *
  have x2:(w1.alloc (.cells #[.func (Fn.func hf) #[] cap] 262)).heap[w1.heap.size]?=some (.cells #[.func (Fn.func hf) #[] cap] 262 (0,0)):=heap_alloc_new w1 _;have b2:=aAc w1 (.cells #[.func (Fn.func hf) #[] cap] 262);generalize hw2:(w1.alloc (.cells #[.func (Fn.func hf) #[] cap] 262))=w2 at *
  have x3:(w2.alloc (.cells #[.int .i64 0] 23)).heap[w2.heap.size]?=some (.cells #[.int .i64 0] 23 (0,0)):=heap_alloc_new w2 _;have b3:=aAc w2 (.cells #[.int .i64 0] 23);have b12:Below w.heap.size w w2:=b1.trans (b2.mono b1.size);have b13:Below w.heap.size w (w2.alloc (.cells #[.int .i64 0] 23)):=b12.trans (b3.mono b12.size);have hbx:B<=w2.heap.size:=nT hB b12.size;have y1:=((b2.block w.heap.size (by omega)).trans x1.out);have y1':=((b3.block w.heap.size (lO y1)).trans y1);have y2':=((b3.block w1.heap.size (lO x2)).trans x2);rw [e1] at y2';have hC:=change1_ok (w:=w2.alloc (.cells #[.int .i64 0] 23)) hg0 (hST.later b13) (nT hB b13.size) hgB ((b13.block g hgl').trans hg) hT y1' y2' (by decide) hcf (fun wx px k1 k2=>hHow wx px k1 (b13.trans (k2.mono b13.size))) hlf hdn haf hl1 hm hsn hf1 hfr hon hgo hgl;have hgs:g<w2.heap.size:=Nat.lt_of_lt_of_le hgl' b12.size;refine (aEl (w:=w2) (P:=fun r ww=>r=0/\ChR B p q g s t (w2.alloc (.cells #[.int .i64 0] 23)) now last sv d n gone h e ww) (fun ww=>by rfl) (hC.mono ?_)).mono ?_
  ·rintro e9 w9 ⟨rfl,hc⟩;refine ⟨0,rfl,⟨rfl,hc⟩,?_⟩;obtain ⟨b,s',t',L,cs',k1,k2,k3,k4,k5,k6,k7⟩:=hc;exact k7.2 _ _ _ _ x3 (by decide) (by omega)
  ·rintro e9 w9 ⟨r,w8,rfl,⟨rfl,hc⟩,rfl⟩;refine ⟨rfl,?_⟩;obtain ⟨b,s',t',L,cs',k1,k2,k3,k4,k5,k6,k7⟩:=hc;have x9:=k7.2 _ _ _ _ x3 (by decide) (by omega);have hex:Ex B [w2.heap.size] w8 (w8.setCell ⟨w2.heap.size,0,none⟩ (.int .i64 0)):=Ex.set hbx;refine ⟨b,s',t',L,cs',k1,k2,k3.exE hex x9,k4,hex.keepX x9 k5 (by decide),k6,(b13.mono hB).trans (k7.1.trans hex.1),fun k cs0 t0 fz m1 m2 m3=>?_,(GdK.of b13).trans (k7.gd.trans (hex.gdk x9 (by unfold DTy;decide)))⟩;have m4:=k7.2 k cs0 t0 fz ((b13.block k (lO m1)).trans m1) m2 m3;have hkl:=(lO m1);have hs2:=b12.size;rw [hex.2 k (lO m4) (by simp;omega),m4]
 clear hST hg hT hcf hHow hlf hdn haf hl1 hm hsn hf1 hfr hon hgo hgl x1 b1;go_enter func153,ntmps153;go_wp2_with fail;refine HCR.o.mono ?_;rintro e9 w9 ⟨rfl,hc⟩;have HC:=zH hc;clear hc;go_wp2;go_ret;exact ⟨rfl,HC.o⟩
end Go.Proofs.YtdfjjhlhnfindaaGreat
set_option linter.unusedVariables false
namespace Go.Proofs.YtdfjjhlhnfindaaGreat
open Tryz
variable {j:Nat} {l:List It}
def frm (l:List It) (lo:List Nat):List It:=l.filter fun x=>decide (0<=cmpB x.1 lo)
theorem frm_app (a b:List It) (lo:List Nat):frm (a++b) lo=frm a lo++frm b lo:=List.filter_append ..
theorem frm_lo {lo:List Nat} (h:Lo l lo):frm l lo=[]:=by
 unfold frm;rw [List.filter_eq_nil_iff];intro x hx;have:=h x hx;simp;omega
theorem frm_all {lo:List Nat} (h:∀ x∈l,0<=cmpB x.1 lo):frm l lo=l:=by
 unfold frm;rw [List.filter_eq_self];intro x hx;simpa using h x hx
theorem wvL_end:∀ (l:List It) (cs:List (List It)) (z:It),cs.length=l.length->l.getLast?=some z->∃ a,wvL l cs=a++[z]:=by
 intro l
 induction l with
 | nil=>intro cs z _ h;simp at h
 | cons x l ih =>
  intro cs z hl h
  match cs,hl with
  | c::cs,hl =>
   cases l with
   | nil =>
    simp only [List.getLast?_singleton,oI] at h;subst h;refine ⟨c,?_⟩
    cases cs<;>simp [wvL]
   | cons x2 l =>
    rw [List.getLast?_cons_cons] at h;obtain ⟨a,ha⟩:=ih cs z (by simpa using hl) h;refine ⟨c++x::a,?_⟩;simp only [wvL] at ha ⊢;rw [ha];simp
theorem aE2 {cs:List (List It)} {x:It} {c:List It} (hx:l[j]?=some x) (hc:cs[j+1]?=some c):wvR (l.drop j) (cs.drop (j+1))=x::(c++wvR (l.drop (j+1)) (cs.drop (j+1+1))):=by
 have h1:l.drop j=x::l.drop (j+1):=by rw [<-(List.getElem?_eq_some_iff.1 hx).2,List.getElem_cons_drop]
 have h2:cs.drop (j+1)=c::cs.drop (j+1+1):=by rw [<-(List.getElem?_eq_some_iff.1 hc).2,List.getElem_cons_drop]
 rw [h1,h2];rfl
theorem wvR_end {cs:List (List It)} (hj:l.length<=j):wvR (l.drop j) (cs.drop (j+1))=[]:=by
 rw [List.drop_eq_nil_of_le hj];simp [wvR]
section
variable {l:List It} {cs:List (List It)} {lo:List Nat} {c:List It}
theorem frm_weave (hs:Srt (weave l cs)) (hl:cs.length=l.length+1) (hc:cs[fndI l lo]?=some c):frm (weave l cs) lo=(if hasI l lo then [] else frm c lo)++wvR (l.drop (fndI l lo)) (cs.drop (fndI l lo+1)):=by
 have hsl:Srt l:=List.Pairwise.sublist (aCq l cs hl) hs;have hp:=hsl.part lo;have hle:=aBj l lo;have hw:=aA8 l cs (fndI l lo) c hl hc;rw [hw] at hs;obtain ⟨p1,p2,p3⟩:=hs.app;obtain ⟨p4,p5,p6⟩:=p2.app;have q1:Lo (wvL (l.take (fndI l lo)) (cs.take (fndI l lo))) lo:=by
  intro y hy;by_cases q:fndI l lo=0
  ·rw [q] at hy;simp [wvL] at hy
  ·obtain ⟨z,hz⟩:∃ z,l[fndI l lo-1]?=some z:=⟨_,gE (by omega)⟩
   have hzk:cmpB z.1 lo<0:=hp.1 z (by
    have:(l.take (fndI l lo))[fndI l lo-1]?=some z:=by rw [List.getElem?_take_of_lt (by omega)];exact hz
    exact mG this)
   obtain ⟨a,ha⟩:=wvL_end (l.take (fndI l lo)) (cs.take (fndI l lo)) z (by simp;omega) (by
    rw [List.getLast?_eq_getElem?,List.length_take,Nat.min_eq_left (by omega),List.getElem?_take_of_lt (by omega)]
    exact hz)
   rw [ha] at hy p1;rcases List.mem_append.1 hy with hy | hy
   ·exact aB0 ((Srt.app p1).2.2 y hy z (by simp)) hzk
   ·simp at hy;subst hy;exact hzk
 have q2:∀ y∈wvR (l.drop (fndI l lo)) (cs.drop (fndI l lo+1)),0<=cmpB y.1 lo:=by
  intro y hy;by_cases q:fndI l lo=l.length
  ·rw [wvR_end (by omega)] at hy;simp at hy
  ·obtain ⟨z,hz⟩:∃ z,l[fndI l lo]?=some z:=⟨_,gE (by omega)⟩;obtain ⟨c2,hc2⟩:∃ c2,cs[fndI l lo+1]?=some c2:=⟨_,gE (by omega)⟩;rw [aE2 hz hc2] at hy p5
   have hz0:=hp.2 z (by
    have hd:l.drop (fndI l lo)=z::l.drop (fndI l lo+1):=by rw [<-(List.getElem?_eq_some_iff.1 hz).2,List.getElem_cons_drop]
    rw [hd];simp)
   rcases List.mem_cons.1 hy with hy | hy
   ·rw [hy];exact hz0
   ·have h1:=(List.pairwise_cons.1 p5).1 y hy;apply Classical.byContradiction;intro q3;have:=aB0 h1 (show cmpB y.1 lo<0 by omega);omega
 rw [hw,frm_app,frm_app,frm_lo q1,frm_all q2,List.nil_append]
 congr 1
 by_cases hh:hasI l lo=true
 ·rw [if_pos hh];obtain ⟨x,hx,ex⟩:=(hsl.has lo).1 hh;obtain ⟨c2,hc2⟩:∃ c2,cs[fndI l lo+1]?=some c2:=⟨_,gE (by have:=(lL hx);omega)⟩;rw [aE2 hx hc2] at p6;refine frm_lo fun y hy=>?_
  have:=p6 y hy x (by simp);rw [ex] at this;exact this
 ·rw [if_neg hh]
end
theorem Srt.kid {cs:List (List It)} {c:List It} (hs:Srt (weave l cs)) (hl:cs.length=l.length+1) (hc:c∈cs):Srt c:=List.Pairwise.sublist (aCr l cs c hl hc) hs
end Go.Proofs.YtdfjjhlhnfindaaGreat
set_option linter.unusedVariables false
namespace Go.Proofs.YtdfjjhlhnfindaaGreat
open Go.RowKit Tryz
variable {B g h p q:Nat} {L gone:List Nat} {d left:Int} {l:List It} {last now:StT} {s s':DS} {sv:Value} {t t':PS} {w w':World}
structure TM [Gd] (B p q g:Nat) (s:DS) (t:PS) (now last:StT) (sv:Value) (left:Int) (w:World):Prop where
 st:ST B p q s t w
 bw:B<=w.heap.size
 bg:B<=g
 tv:∃ cs,w.heap[g]?=some (.cells cs 183 (0,0))/\TV cs p q now last sv left false
 lf:s.life=t.life
 dn:s.down=false
 af:s.after<1
 l1:s.life<100000
 sn:t.st.length=s.n
 hd:t.st.getD 0 0=0/\t.st.getD 1 0=0
theorem TM.later [Gd] (h:TM B p q g s t now last sv left w) (hb:Below w.heap.size w w'):TM B p q g s t now last sv left w':=by
 obtain ⟨cs,h1,h2⟩:=h.tv;exact ⟨h.st.later hb,nT h.bw hb.size,h.bg,⟨cs,(hb.block g (lO h1)).trans h1,h2⟩,h.lf,h.dn,h.af,h.l1,h.sn,h.hd⟩
theorem TM.sl [Gd] (h:TM B p q g s t now last sv left w):t.st.length<=4096:=by
 obtain ⟨_,gs,h2⟩:=h.st;exact h2.ok.sl
theorem Gw.heads (g:Gw s t s' t' L) (h:t.st.getD 0 0=0/\t.st.getD 1 0=0):t'.st.getD 0 0=0/\t'.st.getD 1 0=0 :=
 ⟨(g.old 0 fun q=>by have:=(g.new 0 q).1;omega).trans h.1,(g.old 1 fun q=>by have:=(g.new 1 q).1;omega).trans h.2⟩
theorem id_mem:∀ {h:Nat} (b:BT h),BT.id b∈pgB h b
 | 0,_=>List.mem_singleton.2 rfl
 | _+1,_=>List.mem_cons_self
theorem ChR.tm [Gd] {n:Int} {e:ED h} (hM:TM B p q g s t now last sv left w) (hc:ChR B p q g s t w now last sv d n gone h e w') :
  ∃ (b:BT h) (s':DS) (t':PS) (L:List Nat),LdR h e b L/\Gw s t s' t' L/\OnD s' t' h b/\TM B p q g s' t' ⟨(BT.id b:Nat),d,n,L.foldl adP (gone.foldl drP now.pgs)⟩ last sv (cntF t'.st:Nat) w'/\ChF B g w w':=by
 obtain ⟨b,s',t',L,cs',k1,k2,k3,k4,k5,k6,k7⟩:=hc;exact ⟨b,s',t',L,k1,k2,k4,⟨k3,nT hM.bw k7.1.size,hM.bg,⟨cs',k5,k6⟩,by rw [k2.life,k2.tlife];exact hM.lf,by rw [k2.down];exact hM.dn,by rw [k2.after];exact hM.af,by rw [k2.life];exact hM.l1,by rw [k2.len,k2.n];exact hM.sn,k2.heads hM.hd⟩,k7⟩
def PutT [Gd] (B p q g:Nat) (s:DS) (t:PS) (now last:StT) (sv:Value) (l:List It) (it:It) (w w':World):Prop :=
 ∃ (s':DS) (t':PS) (now':StT) (L:List Nat),Gw s t s' t' L/\TM B p q g s' t' now' last sv (cntF t'.st:Nat) w'/\Tr s' t' now' (putL l it)/\(L.length:Int)<=2*now.depth+1/\ChF B g w w'
theorem put_change [Gd] {kb vb:Nat} (hg0:True) (hM:TM B p q g s t now last sv left w) (hTr:Tr s t now l) (hl:l.length<100000) (it:It) (hit:ItOk it) {ka va:Option Addr} {kn kc vn vc:Nat} (hkn:it.1.length=kn) (hvn:it.2.length=vn) (hk:BK B w ka kn kc it.1) (hv:BK B w va vn vc it.2) (hroom:2*now.depth+1<=((cntF t.st:Nat):Int)) (hdep:now.depth<=400) (hm:s.m+1000<=100000)
  (hkb:w.heap[kb]?=some (.cells #[.slice ka kn kc] 55 (0,0))) (hvb:w.heap[vb]?=some (.cells #[.slice va vn vc] 55 (0,0))) :
  Calls prog 153 #[.pointer (some ⟨g,0,none⟩),.func (Fn.func 154) #[] #[.pointer (some ⟨kb,0,none⟩),.pointer (some ⟨vb,0,none⟩)]] w fun e w'=>e=.returned (.int .i64 0)/\PutT B p q g s t now last sv l it w w':=by
 obtain ⟨cs,hg,hT⟩:=hM.tv;have hcf:∀ (v:Value) (ww:World),(callFunc 154 (#[v]++#[.pointer (some ⟨kb,0,none⟩),.pointer (some ⟨vb,0,none⟩)])).run prog ww=.ok (.enter 154 (#[v]++#[.pointer (some ⟨kb,0,none⟩),.pointer (some ⟨vb,0,none⟩)])) ww:=fun v ww=>by rfl
 have hcell:∀ w1,Below w.heap.size w w1->w1.cell? ⟨kb,0,none⟩=some (.slice ka kn kc)/\w1.cell? ⟨vb,0,none⟩=some (.slice va vn vc):=fun w1 hb=>⟨(hb.cell (p:=⟨kb,0,none⟩) (lO hkb)).trans (aAa hkb),(hb.cell (p:=⟨vb,0,none⟩) (lO hvb)).trans (aAa hvb)⟩
 rcases hTr with ⟨r1,r2,r3,rfl,r5⟩ | ⟨h,b,e1,e2,e3,e4,e5,e6,e7,e8,e9⟩
 ·have hr:rootE 0 (Sum.inr [it]:ED 0)=⟨0,Sum.inr [it]⟩:=if_neg (show ¬ 4<1 by decide);have hits:ItsOk [it]:=⟨nR _,show 1<=4 by decide,fun x hx=>by rw [List.mem_singleton] at hx;rw [hx];exact hit,List.pairwise_singleton _ _⟩;have hfr:frE 0 (Sum.inr [it]:ED 0)=1:=rfl
  have hC:=change_ok (B:=B) (h:=0) (e:=(Sum.inr [it]:ED 0)) (d:=1) (n:=1) (gone:=[]) (hf:=154) (cap:=#[.pointer (some ⟨kb,0,none⟩),.pointer (some ⟨vb,0,none⟩)]) hg0 hM.st hM.bw hM.bg hg hT hcf (fun w1 px k1 k2 k3 k4 k5=>by
   have c:=hcell w1 k2;rw [r1,r2,r3] at k3;have hP:=put_none (w:=w1) (n:=0) k3 k5 (Int.le_refl _) (by decide) it hkn hvn (hk.later k2 hM.bw) (hv.later k2 hM.bw);refine (put1_any c.1 c.2 hP).mono ?_;rintro e9 w9 ⟨rfl,rv,S,m1,m2,m3,m4⟩;rw [hr] at m2
   exact ⟨rfl,rv,S,m1,m2,m3,m4⟩) hM.lf hM.dn hM.af hM.l1 (by rw [hfr];omega) hM.sn (by rw [hfr];decide) (by rw [hfr];omega) hits (fun x hx=>by simp at hx) (by simp)
  refine hC.mono ?_;rintro e9 w9 ⟨rfl,hc⟩;obtain ⟨b,s',t',L,k1,k2,k3,k4,k5⟩:=hc.tm hM;have hlen:=k1.len;refine ⟨rfl,s',t',_,L,k2,k4,Or.inr ⟨0,b,rfl,rfl,rfl,?_,List.pairwise_singleton _ _,k3,?_,?_,?_⟩,?_,k5⟩
  ·exact k1.fl
  ·exact k1.sh (show (1:Nat)<=4 by decide)
  ·rw [k1.it];exact nR 1
  ·refine r5.step (gone:=[]) (old:=[]) (List.Perm.refl _) ?_ k2.nd (gw_lt k2 hM.sl) fun x _=>List.not_mem_nil
   exact k1.pg
  ·rw [hlen,hfr];omega
 ·have ho:=on_put it hit e4 e5 e6 e7;have hfr:=fr_put2 (b:=b) it;have hpl:=pth_len b it.1;have hh:h<=399:=by omega
  have hC:=change_ok (B:=B) (h:=(rootE h (putE h (old b) it)).1) (e:=(rootE h (putE h (old b) it)).2) (d:=(if 4<(itE (putE h (old b) it)).length then ((h+1:Nat):Int)+1 else ((h+1:Nat):Int))) (n:=cntN ((l.length:Nat):Int) (nwB h b it.1)) (gone:=pthB h b it.1) (hf:=154) (cap:=#[.pointer (some ⟨kb,0,none⟩),.pointer (some ⟨vb,0,none⟩)]) hg0 hM.st hM.bw hM.bg hg hT hcf (fun w1 px k1 k2 k3 k4 k5=>by
   have c:=hcell w1 k2;rw [e1,e2,e3] at k3;have hP:=put_some (w:=w1) (gone:=[]) hg0 hM.lf hM.dn b k3 rfl k4 k5 (by simp;omega) (by omega) (by omega) e6 e7 it hkn hvn (hk.later k2 hM.bw) (hv.later k2 hM.bw);refine (put1_any c.1 c.2 hP).mono ?_;rintro e9 w9 ⟨rfl,rv,S,m1,m2,m3,m4⟩
   exact ⟨rfl,rv,S,m1,m2,m3,m4⟩) hM.lf hM.dn hM.af hM.l1 (by omega) hM.sn (by omega) (by omega) ho.2.2.2 (fun x hx=>Nat.lt_of_lt_of_le (e6.pth it.1 x hx) (by rw [<-hM.sn];exact hM.sl)) (by omega)
  refine hC.mono ?_;rintro e9 w9 ⟨rfl,hc⟩;obtain ⟨b',s',t',L,k1,k2,k3,k4,k5⟩:=hc.tm hM;have hlen:=k1.len;exact ⟨rfl,s',t',_,L,k2,k4,Tr.put hit e4 e5 e6 e7 e9 hM.sl k1 k2 k3,by omega,k5⟩
theorem Put_ok [Gd] (hg0:True) (hM:TM B p q g s t now last sv left w) (hTr:Tr s t now l) (hl:l.length<100000) (it:It) (hit:ItOk it) {ka va:Option Addr} {kn kc vn vc:Nat} (hkn:it.1.length=kn) (hvn:it.2.length=vn) (hk:BK B w ka kn kc it.1) (hv:BK B w va vn vc it.2) (hroom:2*now.depth+1<=((cntF t.st:Nat):Int)) (hdep:now.depth<=400) (hm:s.m+1000<=100000) :
  Calls prog 133 #[.pointer (some ⟨g,0,none⟩),.slice ka kn kc,.slice va vn vc] w fun e w'=>e=.returned (.int .i64 0)/\PutT B p q g s t now last sv l it w w':=by
 have hmf:∀ (fn:Fn) (first cap:Array Value) (w:World),(Instr.makeFunc fn first cap).run prog w=.ok (.func fn first cap) w:=fun _ _ _ _=>rfl
 have hk0:¬ (kn:Int)=0:=by
  intro q9;have:it.1.length=0:=by omega
  exact hit.k0 (List.eq_nil_of_length_eq_zero this)
 have hk6:=hit.k1;have hv1:=hit.v1;rw [hkn] at hk6;rw [hvn] at hv1;have xv:¬ (1800:Int)<(vn:Int):=by omega
 have b1:=aAc w (.cells #[.slice ka kn kc] 55);have b2:=aAc (w.alloc (.cells #[.slice ka kn kc] 55)) (.cells #[.slice va vn vc] 55);have x1:(w.alloc (.cells #[.slice ka kn kc] 55)).heap[w.heap.size]?=some (.cells #[.slice ka kn kc] 55 (0,0)):=heap_alloc_new w _;have x2:=heap_alloc_new (w.alloc (.cells #[.slice ka kn kc] 55)) (.cells #[.slice va vn vc] 55);have e1:(w.alloc (.cells #[.slice ka kn kc] 55)).heap.size=w.heap.size+1:=Array.size_push _;have b12:=b1.trans (b2.mono b1.size);have x1':=(b2.block w.heap.size (by omega)).trans x1;rw [e1] at x2;have HM:=zH hM;have HTR:=zH hTr;have HK:=zH hk;have HV:=zH hv;have HBB:=zH b12;have HX1:=zH x1';have HX2:=zH x2
 have HRF:=zH (fun (ww:World) (hb:Below w.heap.size w ww)=>by
  obtain ⟨cs,hg,hT⟩:=(hM.later hb).tv;have hr:=aFl (hM.later hb).st hM.lf hg hT ka kn kc;rw [if_neg (by omega),if_neg (by omega)] at hr
  exact hr)
 have HPC:=zH (fun (ww:World) (hb:Below w.heap.size w ww) (y1:ww.heap[w.heap.size]?=some (.cells #[.slice ka kn kc] 55 (0,0))) (y2:ww.heap[w.heap.size+1]?=some (.cells #[.slice va vn vc] 55 (0,0)))=>put_change hg0 (hM.later hb) hTr hl it hit hkn hvn (hk.later hb hM.bw) (hv.later hb hM.bw) hroom hdep hm y1 y2);have c1:((w.alloc (.cells #[.slice ka kn kc] 55)).alloc (.cells #[.slice va vn vc] 55)).cell? ⟨w.heap.size,0,none⟩=some (.slice ka kn kc):=aAa x1';clear hM hTr hk hv hl hit hroom hdep hm b1 b2 x1 x2 b12 x1' hk6 hv1 hkn hvn;go_enter func133,ntmps133;go_wp2_with fail;refine (HRF.o _ HBB.o).mono ?_;rintro e9 w1 ⟨rfl,hb1⟩;have HB1:=zH (HBB.o.trans (hb1.mono HBB.o.size));have y1:=(hb1.block _ (lO HX1.o)).trans HX1.o;have y2:=(hb1.block _ (lO HX2.o)).trans HX2.o;have HCH:=zH (HPC.o w1 HB1.o y1 y2);have c2:w1.cell? ⟨w.heap.size+1,0,none⟩=some (.slice va vn vc):=aAa y2;clear hb1 y1 y2 c1;go_wp2_with fail;refine HCH.o.mono ?_;rintro e9 w2 ⟨rfl,hp⟩;have HP:=zH hp;clear hp;go_wp2;go_ret;refine ⟨rfl,?_⟩;obtain ⟨s',t',now',L,k1,k2,k3,k4,k5⟩:=HP.o;refine ⟨s',t',now',L,k1,k2,k3,k4,(HB1.o.mono HM.o.bw).trans k5.1,fun k cs0 t0 fz m1 m2 m3=>?_,(GdK.of HB1.o).trans k5.gd⟩;exact k5.2 k cs0 t0 fz ((HB1.o.block k (lO m1)).trans m1) m2 m3
def valL (L:List It) (k:List Nat):Option (List Nat):=(L.find? fun y=>decide (y.1=k)).map (·.2)
theorem Srt.inj {L:List It} (hs:Srt L) {x y:It} (hx:x∈L) (hy:y∈L) (h:x.1=y.1):x=y:=by
 obtain ⟨i,hi,rfl⟩:=List.getElem_of_mem hx;obtain ⟨j,hj,rfl⟩:=List.getElem_of_mem hy;have hp:=List.pairwise_iff_getElem.1 hs;rcases Nat.lt_trichotomy i j with q | q | q
 ·have:=hp i j hi hj q;rw [h,aBg] at this;omega
 ·subst q;rfl
 ·have:=hp j i hj hi q;rw [h,aBg] at this;omega
theorem aCh {L:List It} (hs:Srt L) {x:It} (hx:x∈L):valL L x.1=some x.2:=by
 unfold valL
 cases h:L.find? fun y=>decide (y.1=x.1) with
 | none =>
  have:=List.find?_eq_none.1 h x hx;simp at this
 | some y =>
  have h1:=List.mem_of_find?_eq_some h;have h2:=List.find?_some h;simp only [decide_eq_true_eq] at h2;rw [hs.inj h1 hx h2];rfl
theorem aCs {L:List It} {k:List Nat} (h:∀ x∈L,x.1≠k):valL L k=none:=by
 unfold valL;rw [List.find?_eq_none.2 fun x hx=>by simpa using h x hx];rfl
theorem valL_same {L M:List It} (hs:Srt L) (hsm:Srt M) {k:List Nat} (h1:∀ x∈M,x∈L) (h2:∀ x∈L,x.1=k->x∈M):valL L k=valL M k:=by
 by_cases c:∃ x∈M,x.1=k
 ·obtain ⟨x,hx,rfl⟩:=c;rw [aCh hs (h1 x hx),aCh hsm hx]
 ·rw [aCs (L:=M) fun x hx q=>c ⟨x,hx,q⟩,aCs fun x hx q=>c ⟨x,h2 x hx q,q⟩]
theorem aFe:∀ (l:List It) (c:List (List It)),c.length=l.length+1->∀ x∈l,x∈weave l c:=fun l c h x hx=>(aCq l c h).subset hx
theorem valL_kid {cs:List (List It)} {c:List It} {k:List Nat} (hs:Srt (weave l cs)) (hl:cs.length=l.length+1) (hc:cs[fndI l k]?=some c) (hh:hasI l k=false):valL (weave l cs) k=valL c k:=by
 refine valL_same hs (Srt.kid hs hl (mG hc)) (fun x hx=>(aCr l cs c hl (mG hc)).subset hx) fun x hx ek=>?_
 have e0:0<=cmpB x.1 k:=by rw [ek,aBg];omega
 have hf:x∈frm (weave l cs) k:=List.mem_filter.2 ⟨hx,by simpa using e0⟩;rw [frm_weave hs hl hc,hh] at hf;simp only [Bool.false_eq_true,if_false] at hf;rcases List.mem_append.1 hf with q | q
 ·exact (List.mem_filter.1 q).1
 ·exfalso;have hsl:Srt l:=List.Pairwise.sublist (aCq l cs hl) hs;have hle:=aBj l k;by_cases e:fndI l k=l.length
  ·rw [wvR_end (by omega)] at q;simp at q
  ·obtain ⟨z,hz⟩:∃ z,l[fndI l k]?=some z:=⟨_,gE (by omega)⟩;obtain ⟨c2,hc2⟩:∃ c2,cs[fndI l k+1]?=some c2:=⟨_,gE (by omega)⟩;have hw:=aA8 l cs (fndI l k) c hl hc;rw [hw] at hs;have p5:=hs.app.2.1.app.2.1
   have hz0:=(hsl.part k).2 z (by
    have hd:l.drop (fndI l k)=z::l.drop (fndI l k+1):=by rw [<-(List.getElem?_eq_some_iff.1 hz).2,List.getElem_cons_drop]
    rw [hd];simp)
   have hzk:cmpB z.1 k≠0:=fun q3=>by
    have:=(hsl.has k).2 ⟨z,hz,aF2 q3⟩;rw [hh] at this;cases this
   rw [aE2 hz hc2] at q p5;rcases List.mem_cons.1 q with q | q
   ·rw [q] at ek;rw [ek,aBg] at hzk;exact hzk rfl
   ·have h1:=(List.pairwise_cons.1 p5).1 x q;rw [ek] at h1;omega
def VlR (B:Nat) (o:Option (List Nat)) (e:Ending) (w':World):Prop:=match o with
 | some x=>∃ v,e=.returned (.tuple #[v,.bool true])/\KV B w' v x
 | none=>e=.returned (.tuple #[.slice none 0 0,.bool false])
def VlI (s:DS) (t:PS) (o:Option (List Nat)) (k:List Nat) (a d:Value):Prop :=
 (d=.int .i64 0/\o=none/\∃ i:Nat,a=.int .i64 (i:Int))\/∃ (h:Nat) (b:BT h),a=.int .i64 (BT.id b:Int)/\d=.int .i64 ((h:Int)+1)/\h<100000/\OnD s t h b/\Srt (flB h b)/\valL (flB h b) k=o
theorem valueIn_any [Gd] {gs so:Nat} {st:StT} (hST:ST B p q s t w) (hB:B<=w.heap.size) (hlf:s.life=t.life) (hdn:s.down=false) (hTr:Tr s t st l) (hdp:st.depth<100000) (hr0:w.cell? ⟨gs,so,none⟩=some (.int .i64 st.root)) (hd0:w.cell? ⟨gs,so+1,none⟩=some (.int .i64 st.depth)) {ka:Option Addr} {kn kc:Nat} {key:List Nat} (hk:BK B w ka kn kc key) :
  Calls prog 169 #[.pointer (some ⟨q,0,none⟩),.pointer (some ⟨gs,so,none⟩),.slice ka kn kc] w fun e w'=>VlR B (valL l key) e w'/\Below w.heap.size w w':=by
 have HST:=zH hST;have HB:=zH hB;have HK:=zH hk;have HI0:Hid (VlI s t (valL l key) key (.int .i64 st.root) (.int .i64 st.depth)):=by
  rcases hTr with ⟨r1,r2,r3,r4,r5⟩ | ⟨h,b,q1,q2,q3,q4,q5,q6,q7,q8,q9⟩
  ·subst r4;exact Or.inl ⟨by rw [r2],rfl,0,by rw [r1];rfl⟩
  ·exact Or.inr ⟨h,b,by rw [q1],by rw [q2];simp,by omega,q6,by rw [q4];exact q5,by rw [q4]⟩
 clear hST hB hTr hdp hk;generalize st.root=rt at *
 generalize st.depth=dp at *
 generalize valL l key=o at *
 go_enter func169,ntmps169;go_wp2_with fail;go_loopw [8,9] (fun a d wx=>VlI s t o key a d/\Below w.heap.size w wx) (fun _ d _=>(intOf d).toNat)
 case atStart=>exact ⟨HI0.o,Below.refl _ _⟩
 case round =>
  obtain ⟨hI,hbr⟩:=hrel;have HBR:=zH hbr;have HBw:Hid (B<=wr.heap.size):=nT HB.o hbr.size;rcases hI with ⟨rfl,rfl,i0,rfl⟩ | ⟨h,b,rfl,rfl,hh,hon,hsr,hvl⟩
  ·clear hbr;go_wp2;(try simp only [Exit.inBlock,Exit.then]);go_ret2;exact ⟨rfl,HBR.o⟩
  ·have HVL:=zH hvl;have HSR:=zH hsr
   cases h with
   | zero =>
    obtain ⟨hpg,hit⟩:=hon;have HLD:=zH (aDy b.1 (HST.o.later hbr) HBw.o hlf hpg.lt (by rw [hpg.of];decide) hdn b.2 hpg.pg hit.n1 hit.n4 hit.ok hit.so hpg.ln hpg.bt);have HIT:=zH hit;have hl4:=hit.n4;clear hpg hit hvl hsr hbr;generalize hl:b.2=l0 at *
    generalize hLL:l0.length=L at *
    generalize hFi:fndI l0 key=Fi at *
    generalize hhb:hasI l0 key=hb0 at *
    have HBI:Hid (flB 0 b=l0):=hl;have x0:(0:Int)<((0:Nat):Int)+1:=by omega
    have x1:((0:Nat):Int)+1=1:=rfl;rw [x1];go_wp2_with fail;refine HLD.o.mono ?_;rintro e w1 ⟨v1,rfl,⟨gl,gi,rfl,z1,z2,z3,z4⟩,hb1⟩;rw [hLL] at z3;have HZ3:=zH z3;have HIO:=zH (aBu z3);have HBw1:Hid (B<=w1.heap.size):=nT HBw.o hb1.size;have HB1:Hid (Below w.heap.size w w1):=HBR.o.trans (hb1.mono HBR.o.size);have HFN:Hid (Calls prog 166 #[.slice (some ⟨gi,0,none⟩) L L,.slice ka kn kc] w1 fun e w'=>e=.returned (.tuple #[.int .i64 (Fi:Int),.bool hb0])/\Below w1.heap.size w1 w'):=by
     have:=find_ok z4 HBw1.o ((HK.o.later HB1.o HB.o).1) (by omega) HIT.o.so hLL;rw [hFi,hhb] at this;exact this
    have HZ4:=zH z4;clear z3 z4 hb1 HLD;unfold lfP at HIO;go_wp2_with fail;refine HIO.o.mono ?_;rintro e w1' ⟨rfl,rfl⟩;go_wp2_with fail;refine HFN.o.mono ?_;rintro e w2 ⟨rfl,hb2⟩;have HIR2:=zH (HZ4.o.later hb2 HBw1.o);have HB2:Hid (Below w.heap.size w w2):=HB1.o.trans (hb2.mono HB1.o.size);have HG2:=zH ((hb2.block gl (lO HZ3.o)).trans HZ3.o);have ta:=aAx (.pointer (some ⟨gl,0,none⟩)) w2;clear hb2 HFN HIO HZ4 HZ3
    cases hb0 with
    | true =>
     obtain ⟨x,hx,hxk⟩:=(HIT.o.so.has key).1 hhb;have hFL:Fi<L:=by
      rw [hFi] at hx;have:=(lL hx);omega
     rw [hFi] at hx;obtain ⟨kf,vf,hg1,hg2⟩:=HIR2.o;rw [hLL] at hg1;obtain ⟨hk1,hv1⟩:=hg2 Fi x hx;have HVV:=zH hv1;have y6:w2.cell? ⟨gi,Fi*2+1,none⟩=some (vf Fi):=by rw [aAa hg1,List.getElem?_toArray];exact aA2 kf vf Fi L hFL
     have xF:(Fi:Int)<(L:Int):=by omega
     have HOV:Hid (o=some x.2):=by
      show _=_;rw [<-HVL.o,<-hxk];exact aCh HSR.o (by rw [HBI.o];exact mG hx)
     have HIO2:=zH (by have h9:=aBu HG2.o;unfold lfP at h9;exact h9);obtain ⟨va,vc,hva,_⟩:=hv1;rw [hva] at y6 HVV;generalize hvn:x.2.length=vn at *
     clear hg1 hg2 hk1 hva;go_wp2_with fail;refine HIO2.o.mono ?_;rintro e w4 ⟨rfl,rfl⟩;go_wp2;(try simp only [Exit.inBlock,Exit.then]);go_ret2;refine ⟨?_,HB2.o⟩;rw [HOV.o];exact ⟨_,rfl,HVV.o⟩
    | false =>
     have HOV:Hid (o=none):=by
      show _=_;rw [<-HVL.o,HBI.o];refine aCs fun x hx q9=>?_
      have:hasI l0 key=true:=by
       simp only [hasI,List.contains_eq_mem,List.mem_map,decide_eq_true_eq];exact ⟨x,hx,q9⟩
      rw [hhb] at this;cases this
     go_wp2_with fail;go_roundw
     case rel=>exact ⟨Or.inl ⟨by go_num,HOV.o,b.1,rfl⟩,HB2.o⟩
     case measure=>simp [intOf]
   | succ h =>
    obtain ⟨hpg,hit,hcl,hid,hkd⟩:=hon;have hidl:(b.2.2.map BT.id).length=b.2.1.length+1:=by rw [List.length_map];exact hcl
    have HLD:=aCv b.1 (h+2) (by omega) (HST.o.later hbr) HBw.o hlf hpg.lt (by rw [hpg.of];decide) hdn b.2.1 (b.2.2.map BT.id) hpg.pg hidl (by intro x hx;obtain ⟨k,hk,rfl⟩:=List.mem_map.1 hx;exact hid k hk) hit.n1 hit.n4 hit.ok hit.so hpg.ln hpg.bt;rw [show (((h+2:Nat):Nat):Int)=(h:Int)+1+1 by omega] at HLD
    replace HLD:=zH HLD
    have HIT:=zH hit;have hl4:=hit.n4;have HKD:=zH hkd;have HCL:=zH hcl;have hfl:=aBj b.2.1 key;have HSW:Hid (Srt (weave b.2.1 (b.2.2.map (flB h)))):=hsr;have HBI:Hid (flB (h+1) b=weave b.2.1 (b.2.2.map (flB h))):=rfl;have HCS:Hid ((b.2.2.map (flB h)).length=b.2.1.length+1):=by rw [List.length_map];exact hcl
    clear hpg hit hvl hsr hbr hid hkd;have hn2:(b.2.2.map BT.id).length=b.2.1.length+1:=hidl;generalize hl:b.2.1=l0 at *
    generalize hLL:l0.length=L at *
    generalize hFi:fndI l0 key=Fi at *
    generalize hhb:hasI l0 key=hb0 at *
    have x0:(0:Int)<(((h+1:Nat):Nat):Int)+1:=by omega
    have x1:(((h+1:Nat):Nat):Int)+1=(h:Int)+1+1:=by omega
    rw [x1];rw [x1] at x0;go_wp2_with fail;refine HLD.o.mono ?_;rintro e w1 ⟨v1,rfl,⟨gb,gi,gc,rfl,z1,z2,z5,z3,z4,z6⟩,hb1⟩;rw [hLL,hn2] at z3;have HZ3:=zH z3;have HIO:=zH (aBf z3);have HBw1:Hid (B<=w1.heap.size):=nT HBw.o hb1.size;have HB1:Hid (Below w.heap.size w w1):=HBR.o.trans (hb1.mono HBR.o.size);have HFN:Hid (Calls prog 166 #[.slice (some ⟨gi,0,none⟩) L L,.slice ka kn kc] w1 fun e w'=>e=.returned (.tuple #[.int .i64 (Fi:Int),.bool hb0])/\Below w1.heap.size w1 w'):=by
     have:=find_ok z4 HBw1.o ((HK.o.later HB1.o HB.o).1) (by omega) HIT.o.so hLL;rw [hFi,hhb] at this;exact this
    have HZ4:=zH z4;have HZ6:=zH z6;clear z3 z4 z6 hb1 HLD;unfold brP at HIO;go_wp2_with fail;refine HIO.o.mono ?_;rintro e w1' ⟨rfl,rfl⟩;go_wp2_with fail;refine HFN.o.mono ?_;rintro e w2 ⟨rfl,hb2⟩;have HIR2:=zH (HZ4.o.later hb2 HBw1.o);have HB2:Hid (Below w.heap.size w w2):=HB1.o.trans (hb2.mono HB1.o.size);have HG2:=zH ((hb2.block gb (lO HZ3.o)).trans HZ3.o);have HGC2:=zH ((hb2.block gc (lO HZ6.o)).trans HZ6.o);have ta:=aAy (.pointer (some ⟨gb,0,none⟩)) w2;clear hb2 HFN HIO HZ4 HZ3 HZ6
    cases hb0 with
    | true =>
     obtain ⟨x,hx,hxk⟩:=(HIT.o.so.has key).1 hhb;have hFL:Fi<L:=by
      rw [hFi] at hx;have:=(lL hx);omega
     rw [hFi] at hx;obtain ⟨kf,vf,hg1,hg2⟩:=HIR2.o;rw [hLL] at hg1;obtain ⟨hk1,hv1⟩:=hg2 Fi x hx;have HVV:=zH hv1;have y6:w2.cell? ⟨gi,Fi*2+1,none⟩=some (vf Fi):=by rw [aAa hg1,List.getElem?_toArray];exact aA2 kf vf Fi L hFL
     have xF:(Fi:Int)<(L:Int):=by omega
     have HOV:Hid (o=some x.2):=by
      show _=_;rw [<-HVL.o,<-hxk];exact aCh HSR.o (by rw [HBI.o];exact aFe _ _ (by rw [hLL];exact HCS.o) _ (mG hx))
     have HIO2:=zH (by have h9:=aBf HG2.o;unfold brP at h9;exact h9);obtain ⟨va,vc,hva,_⟩:=hv1;rw [hva] at y6 HVV;generalize hvn:x.2.length=vn at *
     clear hg1 hg2 hk1 hva;go_wp2_with fail;refine HIO2.o.mono ?_;rintro e w4 ⟨rfl,rfl⟩;go_wp2;(try simp only [Exit.inBlock,Exit.then]);go_ret2;refine ⟨?_,HB2.o⟩;rw [HOV.o];exact ⟨_,rfl,HVV.o⟩
    | false =>
     obtain ⟨kb,hkb⟩:∃ kb,b.2.2[Fi]?=some kb:=⟨_,gE (by have:=HCL.o;omega)⟩;have hkm:=mG hkb;have HOV:Hid (valL (flB h kb) key=o):=by
      show _=_;rw [<-HVL.o,HBI.o];exact (valL_kid HSW.o (by rw [hLL];exact HCS.o) (by rw [hFi,List.getElem?_map,hkb];rfl) hhb).symm
     have HKS:Hid (Srt (flB h kb)):=Srt.kid HSW.o (by rw [hLL];exact HCS.o) (List.mem_map_of_mem hkm);have HKO:=zH (HKD.o kb hkm);have g1:w2.cell? ⟨gb,1,none⟩=some (.slice (some ⟨gc,0,none⟩) (L+1) (L+1)):=aAa HG2.o;have g2:w2.cell? ⟨gc,Fi,none⟩=some (.iface 217 (.int .i64 (BT.id kb:Int))):=by
      rw [aAa HGC2.o,List.getElem?_toArray,List.getElem?_map,List.getElem?_map,hkb];rfl
     have g3:=aF5 (.int .i64 (BT.id kb:Int)) w2;have xl:(Fi:Int)<((L+1:Nat):Int):=by omega
     clear hkb hkm;go_wp2_with fail;go_roundw
     case rel=>exact ⟨Or.inr ⟨h,kb,rfl,by go_num,by omega,HKO.o,HKS.o,HOV.o⟩,HB2.o⟩
     case measure=>simp [intOf];omega
end Go.Proofs.YtdfjjhlhnfindaaGreat
