import Derived.Test.YtfobcelkmopohaaGreatZ35
import Derived.Defers
import Derived.Recover
set_option maxRecDepth 100000
set_option maxHeartbeats 16000000
set_option linter.unusedVariables false
namespace Go.Proofs.YtfobcelkmopohaaGreat
open Go.RowKit
theorem caught_idle (p:Addr) (w:World) :
  CallsD Tryz.prog 69 #[.pointer (some p)] .returning w fun e u' w'=>e=.returned (.tuple #[])/\u'=.returning/\w'=w:=by
 refine callsD_of_wpS Tryz.func69 rfl fun c₀ cs hu=>?_
 apply wpS_seq
 apply wpS_region
 simp [wpOpsS,go_sem,recoverD,hu,Tryz.ntmps69,Exit.thenS]
 refine wpS_cond (t:=false) (by simp [Act.eval,Array.replicate]) ?_
 simp only [Bool.false_eq_true,if_false]
 refine wpS_of_wp (wp_skip ?_)
 cases c₀
 simp_all [bodyPostS,results,Tryz.results69]
theorem aB8 {w:World} {fn:Nat} {cap:Array Value} {P:Int->World->Prop} (hcf:∀ ww:World,(callFunc fn cap).run Tryz.prog ww=.ok (.enter fn cap) ww)
  (hC:Calls Tryz.prog fn cap (w.alloc (.cells #[.int .i64 0] 33)) fun e w'=>∃ r:Int,e=.returned (.int .i64 r)/\P r w'/\w'.heap[w.heap.size]?=some (.cells #[.int .i64 0] 33 (0,0))) :
  Calls Tryz.prog 40 #[.func (Fn.func fn) #[] cap] w fun e w'=>∃ r w1,e=.returned (.int .i64 r)/\P r w1/\w'=w1.setCell ⟨w.heap.size,0,none⟩ (.int .i64 r):=by
 have hmf:∀ (fn:Fn) (first cap:Array Value) (w:World),(Instr.makeFunc fn first cap).run Tryz.prog w=.ok (.func fn first cap) w:=fun _ _ _ _=>rfl
 have HC:=zH hC
 clear hC
 go_enter_defers Tryz.func40,Tryz.ntmps40
 go_wp2_with fail
 refine HC.o.mono ?_
 rintro e w1 ⟨r,rfl,hp,hb⟩
 have HP:=zH hp
 have HB:=zH hb
 have c0:w1.cell? ⟨w.heap.size,0,none⟩=some (.int .i64 0):=aAa hb
 have f0:w1.frozen? ⟨w.heap.size,0,none⟩=false:=aAc hb
 clear hp hb
 go_wp2
 refine leaves_cons (f:=69) (args:=#[.pointer (some ⟨w.heap.size,0,none⟩)]) (by simp) (by simp [go_sem]) ?_
 refine (caught_idle ⟨w.heap.size,0,none⟩ _).mono ?_
 rintro e u' w'' ⟨rfl,rfl,rfl⟩
 have c1:(w1.setCell ⟨w.heap.size,0,none⟩ (.int .i64 r)).cell? ⟨w.heap.size,0,none⟩=some (.int .i64 r):=by
  rw [aAa (heap_setCell_same _ _ _ _ _ _ HB.o)]
  rfl
 simp only [Leaves,settle,results,Tryz.results40]
 exact ⟨.int .i64 r,by simp [go_sem,c1],r,w1,rfl,HP.o,rfl⟩
theorem put1_any {px kb vb:Nat} {w:World} {ka va:Option Addr} {kn kc vn vc:Nat} {P:World->Prop} (hk:w.cell? ⟨kb,0,none⟩=some (.slice ka kn kc)) (hv:w.cell? ⟨vb,0,none⟩=some (.slice va vn vc))
  (hP:Calls Tryz.prog 29 #[.pointer (some ⟨px,0,none⟩),.agg #[.slice ka kn kc,.slice va vn vc]] w fun e w'=>e=.returned (.bool true)/\P w') :
  Calls Tryz.prog 28 #[.pointer (some ⟨px,0,none⟩),.pointer (some ⟨kb,0,none⟩),.pointer (some ⟨vb,0,none⟩)] w fun e w'=>e=.returned (.bool true)/\P w':=by
 have HP:=zH hP
 clear hP
 go_enter Tryz.func28,Tryz.ntmps28
 go_wp2_with fail
 refine HP.o.mono ?_
 rintro e w1 ⟨rfl,hp⟩
 have HQ:=zH hp
 clear hp
 go_wp2
 go_ret
 exact ⟨rfl,HQ.o⟩
structure ChF [Gd] (B g:Nat) (w w':World):Prop where
 bel:Below B w w'
 stay:∀ (k:Nat) (cs:Array Value) (t:TypeId) (fz:Nat×Nat),w.heap[k]?=some (Obj.cells cs t fz)->NT t->k≠g->w'.heap[k]?=some (Obj.cells cs t fz)
 gd:GdK w w'
theorem Ex.gdk [Gd] {B g:Nat} {w w':World} {cs:Array Value} {t:TypeId} {fz:Nat×Nat} (h:Ex B [g] w w') (hg:w.heap[g]?=some (Obj.cells cs t fz)) (ht:¬ DTy t):GdK w w':=fun k _ hf=>h.2 k hf.lt (by simpa using hf.ne hg ht)
theorem FE.nt {B k:Nat} {w w':World} {cs:Array Value} {t:TypeId} {fz:Nat×Nat} (f:FE B w w') (e:w.heap[k]?=some (Obj.cells cs t fz)) (ht:NT t):w'.heap[k]?=some (Obj.cells cs t fz) :=
 f.2 k cs t fz e (fun q=>ht (by rw [q];decide)) (fun q=>ht (by rw [q];decide))
def ChR [Gd] (B p q g:Nat) (s:DS) (t:PS) (w:World) (now last:StT) (sv:Value) (d n:Int) (gone:List Nat) (h:Nat) (e:ED h) (w':World):Prop :=
 ∃ (b:BT h) (s':DS) (t':PS) (L:List Nat) (cs':Array Value),LdR h e b L/\Gw s t s' t' L/\ST B p q s' t' w'/\OnD s' t' h b/\w'.heap[g]?=some (.cells cs' 58 (0,0))/\TV cs' p q ⟨(BT.id b:Nat),d,n,L.foldl adP (gone.foldl drP now.pgs)⟩ last sv (cntF t'.st:Nat) false/\ChF B g w w'
theorem gw_lt {s s':DS} {t t':PS} {L:List Nat} (h:Gw s t s' t' L) (hl:t.st.length<=4096):∀ x∈L,x<4096:=by
 intro x hx
 have h1:=(h.new x hx).1
 apply Classical.byContradiction
 intro q
 rw [List.getD_eq_getElem?_getD,List.getElem?_eq_none (by omega)] at h1
 cases h1
end Go.Proofs.YtfobcelkmopohaaGreat
set_option linter.unusedVariables false
namespace Go.Proofs.YtfobcelkmopohaaGreat
theorem LdR.fl:∀ {h:Nat} {e:ED h} {b:BT h} {L:List Nat},LdR h e b L->flB h b=flE h e
 | 0,.inl t,b,L,⟨e,_⟩=>by subst e;rfl
 | 0,.inr l,b,L,⟨i,e,_⟩=>by subst e;rfl
 | h+1,.inl t,b,L,⟨e,_⟩=>by subst e;rfl
 | h+1,.inr x,b,L,⟨i,bs,Ls,e,_,h1,h2,h3⟩=>by
  subst e
  show weave x.1 (bs.map (flB h))=weave x.1 (x.2.map (flE h))
  congr 1
  apply List.ext_getElem?
  intro j
  rw [List.getElem?_map,List.getElem?_map]
  by_cases hj:j<x.2.length
  ·obtain ⟨k,hk⟩:∃ k,x.2[j]?=some k:=⟨_,gE hj⟩
   obtain ⟨bj,hb⟩:∃ bj,bs[j]?=some bj:=⟨_,gE (by omega)⟩
   obtain ⟨Lj,hL⟩:∃ Lj,Ls[j]?=some Lj:=⟨_,gE (by omega)⟩
   rw [hk,hb]
   exact congrArg some (LdR.fl (h3 j k bj Lj hk hb hL))
  ·rw [List.getElem?_eq_none (by omega),List.getElem?_eq_none (by omega)]
   rfl
theorem LdR.it:∀ {h:Nat} {e:ED h} {b:BT h} {L:List Nat},LdR h e b L->BT.it b=itE e
 | 0,.inl t,b,L,⟨e,_⟩=>by subst e;rfl
 | 0,.inr l,b,L,⟨i,e,_⟩=>by subst e;rfl
 | h+1,.inl t,b,L,⟨e,_⟩=>by subst e;rfl
 | h+1,.inr x,b,L,⟨i,bs,Ls,e,_,h1,h2,h3⟩=>by subst e;rfl
theorem ShB_old:∀ {h:Nat} (t:BT h),ShE h 4 (old t)->ShB h t
 | 0,_,h=>h
 | h+1,t,⟨h1,h2,h3⟩=>by
  have h2':(t.2.2.map old).length=t.2.1.length+1:=h2
  rw [List.length_map] at h2'
  refine ⟨h1,h2',fun k hk=>?_⟩
  have h4:=h3 (old k) (show old k∈t.2.2.map old from List.mem_map_of_mem hk)
  rw [aCh] at h4
  exact ⟨ShB_old k h4.1,h4.2⟩
theorem LdR.sh:∀ {h:Nat} {e:ED h} {b:BT h} {L:List Nat},LdR h e b L->ShE h 4 e->ShB h b
 | 0,.inl t,b,L,⟨e,_⟩,hs=>by subst e;exact hs
 | 0,.inr l,b,L,⟨i,e,_⟩,hs=>by subst e;exact hs
 | h+1,.inl t,b,L,⟨e,_⟩,hs=>by subst e;exact ShB_old _ hs
 | h+1,.inr x,b,L,⟨i,bs,Ls,e,_,h1,h2,h3⟩,⟨s1,s2,s3⟩=>by
  subst e
  refine ⟨s1,h1.trans s2,fun k hk=>?_⟩
  obtain ⟨j,hj⟩:=List.getElem?_of_mem hk
  have hjl:j<x.2.length:=by rw [<-h1];exact (lL hj)
  obtain ⟨c,hc⟩:∃ c,x.2[j]?=some c:=⟨_,gE hjl⟩
  obtain ⟨Lj,hL⟩:∃ Lj,Ls[j]?=some Lj:=⟨_,gE (by omega)⟩
  have h4:=h3 j c k Lj hc hj hL
  have h5:=s3 c (mG hc)
  rw [h4.it]
  exact ⟨h4.sh h5.1,h5.2⟩
end Go.Proofs.YtfobcelkmopohaaGreat
set_option linter.unusedVariables false
namespace Go.Proofs.YtfobcelkmopohaaGreat
def OldOn (s:DS) (t:PS):(h:Nat)->ED h->Prop
 | 0,.inl b=>OnD s t 0 b
 | 0,.inr _=>True
 | h+1,.inl b=>OnD s t (h+1) b
 | h+1,.inr x=>∀ k∈x.2,OldOn s t h k
theorem aCp:∀ (l:List It) (c:List (List It)),c.length=l.length+1->l.Sublist (weave l c)
 | l,[],h=>by simp at h
 | [],c::_,_=>List.nil_sublist _
 | x::l,c::cs,h=>by
  show (x::l).Sublist (c++x::weave l cs)
  exact List.Sublist.trans (List.Sublist.cons_cons x (aCp l cs (by simpa using h))) (List.sublist_append_right c _)
theorem aC1:∀ (l:List It) (c:List (List It)) (k:List It),c.length=l.length+1->k∈c->k.Sublist (weave l c)
 | l,[],k,_,hk=>by simp at hk
 | [],[c],k,_,hk=>by
  simp only [List.mem_singleton] at hk
  subst hk
  exact List.Sublist.refl _
 | [],_::_::_,k,h,_=>by simp at h
 | x::l,c::cs,k,h,hk=>by
  show k.Sublist (c++x::weave l cs)
  rcases List.mem_cons.1 hk with hk | hk
  ·subst hk
   exact List.sublist_append_left _ _
  ·exact List.Sublist.trans (List.Sublist.cons x (aC1 l cs k (by simpa using h) hk)) (List.sublist_append_right c _)
theorem OnE.of {s:DS} {t:PS}:∀ {h:Nat} {e:ED h},OldOn s t h e->ShE h 4 e->Srt (flE h e)->(∀ x∈flE h e,ItOk x)->1<=(itE e).length->OnE s t h e
 | 0,.inl b,ho,_,_,_,_=>ho
 | 0,.inr l,_,hs,hr,hi,h1=>⟨h1,hs,hi,hr⟩
 | h+1,.inl b,ho,_,_,_,_=>ho
 | h+1,.inr x,ho,⟨s1,s2,s3⟩,hr,hi,h1=>by
  have hl:(x.2.map (flE h)).length=x.1.length+1:=by rw [List.length_map];exact s2
  have e1:=aCp x.1 (x.2.map (flE h)) hl
  refine ⟨⟨h1,s1,fun y hy=>hi y (e1.subset hy),hr.sublist e1⟩,s2,fun k hk=>?_⟩
  have e2:=aC1 x.1 (x.2.map (flE h)) (flE h k) hl (List.mem_map_of_mem hk)
  exact OnE.of (ho k hk) (s3 k hk).1 (hr.sublist e2) (fun y hy=>hi y (e2.subset hy)) (nT (by omega) (s3 k hk).2)
end Go.Proofs.YtfobcelkmopohaaGreat
set_option linter.unusedVariables false
namespace Go.Proofs.YtfobcelkmopohaaGreat
section
variable {s:DS} {t:PS}
theorem OldOn.old:∀ {h:Nat} {b:BT h},OnD s t h b->OldOn s t h (old b)
 | 0,_,hb=>hb
 | _+1,_,hb=>hb
theorem OldOn.kids:∀ {h:Nat} {e:ED (h+1)},OldOn s t (h+1) e->∀ k∈(opS e).2,OldOn s t h k
 | h,.inl b,ho,k,hk=>by
  obtain ⟨_,_,_,_,h5⟩:=ho
  obtain ⟨x,hx,rfl⟩:=List.mem_map.1 (show k∈b.2.2.map _ from hk)
  exact OldOn.old (h5 x hx)
 | h,.inr x,ho,k,hk=>ho k hk
theorem OldOn.lef:∀ {h:Nat} {e:ED h},OldOn s t h e->OldOn s t h (lefE e)
 | 0,_,_=>trivial
 | _+1,e,ho=>fun k hk=>ho.kids k (List.mem_of_mem_take hk)
theorem OldOn.rig:∀ {h:Nat} {e:ED h},OldOn s t h e->OldOn s t h (rigE e)
 | 0,_,_=>trivial
 | _+1,e,ho=>fun k hk=>ho.kids k (List.mem_of_mem_drop hk)
theorem OldOn.setl {h:Nat} {l:List It} {c:List (ED h)} {i:Nat} (hc:∀ k∈c,OldOn s t h k):∀ k∈(setl l c i).2,OldOn s t h k:=by
 unfold Go.Proofs.YtfobcelkmopohaaGreat.setl
 cases hi:c[i]? with
 | none=>exact hc
 | some e =>
  have he:=hc e (mG hi)
  show ∀ k∈(if 4<(itE e).length then (l.take i++midE e::l.drop i,c.take i++lefE e::rigE e::c.drop (i+1)) else (l,c)).2,OldOn s t h k
  by_cases h4:4<(itE e).length
  ·rw [if_pos h4]
   intro k hk
   rcases List.mem_append.1 hk with hk | hk
   ·exact hc k (List.mem_of_mem_take hk)
   ·rcases List.mem_cons.1 hk with hk | hk
    ·subst hk;exact he.lef
    ·rcases List.mem_cons.1 hk with hk | hk
     ·subst hk;exact he.rig
     ·exact hc k (List.mem_of_mem_drop hk)
  ·rw [if_neg h4]
   exact hc
theorem OldOn.put:∀ {h:Nat} {e:ED h} (it:It),OldOn s t h e->OldOn s t h (putE h e it)
 | 0,_,_,_=>trivial
 | h+1,e,it,ho=>by
  by_cases c:hasI (opS e).1 it.1=true
  ·rw [aBn c]
   exact ho.kids
  ·cases hk:(opS e).2[fndI (opS e).1 it.1]? with
   | some k =>
    rw [aCe c hk]
    refine OldOn.setl fun k' hk'=>?_
    rcases List.mem_or_eq_of_mem_set hk' with q | q
    ·exact ho.kids k' q
    ·subst q
     exact OldOn.put it (ho.kids k (mG hk))
   | none =>
    have e1:putE (h+1) e it=Sum.inr (opS e):=(if_neg c).trans (by rw [hk])
    rw [e1]
    exact ho.kids
theorem OldOn.root {h:Nat} {e:ED h} (ho:OldOn s t h e):OldOn s t (rootE h e).1 (rootE h e).2:=by
 unfold rootE
 by_cases c:4<(itE e).length
 ·rw [if_pos c]
  intro k hk
  have hk:k∈[lefE e,rigE e]:=hk
  simp only [List.mem_cons,List.not_mem_nil,or_false] at hk
  rcases hk with hk | hk
  ·subst hk;exact ho.lef
  ·subst hk;exact ho.rig
 ·rw [if_neg c]
  exact ho
end
end Go.Proofs.YtfobcelkmopohaaGreat
set_option linter.unusedVariables false
namespace Go.Proofs.YtfobcelkmopohaaGreat
theorem aFq {α:Type} (f:α->Nat):∀ (c:List α) (i:Nat) (k:α),((c.set i k).map f).sum<=(c.map f).sum+f k
 | [],_,_=>by simp
 | a::c,0,k=>by simp;omega
 | a::c,i+1,k=>by
  have:=aFq f c i k
  simp only [List.set_cons_succ,List.map_cons,List.sum_cons]
  omega
theorem fr_old:∀ {h:Nat} (b:BT h),frE h (old b)=0
 | 0,_=>rfl
 | _+1,_=>rfl
theorem aFr {h:Nat}:∀ (c:List (BT h)),((c.map old).map (frE h)).sum=0
 | []=>rfl
 | b::c=>by
  rw [List.map_cons,List.map_cons,List.sum_cons,fr_old,aFr c]
theorem fr_halves:∀ {h:Nat} {e:ED h},1<=frE h e->frE h (lefE e)+frE h (rigE e)<=frE h e+1
 | 0,.inl _,h=>by simp [frE] at h
 | 0,.inr _,_=>nR _
 | h+1,.inl _,hh=>by simp [frE] at hh
 | h+1,.inr x,_=>by
  show (1+((x.2.take (x.1.length / 2+1)).map (frE h)).sum)+(1+((x.2.drop (x.1.length / 2+1)).map (frE h)).sum)<=(1+(x.2.map (frE h)).sum)+1
  have e:(x.2.map (frE h)).sum=((x.2.take (x.1.length / 2+1)).map (frE h)).sum+((x.2.drop (x.1.length / 2+1)).map (frE h)).sum:=by
   conv=>lhs;rw [<-List.take_append_drop (x.1.length / 2+1) x.2]
   rw [List.map_append,List.sum_append]
  omega
theorem aDl {h:Nat} {l:List It} {c:List (ED h)} {i:Nat} (hc:∀ e,c[i]?=some e->1<=frE h e):((setl l c i).2.map (frE h)).sum<=(c.map (frE h)).sum+1:=by
 unfold setl
 cases hi:c[i]? with
 | none=>exact Nat.le_succ _
 | some e =>
  show ((if 4<(itE e).length then (l.take i++midE e::l.drop i,c.take i++lefE e::rigE e::c.drop (i+1)) else (l,c)).2.map (frE h)).sum<=_
  by_cases h4:4<(itE e).length
  ·rw [if_pos h4]
   have h1:=fr_halves (hc e hi)
   conv=>rhs;rw [aAh hi]
   simp only [List.map_append,List.sum_append,List.map_cons,List.sum_cons]
   omega
  ·rw [if_neg h4]
   exact Nat.le_succ _
theorem fr_new:∀ {h:Nat} (e:ED h) (it:It),1<=frE h (putE h e it)
 | 0,_,_=>nR _
 | h+1,e,it=>by
  by_cases c:hasI (opS e).1 it.1=true
  ·rw [aBn c]
   exact Nat.le_add_right _ _
  ·cases hk:(opS e).2[fndI (opS e).1 it.1]? with
   | some k=>rw [aCe c hk];exact Nat.le_add_right _ _
   | none =>
    have e1:putE (h+1) e it=Sum.inr (opS e):=(if_neg c).trans (by rw [hk])
    rw [e1];exact Nat.le_add_right _ _
theorem fr_put:∀ {h:Nat} (b:BT h) (it:It),frE h (putE h (old b) it)<=2*h+1
 | 0,_,_=>nR _
 | h+1,b,it=>by
  have hk0:((opS (old b)).2.map (frE h)).sum=0:=aFr b.2.2
  by_cases c:hasI (opS (old b)).1 it.1=true
  ·rw [aBn c]
   show 1+((opS (old b)).2.map (frE h)).sum<=_
   omega
  ·cases hk:(opS (old b)).2[fndI (opS (old b)).1 it.1]? with
   | some k =>
    rw [aCe c hk]
    obtain ⟨kb,_,rfl⟩:=List.mem_map.1 (show k∈b.2.2.map old from mG hk)
    have h1:=fr_put kb it
    have h2:=aFq (frE h) (opS (old b)).2 (fndI (opS (old b)).1 it.1) (putE h (old kb) it)
    have h3:=aDl (l:=(opS (old b)).1) (c:=(opS (old b)).2.set (fndI (opS (old b)).1 it.1) (putE h (old kb) it)) (i:=fndI (opS (old b)).1 it.1) fun e he=>by
     rw [List.getElem?_set_self (lL hk)] at he
     simp only [oI] at he
     subst he
     exact fr_new _ _
    show 1+((setl (opS (old b)).1 ((opS (old b)).2.set (fndI (opS (old b)).1 it.1) (putE h (old kb) it)) (fndI (opS (old b)).1 it.1)).2.map (frE h)).sum<=_
    omega
   | none =>
    have e1:putE (h+1) (old b) it=Sum.inr (opS (old b)):=(if_neg c).trans (by rw [hk])
    rw [e1]
    show 1+((opS (old b)).2.map (frE h)).sum<=_
    omega
theorem OnD.pth {s:DS} {t:PS}:∀ {h:Nat} {b:BT h} (k:List Nat),OnD s t h b->∀ x∈pthB h b k,x<s.n
 | 0,b,k,hb,x,hx=>by
  simp only [pthB,List.mem_singleton] at hx
  subst hx
  exact hb.1.lt
 | h+1,b,k,⟨h1,h2,h3,h4,h5⟩,x,hx=>by
  rcases List.mem_cons.1 hx with hx | hx
  ·subst hx
   exact h1.lt
  ·by_cases c:hasI b.2.1 k=true
   ·rw [if_pos c] at hx
    simp at hx
   ·rw [if_neg c] at hx
    cases hc:b.2.2[fndI b.2.1 k]? with
    | none=>rw [hc] at hx;simp at hx
    | some d =>
     rw [hc] at hx
     exact OnD.pth k (h5 d (mG hc)) x hx
theorem pth_len:∀ {h:Nat} (b:BT h) (k:List Nat),(pthB h b k).length<=h+1
 | 0,_,_=>nR _
 | h+1,b,k=>by
  show (if hasI b.2.1 k then [] else match b.2.2[fndI b.2.1 k]? with
   | some c=>pthB h c k
   | none=>[]).length+1<=_
  by_cases c:hasI b.2.1 k=true
  ·rw [if_pos c]
   simp
  ·rw [if_neg c]
   cases hc:b.2.2[fndI b.2.1 k]? with
   | none=>simp
   | some d=>have:=pth_len d k;simp only;omega
theorem fr_root {h:Nat} {e:ED h} (he:1<=frE h e):frE (rootE h e).1 (rootE h e).2<=frE h e+2:=by
 unfold rootE
 by_cases c:4<(itE e).length
 ·rw [if_pos c]
  show 1+([lefE e,rigE e].map (frE h)).sum<=_
  have:=fr_halves he
  simp only [List.map_cons,List.map_nil,List.sum_cons,List.sum_nil]
  omega
 ·rw [if_neg c]
  exact Nat.le_add_right _ _
end Go.Proofs.YtfobcelkmopohaaGreat
set_option linter.unusedVariables false
namespace Go.Proofs.YtfobcelkmopohaaGreat
def pgB:(h:Nat)->BT h->List Nat
 | 0,b=>[b.1]
 | h+1,b=>b.1::(b.2.2.map (pgB h)).flatten
def olP:(h:Nat)->ED h->List Nat
 | 0,.inl b=>[b.1]
 | 0,.inr _=>[]
 | h+1,.inl b=>pgB (h+1) b
 | h+1,.inr x=>(x.2.map (olP h)).flatten
theorem olP_old:∀ {h:Nat} (b:BT h),olP h (old b)=pgB h b
 | 0,_=>rfl
 | _+1,_=>rfl
theorem aD9 {h:Nat}:∀ (c:List (BT h)),(c.map old).map (olP h)=c.map (pgB h)
 | []=>rfl
 | b::c=>by rw [List.map_cons,List.map_cons,List.map_cons,olP_old,aD9 c]
theorem flat_perm:∀ (A B C:List (List Nat)),B.length=A.length->C.length=A.length->(∀ (j:Nat) a b c,A[j]?=some a->B[j]?=some b->C[j]?=some c->a.Perm (b++c))->A.flatten.Perm (B.flatten++C.flatten)
 | [],[],[],_,_,_=>List.Perm.refl _
 | [],_::_,_,h,_,_=>by simp at h
 | [],[],_::_,_,h,_=>by simp at h
 | _::_,[],_,h,_,_=>by simp at h
 | _::_,_::_,[],_,h,_=>by simp at h
 | a::A,b::B,c::C,h1,h2,h3=>by
  have e1:=h3 0 a b c rfl rfl rfl
  have e2:=flat_perm A B C (by simpa using h1) (by simpa using h2) fun j x y z p q r=>h3 (j+1) x y z (by simpa using p) (by simpa using q) (by simpa using r)
  rw [List.perm_iff_count] at e1 e2 ⊢
  intro x
  have f1:=e1 x
  have f2:=e2 x
  simp only [List.flatten_cons,List.count_append] at f1 f2 ⊢
  omega
theorem LdR.pg:∀ {h:Nat} {e:ED h} {b:BT h} {L:List Nat},LdR h e b L->(pgB h b).Perm (L++olP h e)
 | 0,.inl t,b,L,⟨e,e2⟩=>by subst e;subst e2;exact List.Perm.refl _
 | 0,.inr l,b,L,⟨i,e,e2⟩=>by subst e;subst e2;exact List.Perm.refl _
 | h+1,.inl t,b,L,⟨e,e2⟩=>by subst e;subst e2;exact List.Perm.refl _
 | h+1,.inr x,b,L,⟨i,bs,Ls,e,e2,h1,h2,h3⟩=>by
  subst e
  subst e2
  show (i::(bs.map (pgB h)).flatten).Perm ((Ls.flatten++[i])++(x.2.map (olP h)).flatten)
  have hp:=flat_perm (bs.map (pgB h)) Ls (x.2.map (olP h)) (by simp;omega) (by simp;omega) fun j a b c p q r=>by
   rw [List.getElem?_map] at p r
   obtain ⟨bj,hb,rfl⟩:=Option.map_eq_some_iff.1 p
   obtain ⟨k,hk,rfl⟩:=Option.map_eq_some_iff.1 r
   exact LdR.pg (h3 j k bj b hk hb q)
  rw [List.perm_iff_count] at hp ⊢
  intro y
  have f:=hp y
  simp only [List.count_append,List.count_cons,List.count_nil] at f ⊢
  omega
theorem aG1:∀ {h:Nat} {e:ED h},isNew e->olP h (lefE e)++olP h (rigE e)=olP h e
 | 0,.inr _,_=>rfl
 | h+1,.inr x,_=>by
  show ((x.2.take (x.1.length / 2+1)).map (olP h)).flatten++((x.2.drop (x.1.length / 2+1)).map (olP h)).flatten=(x.2.map (olP h)).flatten
  rw [<-List.flatten_append,<-List.map_append,List.take_append_drop]
theorem aHz {h:Nat} {l:List It} {c:List (ED h)} {i:Nat} (hc:∀ e,c[i]?=some e->isNew e):((setl l c i).2.map (olP h)).flatten=(c.map (olP h)).flatten:=by
 unfold setl
 cases hi:c[i]? with
 | none=>rfl
 | some e =>
  show ((if 4<(itE e).length then (l.take i++midE e::l.drop i,c.take i++lefE e::rigE e::c.drop (i+1)) else (l,c)).2.map (olP h)).flatten=_
  by_cases h4:4<(itE e).length
  ·rw [if_pos h4]
   conv=>rhs;rw [aAh hi]
   simp only [List.map_append,List.flatten_append,List.map_cons,List.flatten_cons]
   rw [<-aG1 (hc e hi),List.append_assoc]
  ·rw [if_neg h4]
theorem olP_root {h:Nat} {e:ED h} (he:isNew e):olP (rootE h e).1 (rootE h e).2=olP h e:=by
 unfold rootE
 by_cases c:4<(itE e).length
 ·rw [if_pos c]
  show ([lefE e,rigE e].map (olP h)).flatten=_
  rw [<-aG1 he]
  simp
 ·rw [if_neg c]
theorem aG5:∀ {h:Nat} (e:ED h) (it:It),isNew (putE h e it)
 | 0,_,_=>trivial
 | h+1,e,it=>by
  by_cases c:hasI (opS e).1 it.1=true
  ·rw [aBn c];trivial
  ·cases hk:(opS e).2[fndI (opS e).1 it.1]? with
   | some k=>rw [aCe c hk];trivial
   | none =>
    have e1:putE (h+1) e it=Sum.inr (opS e):=(if_neg c).trans (by rw [hk])
    rw [e1];trivial
theorem pg_put:∀ {h:Nat} (b:BT h) (it:It),ShB h b->(pgB h b).Perm (pthB h b it.1++olP h (putE h (old b) it))
 | 0,b,it,_=>List.Perm.refl _
 | h+1,b,it,⟨s1,s2,s3⟩=>by
  by_cases c:hasI (opS (old b)).1 it.1=true
  ·rw [aBn c]
   have c':hasI b.2.1 it.1=true:=c
   show (b.1::(b.2.2.map (pgB h)).flatten).Perm ((b.1::if hasI b.2.1 it.1 then [] else match b.2.2[fndI b.2.1 it.1]? with
    | some c=>pthB h c it.1
    | none=>[])++((b.2.2.map old).map (olP h)).flatten)
   rw [if_pos c',aD9]
   exact List.Perm.refl _
  ·have c':¬ hasI b.2.1 it.1=true:=c
   have hlt:fndI b.2.1 it.1<b.2.2.length:=by have:=aA1 b.2.1 it.1;omega
   obtain ⟨kb,hkb⟩:∃ kb,b.2.2[fndI b.2.1 it.1]?=some kb:=⟨_,gE hlt⟩
   have hk:(opS (old b)).2[fndI (opS (old b)).1 it.1]?=some (old kb):=by
    show (b.2.2.map old)[fndI b.2.1 it.1]?=_
    rw [List.getElem?_map,hkb];rfl
   rw [aCe c hk]
   show (b.1::(b.2.2.map (pgB h)).flatten).Perm ((b.1::if hasI b.2.1 it.1 then [] else match b.2.2[fndI b.2.1 it.1]? with
    | some c=>pthB h c it.1
    | none=>[])++((setl b.2.1 ((b.2.2.map old).set (fndI b.2.1 it.1) (putE h (old kb) it)) (fndI b.2.1 it.1)).2.map (olP h)).flatten)
   rw [if_neg c',hkb]
   simp only
   rw [aHz (c:=(b.2.2.map old).set (fndI b.2.1 it.1) (putE h (old kb) it)) fun e he=>by
    rw [List.getElem?_set_self (by simpa using hlt)] at he
    simp only [oI] at he
    subst he
    exact aG5 _ _]
   have ih:=pg_put kb it (s3 kb (mG hkb)).1
   have e1:(b.2.2.map (pgB h)).flatten=((b.2.2.take (fndI b.2.1 it.1)).map (pgB h)).flatten++(pgB h kb++((b.2.2.drop (fndI b.2.1 it.1+1)).map (pgB h)).flatten):=by
    conv=>lhs;rw [aAh hkb]
    simp only [List.map_append,List.flatten_append,List.map_cons,List.flatten_cons]
   have e2:(((b.2.2.map old).set (fndI b.2.1 it.1) (putE h (old kb) it)).map (olP h)).flatten=((b.2.2.take (fndI b.2.1 it.1)).map (pgB h)).flatten++(olP h (putE h (old kb) it)++((b.2.2.drop (fndI b.2.1 it.1+1)).map (pgB h)).flatten):=by
    rw [List.set_eq_take_append_cons_drop,if_pos (by simpa using hlt),<-List.map_take,<-List.map_drop]
    simp only [List.map_append,List.flatten_append,List.map_cons,List.flatten_cons]
    rw [aD9,aD9]
   rw [e1,e2]
   rw [List.perm_iff_count] at ih ⊢
   intro y
   have f:=ih y
   simp only [List.cons_append,List.count_append,List.count_cons] at f ⊢
   omega
theorem aB0:∀ (l:List It) (c:List (List It)),c.length=l.length+1->(weave l c).length=l.length+(c.map List.length).sum
 | [],[c],_=>by simp [weave]
 | [],[],h=>by simp at h
 | [],_::_::_,h=>by simp at h
 | x::l,[],h=>by simp at h
 | x::l,c::cs,h=>by
  have:=aB0 l cs (by simpa using h)
  simp only [weave,lA,List.length_cons,List.map_cons,List.sum_cons,this]
  omega
theorem aHt (l:List It) (it:It):(putL l it).length=l.length+(if hasI l it.1 then 0 else 1):=by
 have:=aA1 l it.1
 unfold putL
 by_cases c:hasI l it.1=true
 ·rw [if_pos c,if_pos c];simp
 ·rw [if_neg c,if_neg c];simp;omega
theorem len_put:∀ {h:Nat} (b:BT h) (it:It),ShB h b->(flE h (putE h (old b) it)).length=(flB h b).length+(if nwB h b it.1 then 1 else 0)
 | 0,b,it,_=>by
  show (putL b.2 it).length=b.2.length+(if !hasI b.2 it.1 then 1 else 0)
  rw [aHt]
  cases hasI b.2 it.1<;>rfl
 | h+1,b,it,hs=>by
  obtain ⟨s1,s2,s3⟩:=hs
  have hw:(flB (h+1) b).length=b.2.1.length+((b.2.2.map (flB h)).map List.length).sum:=aB0 _ _ (by rw [List.length_map];exact s2)
  by_cases c:hasI (opS (old b)).1 it.1=true
  ·rw [aBn c]
   have c':hasI b.2.1 it.1=true:=c
   have e0:nwB (h+1) b it.1=false:=if_pos c'
   rw [e0]
   show (weave (b.2.1.set (fndI b.2.1 it.1) it) ((b.2.2.map old).map (flE h))).length=_
   rw [aB0 _ _ (by simp;omega),hw,List.length_set]
   have:(b.2.2.map old).map (flE h)=b.2.2.map (flB h):=by
    rw [List.map_map];congr 1;funext x;exact aBv x
   rw [this]
   simp
  ·have c':¬ hasI b.2.1 it.1=true:=c
   have hlt:fndI b.2.1 it.1<b.2.2.length:=by have:=aA1 b.2.1 it.1;omega
   obtain ⟨kb,hkb⟩:∃ kb,b.2.2[fndI b.2.1 it.1]?=some kb:=⟨_,gE hlt⟩
   have hk:(opS (old b)).2[fndI (opS (old b)).1 it.1]?=some (old kb):=by
    show (b.2.2.map old)[fndI b.2.1 it.1]?=_
    rw [List.getElem?_map,hkb];rfl
   have e0:nwB (h+1) b it.1=nwB h kb it.1:=(if_neg c').trans (by rw [hkb])
   rw [e0,aCe c hk]
   show (weave (setl b.2.1 ((b.2.2.map old).set (fndI b.2.1 it.1) (putE h (old kb) it)) (fndI b.2.1 it.1)).1 ((setl b.2.1 ((b.2.2.map old).set (fndI b.2.1 it.1) (putE h (old kb) it)) (fndI b.2.1 it.1)).2.map (flE h))).length=_
   have hsk:=s3 kb (mG hkb)
   rw [fl_setl _ _ _ (by simpa using s2) fun k he=>by
    rw [List.getElem?_set_self (by simpa using hlt)] at he
    simp only [oI] at he
    subst he
    exact aHh _ _ (aBh _ hsk.1)]
   have ih:=len_put kb it hsk.1
   rw [aB0 _ _ (by simp;omega),hw]
   have e1:(b.2.2.map (flB h)).map List.length=((b.2.2.take (fndI b.2.1 it.1)).map (flB h)).map List.length++(flB h kb).length::((b.2.2.drop (fndI b.2.1 it.1+1)).map (flB h)).map List.length:=by
    conv=>lhs;rw [aAh hkb]
    simp only [List.map_append,List.map_cons]
   have eo:∀ (d:List (BT h)),(d.map old).map (flE h)=d.map (flB h):=fun d=>by
    rw [List.map_map];congr 1;funext x;exact aBv x
   have e2:(((b.2.2.map old).set (fndI b.2.1 it.1) (putE h (old kb) it)).map (flE h)).map List.length=((b.2.2.take (fndI b.2.1 it.1)).map (flB h)).map List.length++(flE h (putE h (old kb) it)).length::((b.2.2.drop (fndI b.2.1 it.1+1)).map (flB h)).map List.length:=by
    rw [List.set_eq_take_append_cons_drop,if_pos (by simpa using hlt),<-List.map_take,<-List.map_drop]
    simp only [List.map_append,List.map_cons]
    rw [eo,eo]
   rw [e1,e2,ih]
   simp only [List.sum_append,List.sum_cons]
   omega
theorem hs_fold:∀ (gone:List Nat) (ps:List Nat) (j:Nat),ps.length=64->(∀ x∈gone,x<4096)->hsP (gone.foldl drP ps) j=(hsP ps j && !decide (j∈gone))/\(gone.foldl drP ps).length=64
 | [],ps,j,h,_=>by simp [h]
 | x::g,ps,j,h,hx=>by
  have e:=hs_fold g (drP ps x) j ((drP_len _ _).trans h) fun y hy=>hx y (List.mem_cons_of_mem _ hy)
  refine ⟨?_,e.2⟩
  rw [List.foldl_cons,e.1,hs_dr h (hx x List.mem_cons_self)]
  by_cases c1:j=x<;>by_cases c2:j∈g<;>simp [c1,c2]
theorem aH5:∀ (L:List Nat) (ps:List Nat) (j:Nat),ps.length=64->(∀ x∈L,x<4096)->hsP (L.foldl adP ps) j=(hsP ps j || decide (j∈L))/\(L.foldl adP ps).length=64
 | [],ps,j,h,_=>by simp [h]
 | x::g,ps,j,h,hx=>by
  have e:=aH5 g (adP ps x) j ((adP_len _ _).trans h) fun y hy=>hx y (List.mem_cons_of_mem _ hy)
  refine ⟨?_,e.2⟩
  rw [List.foldl_cons,e.1,hs_ad h (hx x List.mem_cons_self)]
  by_cases c1:j=x<;>by_cases c2:j∈g<;>simp [c1,c2]
def PgS (ps:List Nat) (l:List Nat):Prop:=ps.length=64/\l.Nodup/\(∀ x∈l,x<4096)/\∀ j,hsP ps j=decide (j∈l)
theorem PgS.step {ps l gone old L l':List Nat} (h:PgS ps l) (h1:l.Perm (gone++old)) (h2:l'.Perm (L++old)) (hL:L.Nodup) (hL4:∀ x∈L,x<4096) (hd:∀ x∈L,x∉l):PgS (L.foldl adP (gone.foldl drP ps)) l':=by
 obtain ⟨a1,a2,a3,a4⟩:=h
 have hg4:∀ x∈gone,x<4096:=fun x hx=>a3 x (h1.mem_iff.2 (List.mem_append_left _ hx))
 have hnd:=h1.nodup a2
 obtain ⟨n1,n2,n3⟩:=List.nodup_append.1 hnd
 have hold:∀ x,x∈old->x∈l:=fun x hx=>h1.mem_iff.2 (List.mem_append_right _ hx)
 have e1:=fun j=>hs_fold gone ps j a1 hg4
 have e2:=fun j=>aH5 L (gone.foldl drP ps) j (e1 0).2 hL4
 refine ⟨(e2 0).2,?_,fun x hx=>?_,fun j=>?_⟩
 ·refine h2.symm.nodup (List.nodup_append.2 ⟨hL,n2,fun a ha b hb=>?_⟩)
  rintro rfl
  exact hd a ha (hold a hb)
 ·rcases List.mem_append.1 (h2.mem_iff.1 hx) with q | q
  ·exact hL4 x q
  ·exact a3 x (hold x q)
 ·rw [(e2 j).1,(e1 j).1,a4 j,Bool.eq_iff_iff]
  simp only [Bool.or_eq_true,Bool.and_eq_true,Bool.not_eq_true',decide_eq_true_eq,decide_eq_false_iff_not]
  rw [h2.mem_iff,h1.mem_iff,List.mem_append,List.mem_append]
  constructor
  ·rintro (⟨q | q,r⟩ | q)
   ·exact absurd q r
   ·exact Or.inr q
   ·exact Or.inl q
  ·rintro (q | q)
   ·exact Or.inr q
   ·exact Or.inl ⟨Or.inr q,fun r=>n3 j r j q rfl⟩
end Go.Proofs.YtfobcelkmopohaaGreat
set_option linter.unusedVariables false
namespace Go.Proofs.YtfobcelkmopohaaGreat
theorem aF3:∀ (l:List It) (c:List (List It)) (x:It),x∈weave l c->x∈l\/∃ k∈c,x∈k
 | l,[],x,h=>by rw [weave_nil] at h;exact Or.inl h
 | [],c::_,x,h=>Or.inr ⟨c,List.mem_cons_self,h⟩
 | y::l,c::cs,x,h=>by
  rcases List.mem_append.1 (show x∈c++y::weave l cs from h) with h | h
  ·exact Or.inr ⟨c,List.mem_cons_self,h⟩
  ·rcases List.mem_cons.1 h with h | h
   ·exact Or.inl (by rw [h];exact List.mem_cons_self)
   ·rcases aF3 l cs x h with h | ⟨k,h1,h2⟩
    ·exact Or.inl (List.mem_cons_of_mem _ h)
    ·exact Or.inr ⟨k,List.mem_cons_of_mem _ h1,h2⟩
theorem OnD.ok {s:DS} {t:PS}:∀ {h:Nat} {b:BT h},OnD s t h b->∀ x∈flB h b,ItOk x
 | 0,b,⟨_,hi⟩,x,hx=>hi.ok x hx
 | h+1,b,⟨_,hi,_,_,hk⟩,x,hx=>by
  rcases aF3 _ _ x hx with q | ⟨k,q1,q2⟩
  ·exact hi.ok x q
  ·obtain ⟨kb,q3,rfl⟩:=List.mem_map.1 q1
   exact OnD.ok (hk kb q3) x q2
theorem OnD.held {s:DS} {t:PS}:∀ {h:Nat} {b:BT h},OnD s t h b->∀ x∈pgB h b,t.st.getD x 0=2/\x<s.n
 | 0,b,⟨hp,_⟩,x,hx=>by
  simp only [pgB,List.mem_singleton] at hx
  subst hx
  exact ⟨by rw [<-aBb];exact hp.of,hp.lt⟩
 | h+1,b,⟨hp,_,_,_,hk⟩,x,hx=>by
  rcases List.mem_cons.1 hx with q | q
  ·subst q
   exact ⟨by rw [<-aBb];exact hp.of,hp.lt⟩
  ·obtain ⟨l,q1,q2⟩:=List.mem_flatten.1 q
   obtain ⟨kb,q3,rfl⟩:=List.mem_map.1 q1
   exact OnD.held (hk kb q3) x q2
def Tr (s:DS) (t:PS) (st:StT) (l:List It):Prop :=
 (st.root=0/\st.depth=0/\st.keys=0/\l=[]/\PgS st.pgs []) \/
 ∃ (h:Nat) (b:BT h),st.root=((BT.id b:Nat):Int)/\st.depth=((h+1:Nat):Int)/\st.keys=((l.length:Nat):Int)/\flB h b=l/\Srt l/\OnD s t h b/\ShB h b/\1<=(BT.it b).length/\PgS st.pgs (pgB h b)
theorem Tr.grow {s s':DS} {t t':PS} {L:List Nat} {st:StT} {l:List It} (h:Tr s t st l) (g:Gw s t s' t' L):Tr s' t' st l:=by
 rcases h with h | ⟨h,b,e1,e2,e3,e4,e5,e6,e7,e8,e9⟩
 ·exact Or.inl h
 ·exact Or.inr ⟨h,b,e1,e2,e3,e4,e5,e6.grow g,e7,e8,e9⟩
theorem Tr.srt {s:DS} {t:PS} {st:StT} {l:List It} (h:Tr s t st l):Srt l:=by
 rcases h with ⟨_,_,_,rfl,_⟩ | ⟨h,b,e1,e2,e3,e4,e5,e6,e7,e8,e9⟩
 ·exact List.Pairwise.nil
 ·exact e5
theorem Tr.keys {s:DS} {t:PS} {st:StT} {l:List It} (h:Tr s t st l):st.keys=((l.length:Nat):Int):=by
 rcases h with ⟨_,_,h,rfl,_⟩ | ⟨h,b,e1,e2,e3,e4,e5,e6,e7,e8,e9⟩
 ·exact h
 ·exact e3
theorem mem_putL {l:List It} {it x:It} (h:x∈putL l it):x∈l\/x=it:=by
 unfold putL at h
 by_cases c:hasI l it.1=true
 ·rw [if_pos c] at h
  exact (List.mem_or_eq_of_mem_set h)
 ·rw [if_neg c] at h
  rcases List.mem_append.1 h with h | h
  ·exact Or.inl (List.mem_of_mem_take h)
  ·rcases List.mem_cons.1 h with h | h
   ·exact Or.inr h
   ·exact Or.inl (List.mem_of_mem_drop h)
theorem deep:∀ {h:Nat} {b:BT h},ShB h b->2<=(BT.it b).length->3 ^ (h+1)<=(flB h b).length+1
 | 0,b,hs,h2=>by
  have h2:2<=b.2.length:=h2
  show 3<=b.2.length+1
  omega
 | h+1,b,⟨s1,s2,s3⟩,h2=>by
  have h2:2<=b.2.1.length:=h2
  have hw:(flB (h+1) b).length=b.2.1.length+((b.2.2.map (flB h)).map List.length).sum:=aB0 _ _ (by rw [List.length_map];exact s2)
  have key:∀ (c:List (BT h)),(∀ k∈c,ShB h k/\2<=(BT.it k).length)->c.length*3 ^ (h+1)<=((c.map (flB h)).map List.length).sum+c.length:=by
   intro c
   induction c with
   | nil=>intro _;simp
   | cons k c ih =>
    intro hc
    have i1:=ih fun x hx=>hc x (List.mem_cons_of_mem _ hx)
    obtain ⟨a1,a2⟩:=hc k List.mem_cons_self
    have i2:=deep a1 a2
    simp only [List.length_cons,List.map_cons,List.sum_cons,Nat.add_mul,Nat.one_mul]
    omega
  have hk:=key b.2.2 s3
  have h3:3*3 ^ (h+1)<=b.2.2.length*3 ^ (h+1):=Nat.mul_le_mul_right _ (by omega)
  have e:3 ^ (h+1+1)=3*3 ^ (h+1):=by rw [Nat.pow_succ,Nat.mul_comm]
  omega
theorem deepR:∀ {h:Nat} {b:BT h},ShB h b->1<=(BT.it b).length->2*3 ^ h<=(flB h b).length+1
 | 0,b,hs,h2=>by
  have h2:1<=b.2.length:=h2
  show 2<=b.2.length+1
  omega
 | h+1,b,⟨s1,s2,s3⟩,h2=>by
  have h2:1<=b.2.1.length:=h2
  have hw:(flB (h+1) b).length=b.2.1.length+((b.2.2.map (flB h)).map List.length).sum:=aB0 _ _ (by rw [List.length_map];exact s2)
  have key:∀ (c:List (BT h)),(∀ k∈c,ShB h k/\2<=(BT.it k).length)->c.length*3 ^ (h+1)<=((c.map (flB h)).map List.length).sum+c.length:=by
   intro c
   induction c with
   | nil=>intro _;simp
   | cons k c ih =>
    intro hc
    have i1:=ih fun x hx=>hc x (List.mem_cons_of_mem _ hx)
    obtain ⟨a1,a2⟩:=hc k List.mem_cons_self
    have i2:=deep a1 a2
    simp only [List.length_cons,List.map_cons,List.sum_cons,Nat.add_mul,Nat.one_mul]
    omega
  have hk:=key b.2.2 s3
  have h3:2*3 ^ (h+1)<=b.2.2.length*3 ^ (h+1):=Nat.mul_le_mul_right _ (by omega)
  omega
theorem Tr.depth80 {s:DS} {t:PS} {st:StT} {l:List It} (h:Tr s t st l) (hl:l.length<=100):0<=st.depth/\st.depth<=4:=by
 rcases h with ⟨_,h,_,rfl,_⟩ | ⟨h,b,e1,e2,e3,e4,e5,e6,e7,e8,e9⟩
 ·omega
 ·have:=deepR e7 e8
  rw [e4] at this
  have:h<=3:=by
   apply Classical.byContradiction
   intro q
   have h4:3 ^ 4<=3 ^ h:=Nat.pow_le_pow_right (by omega) (by omega)
   omega
  omega
theorem root_ht {h:Nat} (e:ED h):(rootE h e).1=if 4<(itE e).length then h+1 else h:=by
 unfold rootE
 by_cases c:4<(itE e).length
 ·rw [if_pos c,if_pos c]
 ·rw [if_neg c,if_neg c]
section
variable {s:DS} {t:PS} {h:Nat} {b:BT h} {l:List It}
theorem on_put (it:It) (hit:ItOk it) (e4:flB h b=l) (e5:Srt l) (e6:OnD s t h b) (e7:ShB h b) :
  flE (rootE h (putE h (old b) it)).1 (rootE h (putE h (old b) it)).2=putL l it/\ShE (rootE h (putE h (old b) it)).1 4 (rootE h (putE h (old b) it)).2/\1<=(itE (rootE h (putE h (old b) it)).2).length/\OnE s t (rootE h (putE h (old b) it)).1 (rootE h (putE h (old b) it)).2:=by
 have hsh:=aHh (old b) it (aBh b e7)
 have hfl:flE (rootE h (putE h (old b) it)).1 (rootE h (putE h (old b) it)).2=putL l it:=by
  rw [fl_root hsh,fl_put (old b) it (aBh b e7) (by rw [aBv,e4];exact e5),aBv,e4]
 have h1:1<=(itE (rootE h (putE h (old b) it)).2).length:=by
  have hp:=(aB6 (old b) it (aBh b e7)).1
  have hb:1<=(itE (old b)).length:=by
   rw [aCh]
   cases h with
   | zero=>exact e6.2.n1
   | succ h=>exact e6.2.1.n1
  unfold rootE
  by_cases c:4<(itE (putE h (old b) it)).length
  ·rw [if_pos c];exact nR _
  ·rw [if_neg c];exact nT hb hp
 refine ⟨hfl,Sh_root hsh,h1,OnE.of (((OldOn.old e6).put it).root) (Sh_root hsh) (by rw [hfl];exact putL_srt e5) (fun x hx=>?_) h1⟩
 rw [hfl] at hx
 rcases mem_putL hx with q | q
 ·rw [<-e4] at q;exact e6.ok x q
 ·rw [q];exact hit
theorem Tr.put {it:It} {s':DS} {t':PS} {L:List Nat} {ps:List Nat} {b':BT (rootE h (putE h (old b) it)).1} (hit:ItOk it) (e4:flB h b=l) (e5:Srt l) (e6:OnD s t h b) (e7:ShB h b) (e9:PgS ps (pgB h b)) (hsl:t.st.length<=4096)
  (hl:LdR (rootE h (putE h (old b) it)).1 (rootE h (putE h (old b) it)).2 b' L) (hg:Gw s t s' t' L) (hb':OnD s' t' (rootE h (putE h (old b) it)).1 b') :
  Tr s' t' ⟨((BT.id b':Nat):Int),(if 4<(itE (putE h (old b) it)).length then ((h+1:Nat):Int)+1 else ((h+1:Nat):Int)),cntN ((l.length:Nat):Int) (nwB h b it.1),L.foldl adP ((pthB h b it.1).foldl drP ps)⟩ (putL l it):=by
 obtain ⟨f1,f2,f3,f4⟩:=on_put it hit e4 e5 e6 e7
 refine Or.inr ⟨_,b',rfl,?_,?_,by rw [hl.fl,f1],putL_srt e5,hb',hl.sh f2,by rw [hl.it];exact f3,?_⟩
 ·show (if 4<(itE (putE h (old b) it)).length then ((h+1:Nat):Int)+1 else ((h+1:Nat):Int))=(((rootE h (putE h (old b) it)).1+1:Nat):Int)
  rw [root_ht]
  by_cases c:4<(itE (putE h (old b) it)).length
  ·rw [if_pos c,if_pos c];simp
  ·rw [if_neg c,if_neg c]
 ·have e:=len_put b it e7
  rw [fl_put (old b) it (aBh b e7) (by rw [aBv,e4];exact e5),aBv,e4] at e
  show cntN _ _=_
  unfold cntN
  rw [e]
  cases nwB h b it.1<;>simp
 ·refine e9.step (pg_put b it e7) ?_ hg.nd (gw_lt hg hsl) fun x hx q=>?_
  ·have:=hl.pg
   rw [olP_root (aG5 _ _)] at this
   exact this
  ·have h1:=(hg.new x hx).1
   have h2:=(e6.held x q).1
   omega
theorem fr_put2 (it:It):frE (rootE h (putE h (old b) it)).1 (rootE h (putE h (old b) it)).2<=2*h+3:=by
 have h1:=fr_put b it
 have h2:=fr_root (fr_new (old b) it)
 omega
end
end Go.Proofs.YtfobcelkmopohaaGreat
set_option linter.unusedVariables false
namespace Go.Proofs.YtfobcelkmopohaaGreat
def frm (l:List It) (lo:List Nat):List It:=l.filter fun x=>decide (0<=cmpB x.1 lo)
def endB (hi k:List Nat):Bool:=decide (0<hi.length) && decide (0<=cmpB k hi)
def scan (hi:List Nat) (most:Nat):List It->List It->List It×Bool
 | F,[]=>(F,true)
 | F,x::l=>if endB hi x.1 then (F,false) else if F.length+1<most then scan hi most (F++[x]) l else (F++[x],false)
theorem aHr (hi:List Nat) (most:Nat):∀ (a:List It) (F b:List It),scan hi most F (a++b)=if (scan hi most F a).2 then scan hi most (scan hi most F a).1 b else scan hi most F a
 | [],F,b=>rfl
 | x::a,F,b=>by
  simp only [List.cons_append,scan]
  by_cases c1:endB hi x.1=true
  ·simp [c1]
  ·by_cases c2:F.length+1<most
   ·simp only [c1,c2,if_true,Bool.false_eq_true,if_false]
    exact aHr hi most a (F++[x]) b
   ·simp [c1,c2]
theorem frm_app (a b:List It) (lo:List Nat):frm (a++b) lo=frm a lo++frm b lo:=List.filter_append ..
theorem frm_lo {l:List It} {lo:List Nat} (h:Lo l lo):frm l lo=[]:=by
 unfold frm
 rw [List.filter_eq_nil_iff]
 intro x hx
 have:=h x hx
 simp;omega
theorem frm_all {l:List It} {lo:List Nat} (h:∀ x∈l,0<=cmpB x.1 lo):frm l lo=l:=by
 unfold frm
 rw [List.filter_eq_self]
 intro x hx
 simpa using h x hx
theorem frm_drop {l:List It} (hs:Srt l) (lo:List Nat):frm l lo=l.drop (fndI l lo):=by
 have hp:=hs.part lo
 conv=>lhs;rw [<-List.take_append_drop (fndI l lo) l]
 rw [frm_app,frm_lo hp.1,frm_all hp.2]
 rfl
theorem wvL_end:∀ (l:List It) (cs:List (List It)) (z:It),cs.length=l.length->l.getLast?=some z->∃ a,wvL l cs=a++[z]:=by
 intro l
 induction l with
 | nil=>intro cs z _ h;simp at h
 | cons x l ih =>
  intro cs z hl h
  match cs,hl with
  | c::cs,hl =>
   cases l with
   | nil =>
    simp only [List.getLast?_singleton,oI] at h
    subst h
    refine ⟨c,?_⟩
    cases cs<;>simp [wvL]
   | cons x2 l =>
    rw [List.getLast?_cons_cons] at h
    obtain ⟨a,ha⟩:=ih cs z (by simpa using hl) h
    refine ⟨c++x::a,?_⟩
    simp only [wvL] at ha ⊢
    rw [ha]
    simp
theorem aDr {l:List It} {cs:List (List It)} {j:Nat} {x:It} {c:List It} (hx:l[j]?=some x) (hc:cs[j+1]?=some c):wvR (l.drop j) (cs.drop (j+1))=x::(c++wvR (l.drop (j+1)) (cs.drop (j+1+1))):=by
 have h1:l.drop j=x::l.drop (j+1):=by rw [<-(List.getElem?_eq_some_iff.1 hx).2,List.getElem_cons_drop]
 have h2:cs.drop (j+1)=c::cs.drop (j+1+1):=by rw [<-(List.getElem?_eq_some_iff.1 hc).2,List.getElem_cons_drop]
 rw [h1,h2]
 rfl
theorem wvR_end {l:List It} {cs:List (List It)} {j:Nat} (hj:l.length<=j):wvR (l.drop j) (cs.drop (j+1))=[]:=by
 rw [List.drop_eq_nil_of_le hj]
 simp [wvR]
section
variable {l:List It} {cs:List (List It)} {lo:List Nat} {c:List It}
theorem frm_weave (hs:Srt (weave l cs)) (hl:cs.length=l.length+1) (hc:cs[fndI l lo]?=some c):frm (weave l cs) lo=(if hasI l lo then [] else frm c lo)++wvR (l.drop (fndI l lo)) (cs.drop (fndI l lo+1)):=by
 have hsl:Srt l:=List.Pairwise.sublist (aCp l cs hl) hs
 have hp:=hsl.part lo
 have hle:=aA1 l lo
 have hw:=aAv l cs (fndI l lo) c hl hc
 rw [hw] at hs
 obtain ⟨p1,p2,p3⟩:=hs.app
 obtain ⟨p4,p5,p6⟩:=p2.app
 have q1:Lo (wvL (l.take (fndI l lo)) (cs.take (fndI l lo))) lo:=by
  intro y hy
  by_cases q:fndI l lo=0
  ·rw [q] at hy
   simp [wvL] at hy
  ·obtain ⟨z,hz⟩:∃ z,l[fndI l lo-1]?=some z:=⟨_,gE (by omega)⟩
   have hzk:cmpB z.1 lo<0:=hp.1 z (by
    have:(l.take (fndI l lo))[fndI l lo-1]?=some z:=by rw [List.getElem?_take_of_lt (by omega)];exact hz
    exact mG this)
   obtain ⟨a,ha⟩:=wvL_end (l.take (fndI l lo)) (cs.take (fndI l lo)) z (by simp;omega) (by
    rw [List.getLast?_eq_getElem?,List.length_take,Nat.min_eq_left (by omega),List.getElem?_take_of_lt (by omega)]
    exact hz)
   rw [ha] at hy p1
   rcases List.mem_append.1 hy with hy | hy
   ·exact aA9 ((Srt.app p1).2.2 y hy z (by simp)) hzk
   ·simp at hy
    subst hy
    exact hzk
 have q2:∀ y∈wvR (l.drop (fndI l lo)) (cs.drop (fndI l lo+1)),0<=cmpB y.1 lo:=by
  intro y hy
  by_cases q:fndI l lo=l.length
  ·rw [wvR_end (by omega)] at hy
   simp at hy
  ·obtain ⟨z,hz⟩:∃ z,l[fndI l lo]?=some z:=⟨_,gE (by omega)⟩
   obtain ⟨c2,hc2⟩:∃ c2,cs[fndI l lo+1]?=some c2:=⟨_,gE (by omega)⟩
   rw [aDr hz hc2] at hy p5
   have hz0:=hp.2 z (by
    have hd:l.drop (fndI l lo)=z::l.drop (fndI l lo+1):=by rw [<-(List.getElem?_eq_some_iff.1 hz).2,List.getElem_cons_drop]
    rw [hd];simp)
   rcases List.mem_cons.1 hy with hy | hy
   ·rw [hy];exact hz0
   ·have h1:=(List.pairwise_cons.1 p5).1 y hy
    apply Classical.byContradiction
    intro q3
    have:=aA9 h1 (show cmpB y.1 lo<0 by omega)
    omega
 rw [hw,frm_app,frm_app,frm_lo q1,frm_all q2,List.nil_append]
 congr 1
 by_cases hh:hasI l lo=true
 ·rw [if_pos hh]
  obtain ⟨x,hx,ex⟩:=(hsl.has lo).1 hh
  obtain ⟨c2,hc2⟩:∃ c2,cs[fndI l lo+1]?=some c2:=⟨_,gE (by have:=(lL hx);omega)⟩
  rw [aDr hx hc2] at p6
  refine frm_lo fun y hy=>?_
  have:=p6 y hy x (by simp)
  rw [ex] at this
  exact this
 ·rw [if_neg hh]
theorem frm_kid (hs:Srt (weave l cs)) (hl:cs.length=l.length+1) {j:Nat} (hj:fndI l lo<j) (hc:cs[j]?=some c):frm c lo=c:=by
 have hsl:Srt l:=List.Pairwise.sublist (aCp l cs hl) hs
 have hp:=hsl.part lo
 have hjl:=(lL hc)
 obtain ⟨z,hz⟩:∃ z,l[j-1]?=some z:=⟨_,gE (by omega)⟩
 have hz0:=hp.2 z (by
  have:(l.drop (fndI l lo))[j-1-fndI l lo]?=some z:=by rw [List.getElem?_drop,show fndI l lo+(j-1-fndI l lo)=j-1 by omega];exact hz
  exact mG this)
 have hw:=aAv l cs j c hl hc
 rw [hw] at hs
 obtain ⟨p1,p2,p3⟩:=hs.app
 obtain ⟨a,ha⟩:=wvL_end (l.take j) (cs.take j) z (by simp;omega) (by
  rw [List.getLast?_eq_getElem?,List.length_take,Nat.min_eq_left (by omega),List.getElem?_take_of_lt (by omega)]
  exact hz)
 refine frm_all fun y hy=>?_
 have h1:=p3 z (by rw [ha];simp) y (List.mem_append_left _ hy)
 apply Classical.byContradiction
 intro q3
 have:=aA9 h1 (show cmpB y.1 lo<0 by omega)
 omega
end
def rstB (l:List It) (cs:List (List It)) (j:Nat):List It:=wvR (l.drop j) (cs.drop (j+1))
theorem Srt.kid {l:List It} {cs:List (List It)} {c:List It} (hs:Srt (weave l cs)) (hl:cs.length=l.length+1) (hc:c∈cs):Srt c:=List.Pairwise.sublist (aC1 l cs c hl hc) hs
theorem aCl (hi:List Nat) (most:Nat):∀ (l F:List It),F.length<=(scan hi most F l).1.length/\(F.length<most->(scan hi most F l).1.length<=most/\((scan hi most F l).2=true->(scan hi most F l).1.length<most))
 | [],F=>⟨nR _,fun h=>⟨Nat.le_of_lt h,fun _=>h⟩⟩
 | x::l,F=>by
  simp only [scan]
  by_cases c1:endB hi x.1=true
  ·simp [c1];omega
  ·by_cases c2:F.length+1<most
   ·simp only [c1,c2,if_true,Bool.false_eq_true,if_false]
    have h:=aCl hi most l (F++[x])
    simp only [lA,List.length_singleton] at h
    exact ⟨by omega,fun _=>h.2 c2⟩
   ·simp [c1,c2];omega
end Go.Proofs.YtfobcelkmopohaaGreat
set_option linter.unusedVariables false
namespace Go.Proofs.YtfobcelkmopohaaGreat
open Go.RowKit
def prC (kv:List (Value×Value)):List Value:=kv.flatMap fun x=>[.int .i64 0,x.1,x.2]
theorem prC_len (kv:List (Value×Value)):(prC kv).length=kv.length*3:=by
 induction kv with
 | nil=>rfl
 | cons x kv ih=>show ([_,_,_]++prC kv).length=_;rw [lA,ih];simp;omega
theorem prC_app (a b:List (Value×Value)):prC (a++b)=prC a++prC b:=by simp [prC]
theorem prC_get:∀ {kv:List (Value×Value)} {i:Nat} {x:Value×Value},kv[i]?=some x->(prC kv)[i*3]?=some (.int .i64 0)/\(prC kv)[i*3+1]?=some x.1/\(prC kv)[i*3+2]?=some x.2
 | [],i,x,h=>by simp at h
 | y::kv,0,x,h=>by
  simp only [List.getElem?_cons_zero,oI] at h
  subst h
  exact ⟨rfl,rfl,rfl⟩
 | y::kv,i+1,x,h=>by
  have e:=prC_get (kv:=kv) (i:=i) (x:=x) (by simpa using h)
  have f:∀ j,(prC (y::kv))[j+3]?=(prC kv)[j]?:=fun j=>rfl
  refine ⟨?_,?_,?_⟩
  ·rw [show (i+1)*3=i*3+3 by omega,f];exact e.1
  ·rw [show (i+1)*3+1=i*3+1+3 by omega,f];exact e.2.1
  ·rw [show (i+1)*3+2=i*3+2+3 by omega,f];exact e.2.2
def PRW (B B1:Nat) (w:World) (v:Value) (F:List It):Prop:=∃ kv:List (Value×Value),kv.length=F.length/\w.ownsRow B1 79 3 v F.length (prC kv)/\∀ (i:Nat) it x,F[i]?=some it->kv[i]?=some x->KV B w x.1 it.1/\KV B w x.2 it.2
theorem PRW.form {B B1:Nat} {w:World} {v:Value} {F:List It} (h:PRW B B1 w v F):∃ a c,v=.slice a F.length c:=by
 obtain ⟨kv,h1,⟨h2,h3⟩,h4⟩:=h
 rcases h3 with ⟨rfl,h0⟩ | ⟨g,cap,cur,rfl,_⟩
 ·exact ⟨none,0,by rw [h0]⟩
 ·exact ⟨_,_,rfl⟩
theorem PRW.nil (B B1:Nat) (w:World):PRW B B1 w (.slice none 0 0) []:=⟨[],rfl,⟨rfl,Or.inl ⟨rfl,rfl⟩⟩,fun i it x h=>by simp at h⟩
theorem PRW.stay {B B1:Nat} {w w':World} {v:Value} {F:List It} (h:PRW B B1 w v F) (f:FT B w w') (hg:∀ (k:Nat) (cs:Array Value),B1<=k->w.heap[k]?=some (.cells cs 79 (0,0))->w'.heap[k]?=some (.cells cs 79 (0,0))):PRW B B1 w' v F:=by
 obtain ⟨kv,h1,⟨h2,h3⟩,h4⟩:=h
 refine ⟨kv,h1,⟨h2,?_⟩,fun i it x e1 e2=>⟨(h4 i it x e1 e2).1.ft f,(h4 i it x e1 e2).2.ft f⟩⟩
 rcases h3 with h3 | ⟨g,cap,cur,e1,e2,e3,e4⟩
 ·exact Or.inl h3
 ·exact Or.inr ⟨g,cap,cur,e1,e2,hg g cur e2 e3,e4⟩
def LkF (B1:Nat) (w w':World):Prop:=Below B1 w w'/\∀ (k:Nat) (cs:Array Value) (t:TypeId) (fz:Nat×Nat),w.heap[k]?=some (Obj.cells cs t fz)->t≠74->t≠79->w'.heap[k]?=some (Obj.cells cs t fz)
theorem LkF.refl (B1:Nat) (w:World):LkF B1 w w:=⟨Below.refl _ _,fun _ _ _ _ h _ _=>h⟩
theorem LkF.trans {B1:Nat} {a b c:World} (h:LkF B1 a b) (k:LkF B1 b c):LkF B1 a c:=⟨h.1.trans k.1,fun i cs t fz e n1 n2=>k.2 i cs t fz (h.2 i cs t fz e n1 n2) n1 n2⟩
theorem LkF.of {B1:Nat} {w w':World} (h:Below w.heap.size w w') (hB:B1<=w.heap.size):LkF B1 w w':=⟨h.mono hB,fun i cs t fz e _ _=>(h.block i (lO e)).trans e⟩
theorem LkF.ft {B B1:Nat} {w w':World} (h:LkF B1 w w') (hB:B<=B1):FT B w w':=⟨h.1.mono hB,fun k cs fz e=>h.2 k cs _ _ e (by decide) (by decide)⟩
structure SpV (B B1:Nat) (w:World) (r:Nat) (lv hv:Value) (lo hi:List Nat) (most:Nat) (F:List It):Prop where
 hr:B1<=r
 klo:KV B w lv lo
 khi:KV B w hv hi
 hx:∃ fv,w.heap[r]?=some (.cells #[lv,hv,.int .i64 (most:Int),fv] 74 (0,0))/\PRW B B1 w fv F
theorem SpV.later {B B1:Nat} {w w':World} {r:Nat} {lv hv:Value} {lo hi:List Nat} {most:Nat} {F:List It} (h:SpV B B1 w r lv hv lo hi most F) (hb:Below w.heap.size w w') (hB:B<=w.heap.size):SpV B B1 w' r lv hv lo hi most F:=by
 obtain ⟨fv,h1,h2⟩:=h.hx
 refine ⟨h.hr,h.klo.ft (FT.of hb hB),h.khi.ft (FT.of hb hB),fv,(hb.block r (lO h1)).trans h1,h2.stay (FT.of hb hB) fun k cs _ e=>(hb.block k (lO e)).trans e⟩
theorem SpV.cellsx {B B1:Nat} {w:World} {r:Nat} {lv hv:Value} {lo hi:List Nat} {most:Nat} {F:List It} (h:SpV B B1 w r lv hv lo hi most F):w.cell? ⟨r,0,none⟩=some lv/\w.cell? ⟨r,1,none⟩=some hv/\w.cell? ⟨r,2,none⟩=some (.int .i64 (most:Int)):=by
 obtain ⟨fv,h1,h2⟩:=h.hx
 exact ⟨aAa h1,aAa h1,aAa h1⟩
theorem info_pair:(Tryz.prog.info? 79).map (fun i=>(i.zero,i.size,i.bytes))=some (some (.agg #[.int .i64 0,.slice none 0 0,.slice none 0 0]),3,56):=by kernel_rfl
theorem ends_any {B B1 r:Nat} {w:World} {lv hv:Value} {lo hi:List Nat} {most:Nat} {F:List It} (h:SpV B B1 w r lv hv lo hi most F) {ka:Option Addr} {kn kc:Nat} {key:List Nat} (hk:BS w ka kn kc key) :
  Calls Tryz.prog 59 #[.pointer (some ⟨r,0,none⟩),.slice ka kn kc] w fun e w'=>e=.returned (.bool (endB hi key))/\w'=w:=by
 obtain ⟨ha,hc,rfl,hbk⟩:=h.khi
 have r1:w.cell? ⟨r,1,none⟩=some (.slice ha hi.length hc):=h.cellsx.2.1
 have HC:=zH (aBm ka ha kn kc hi.length hc key hi w hk hbk.1)
 have HE:Hid (endB hi key=(decide (0<hi.length) && decide (0<=cmpB key hi))):=rfl
 clear h hbk hk
 generalize hn:hi.length=n at *
 generalize cmpB key hi=cc at *
 generalize endB hi key=ee at *
 by_cases c:0<n
 ·have x:(0:Int)<(n:Int):=by omega
  have d1:decide ((0:Int)<(n:Int))=true:=by simp;omega
  have HC0:=zH c
  clear c hn
  go_enter Tryz.func59,Tryz.ntmps59
  go_wp2_with fail
  refine HC.o.mono ?_
  rintro e w1 ⟨rfl,rfl⟩
  go_wp2
  go_ret
  refine ⟨?_,rfl⟩
  rw [HE.o,decide_eq_true HC0.o]
  simp
 ·have x:¬ (0:Int)<(n:Int):=by omega
  have d1:decide ((0:Int)<(n:Int))=false:=by simp;omega
  have HC0:=zH c
  clear c hn
  go_enter Tryz.func59,Tryz.ntmps59
  go_wp2
  go_ret
  refine ⟨?_,rfl⟩
  rw [HE.o,decide_eq_false HC0.o]
  simp
def TkR (B B1:Nat) (w:World) (r:Nat) (lv hv:Value) (lo hi:List Nat) (most:Nat) (F:List It) (l:List It) (e:Ending) (w':World):Prop :=
 e=.returned (.bool (scan hi most F l).2)/\SpV B B1 w' r lv hv lo hi most (scan hi most F l).1/\LkF B1 w w'
theorem scan_one (hi:List Nat) (most:Nat) (F:List It) (x:It):scan hi most F [x]=if endB hi x.1 then (F,false) else if F.length+1<most then (F++[x],true) else (F++[x],false):=by
 simp only [scan]
theorem news3 (w:World) (a b c:Value) (t:TypeId):∀ j u,[a,b,c][j]?=some u->(w.alloc (.cells #[a,b,c] t)).cell? ((⟨w.heap.size,0,none⟩:Addr).add j)=some u:=by
 intro j u hu
 rw [Addr.add_lit,Nat.zero_add,aAa (heap_alloc_new w _)]
 simpa using hu
theorem SpV.push {B B1:Nat} {w w3:World} {r:Nat} {lv hv:Value} {lo hi:List Nat} {most:Nat} {F:List It} {fv v3 kv vv:Value} {it:It} {kvl:List (Value×Value)} (h:SpV B B1 w r lv hv lo hi most F) (hB:B<=B1) (hB1:B1<=w.heap.size) (h1:w.heap[r]?=some (.cells #[lv,hv,.int .i64 (most:Int),fv] 74 (0,0))) (hkl:kvl.length=F.length) (hown:w.ownsRow B1 79 3 fv F.length (prC kvl)) (hall:∀ (i:Nat) it x,F[i]?=some it->kvl[i]?=some x->KV B w x.1 it.1/\KV B w x.2 it.2) (hk:KV B w kv it.1) (hv':KV B w vv it.2)
  (ho:w3.ownsRow B1 79 3 v3 (F.length+1) (prC kvl++[.int .i64 0,kv,vv])) (hg:(w.alloc (.cells #[.int .i64 0,kv,vv] 79)).grownBy w3 fv.ownBlock) :
  w3.heap[r]?=some (.cells #[lv,hv,.int .i64 (most:Int),fv] 74 (0,0))/\SpV B B1 (w3.setCell ⟨r,3,none⟩ v3) r lv hv lo hi most (F++[it])/\LkF B1 w (w3.setCell ⟨r,3,none⟩ v3):=by
 have hb:=aAb w (.cells #[.int .i64 0,kv,vv] 79)
 have own1:=aAg hown hb
 have keep:∀ (k:Nat) (cs:Array Value) (t:TypeId) (fz:Nat×Nat),w.heap[k]?=some (Obj.cells cs t fz)->t≠79->w3.heap[k]?=some (Obj.cells cs t fz):=by
  intro k cs t fz e ht
  have e1:=(hb.block k (lO e)).trans e
  rw [hg.block k (lO e1) ?_,e1]
  intro q9
  obtain ⟨_,cur,hc⟩:=aAr own1 q9.symm
  rw [hc] at e1
  simp only [oI,cI] at e1
  exact ht e1.2.1.symm
 have hr3:=keep _ _ _ _ h1 (by decide)
 have bel:Below B1 w w3:=(hb.mono hB1).trans ((Below.refl B1 _).grown hg (nT hB1 hb.size) (fun k hk=>(own1.lt k hk).1))
 have hlk:LkF B1 w (w3.setCell ⟨r,3,none⟩ v3):=by
  refine ⟨bel.trans ((Below.refl B1 w3).setCell (p:=⟨r,3,none⟩) h.hr _),fun k cs t fz e n1 n2=>?_⟩
  have e1:=keep k cs t fz e n2
  rw [heap_setCell_other _ _ _ _ ?_,e1]
  intro q9
  have q9:k=r:=q9
  subst q9
  rw [hr3] at e1
  simp only [oI,cI] at e1
  exact n1 e1.2.1.symm
 have hft:=hlk.ft hB
 refine ⟨hr3,⟨h.hr,h.klo.ft hft,h.khi.ft hft,v3,?_,kvl++[(kv,vv)],by simp [hkl],?_,fun i it' x e1 e2=>?_⟩,hlk⟩
 ·rw [heap_setCell_same _ _ _ _ _ _ hr3];rfl
 ·rw [lA,prC_app]
  refine aAj ho fun k cs hk e=>?_
  rw [heap_setCell_other _ _ _ _ ?_,e]
  intro q9
  have q9:k=r:=q9
  subst q9
  rw [hr3] at e
  simp only [oI,cI] at e
  exact absurd e.2.1 (by decide)
 ·by_cases c:i<F.length
  ·rw [List.getElem?_append_left c] at e1
   rw [List.getElem?_append_left (by omega)] at e2
   have:=hall i it' x e1 e2
   exact ⟨this.1.ft hft,this.2.ft hft⟩
  ·have hi:i=F.length:=by
    have:=(lL e1)
    simp at this
    omega
   subst hi
   simp at e1
   rw [<-hkl] at e2
   simp at e2
   subst e1 e2
   exact ⟨hk.ft hft,hv'.ft hft⟩
theorem aD0 {B B1 r:Nat} {w:World} {lv hv:Value} {lo hi:List Nat} {most:Nat} {F:List It} (h:SpV B B1 w r lv hv lo hi most F) (hB:B<=B1) (hB1:B1<=w.heap.size) (hF:F.length<100000) (it:It) {kv vv:Value} (hk:KV B w kv it.1) (hv':KV B w vv it.2) :
  Calls Tryz.prog 95 #[.pointer (some ⟨r,0,none⟩),.agg #[kv,vv]] w fun e w'=>TkR B B1 w r lv hv lo hi most F [it] e w':=by
 obtain ⟨i0,hi0,hz0,hz1,hz2⟩:=info_parts info_pair
 obtain ⟨ka,kc,rfl,hkb⟩:=hk
 obtain ⟨va,vc,rfl,hvb⟩:=hv'
 have HBX:=zH (aAb w (.cells #[.slice ka it.1.length kc,.slice va it.2.length vc] 69))
 have HNX:Hid ((w.alloc (.cells #[.slice ka it.1.length kc,.slice va it.2.length vc] 69)).heap[w.heap.size]?=some (.cells #[.slice ka it.1.length kc,.slice va it.2.length vc] 69 (0,0))):=heap_alloc_new w _
 have HSP:=zH (h.later HBX.o (nT hB hB1))
 have HBw:Hid (B1<=(w.alloc (.cells #[.slice ka it.1.length kc,.slice va it.2.length vc] 69)).heap.size):=nT hB1 HBX.o.size
 have HKB:=zH (hkb.later HBX.o (nT hB hB1))
 have HVB:=zH (hvb.later HBX.o (nT hB hB1))
 have HEN:=zH (ends_any HSP.o HKB.o.1)
 have HLK:=zH (LkF.of HBX.o hB1)
 have HSC:=zH (scan_one hi most F it)
 have c0:(w.alloc (.cells #[.slice ka it.1.length kc,.slice va it.2.length vc] 69)).cell? ⟨w.heap.size,0,none⟩=some (.slice ka it.1.length kc):=aAa HNX.o
 have c1:(w.alloc (.cells #[.slice ka it.1.length kc,.slice va it.2.length vc] 69)).cell? ⟨w.heap.size,1,none⟩=some (.slice va it.2.length vc):=aAa HNX.o
 have HBB:=zH hB
 clear h hkb hvb hB hB1
 generalize hkn:it.1.length=kn at *
 generalize hvn:it.2.length=vn at *
 go_enter Tryz.func95,Tryz.ntmps95
 go_wp2_with fail
 refine HEN.o.mono ?_
 rintro e w1 ⟨rfl,rfl⟩
 generalize (w.alloc (.cells #[.slice ka kn kc,.slice va vn vc] 69))=w1 at *
 generalize hG:w.heap.size=G at *
 cases hen:endB hi it.1 with
 | true =>
  rw [hen] at HSC
  simp only [if_true] at HSC
  clear c0 c1
  go_wp2
  go_ret
  unfold TkR
  rw [HSC.o]
  exact ⟨rfl,HSP.o,HLK.o⟩
 | false =>
  rw [hen] at HSC
  simp only [Bool.false_eq_true,if_false] at HSC
  obtain ⟨fv,hs1,hs2⟩:=HSP.o.hx
  obtain ⟨fa,fc,rfl⟩:=hs2.form
  have r3:w1.cell? ⟨r,3,none⟩=some (.slice fa F.length fc):=aAa hs1
  have HS1:=zH hs1
  have HS2:=zH hs2
  clear hs1 hs2
  obtain ⟨kvl,hkl,hown,hall⟩:=HS2.o
  have hGl:G<w1.heap.size:=(lO HNX.o)
  have HNE:Hid (G≠r):=by
   intro q9
   have h9:=HNX.o
   rw [q9,HS1.o] at h9
   simp only [oI,cI] at h9
   exact absurd h9.2.1 (by decide)
  have HBP:=zH (aAb w1.drew (.cells #[.int .i64 0,.slice ka kn kc,.slice va vn vc] 79))
  have HO2:Hid ((w1.drew.alloc (.cells #[.int .i64 0,.slice ka kn kc,.slice va vn vc] 79)).ownsRow B1 79 3 (.slice fa F.length fc) F.length (prC kvl)):=aAg (w:=w1.drew) hown HBP.o
  have HLD:Hid (LkF B1 w1 w1.drew):=LkF.of (Below.refl _ _).drew HBw.o
  have hkv:KV B w1.drew (.slice ka kn kc) it.1:=⟨ka,kc,by rw [hkn],by rw [hkn];exact HKB.o.later (Below.refl _ _).drew (nT HBB.o HBw.o)⟩
  have hvv:KV B w1.drew (.slice va vn vc) it.2:=⟨va,vc,by rw [hvn],by rw [hvn];exact HVB.o.later (Below.refl _ _).drew (nT HBB.o HBw.o)⟩
  have HPU:Hid (∀ v3 w3,w3.ownsRow B1 79 3 v3 (F.length+1) (prC kvl++[.int .i64 0,.slice ka kn kc,.slice va vn vc])->(w1.drew.alloc (.cells #[.int .i64 0,.slice ka kn kc,.slice va vn vc] 79)).grownBy w3 (Value.slice fa F.length fc).ownBlock->w3.heap[r]?=some (.cells #[lv,hv,.int .i64 (most:Int),.slice fa F.length fc] 74 (0,0))/\SpV B B1 (w3.setCell ⟨r,3,none⟩ v3) r lv hv lo hi most (F++[it])/\LkF B1 w1.drew (w3.setCell ⟨r,3,none⟩ v3)):=fun v3 w3 ho hg=>(HSP.o.later (Below.refl _ _).drew (nT HBB.o HBw.o)).push HBB.o HBw.o HS1.o hkl hown (fun i it x e1 e2=>⟨(hall i it x e1 e2).1.ft (FT.of (Below.refl _ _).drew (nT HBB.o HBw.o)),(hall i it x e1 e2).2.ft (FT.of (Below.refl _ _).drew (nT HBB.o HBw.o))⟩) hkv hvv ho hg
  have HXG:Hid (∀ v3 w3,w3.ownsRow B1 79 3 v3 (F.length+1) (prC kvl++[.int .i64 0,.slice ka kn kc,.slice va vn vc])->(w1.drew.alloc (.cells #[.int .i64 0,.slice ka kn kc,.slice va vn vc] 79)).grownBy w3 (Value.slice fa F.length fc).ownBlock->w3.cell? ⟨G,0,none⟩=some (.slice ka kn kc)/\w3.cell? ⟨G,1,none⟩=some (.slice va vn vc)):=fun v3 w3 ho hg=>by
   have e1:(w1.drew.alloc (.cells #[.int .i64 0,.slice ka kn kc,.slice va vn vc] 79)).heap[G]?=_:=(HBP.o.block G hGl).trans HNX.o
   have e2:w3.heap[G]?=_:=(hg.block G (lO e1) (fun q9=>by
    obtain ⟨_,cur,hc⟩:=aAr HO2.o q9.symm
    rw [hc] at e1
    simp only [oI,cI] at e1
    exact absurd e1.2.1 (by decide))).trans e1
   exact ⟨aAa e2,aAa e2⟩
  have HX0:Hid ((fun wx=>wx.cell? ⟨G,0,none⟩=some (.slice ka kn kc)/\wx.cell? ⟨G,1,none⟩=some (.slice va vn vc)) w1.drew):=⟨c0,c1⟩
  have HX2:Hid ((fun wx=>wx.cell? ⟨G,0,none⟩=some (.slice ka kn kc)/\wx.cell? ⟨G,1,none⟩=some (.slice va vn vc)) (w1.drew.alloc (.cells #[.int .i64 0,.slice ka kn kc,.slice va vn vc] 79))):=⟨(HBP.o.cell (p:=⟨G,0,none⟩) hGl).trans c0,(HBP.o.cell (p:=⟨G,1,none⟩) hGl).trans c1⟩
  have r4:(w1.alloc (.cells #[.int .i64 0,.slice ka kn kc,.slice va vn vc] 79)).cell? ⟨r,3,none⟩=some (.slice fa F.length fc):=(HBP.o.cell (p:=⟨r,3,none⟩) (lO HS1.o)).trans r3
  clear hkv hvv hkl hown hall c0 c1
  generalize hM':F.length=M at *
  go_upto_region 3 with fail
  refine wp_region_noPanic ?_
  refine wp_region_held_drew (S:=fun wx=>wx.cell? ⟨G,0,none⟩=some (.slice ka kn kc)/\wx.cell? ⟨G,1,none⟩=some (.slice va vn vc)) (by kernel_rfl) HX0.o (fun hHeld=>?_)
  refine kT 0 9 ?_
  refine kT 1 10 ?_
  refine kT 2 11 ?_
  refine kT 3 12 ?_
  refine kT 5 14 ?_
  refine kT 6 15 ?_
  refine kT 7 16 ?_
  refine kT 8 17 ?_
  refine kT 9 18 ?_
  refine aAx (i:=4) (j:=10) (by kernel_rfl) (by kernel_rfl) (by kernel_rfl) ?ba ?bb
  case ba =>
   intro o ho K hK
   simp only [List.getElem?_toArray,List.getElem?_cons_succ,List.getElem?_cons_zero,oI] at ho
   subst ho
   go_simp
   refine hK.out _ _ hHeld (fun hHeld=>?_)
   clear hK K
   try simp only [Act.put,siT,scZ,scS]
   refine kC 10 ?_;intro K hK
   go_simp
   clear hHeld
   refine hK.out _ _ HX2.o (fun hHeld=>?_)
   clear hK K
   try simp only [Act.put,siT,scZ,scS]
   refine kC 11 ?_;intro K hK
   rw [if_pos (by rfl)]
   refine aA2 (.tmp 13) (.tmp 19) 40 rfl B1 79 i0 (.agg #[.int .i64 0,.slice none 0 0,.slice none 0 0]) 3 56 Tryz.underlying40 hi0 hz0 hz1 hz2 rfl (by omega) (.slice fa M fc) M (prC kvl) rfl HO2.o ⟨w1.drew.heap.size,0,none⟩ 1 1 [.int .i64 0,.slice ka kn kc,.slice va vn vc] rfl rfl (news3 w1.drew _ _ _ _) (by intro u hu;simp at hu;rcases hu with rfl | rfl | rfl<;>rfl) (by unfold maxLen;omega) (by omega) (nT HBw.o HBP.o.size) ?_
   intro v3 w3 ho3 hg3 hat3
   obtain ⟨p1,p2,p3⟩:=HPU.o v3 w3 ho3 hg3
   obtain ⟨a3,c3,rfl⟩:=aAf ho3
   have HR3:=zH p1
   have HP2:=zH p2
   have HP3:=zH p3
   have HX3:Hid ((fun wx=>wx.cell? ⟨G,0,none⟩=some (.slice ka kn kc)/\wx.cell? ⟨G,1,none⟩=some (.slice va vn vc)) w3):=HXG.o _ _ ho3 hg3
   have y3:w3.cell? ⟨r,3,none⟩=some (.slice fa M fc):=aAa p1
   have f3:w3.frozen? ⟨r,3,none⟩=false:=aAc p1
   clear ho3 hg3 hat3 p1 p2 p3 hHeld
   refine hK.out _ _ HX3.o (fun hHeld=>?_)
   clear hK K
   try simp only [Act.put,siT,scZ,scS]
   refine kT 12 21 ?_
   refine kT 13 22 ?_
   refine kC 14 ?_;intro K hK
   go_simp
   have HX4:Hid ((fun wx=>wx.cell? ⟨G,0,none⟩=some (.slice ka kn kc)/\wx.cell? ⟨G,1,none⟩=some (.slice va vn vc)) (w3.setCell ⟨r,3,none⟩ (.slice a3 (M+1) c3))):=by
    have hne:G≠r:=HNE.o
    exact ⟨(World.cell?_of_block (heap_setCell_other _ _ _ _ hne)).trans HX3.o.1,(World.cell?_of_block (heap_setCell_other _ _ _ _ hne)).trans HX3.o.2⟩
   clear hHeld
   refine hK.out _ _ HX4.o (fun hHeld=>?_)
   clear hK K
   try simp only [Act.put,siT,scZ,scS]
   refine wpAnyH_done (by kernel_rfl) ?_ _
   refine NoPanic.normal ?_
   clear hHeld y3 f3
   generalize (w3.setCell ⟨r,3,none⟩ (.slice a3 (M+1) c3))=w4 at *
   obtain ⟨fv4,k1,k2⟩:=HP2.o.hx
   obtain ⟨fa4,fc4,rfl⟩:=k2.form
   have z3:w4.cell? ⟨r,3,none⟩=some (.slice fa4 (F++[it]).length fc4):=aAa k1
   have z2:w4.cell? ⟨r,2,none⟩=some (.int .i64 (most:Int)):=aAa k1
   rw [lA,hM',List.length_singleton] at z3
   have HLE:=zH (HLK.o.trans HLD.o |>.trans HP3.o)
   have HSZ:Hid (w1.heap.size<=w4.heap.size):=HP3.o.1.size
   clear k1 k2
   by_cases hmo:M+1<most
   ·have x5:((M+1:Nat):Int)<(most:Int):=by omega
    rw [if_pos hmo] at HSC
    go_wp2
    go_region
    go_wp2
    go_ret
    unfold TkR
    rw [HSC.o]
    refine ⟨?_,HP2.o.later (Below.refl _ _).drew (nT (nT HBB.o HBw.o) HSZ.o),HLE.o.trans (LkF.of (Below.refl _ _).drew (nT HBw.o HSZ.o))⟩
    simp
    omega
   ·have x5:¬ ((M+1:Nat):Int)<(most:Int):=by omega
    rw [if_neg hmo] at HSC
    go_wp2
    go_region
    go_wp2
    go_ret
    unfold TkR
    rw [HSC.o]
    refine ⟨?_,HP2.o.later (Below.refl _ _).drew (nT (nT HBB.o HBw.o) HSZ.o),HLE.o.trans (LkF.of (Below.refl _ _).drew (nT HBw.o HSZ.o))⟩
    simp
    omega
  case bb =>
   intro o ho K hK
   simp only [List.getElem?_toArray,List.getElem?_cons_succ,List.getElem?_cons_zero,oI] at ho
   subst ho
   go_simp
   clear hHeld
   refine hK.out _ _ HX2.o (fun hHeld=>?_)
   clear hK K
   try simp only [Act.put,siT,scZ,scS]
   refine kC 4 ?_;intro K hK
   go_simp
   refine hK.out _ _ hHeld (fun hHeld=>?_)
   clear hK K
   try simp only [Act.put,siT,scZ,scS]
   refine kC 11 ?_;intro K hK
   rw [if_pos (by rfl)]
   refine aA2 (.tmp 13) (.tmp 19) 40 rfl B1 79 i0 (.agg #[.int .i64 0,.slice none 0 0,.slice none 0 0]) 3 56 Tryz.underlying40 hi0 hz0 hz1 hz2 rfl (by omega) (.slice fa M fc) M (prC kvl) rfl HO2.o ⟨w1.drew.heap.size,0,none⟩ 1 1 [.int .i64 0,.slice ka kn kc,.slice va vn vc] rfl rfl (news3 w1.drew _ _ _ _) (by intro u hu;simp at hu;rcases hu with rfl | rfl | rfl<;>rfl) (by unfold maxLen;omega) (by omega) (nT HBw.o HBP.o.size) ?_
   intro v3 w3 ho3 hg3 hat3
   obtain ⟨p1,p2,p3⟩:=HPU.o v3 w3 ho3 hg3
   obtain ⟨a3,c3,rfl⟩:=aAf ho3
   have HR3:=zH p1
   have HP2:=zH p2
   have HP3:=zH p3
   have HX3:Hid ((fun wx=>wx.cell? ⟨G,0,none⟩=some (.slice ka kn kc)/\wx.cell? ⟨G,1,none⟩=some (.slice va vn vc)) w3):=HXG.o _ _ ho3 hg3
   have y3:w3.cell? ⟨r,3,none⟩=some (.slice fa M fc):=aAa p1
   have f3:w3.frozen? ⟨r,3,none⟩=false:=aAc p1
   clear ho3 hg3 hat3 p1 p2 p3 hHeld
   refine hK.out _ _ HX3.o (fun hHeld=>?_)
   clear hK K
   try simp only [Act.put,siT,scZ,scS]
   refine kT 12 21 ?_
   refine kT 13 22 ?_
   refine kC 14 ?_;intro K hK
   go_simp
   have HX4:Hid ((fun wx=>wx.cell? ⟨G,0,none⟩=some (.slice ka kn kc)/\wx.cell? ⟨G,1,none⟩=some (.slice va vn vc)) (w3.setCell ⟨r,3,none⟩ (.slice a3 (M+1) c3))):=by
    have hne:G≠r:=HNE.o
    exact ⟨(World.cell?_of_block (heap_setCell_other _ _ _ _ hne)).trans HX3.o.1,(World.cell?_of_block (heap_setCell_other _ _ _ _ hne)).trans HX3.o.2⟩
   clear hHeld
   refine hK.out _ _ HX4.o (fun hHeld=>?_)
   clear hK K
   try simp only [Act.put,siT,scZ,scS]
   refine wpAnyH_done (by kernel_rfl) ?_ _
   refine NoPanic.normal ?_
   clear hHeld y3 f3
   generalize (w3.setCell ⟨r,3,none⟩ (.slice a3 (M+1) c3))=w4 at *
   obtain ⟨fv4,k1,k2⟩:=HP2.o.hx
   obtain ⟨fa4,fc4,rfl⟩:=k2.form
   have z3:w4.cell? ⟨r,3,none⟩=some (.slice fa4 (F++[it]).length fc4):=aAa k1
   have z2:w4.cell? ⟨r,2,none⟩=some (.int .i64 (most:Int)):=aAa k1
   rw [lA,hM',List.length_singleton] at z3
   have HLE:=zH (HLK.o.trans HLD.o |>.trans HP3.o)
   have HSZ:Hid (w1.heap.size<=w4.heap.size):=HP3.o.1.size
   clear k1 k2
   by_cases hmo:M+1<most
   ·have x5:((M+1:Nat):Int)<(most:Int):=by omega
    rw [if_pos hmo] at HSC
    go_wp2
    go_region
    go_wp2
    go_ret
    unfold TkR
    rw [HSC.o]
    refine ⟨?_,HP2.o.later (Below.refl _ _).drew (nT (nT HBB.o HBw.o) HSZ.o),HLE.o.trans (LkF.of (Below.refl _ _).drew (nT HBw.o HSZ.o))⟩
    simp
    omega
   ·have x5:¬ ((M+1:Nat):Int)<(most:Int):=by omega
    rw [if_neg hmo] at HSC
    go_wp2
    go_region
    go_wp2
    go_ret
    unfold TkR
    rw [HSC.o]
    refine ⟨?_,HP2.o.later (Below.refl _ _).drew (nT (nT HBB.o HBw.o) HSZ.o),HLE.o.trans (LkF.of (Below.refl _ _).drew (nT HBw.o HSZ.o))⟩
    simp
    omega
def LkI (B B1:Nat) (w:World) (r:Nat) (lv hv:Value) (lo hi:List Nat) (most:Nat) (F:List It) (all rest:List It) (wx:World):Prop :=
 ∃ Fj:List It,Fj.length<most/\scan hi most F all=scan hi most Fj rest/\SpV B B1 wx r lv hv lo hi most Fj/\LkF B1 w wx
theorem aCc {hi:List Nat} {most:Nat} {F a b:List It} (h:(scan hi most F a).2=true):scan hi most F (a++b)=scan hi most (scan hi most F a).1 b:=by rw [aHr,if_pos h]
theorem aCb {hi:List Nat} {most:Nat} {F a b:List It} (h:(scan hi most F a).2=false):scan hi most F (a++b)=scan hi most F a:=by rw [aHr,h];simp
theorem look_leaf [Gd] {B p q r:Nat} {s:DS} {t:PS} {w0 w:World} {lv hv:Value} {lo hi:List Nat} {most:Nat} (hST:ST B p q s t w0) (hB:B<=w0.heap.size) (hlf:s.life=t.life) (hdn:s.down=false) (hb:Below w0.heap.size w0 w) (b:BT 0) (hon:OnD s t 0 b) (F:List It) (hsp:SpV B w0.heap.size w r lv hv lo hi most F) (hF:F.length<most) (hmo:most<100000) :
  Calls Tryz.prog 61 #[.pointer (some ⟨r,0,none⟩),.pointer (some ⟨q,0,none⟩),.int .i64 (b.1:Int),.int .i64 1] w fun e w'=>TkR B w0.heap.size w r lv hv lo hi most F (frm b.2 lo) e w':=by
 obtain ⟨hpg,hit⟩:=hon
 have hBw:=nT hB hb.size
 have HLD:=zH (aBp b.1 (hST.later hb) hBw hlf hpg.lt (by rw [hpg.of];decide) hdn b.2 hpg.pg hit.n1 hit.n4 hit.ok hit.so hpg.ln hpg.bt)
 have HIT:=zH hit
 have HSP:=zH hsp
 have HB:=zH hB
 have HBw:=zH hBw
 have HS0:=zH hb.size
 have hl4:=hit.n4
 have HF:=zH hF
 have HMO:=zH hmo
 obtain ⟨la,lc,hlv,hlb⟩:=hsp.klo
 subst hlv
 have HLB:=zH hlb
 have HFD:=zH (frm_drop hit.so lo)
 have hfl:=aA1 b.2 lo
 clear hST hb hpg hit hsp hF hmo hlb hlf hdn hB hBw
 generalize hl:b.2=l at *
 generalize hLL:l.length=L at *
 generalize hFi:fndI l lo=Fi at *
 generalize hhb:hasI l lo=hb0 at *
 generalize hB1:w0.heap.size=B1 at *
 go_enter Tryz.func61,Tryz.ntmps61
 go_wp2_with fail
 refine HLD.o.mono ?_
 rintro e w1 ⟨v1,rfl,⟨gl,gi,rfl,z1,z2,z3,z4⟩,hb1⟩
 rw [hLL] at z3
 have HIO:=zH (aAq z3)
 have HBw1:Hid (B<=w1.heap.size):=nT HBw.o hb1.size
 have HSP1:=zH (HSP.o.later hb1 HBw.o)
 have HLK1:Hid (LkF B1 w w1):=LkF.of hb1 HS0.o
 have HFN:Hid (∀ ww,Below w1.heap.size w1 ww->Calls Tryz.prog 78 #[.slice (some ⟨gi,0,none⟩) L L,.slice la lo.length lc] ww fun e w'=>e=.returned (.tuple #[.int .i64 (Fi:Int),.bool hb0])/\Below ww.heap.size ww w'):=fun ww hbb=>by
  have:=find_ok (z4.later hbb HBw1.o) (nT HBw1.o hbb.size) ((HLB.o.later (hb1.trans (hbb.mono hb1.size)) HBw.o).1) (by omega) HIT.o.so hLL
  rw [hFi,hhb] at this
  exact this
 have r0:w1.cell? ⟨r,0,none⟩=some (.slice la lo.length lc):=HSP1.o.cellsx.1
 have HZ4:=zH z4
 clear z3 z4 hb1 HLD
 unfold lfP at HIO
 go_wp2_with fail
 refine HIO.o.mono ?_
 rintro e w2 ⟨rfl,rfl⟩
 go_wp2_with fail
 refine (HFN.o _ (Below.refl _ _)).mono ?_
 rintro e w3 ⟨rfl,hb3⟩
 have ta:=aAm (.pointer (some ⟨gl,0,none⟩)) w3
 have HSP3:=zH (HSP1.o.later hb3 HBw1.o)
 have HS1:Hid (B1<=w2.heap.size):=nT HS0.o HLK1.o.1.size
 have HLK3:Hid (LkF B1 w w3):=HLK1.o.trans (LkF.of hb3 HS1.o)
 have HIR3:=zH (HZ4.o.later hb3 HBw1.o)
 have HS3:Hid (B1<=w3.heap.size):=nT HS1.o hb3.size
 clear hb3 r0 HFN HIO HZ4
 go_wp2_with fail
 go_loopw [15] (fun i wx=>∃ j:Nat,Fi<=j/\j<=L+1/\i=.int .i64 j/\LkI B B1 w3 r (.slice la lo.length lc) hv lo hi most F (frm l lo) (l.drop j) wx) (fun i _=>L+1-(intOf i).toNat)
 case atStart=>exact ⟨Fi,nR _,by omega,rfl,F,HF.o,by rw [HFD.o],HSP3.o,LkF.refl _ _⟩
 case round =>
  obtain ⟨j,hj0,hj,rfl,hP⟩:=hrel
  obtain ⟨Fj,hFj,hsc,hsp,hlk⟩:=hP
  have HFj:=zH hFj
  have HSC:=zH hsc
  have HSPj:=zH hsp
  have HLKj:=zH hlk
  have HLKw:=zH (HLK3.o.trans hlk)
  clear hFj hsc hsp hlk
  by_cases hjn:j<L
  ·have x1:(j:Int)<=(L:Int):=by omega
   have x2:(j:Int)<(L:Int):=by omega
   have d2:decide ((j:Int)<(L:Int))=true:=by simp;omega
   obtain ⟨it,hitj⟩:∃ it,l[j]?=some it:=⟨_,gE (by omega)⟩
   obtain ⟨kf,vf,hg1,hg2⟩:=HIR3.o
   rw [hLL] at hg1
   have hgr:=HLKj.o.2 _ _ _ _ hg1 (by decide) (by decide)
   obtain ⟨hk1,hv1⟩:=hg2 j it hitj
   have hft:=HLKj.o.ft (HB.o)
   have hk1':=hk1.ft hft
   have hv1':=hv1.ft hft
   have y5:wr.cell? ⟨gi,j*2,none⟩=some (kf j):=by rw [aAa hgr,List.getElem?_toArray];exact aAt kf vf j L hjn
   have y6:wr.cell? ⟨gi,j*2+1,none⟩=some (vf j):=by rw [aAa hgr,List.getElem?_toArray];exact aA0 kf vf j L hjn
   have HTK:=zH (aD0 HSPj.o HB.o (nT HS3.o HLKj.o.1.size) (by have:=HFj.o;have:=HMO.o;omega) it hk1' hv1')
   obtain ⟨ka,kc,hka,hkk⟩:=hk1'
   obtain ⟨va,vc,hva,hvv⟩:=hv1'
   rw [hka] at y5 HTK
   rw [hva] at y6 HTK
   have hd:l.drop j=[it]++l.drop (j+1):=by
    rw [<-(List.getElem?_eq_some_iff.1 hitj).2]
    simp
   have HD:=zH hd
   generalize hkn:it.1.length=kn at *
   generalize hvn:it.2.length=vn at *
   clear hg1 hg2 hgr hk1 hv1 hft hkk hvv hka hva hd hitj ta
   cases hb0 with
   | false =>
    go_wp2_with fail
    refine HTK.o.mono ?_
    rintro e w5 ⟨rfl,hsp5,hlk5⟩
    have HSP5:=zH hsp5
    have HLK5:=zH hlk5
    clear hsp5 hlk5 y5 y6
    cases hsc2:(scan hi most Fj [it]).2 with
    | true =>
     have HSC2:=zH hsc2
     clear hsc2
     go_wp2_with fail
     go_roundw
     case rel =>
      refine ⟨j+1,by omega,by omega,by go_num,_,(((aCl hi most [it] Fj).2 HFj.o).2 HSC2.o),?_,HSP5.o,HLKj.o.trans HLK5.o⟩
      rw [HSC.o,HD.o,aCc HSC2.o]
     case measure=>simp [intOf];omega
    | false =>
     have HSC2:=zH hsc2
     clear hsc2
     go_wp2
     (try simp only [Exit.inBlock,Exit.then])
     go_ret
     have hq:scan hi most F (frm l lo)=scan hi most Fj [it]:=by rw [HSC.o,HD.o,aCb HSC2.o]
     unfold TkR
     rw [hq,HSC2.o]
     exact ⟨rfl,HSP5.o,HLKw.o.trans HLK5.o⟩
   | true =>
    go_wp2_with fail
    refine HTK.o.mono ?_
    rintro e w5 ⟨rfl,hsp5,hlk5⟩
    have HSP5:=zH hsp5
    have HLK5:=zH hlk5
    clear hsp5 hlk5 y5 y6
    cases hsc2:(scan hi most Fj [it]).2 with
    | true =>
     have HSC2:=zH hsc2
     clear hsc2
     go_wp2_with fail
     go_roundw
     case rel =>
      refine ⟨j+1,by omega,by omega,by go_num,_,(((aCl hi most [it] Fj).2 HFj.o).2 HSC2.o),?_,HSP5.o,HLKj.o.trans HLK5.o⟩
      rw [HSC.o,HD.o,aCc HSC2.o]
     case measure=>simp [intOf];omega
    | false =>
     have HSC2:=zH hsc2
     clear hsc2
     go_wp2
     (try simp only [Exit.inBlock,Exit.then])
     go_ret
     have hq:scan hi most F (frm l lo)=scan hi most Fj [it]:=by rw [HSC.o,HD.o,aCb HSC2.o]
     unfold TkR
     rw [hq,HSC2.o]
     exact ⟨rfl,HSP5.o,HLKw.o.trans HLK5.o⟩
  ·by_cases hje:j=L
   ·have x1:(j:Int)<=(L:Int):=by omega
    have x2:¬ (j:Int)<(L:Int):=by omega
    have d2:decide ((j:Int)<(L:Int))=false:=by simp;omega
    clear ta
    cases hb0 with
    | false =>
     go_wp2_with fail
     go_roundw
     case rel =>
      refine ⟨j+1,by omega,by omega,by go_num,Fj,HFj.o,?_,HSPj.o,HLKj.o⟩
      rw [HSC.o,List.drop_eq_nil_of_le (by omega),List.drop_eq_nil_of_le (by omega)]
     case measure=>simp [intOf];omega
    | true =>
     go_wp2_with fail
     go_roundw
     case rel =>
      refine ⟨j+1,by omega,by omega,by go_num,Fj,HFj.o,?_,HSPj.o,HLKj.o⟩
      rw [HSC.o,List.drop_eq_nil_of_le (by omega),List.drop_eq_nil_of_le (by omega)]
     case measure=>simp [intOf];omega
   ·have x1:¬ (j:Int)<=(L:Int):=by omega
    clear ta
    go_wp2
    (try simp only [Exit.inBlock,Exit.then])
    go_ret
    have hq:scan hi most F (frm l lo)=(Fj,true):=by
     rw [HSC.o,List.drop_eq_nil_of_le (by omega)]
     rfl
    unfold TkR
    rw [hq]
    exact ⟨rfl,HSPj.o,HLKw.o⟩
end Go.Proofs.YtfobcelkmopohaaGreat
