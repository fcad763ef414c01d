import Derived.Test.YtohgmapjokaibaaGreatZ38
import Derived.Defers
import Derived.Recover
set_option maxRecDepth 100000
set_option maxHeartbeats 16000000
set_option linter.unusedVariables false
namespace Go.Proofs.YtohgmapjokaibaaGreat
open Go.RowKit
theorem caught_idle (p:Addr) (w:World) :
  CallsD Tryz.prog 65 #[.pointer (some p)] .returning w fun e u' w'=>e=.returned (.tuple #[])∧u'=.returning∧w'=w:=by
 refine callsD_of_wpS Tryz.func65 rfl fun c₀ cs hu=>?_
 apply wpS_seq
 apply wpS_region
 simp [wpOpsS,go_sem,recoverD,hu,Tryz.ntmps65,Exit.thenS]
 refine wpS_cond (t:=false) (by simp [Act.eval,Array.replicate]) ?_
 simp only [Bool.false_eq_true,if_false]
 refine wpS_of_wp (wp_skip ?_)
 cases c₀
 simp_all [bodyPostS,results,Tryz.results65]
theorem aB6 {w:World} {fn:Nat} {cap:Array Value} {P:Int→World→Prop} (hcf:∀ ww:World,(callFunc fn cap).run Tryz.prog ww=.ok (.enter fn cap) ww)
  (hC:Calls Tryz.prog fn cap (w.alloc (.cells #[.int .i64 0] 29)) fun e w'=>∃ r:Int,e=.returned (.int .i64 r)∧P r w'∧w'.heap[w.heap.size]?=some (.cells #[.int .i64 0] 29 (0,0))) :
  Calls Tryz.prog 36 #[.func (Fn.func fn) #[] cap] w fun e w'=>∃ r w1,e=.returned (.int .i64 r)∧P r w1∧w'=w1.setCell ⟨w.heap.size,0,none⟩ (.int .i64 r):=by
 have hmf:∀ (fn:Fn) (first cap:Array Value) (w:World),(Instr.makeFunc fn first cap).run Tryz.prog w=.ok (.func fn first cap) w:=fun _ _ _ _=>rfl
 have HC:=hide hC
 clear hC
 go_enter_defers Tryz.func36,Tryz.ntmps36
 go_wp2_with fail
 refine HC.out.mono ?_
 rintro e w1 ⟨r,rfl,hp,hb⟩
 have HP:=hide hp
 have HB:=hide hb
 have c0:w1.cell? ⟨w.heap.size,0,none⟩=some (.int .i64 0):=aAa hb
 have f0:w1.frozen? ⟨w.heap.size,0,none⟩=false:=aAc hb
 clear hp hb
 go_wp2
 refine leaves_cons (f:=65) (args:=#[.pointer (some ⟨w.heap.size,0,none⟩)]) (by simp) (by simp [go_sem]) ?_
 refine (caught_idle ⟨w.heap.size,0,none⟩ _).mono ?_
 rintro e u' w'' ⟨rfl,rfl,rfl⟩
 have c1:(w1.setCell ⟨w.heap.size,0,none⟩ (.int .i64 r)).cell? ⟨w.heap.size,0,none⟩=some (.int .i64 r):=by
  rw [aAa (heap_setCell_same _ _ _ _ _ _ HB.out)]
  rfl
 simp only [Leaves,settle,results,Tryz.results36]
 exact ⟨.int .i64 r,by simp [go_sem,c1],r,w1,rfl,HP.out,rfl⟩
theorem put1_any {px kb vb:Nat} {w:World} {ka va:Option Addr} {kn kc vn vc:Nat} {P:World→Prop} (hk:w.cell? ⟨kb,0,none⟩=some (.slice ka kn kc)) (hv:w.cell? ⟨vb,0,none⟩=some (.slice va vn vc))
  (hP:Calls Tryz.prog 18 #[.pointer (some ⟨px,0,none⟩),.agg #[.slice ka kn kc,.slice va vn vc]] w fun e w'=>e=.returned (.bool true)∧P w') :
  Calls Tryz.prog 17 #[.pointer (some ⟨px,0,none⟩),.pointer (some ⟨kb,0,none⟩),.pointer (some ⟨vb,0,none⟩)] w fun e w'=>e=.returned (.bool true)∧P w':=by
 have HP:=hide hP
 clear hP
 go_enter Tryz.func17,Tryz.ntmps17
 go_wp2_with fail
 refine HP.out.mono ?_
 rintro e w1 ⟨rfl,hp⟩
 have HQ:=hide hp
 clear hp
 go_wp2
 go_ret
 exact ⟨rfl,HQ.out⟩
structure ChF [Gd] (B g:Nat) (w w':World):Prop where
 bel:Below B w w'
 stay:∀ (k:Nat) (cs:Array Value) (t:TypeId) (fz:Nat×Nat),w.heap[k]?=some (Obj.cells cs t fz)→NT t→k≠g→w'.heap[k]?=some (Obj.cells cs t fz)
 gd:GdK w w'
theorem Ex.gdk [Gd] {B g:Nat} {w w':World} {cs:Array Value} {t:TypeId} {fz:Nat×Nat} (h:Ex B [g] w w') (hg:w.heap[g]?=some (Obj.cells cs t fz)) (ht:¬ DTy t):GdK w w':=fun k _ hf=>h.2 k hf.lt (by simpa using hf.ne hg ht)
theorem FE.nt {B k:Nat} {w w':World} {cs:Array Value} {t:TypeId} {fz:Nat×Nat} (f:FE B w w') (e:w.heap[k]?=some (Obj.cells cs t fz)) (ht:NT t):w'.heap[k]?=some (Obj.cells cs t fz) :=
 f.2 k cs t fz e (fun q=>ht (by rw [q];decide)) (fun q=>ht (by rw [q];decide))
def ChR [Gd] (B p q g:Nat) (s:DS) (t:PS) (w:World) (now last:StT) (sv:Value) (d n:Int) (gone:List Nat) (h:Nat) (e:ED h) (w':World):Prop :=
 ∃ (b:BT h) (s':DS) (t':PS) (L:List Nat) (cs':Array Value),LdR h e b L∧Gw s t s' t' L∧ST B p q s' t' w'∧OnD s' t' h b∧w'.heap[g]?=some (.cells cs' 60 (0,0))∧TV cs' p q ⟨(BT.id b:Nat),d,n,L.foldl adP (gone.foldl drP now.pgs)⟩ last sv (cntF t'.st:Nat) false∧ChF B g w w'
theorem gw_lt {s s':DS} {t t':PS} {L:List Nat} (h:Gw s t s' t' L) (hl:t.st.length≤4096):∀ x∈L,x<4096:=by
 intro x hx
 have h1:=(h.new x hx).1
 apply Classical.byContradiction
 intro q
 rw [List.getD_eq_getElem?_getD,List.getElem?_eq_none (by omega)] at h1
 cases h1
end Go.Proofs.YtohgmapjokaibaaGreat
set_option linter.unusedVariables false
namespace Go.Proofs.YtohgmapjokaibaaGreat
theorem LdR.fl:∀ {h:Nat} {e:ED h} {b:BT h} {L:List Nat},LdR h e b L→flB h b=flE h e
 | 0,.inl t,b,L,⟨e,_⟩=>by subst e;rfl
 | 0,.inr l,b,L,⟨i,e,_⟩=>by subst e;rfl
 | h+1,.inl t,b,L,⟨e,_⟩=>by subst e;rfl
 | h+1,.inr x,b,L,⟨i,bs,Ls,e,_,h1,h2,h3⟩=>by
  subst e
  show weave x.1 (bs.map (flB h))=weave x.1 (x.2.map (flE h))
  congr 1
  apply List.ext_getElem?
  intro j
  rw [List.getElem?_map,List.getElem?_map]
  by_cases hj:j<x.2.length
  ·obtain ⟨k,hk⟩:∃ k,x.2[j]?=some k:=⟨_,gE hj⟩
   obtain ⟨bj,hb⟩:∃ bj,bs[j]?=some bj:=⟨_,gE (by omega)⟩
   obtain ⟨Lj,hL⟩:∃ Lj,Ls[j]?=some Lj:=⟨_,gE (by omega)⟩
   rw [hk,hb]
   exact congrArg some (LdR.fl (h3 j k bj Lj hk hb hL))
  ·rw [List.getElem?_eq_none (by omega),List.getElem?_eq_none (by omega)]
   rfl
theorem LdR.it:∀ {h:Nat} {e:ED h} {b:BT h} {L:List Nat},LdR h e b L→BT.it b=itE e
 | 0,.inl t,b,L,⟨e,_⟩=>by subst e;rfl
 | 0,.inr l,b,L,⟨i,e,_⟩=>by subst e;rfl
 | h+1,.inl t,b,L,⟨e,_⟩=>by subst e;rfl
 | h+1,.inr x,b,L,⟨i,bs,Ls,e,_,h1,h2,h3⟩=>by subst e;rfl
theorem ShB_old:∀ {h:Nat} (t:BT h),ShE h 4 (old t)→ShB h t
 | 0,_,h=>h
 | h+1,t,⟨h1,h2,h3⟩=>by
  have h2':(t.2.2.map old).length=t.2.1.length+1:=h2
  rw [List.length_map] at h2'
  refine ⟨h1,h2',fun k hk=>?_⟩
  have h4:=h3 (old k) (show old k∈t.2.2.map old from List.mem_map_of_mem hk)
  rw [aCd] at h4
  exact ⟨ShB_old k h4.1,h4.2⟩
theorem LdR.sh:∀ {h:Nat} {e:ED h} {b:BT h} {L:List Nat},LdR h e b L→ShE h 4 e→ShB h b
 | 0,.inl t,b,L,⟨e,_⟩,hs=>by subst e;exact hs
 | 0,.inr l,b,L,⟨i,e,_⟩,hs=>by subst e;exact hs
 | h+1,.inl t,b,L,⟨e,_⟩,hs=>by subst e;exact ShB_old _ hs
 | h+1,.inr x,b,L,⟨i,bs,Ls,e,_,h1,h2,h3⟩,⟨s1,s2,s3⟩=>by
  subst e
  refine ⟨s1,h1.trans s2,fun k hk=>?_⟩
  obtain ⟨j,hj⟩:=List.getElem?_of_mem hk
  have hjl:j<x.2.length:=by rw [←h1];exact (lL hj)
  obtain ⟨c,hc⟩:∃ c,x.2[j]?=some c:=⟨_,gE hjl⟩
  obtain ⟨Lj,hL⟩:∃ Lj,Ls[j]?=some Lj:=⟨_,gE (by omega)⟩
  have h4:=h3 j c k Lj hc hj hL
  have h5:=s3 c (mG hc)
  rw [h4.it]
  exact ⟨h4.sh h5.1,h5.2⟩
end Go.Proofs.YtohgmapjokaibaaGreat
set_option linter.unusedVariables false
namespace Go.Proofs.YtohgmapjokaibaaGreat
def OldOn (s:DS) (t:PS):(h:Nat)→ED h→Prop
 | 0,.inl b=>OnD s t 0 b
 | 0,.inr _=>True
 | h+1,.inl b=>OnD s t (h+1) b
 | h+1,.inr x=>∀ k∈x.2,OldOn s t h k
theorem aCk:∀ (l:List It) (c:List (List It)),c.length=l.length+1→l.Sublist (weave l c)
 | l,[],h=>by simp at h
 | [],c::_,_=>List.nil_sublist _
 | x::l,c::cs,h=>by
  show (x::l).Sublist (c++x::weave l cs)
  exact List.Sublist.trans (List.Sublist.cons_cons x (aCk l cs (by simpa using h))) (List.sublist_append_right c _)
theorem aCx:∀ (l:List It) (c:List (List It)) (k:List It),c.length=l.length+1→k∈c→k.Sublist (weave l c)
 | l,[],k,_,hk=>by simp at hk
 | [],[c],k,_,hk=>by
  simp only [List.mem_singleton] at hk
  subst hk
  exact List.Sublist.refl _
 | [],_::_::_,k,h,_=>by simp at h
 | x::l,c::cs,k,h,hk=>by
  show k.Sublist (c++x::weave l cs)
  rcases List.mem_cons.1 hk with hk | hk
  ·subst hk
   exact List.sublist_append_left _ _
  ·exact List.Sublist.trans (List.Sublist.cons x (aCx l cs k (by simpa using h) hk)) (List.sublist_append_right c _)
theorem OnE.of {s:DS} {t:PS}:∀ {h:Nat} {e:ED h},OldOn s t h e→ShE h 4 e→Srt (flE h e)→(∀ x∈flE h e,ItOk x)→1≤(itE e).length→OnE s t h e
 | 0,.inl b,ho,_,_,_,_=>ho
 | 0,.inr l,_,hs,hr,hi,h1=>⟨h1,hs,hi,hr⟩
 | h+1,.inl b,ho,_,_,_,_=>ho
 | h+1,.inr x,ho,⟨s1,s2,s3⟩,hr,hi,h1=>by
  have hl:(x.2.map (flE h)).length=x.1.length+1:=by rw [List.length_map];exact s2
  have e1:=aCk x.1 (x.2.map (flE h)) hl
  refine ⟨⟨h1,s1,fun y hy=>hi y (e1.subset hy),hr.sublist e1⟩,s2,fun k hk=>?_⟩
  have e2:=aCx x.1 (x.2.map (flE h)) (flE h k) hl (List.mem_map_of_mem hk)
  exact OnE.of (ho k hk) (s3 k hk).1 (hr.sublist e2) (fun y hy=>hi y (e2.subset hy)) (nT (by omega) (s3 k hk).2)
end Go.Proofs.YtohgmapjokaibaaGreat
set_option linter.unusedVariables false
namespace Go.Proofs.YtohgmapjokaibaaGreat
section
variable {s:DS} {t:PS}
theorem OldOn.old:∀ {h:Nat} {b:BT h},OnD s t h b→OldOn s t h (old b)
 | 0,_,hb=>hb
 | _+1,_,hb=>hb
theorem OldOn.kids:∀ {h:Nat} {e:ED (h+1)},OldOn s t (h+1) e→∀ k∈(opS e).2,OldOn s t h k
 | h,.inl b,ho,k,hk=>by
  obtain ⟨_,_,_,_,h5⟩:=ho
  obtain ⟨x,hx,rfl⟩:=List.mem_map.1 (show k∈b.2.2.map _ from hk)
  exact OldOn.old (h5 x hx)
 | h,.inr x,ho,k,hk=>ho k hk
theorem OldOn.lef:∀ {h:Nat} {e:ED h},OldOn s t h e→OldOn s t h (lefE e)
 | 0,_,_=>trivial
 | _+1,e,ho=>fun k hk=>ho.kids k (List.mem_of_mem_take hk)
theorem OldOn.rig:∀ {h:Nat} {e:ED h},OldOn s t h e→OldOn s t h (rigE e)
 | 0,_,_=>trivial
 | _+1,e,ho=>fun k hk=>ho.kids k (List.mem_of_mem_drop hk)
theorem OldOn.setl {h:Nat} {l:List It} {c:List (ED h)} {i:Nat} (hc:∀ k∈c,OldOn s t h k):∀ k∈(setl l c i).2,OldOn s t h k:=by
 unfold Go.Proofs.YtohgmapjokaibaaGreat.setl
 cases hi:c[i]? with
 | none=>exact hc
 | some e =>
  have he:=hc e (mG hi)
  show ∀ k∈(if 4<(itE e).length then (l.take i++midE e::l.drop i,c.take i++lefE e::rigE e::c.drop (i+1)) else (l,c)).2,OldOn s t h k
  by_cases h4:4<(itE e).length
  ·rw [if_pos h4]
   intro k hk
   rcases List.mem_append.1 hk with hk | hk
   ·exact hc k (List.mem_of_mem_take hk)
   ·rcases List.mem_cons.1 hk with hk | hk
    ·subst hk;exact he.lef
    ·rcases List.mem_cons.1 hk with hk | hk
     ·subst hk;exact he.rig
     ·exact hc k (List.mem_of_mem_drop hk)
  ·rw [if_neg h4]
   exact hc
theorem OldOn.put:∀ {h:Nat} {e:ED h} (it:It),OldOn s t h e→OldOn s t h (putE h e it)
 | 0,_,_,_=>trivial
 | h+1,e,it,ho=>by
  by_cases c:hasI (opS e).1 it.1=true
  ·rw [aBm c]
   exact ho.kids
  ·cases hk:(opS e).2[fndI (opS e).1 it.1]? with
   | some k =>
    rw [aCb c hk]
    refine OldOn.setl fun k' hk'=>?_
    rcases List.mem_or_eq_of_mem_set hk' with q | q
    ·exact ho.kids k' q
    ·subst q
     exact OldOn.put it (ho.kids k (mG hk))
   | none =>
    have e1:putE (h+1) e it=Sum.inr (opS e):=(if_neg c).trans (by rw [hk])
    rw [e1]
    exact ho.kids
theorem OldOn.root {h:Nat} {e:ED h} (ho:OldOn s t h e):OldOn s t (rootE h e).1 (rootE h e).2:=by
 unfold rootE
 by_cases c:4<(itE e).length
 ·rw [if_pos c]
  intro k hk
  have hk:k∈[lefE e,rigE e]:=hk
  simp only [List.mem_cons,List.not_mem_nil,or_false] at hk
  rcases hk with hk | hk
  ·subst hk;exact ho.lef
  ·subst hk;exact ho.rig
 ·rw [if_neg c]
  exact ho
end
end Go.Proofs.YtohgmapjokaibaaGreat
set_option linter.unusedVariables false
namespace Go.Proofs.YtohgmapjokaibaaGreat
theorem aFl {α:Type} (f:α→Nat):∀ (c:List α) (i:Nat) (k:α),((c.set i k).map f).sum≤(c.map f).sum+f k
 | [],_,_=>by simp
 | a::c,0,k=>by simp;omega
 | a::c,i+1,k=>by
  have:=aFl f c i k
  simp only [List.set_cons_succ,List.map_cons,List.sum_cons]
  omega
theorem fr_old:∀ {h:Nat} (b:BT h),frE h (old b)=0
 | 0,_=>rfl
 | _+1,_=>rfl
theorem aFm {h:Nat}:∀ (c:List (BT h)),((c.map old).map (frE h)).sum=0
 | []=>rfl
 | b::c=>by
  rw [List.map_cons,List.map_cons,List.sum_cons,fr_old,aFm c]
theorem fr_halves:∀ {h:Nat} {e:ED h},1≤frE h e→frE h (lefE e)+frE h (rigE e)≤frE h e+1
 | 0,.inl _,h=>by simp [frE] at h
 | 0,.inr _,_=>nR _
 | h+1,.inl _,hh=>by simp [frE] at hh
 | h+1,.inr x,_=>by
  show (1+((x.2.take (x.1.length / 2+1)).map (frE h)).sum)+(1+((x.2.drop (x.1.length / 2+1)).map (frE h)).sum)≤(1+(x.2.map (frE h)).sum)+1
  have e:(x.2.map (frE h)).sum=((x.2.take (x.1.length / 2+1)).map (frE h)).sum+((x.2.drop (x.1.length / 2+1)).map (frE h)).sum:=by
   conv=>lhs;rw [←List.take_append_drop (x.1.length / 2+1) x.2]
   rw [List.map_append,List.sum_append]
  omega
theorem aDg {h:Nat} {l:List It} {c:List (ED h)} {i:Nat} (hc:∀ e,c[i]?=some e→1≤frE h e):((setl l c i).2.map (frE h)).sum≤(c.map (frE h)).sum+1:=by
 unfold setl
 cases hi:c[i]? with
 | none=>exact Nat.le_succ _
 | some e =>
  show ((if 4<(itE e).length then (l.take i++midE e::l.drop i,c.take i++lefE e::rigE e::c.drop (i+1)) else (l,c)).2.map (frE h)).sum≤_
  by_cases h4:4<(itE e).length
  ·rw [if_pos h4]
   have h1:=fr_halves (hc e hi)
   conv=>rhs;rw [aAh hi]
   simp only [List.map_append,List.sum_append,List.map_cons,List.sum_cons]
   omega
  ·rw [if_neg h4]
   exact Nat.le_succ _
theorem fr_new:∀ {h:Nat} (e:ED h) (it:It),1≤frE h (putE h e it)
 | 0,_,_=>nR _
 | h+1,e,it=>by
  by_cases c:hasI (opS e).1 it.1=true
  ·rw [aBm c]
   exact Nat.le_add_right _ _
  ·cases hk:(opS e).2[fndI (opS e).1 it.1]? with
   | some k=>rw [aCb c hk];exact Nat.le_add_right _ _
   | none =>
    have e1:putE (h+1) e it=Sum.inr (opS e):=(if_neg c).trans (by rw [hk])
    rw [e1];exact Nat.le_add_right _ _
theorem fr_put:∀ {h:Nat} (b:BT h) (it:It),frE h (putE h (old b) it)≤2*h+1
 | 0,_,_=>nR _
 | h+1,b,it=>by
  have hk0:((opS (old b)).2.map (frE h)).sum=0:=aFm b.2.2
  by_cases c:hasI (opS (old b)).1 it.1=true
  ·rw [aBm c]
   show 1+((opS (old b)).2.map (frE h)).sum≤_
   omega
  ·cases hk:(opS (old b)).2[fndI (opS (old b)).1 it.1]? with
   | some k =>
    rw [aCb c hk]
    obtain ⟨kb,_,rfl⟩:=List.mem_map.1 (show k∈b.2.2.map old from mG hk)
    have h1:=fr_put kb it
    have h2:=aFl (frE h) (opS (old b)).2 (fndI (opS (old b)).1 it.1) (putE h (old kb) it)
    have h3:=aDg (l:=(opS (old b)).1) (c:=(opS (old b)).2.set (fndI (opS (old b)).1 it.1) (putE h (old kb) it)) (i:=fndI (opS (old b)).1 it.1) fun e he=>by
     rw [List.getElem?_set_self (lL hk)] at he
     simp only [oI] at he
     subst he
     exact fr_new _ _
    show 1+((setl (opS (old b)).1 ((opS (old b)).2.set (fndI (opS (old b)).1 it.1) (putE h (old kb) it)) (fndI (opS (old b)).1 it.1)).2.map (frE h)).sum≤_
    omega
   | none =>
    have e1:putE (h+1) (old b) it=Sum.inr (opS (old b)):=(if_neg c).trans (by rw [hk])
    rw [e1]
    show 1+((opS (old b)).2.map (frE h)).sum≤_
    omega
theorem OnD.pth {s:DS} {t:PS}:∀ {h:Nat} {b:BT h} (k:List Nat),OnD s t h b→∀ x∈pthB h b k,x<s.n
 | 0,b,k,hb,x,hx=>by
  simp only [pthB,List.mem_singleton] at hx
  subst hx
  exact hb.1.lt
 | h+1,b,k,⟨h1,h2,h3,h4,h5⟩,x,hx=>by
  rcases List.mem_cons.1 hx with hx | hx
  ·subst hx
   exact h1.lt
  ·by_cases c:hasI b.2.1 k=true
   ·rw [if_pos c] at hx
    simp at hx
   ·rw [if_neg c] at hx
    cases hc:b.2.2[fndI b.2.1 k]? with
    | none=>rw [hc] at hx;simp at hx
    | some d =>
     rw [hc] at hx
     exact OnD.pth k (h5 d (mG hc)) x hx
theorem pth_len:∀ {h:Nat} (b:BT h) (k:List Nat),(pthB h b k).length≤h+1
 | 0,_,_=>nR _
 | h+1,b,k=>by
  show (if hasI b.2.1 k then [] else match b.2.2[fndI b.2.1 k]? with
   | some c=>pthB h c k
   | none=>[]).length+1≤_
  by_cases c:hasI b.2.1 k=true
  ·rw [if_pos c]
   simp
  ·rw [if_neg c]
   cases hc:b.2.2[fndI b.2.1 k]? with
   | none=>simp
   | some d=>have:=pth_len d k;simp only;omega
theorem fr_root {h:Nat} {e:ED h} (he:1≤frE h e):frE (rootE h e).1 (rootE h e).2≤frE h e+2:=by
 unfold rootE
 by_cases c:4<(itE e).length
 ·rw [if_pos c]
  show 1+([lefE e,rigE e].map (frE h)).sum≤_
  have:=fr_halves he
  simp only [List.map_cons,List.map_nil,List.sum_cons,List.sum_nil]
  omega
 ·rw [if_neg c]
  exact Nat.le_add_right _ _
end Go.Proofs.YtohgmapjokaibaaGreat
set_option linter.unusedVariables false
namespace Go.Proofs.YtohgmapjokaibaaGreat
def pgB:(h:Nat)→BT h→List Nat
 | 0,b=>[b.1]
 | h+1,b=>b.1::(b.2.2.map (pgB h)).flatten
def olP:(h:Nat)→ED h→List Nat
 | 0,.inl b=>[b.1]
 | 0,.inr _=>[]
 | h+1,.inl b=>pgB (h+1) b
 | h+1,.inr x=>(x.2.map (olP h)).flatten
theorem olP_old:∀ {h:Nat} (b:BT h),olP h (old b)=pgB h b
 | 0,_=>rfl
 | _+1,_=>rfl
theorem aD1 {h:Nat}:∀ (c:List (BT h)),(c.map old).map (olP h)=c.map (pgB h)
 | []=>rfl
 | b::c=>by rw [List.map_cons,List.map_cons,List.map_cons,olP_old,aD1 c]
theorem flat_perm:∀ (A B C:List (List Nat)),B.length=A.length→C.length=A.length→(∀ (j:Nat) a b c,A[j]?=some a→B[j]?=some b→C[j]?=some c→a.Perm (b++c))→A.flatten.Perm (B.flatten++C.flatten)
 | [],[],[],_,_,_=>List.Perm.refl _
 | [],_::_,_,h,_,_=>by simp at h
 | [],[],_::_,_,h,_=>by simp at h
 | _::_,[],_,h,_,_=>by simp at h
 | _::_,_::_,[],_,h,_=>by simp at h
 | a::A,b::B,c::C,h1,h2,h3=>by
  have e1:=h3 0 a b c rfl rfl rfl
  have e2:=flat_perm A B C (by simpa using h1) (by simpa using h2) fun j x y z p q r=>h3 (j+1) x y z (by simpa using p) (by simpa using q) (by simpa using r)
  rw [List.perm_iff_count] at e1 e2 ⊢
  intro x
  have f1:=e1 x
  have f2:=e2 x
  simp only [List.flatten_cons,List.count_append] at f1 f2 ⊢
  omega
theorem LdR.pg:∀ {h:Nat} {e:ED h} {b:BT h} {L:List Nat},LdR h e b L→(pgB h b).Perm (L++olP h e)
 | 0,.inl t,b,L,⟨e,e2⟩=>by subst e;subst e2;exact List.Perm.refl _
 | 0,.inr l,b,L,⟨i,e,e2⟩=>by subst e;subst e2;exact List.Perm.refl _
 | h+1,.inl t,b,L,⟨e,e2⟩=>by subst e;subst e2;exact List.Perm.refl _
 | h+1,.inr x,b,L,⟨i,bs,Ls,e,e2,h1,h2,h3⟩=>by
  subst e
  subst e2
  show (i::(bs.map (pgB h)).flatten).Perm ((Ls.flatten++[i])++(x.2.map (olP h)).flatten)
  have hp:=flat_perm (bs.map (pgB h)) Ls (x.2.map (olP h)) (by simp;omega) (by simp;omega) fun j a b c p q r=>by
   rw [List.getElem?_map] at p r
   obtain ⟨bj,hb,rfl⟩:=Option.map_eq_some_iff.1 p
   obtain ⟨k,hk,rfl⟩:=Option.map_eq_some_iff.1 r
   exact LdR.pg (h3 j k bj b hk hb q)
  rw [List.perm_iff_count] at hp ⊢
  intro y
  have f:=hp y
  simp only [List.count_append,List.count_cons,List.count_nil] at f ⊢
  omega
theorem aGr:∀ {h:Nat} {e:ED h},isNew e→olP h (lefE e)++olP h (rigE e)=olP h e
 | 0,.inr _,_=>rfl
 | h+1,.inr x,_=>by
  show ((x.2.take (x.1.length / 2+1)).map (olP h)).flatten++((x.2.drop (x.1.length / 2+1)).map (olP h)).flatten=(x.2.map (olP h)).flatten
  rw [←List.flatten_append,←List.map_append,List.take_append_drop]
theorem aHr {h:Nat} {l:List It} {c:List (ED h)} {i:Nat} (hc:∀ e,c[i]?=some e→isNew e):((setl l c i).2.map (olP h)).flatten=(c.map (olP h)).flatten:=by
 unfold setl
 cases hi:c[i]? with
 | none=>rfl
 | some e =>
  show ((if 4<(itE e).length then (l.take i++midE e::l.drop i,c.take i++lefE e::rigE e::c.drop (i+1)) else (l,c)).2.map (olP h)).flatten=_
  by_cases h4:4<(itE e).length
  ·rw [if_pos h4]
   conv=>rhs;rw [aAh hi]
   simp only [List.map_append,List.flatten_append,List.map_cons,List.flatten_cons]
   rw [←aGr (hc e hi),List.append_assoc]
  ·rw [if_neg h4]
theorem olP_root {h:Nat} {e:ED h} (he:isNew e):olP (rootE h e).1 (rootE h e).2=olP h e:=by
 unfold rootE
 by_cases c:4<(itE e).length
 ·rw [if_pos c]
  show ([lefE e,rigE e].map (olP h)).flatten=_
  rw [←aGr he]
  simp
 ·rw [if_neg c]
theorem aGw:∀ {h:Nat} (e:ED h) (it:It),isNew (putE h e it)
 | 0,_,_=>trivial
 | h+1,e,it=>by
  by_cases c:hasI (opS e).1 it.1=true
  ·rw [aBm c];trivial
  ·cases hk:(opS e).2[fndI (opS e).1 it.1]? with
   | some k=>rw [aCb c hk];trivial
   | none =>
    have e1:putE (h+1) e it=Sum.inr (opS e):=(if_neg c).trans (by rw [hk])
    rw [e1];trivial
theorem pg_put:∀ {h:Nat} (b:BT h) (it:It),ShB h b→(pgB h b).Perm (pthB h b it.1++olP h (putE h (old b) it))
 | 0,b,it,_=>List.Perm.refl _
 | h+1,b,it,⟨s1,s2,s3⟩=>by
  by_cases c:hasI (opS (old b)).1 it.1=true
  ·rw [aBm c]
   have c':hasI b.2.1 it.1=true:=c
   show (b.1::(b.2.2.map (pgB h)).flatten).Perm ((b.1::if hasI b.2.1 it.1 then [] else match b.2.2[fndI b.2.1 it.1]? with
    | some c=>pthB h c it.1
    | none=>[])++((b.2.2.map old).map (olP h)).flatten)
   rw [if_pos c',aD1]
   exact List.Perm.refl _
  ·have c':¬ hasI b.2.1 it.1=true:=c
   have hlt:fndI b.2.1 it.1<b.2.2.length:=by have:=aA1 b.2.1 it.1;omega
   obtain ⟨kb,hkb⟩:∃ kb,b.2.2[fndI b.2.1 it.1]?=some kb:=⟨_,gE hlt⟩
   have hk:(opS (old b)).2[fndI (opS (old b)).1 it.1]?=some (old kb):=by
    show (b.2.2.map old)[fndI b.2.1 it.1]?=_
    rw [List.getElem?_map,hkb];rfl
   rw [aCb c hk]
   show (b.1::(b.2.2.map (pgB h)).flatten).Perm ((b.1::if hasI b.2.1 it.1 then [] else match b.2.2[fndI b.2.1 it.1]? with
    | some c=>pthB h c it.1
    | none=>[])++((setl b.2.1 ((b.2.2.map old).set (fndI b.2.1 it.1) (putE h (old kb) it)) (fndI b.2.1 it.1)).2.map (olP h)).flatten)
   rw [if_neg c',hkb]
   simp only
   rw [aHr (c:=(b.2.2.map old).set (fndI b.2.1 it.1) (putE h (old kb) it)) fun e he=>by
    rw [List.getElem?_set_self (by simpa using hlt)] at he
    simp only [oI] at he
    subst he
    exact aGw _ _]
   have ih:=pg_put kb it (s3 kb (mG hkb)).1
   have e1:(b.2.2.map (pgB h)).flatten=((b.2.2.take (fndI b.2.1 it.1)).map (pgB h)).flatten++(pgB h kb++((b.2.2.drop (fndI b.2.1 it.1+1)).map (pgB h)).flatten):=by
    conv=>lhs;rw [aAh hkb]
    simp only [List.map_append,List.flatten_append,List.map_cons,List.flatten_cons]
   have e2:(((b.2.2.map old).set (fndI b.2.1 it.1) (putE h (old kb) it)).map (olP h)).flatten=((b.2.2.take (fndI b.2.1 it.1)).map (pgB h)).flatten++(olP h (putE h (old kb) it)++((b.2.2.drop (fndI b.2.1 it.1+1)).map (pgB h)).flatten):=by
    rw [List.set_eq_take_append_cons_drop,if_pos (by simpa using hlt),←List.map_take,←List.map_drop]
    simp only [List.map_append,List.flatten_append,List.map_cons,List.flatten_cons]
    rw [aD1,aD1]
   rw [e1,e2]
   rw [List.perm_iff_count] at ih ⊢
   intro y
   have f:=ih y
   simp only [List.cons_append,List.count_append,List.count_cons] at f ⊢
   omega
theorem aBz:∀ (l:List It) (c:List (List It)),c.length=l.length+1→(weave l c).length=l.length+(c.map List.length).sum
 | [],[c],_=>by simp [weave]
 | [],[],h=>by simp at h
 | [],_::_::_,h=>by simp at h
 | x::l,[],h=>by simp at h
 | x::l,c::cs,h=>by
  have:=aBz l cs (by simpa using h)
  simp only [weave,lA,List.length_cons,List.map_cons,List.sum_cons,this]
  omega
theorem aHl (l:List It) (it:It):(putL l it).length=l.length+(if hasI l it.1 then 0 else 1):=by
 have:=aA1 l it.1
 unfold putL
 by_cases c:hasI l it.1=true
 ·rw [if_pos c,if_pos c];simp
 ·rw [if_neg c,if_neg c];simp;omega
theorem len_put:∀ {h:Nat} (b:BT h) (it:It),ShB h b→(flE h (putE h (old b) it)).length=(flB h b).length+(if nwB h b it.1 then 1 else 0)
 | 0,b,it,_=>by
  show (putL b.2 it).length=b.2.length+(if !hasI b.2 it.1 then 1 else 0)
  rw [aHl]
  cases hasI b.2 it.1<;>rfl
 | h+1,b,it,hs=>by
  obtain ⟨s1,s2,s3⟩:=hs
  have hw:(flB (h+1) b).length=b.2.1.length+((b.2.2.map (flB h)).map List.length).sum:=aBz _ _ (by rw [List.length_map];exact s2)
  by_cases c:hasI (opS (old b)).1 it.1=true
  ·rw [aBm c]
   have c':hasI b.2.1 it.1=true:=c
   have e0:nwB (h+1) b it.1=false:=if_pos c'
   rw [e0]
   show (weave (b.2.1.set (fndI b.2.1 it.1) it) ((b.2.2.map old).map (flE h))).length=_
   rw [aBz _ _ (by simp;omega),hw,List.length_set]
   have:(b.2.2.map old).map (flE h)=b.2.2.map (flB h):=by
    rw [List.map_map];congr 1;funext x;exact aBv x
   rw [this]
   simp
  ·have c':¬ hasI b.2.1 it.1=true:=c
   have hlt:fndI b.2.1 it.1<b.2.2.length:=by have:=aA1 b.2.1 it.1;omega
   obtain ⟨kb,hkb⟩:∃ kb,b.2.2[fndI b.2.1 it.1]?=some kb:=⟨_,gE hlt⟩
   have hk:(opS (old b)).2[fndI (opS (old b)).1 it.1]?=some (old kb):=by
    show (b.2.2.map old)[fndI b.2.1 it.1]?=_
    rw [List.getElem?_map,hkb];rfl
   have e0:nwB (h+1) b it.1=nwB h kb it.1:=(if_neg c').trans (by rw [hkb])
   rw [e0,aCb c hk]
   show (weave (setl b.2.1 ((b.2.2.map old).set (fndI b.2.1 it.1) (putE h (old kb) it)) (fndI b.2.1 it.1)).1 ((setl b.2.1 ((b.2.2.map old).set (fndI b.2.1 it.1) (putE h (old kb) it)) (fndI b.2.1 it.1)).2.map (flE h))).length=_
   have hsk:=s3 kb (mG hkb)
   rw [fl_setl _ _ _ (by simpa using s2) fun k he=>by
    rw [List.getElem?_set_self (by simpa using hlt)] at he
    simp only [oI] at he
    subst he
    exact aG9 _ _ (aBg _ hsk.1)]
   have ih:=len_put kb it hsk.1
   rw [aBz _ _ (by simp;omega),hw]
   have e1:(b.2.2.map (flB h)).map List.length=((b.2.2.take (fndI b.2.1 it.1)).map (flB h)).map List.length++(flB h kb).length::((b.2.2.drop (fndI b.2.1 it.1+1)).map (flB h)).map List.length:=by
    conv=>lhs;rw [aAh hkb]
    simp only [List.map_append,List.map_cons]
   have eo:∀ (d:List (BT h)),(d.map old).map (flE h)=d.map (flB h):=fun d=>by
    rw [List.map_map];congr 1;funext x;exact aBv x
   have e2:(((b.2.2.map old).set (fndI b.2.1 it.1) (putE h (old kb) it)).map (flE h)).map List.length=((b.2.2.take (fndI b.2.1 it.1)).map (flB h)).map List.length++(flE h (putE h (old kb) it)).length::((b.2.2.drop (fndI b.2.1 it.1+1)).map (flB h)).map List.length:=by
    rw [List.set_eq_take_append_cons_drop,if_pos (by simpa using hlt),←List.map_take,←List.map_drop]
    simp only [List.map_append,List.map_cons]
    rw [eo,eo]
   rw [e1,e2,ih]
   simp only [List.sum_append,List.sum_cons]
   omega
theorem hs_fold:∀ (gone:List Nat) (ps:List Nat) (j:Nat),ps.length=64→(∀ x∈gone,x<4096)→hsP (gone.foldl drP ps) j=(hsP ps j && !decide (j∈gone))∧(gone.foldl drP ps).length=64
 | [],ps,j,h,_=>by simp [h]
 | x::g,ps,j,h,hx=>by
  have e:=hs_fold g (drP ps x) j ((drP_len _ _).trans h) fun y hy=>hx y (List.mem_cons_of_mem _ hy)
  refine ⟨?_,e.2⟩
  rw [List.foldl_cons,e.1,hs_dr h (hx x List.mem_cons_self)]
  by_cases c1:j=x<;>by_cases c2:j∈g<;>simp [c1,c2]
theorem aHv:∀ (L:List Nat) (ps:List Nat) (j:Nat),ps.length=64→(∀ x∈L,x<4096)→hsP (L.foldl adP ps) j=(hsP ps j || decide (j∈L))∧(L.foldl adP ps).length=64
 | [],ps,j,h,_=>by simp [h]
 | x::g,ps,j,h,hx=>by
  have e:=aHv g (adP ps x) j ((adP_len _ _).trans h) fun y hy=>hx y (List.mem_cons_of_mem _ hy)
  refine ⟨?_,e.2⟩
  rw [List.foldl_cons,e.1,hs_ad h (hx x List.mem_cons_self)]
  by_cases c1:j=x<;>by_cases c2:j∈g<;>simp [c1,c2]
def PgS (ps:List Nat) (l:List Nat):Prop:=ps.length=64∧l.Nodup∧(∀ x∈l,x<4096)∧∀ j,hsP ps j=decide (j∈l)
theorem PgS.step {ps l gone old L l':List Nat} (h:PgS ps l) (h1:l.Perm (gone++old)) (h2:l'.Perm (L++old)) (hL:L.Nodup) (hL4:∀ x∈L,x<4096) (hd:∀ x∈L,x∉l):PgS (L.foldl adP (gone.foldl drP ps)) l':=by
 obtain ⟨a1,a2,a3,a4⟩:=h
 have hg4:∀ x∈gone,x<4096:=fun x hx=>a3 x (h1.mem_iff.2 (List.mem_append_left _ hx))
 have hnd:=h1.nodup a2
 obtain ⟨n1,n2,n3⟩:=List.nodup_append.1 hnd
 have hold:∀ x,x∈old→x∈l:=fun x hx=>h1.mem_iff.2 (List.mem_append_right _ hx)
 have e1:=fun j=>hs_fold gone ps j a1 hg4
 have e2:=fun j=>aHv L (gone.foldl drP ps) j (e1 0).2 hL4
 refine ⟨(e2 0).2,?_,fun x hx=>?_,fun j=>?_⟩
 ·refine h2.symm.nodup (List.nodup_append.2 ⟨hL,n2,fun a ha b hb=>?_⟩)
  rintro rfl
  exact hd a ha (hold a hb)
 ·rcases List.mem_append.1 (h2.mem_iff.1 hx) with q | q
  ·exact hL4 x q
  ·exact a3 x (hold x q)
 ·rw [(e2 j).1,(e1 j).1,a4 j,Bool.eq_iff_iff]
  simp only [Bool.or_eq_true,Bool.and_eq_true,Bool.not_eq_true',decide_eq_true_eq,decide_eq_false_iff_not]
  rw [h2.mem_iff,h1.mem_iff,List.mem_append,List.mem_append]
  constructor
  ·rintro (⟨q | q,r⟩ | q)
   ·exact absurd q r
   ·exact Or.inr q
   ·exact Or.inl q
  ·rintro (q | q)
   ·exact Or.inr q
   ·exact Or.inl ⟨Or.inr q,fun r=>n3 j r j q rfl⟩
end Go.Proofs.YtohgmapjokaibaaGreat
set_option linter.unusedVariables false
namespace Go.Proofs.YtohgmapjokaibaaGreat
def gn1:{h:Nat}→ED h→List Nat
 | 0,.inl t=>[t.1]
 | 0,.inr _=>[]
 | _+1,.inl t=>[t.1]
 | _+1,.inr _=>[]
def gnO {h:Nat}:Option (ED h)→List Nat
 | some e=>gn1 e
 | none=>[]
def gnS {h:Nat} (c:List (ED h)) (i:Nat):List Nat :=
 match c[i]? with
 | some e=>if (itE e).length<2 then gnO c[i-1]?++gnO c[i-1+1]? else []
 | none=>[]
def gnW:(h:Nat)→ED h→List Nat
 | 0,e=>gn1 e
 | h+1,e=>gn1 e++match (opS e).2[(opS e).1.length]? with
  | some d=>gnW h d++gnS ((opS e).2.set (opS e).1.length (wolE h d).1) (opS e).1.length
  | none=>[]
def gnD:(h:Nat)→ED h→List Nat→List Nat
 | 0,e,_=>gn1 e
 | h+1,e,k=>gn1 e++match (opS e).2[fndI (opS e).1 k]? with
  | some d=>if hasI (opS e).1 k then gnW h d++gnS ((opS e).2.set (fndI (opS e).1 k) (wolE h d).1) (fndI (opS e).1 k)
   else gnD h d k++(if (delE h d k).2 then gnS ((opS e).2.set (fndI (opS e).1 k) (delE h d k).1) (fndI (opS e).1 k) else [])
  | none=>[]
theorem gnW_eq {h:Nat} {e:ED (h+1)} {d:ED h} (hd:(opS e).2[(opS e).1.length]?=some d):gnW (h+1) e=gn1 e++(gnW h d++gnS ((opS e).2.set (opS e).1.length (wolE h d).1) (opS e).1.length):=by
 show gn1 e++(match (opS e).2[(opS e).1.length]? with
  | some d=>gnW h d++gnS ((opS e).2.set (opS e).1.length (wolE h d).1) (opS e).1.length
  | none=>[])=_
 rw [hd]
theorem gnD_eq {h:Nat} {e:ED (h+1)} {k:List Nat} {d:ED h} (hd:(opS e).2[fndI (opS e).1 k]?=some d):gnD (h+1) e k=gn1 e++(if hasI (opS e).1 k then gnW h d++gnS ((opS e).2.set (fndI (opS e).1 k) (wolE h d).1) (fndI (opS e).1 k)
   else gnD h d k++(if (delE h d k).2 then gnS ((opS e).2.set (fndI (opS e).1 k) (delE h d k).1) (fndI (opS e).1 k) else [])):=by
 show gn1 e++(match (opS e).2[fndI (opS e).1 k]? with
  | some d=>if hasI (opS e).1 k then gnW h d++gnS ((opS e).2.set (fndI (opS e).1 k) (wolE h d).1) (fndI (opS e).1 k)
   else gnD h d k++(if (delE h d k).2 then gnS ((opS e).2.set (fndI (opS e).1 k) (delE h d k).1) (fndI (opS e).1 k) else [])
  | none=>[])=_
 rw [hd]
theorem aFb:∀ (e:ED 0),olP 0 e=gn1 e
 | .inl _=>rfl
 | .inr _=>rfl
theorem aHq {h:Nat}:∀ (e:ED (h+1)),olP (h+1) e=gn1 e++((opS e).2.map (olP h)).flatten
 | .inl t=>by
  show t.1::(t.2.2.map (pgB h)).flatten=[t.1]++((t.2.2.map old).map (olP h)).flatten
  rw [aD1]
  rfl
 | .inr x=>rfl
theorem ol_mrg:∀ {h:Nat} (a:ED h) (x:It) (b:ED h),(olP h a++olP h b).Perm (gn1 a++gn1 b++olP h (mrgE a x b))
 | 0,a,x,b=>by
  rw [aFb,aFb]
  show (gn1 a++gn1 b).Perm (gn1 a++gn1 b++[])
  rw [List.append_nil]
 | h+1,a,x,b=>by
  rw [aHq,aHq]
  show List.Perm _ (gn1 a++gn1 b++(((opS a).2++(opS b).2).map (olP h)).flatten)
  rw [List.map_append,List.flatten_append,List.perm_iff_count]
  intro y
  simp only [List.count_append]
  omega
theorem aC1:∀ {h:Nat} (a:ED h) (x:It) (b:ED h),isNew (mrgE a x b)
 | 0,_,_,_=>trivial
 | _+1,_,_,_=>trivial
theorem ol_setD {h:Nat} {l:List It} {c:List (ED h)} {i:Nat} (hl:c.length=l.length+1) (hl1:1≤l.length) (hi:i<c.length) (hc:∀ e,c[i]?=some e→isNew e):(c.map (olP h)).flatten.Perm (gnS c i++((setD l c i).2.map (olP h)).flatten):=by
 unfold setD gnS
 rw [gE hi]
 simp only
 by_cases h2:(itE c[i]).length<2
 ·rw [if_pos h2,if_pos h2]
  obtain ⟨a,ha⟩:∃ a,c[i-1]?=some a:=⟨_,gE (by omega)⟩
  obtain ⟨x,hx⟩:∃ x,l[i-1]?=some x:=⟨_,gE (by omega)⟩
  obtain ⟨b,hb⟩:∃ b,c[i-1+1]?=some b:=⟨_,gE (by omega)⟩
  have ha1:=(lL ha)
  rw [mgd_eq ha hx hb,ha,hb,aHr]
  ·have hp:=ol_mrg a x b
   conv=>lhs;rw [aH4 ha hb]
   rw [List.perm_iff_count] at hp ⊢
   intro y
   have:=hp y
   simp only [gnO,List.map_append,List.map_cons,List.flatten_append,List.flatten_cons,List.count_append] at this ⊢
   omega
  ·intro e he
   simp only at he
   rw [List.getElem?_append_right (by simp;omega)] at he
   have em:i-1-(List.take (i-1) c).length=0:=by rw [List.length_take];omega
   rw [em,List.getElem?_cons_zero] at he
   simp only [oI] at he
   subst he
   exact aC1 a x b
 ·rw [if_neg h2,if_neg h2,aHr hc]
  exact List.Perm.refl _
theorem flat_set {h:Nat} {c:List (ED h)} {i:Nat} {d d':ED h} {G:List Nat} (hd:c[i]?=some d) (hp:(olP h d).Perm (G++olP h d')):(c.map (olP h)).flatten.Perm (G++((c.set i d').map (olP h)).flatten):=by
 have hi:=(lL hd)
 conv=>lhs;rw [aAh hd]
 rw [List.set_eq_take_append_cons_drop,if_pos hi]
 rw [List.perm_iff_count] at hp ⊢
 intro y
 have:=hp y
 simp only [List.map_append,List.map_cons,List.flatten_append,List.flatten_cons,List.count_append] at this ⊢
 omega
theorem aCn:∀ {h:Nat} (e:ED h),isNew (wolE h e).1
 | 0,_=>trivial
 | h+1,e=>by
  cases hd:(opS e).2[(opS e).1.length]? with
  | some d=>rw [aDf hd];exact trivial
  | none =>
   have:wolE (h+1) e=(.inr (opS e),([],[])):=by
    show (match (opS e).2[(opS e).1.length]? with
     | some d=>(Sum.inr (setD (opS e).1 ((opS e).2.set (opS e).1.length (wolE h d).1) (opS e).1.length),(wolE h d).2)
     | none=>(Sum.inr (opS e),([],[])))=_
    rw [hd]
    rfl
   rw [this]
   exact trivial
theorem aCe:∀ {h:Nat} (e:ED h) (k:List Nat),isNew (delE h e k).1
 | 0,_,_=>trivial
 | h+1,e,k=>by
  cases hd:(opS e).2[fndI (opS e).1 k]? with
  | some d =>
   rw [aDh hd]
   split
   ·exact trivial
   ·split<;>exact trivial
  | none =>
   have:delE (h+1) e k=(.inr (opS e),false):=by
    show (match (opS e).2[fndI (opS e).1 k]? with
     | some d=>if hasI (opS e).1 k then (Sum.inr (setD ((opS e).1.set (fndI (opS e).1 k) (wolE h d).2) ((opS e).2.set (fndI (opS e).1 k) (wolE h d).1) (fndI (opS e).1 k)),true)
      else if (delE h d k).2 then (Sum.inr (setD (opS e).1 ((opS e).2.set (fndI (opS e).1 k) (delE h d k).1) (fndI (opS e).1 k)),true)
      else (Sum.inr ((opS e).1,(opS e).2.set (fndI (opS e).1 k) (delE h d k).1),false)
     | none=>(Sum.inr (opS e),false))=_
    rw [hd]
    rfl
   rw [this]
   exact trivial
theorem pg_wol:∀ {h:Nat} (e:ED h),ShE h 4 e→1≤(itE e).length→(olP h e).Perm (gnW h e++olP h (wolE h e).1)
 | 0,e,_,_=>by
  rw [aFb]
  show (gn1 e).Perm (gn1 e++[])
  rw [List.append_nil]
 | h+1,e,⟨h4,h2,h3⟩,h1=>by
  have h1:1≤(opS e).1.length:=h1
  obtain ⟨d,hd⟩:∃ d,(opS e).2[(opS e).1.length]?=some d:=⟨_,gE (by omega)⟩
  have hk:=h3 d (mG hd)
  have ih:=pg_wol d hk.1 (by omega)
  rw [gnW_eq hd,aDf hd,aHq]
  have p1:=flat_set hd ih
  have p2:=ol_setD (l:=(opS e).1) (c:=(opS e).2.set (opS e).1.length (wolE h d).1) (i:=(opS e).1.length) (by simpa using h2) h1 (by simp;omega) (fun q hq=>by
   rw [List.getElem?_set_self (by omega)] at hq
   simp only [oI] at hq
   subst hq
   exact aCn d)
  show (gn1 e++_).Perm (gn1 e++(gnW h d++_)++((setD _ _ _).2.map (olP h)).flatten)
  rw [List.perm_iff_count] at p1 p2 ⊢
  intro y
  have f1:=p1 y
  have f2:=p2 y
  simp only [List.count_append] at f1 f2 ⊢
  omega
theorem pg_del:∀ {h:Nat} (e:ED h) (k:List Nat),ShE h 4 e→1≤(itE e).length→(delE h e k).2=true→(olP h e).Perm (gnD h e k++olP h (delE h e k).1)
 | 0,e,k,_,_,_=>by
  rw [aFb]
  show (gn1 e).Perm (gn1 e++[])
  rw [List.append_nil]
 | h+1,e,k,⟨h4,h2,h3⟩,h1,hw=>by
  have h1:1≤(opS e).1.length:=h1
  have hle:=aA1 (opS e).1 k
  obtain ⟨d,hd⟩:∃ d,(opS e).2[fndI (opS e).1 k]?=some d:=⟨_,gE (by omega)⟩
  have hk:=h3 d (mG hd)
  have step:∀ (l:List It) (d':ED h) (G:List Nat),l.length=(opS e).1.length→isNew d'→(olP h d).Perm (G++olP h d')→(olP (h+1) e).Perm (gn1 e++(G++gnS ((opS e).2.set (fndI (opS e).1 k) d') (fndI (opS e).1 k))++((setD l ((opS e).2.set (fndI (opS e).1 k) d') (fndI (opS e).1 k)).2.map (olP h)).flatten):=by
   intro l d' G hll hn hp
   have p1:=flat_set hd hp
   have p2:=ol_setD (l:=l) (c:=(opS e).2.set (fndI (opS e).1 k) d') (i:=fndI (opS e).1 k) (by rw [List.length_set,hll];exact h2) (by omega) (by simp;omega) (fun q hq=>by
    rw [List.getElem?_set_self (by omega)] at hq
    simp only [oI] at hq
    subst hq
    exact hn)
   rw [aHq]
   rw [List.perm_iff_count] at p1 p2 ⊢
   intro y
   have f1:=p1 y
   have f2:=p2 y
   simp only [List.count_append] at f1 f2 ⊢
   omega
  rw [aDh hd] at hw ⊢
  rw [gnD_eq hd]
  by_cases c1:hasI (opS e).1 k=true
  ·rw [if_pos c1,if_pos c1]
   exact step _ _ _ (by simp) (aCn d) (pg_wol d hk.1 (by omega))
  ·rw [if_neg c1] at hw
   rw [if_neg c1,if_neg c1]
   by_cases c2:(delE h d k).2=true
   ·rw [if_pos c2,if_pos c2]
    exact step _ _ _ rfl (aCe d k) (pg_del d k hk.1 (by omega) c2)
   ·rw [if_neg c2] at hw
    cases hw
section
variable {s:DS} {t:PS}
theorem OldOn.mrg:∀ {h:Nat} {a b:ED h} (x:It),OldOn s t h a→OldOn s t h b→OldOn s t h (mrgE a x b)
 | 0,_,_,_,_,_=>trivial
 | _+1,a,b,x,ha,hb=>fun k hk=>by
  rcases List.mem_append.1 (show k∈(opS a).2++(opS b).2 from hk) with q | q
  ·exact ha.kids k q
  ·exact hb.kids k q
theorem OldOn.setD {h:Nat} {l:List It} {c:List (ED h)} {i:Nat} (hc:∀ k∈c,OldOn s t h k):∀ k∈(setD l c i).2,OldOn s t h k:=by
 have hm:∀ k∈(mgd l c (i-1)).2,OldOn s t h k:=by
  unfold mgd
  split
  ·rename_i a x b h1 h2 h3
   intro k hk
   rcases List.mem_append.1 hk with q | q
   ·exact hc k (List.mem_of_mem_take q)
   ·rcases List.mem_cons.1 q with q | q
    ·subst q;exact OldOn.mrg x (hc a (mG h1)) (hc b (mG h3))
    ·exact hc k (List.mem_of_mem_drop q)
  ·exact hc
 unfold Go.Proofs.YtohgmapjokaibaaGreat.setD
 split
 ·split
  ·exact OldOn.setl hm
  ·exact OldOn.setl hc
 ·exact hc
theorem OldOn.wol:∀ {h:Nat} {e:ED h},OldOn s t h e→OldOn s t h (wolE h e).1
 | 0,_,_=>trivial
 | h+1,e,ho=>by
  cases hd:(opS e).2[(opS e).1.length]? with
  | some d =>
   rw [aDf hd]
   exact OldOn.setD (aA4 ho.kids (OldOn.wol (ho.kids d (mG hd))))
  | none =>
   have:(wolE (h+1) e).1=.inr (opS e):=by
    show (match (opS e).2[(opS e).1.length]? with
     | some d=>(Sum.inr (Go.Proofs.YtohgmapjokaibaaGreat.setD (opS e).1 ((opS e).2.set (opS e).1.length (wolE h d).1) (opS e).1.length),(wolE h d).2)
     | none=>(Sum.inr (opS e),([],[]))).1=_
    rw [hd]
   rw [this]
   exact ho.kids
theorem OldOn.del:∀ {h:Nat} {e:ED h} (k:List Nat),OldOn s t h e→OldOn s t h (delE h e k).1
 | 0,_,_,_=>trivial
 | h+1,e,k,ho=>by
  cases hd:(opS e).2[fndI (opS e).1 k]? with
  | some d =>
   have hod:=ho.kids d (mG hd)
   rw [aDh hd]
   split
   ·exact OldOn.setD (aA4 ho.kids hod.wol)
   ·split
    ·exact OldOn.setD (aA4 ho.kids (OldOn.del k hod))
    ·exact fun q hq=>aA4 ho.kids (OldOn.del k hod) q hq
  | none =>
   have:(delE (h+1) e k).1=.inr (opS e):=by
    show (match (opS e).2[fndI (opS e).1 k]? with
     | some d=>if hasI (opS e).1 k then (Sum.inr (Go.Proofs.YtohgmapjokaibaaGreat.setD ((opS e).1.set (fndI (opS e).1 k) (wolE h d).2) ((opS e).2.set (fndI (opS e).1 k) (wolE h d).1) (fndI (opS e).1 k)),true)
      else if (delE h d k).2 then (Sum.inr (Go.Proofs.YtohgmapjokaibaaGreat.setD (opS e).1 ((opS e).2.set (fndI (opS e).1 k) (delE h d k).1) (fndI (opS e).1 k)),true)
      else (Sum.inr ((opS e).1,(opS e).2.set (fndI (opS e).1 k) (delE h d k).1),false)
     | none=>(Sum.inr (opS e),false)).1=_
    rw [hd]
   rw [this]
   exact ho.kids
end
end Go.Proofs.YtohgmapjokaibaaGreat
set_option linter.unusedVariables false
namespace Go.Proofs.YtohgmapjokaibaaGreat
theorem aHz:∀ {h:Nat} {e:ED h},isNew e→1≤frE h e
 | 0,.inr _,_=>nR _
 | _+1,.inr _,_=>Nat.le_add_right _ _
theorem fr_kids {h:Nat}:∀ (e:ED (h+1)),((opS e).2.map (frE h)).sum≤frE (h+1) e∧(1≤frE (h+1) e→((opS e).2.map (frE h)).sum+1≤frE (h+1) e)
 | .inl t=>by
  have:((opS (.inl t:ED (h+1))).2.map (frE h)).sum=0:=aFm t.2.2
  rw [this]
  exact ⟨Nat.zero_le _,fun h=>by simp [frE] at h⟩
 | .inr x=>by
  show (x.2.map (frE h)).sum≤1+(x.2.map (frE h)).sum∧(_→(x.2.map (frE h)).sum+1≤1+(x.2.map (frE h)).sum)
  omega
theorem fr_mrg:∀ {h:Nat} (a:ED h) (x:It) (b:ED h),1≤frE h a∨1≤frE h b→frE h (mrgE a x b)≤frE h a+frE h b
 | 0,a,x,b,h=>by
  show 1≤_
  omega
 | h+1,a,x,b,hh=>by
  show 1+(((opS a).2++(opS b).2).map (frE h)).sum≤_
  rw [List.map_append,List.sum_append]
  have ha:=fr_kids a
  have hb:=fr_kids b
  rcases hh with q | q
  ·have:=ha.2 q
   omega
  ·have:=hb.2 q
   omega
theorem fr_setD {h:Nat} {l:List It} {c:List (ED h)} {i:Nat} (hl:c.length=l.length+1) (hc:∀ e,c[i]?=some e→1≤frE h e):((setD l c i).2.map (frE h)).sum≤(c.map (frE h)).sum+1:=by
 unfold setD
 cases hi:c[i]? with
 | none=>exact Nat.le_succ _
 | some e =>
  simp only
  split
  ·rename_i h2
   unfold mgd
   cases ha:c[i-1]? with
   | none=>exact aDg fun q hq=>by rw [ha] at hq;cases hq
   | some a =>
    cases hx:l[i-1]? with
    | none =>
     by_cases q0:i=0
     ·subst q0
      exact aDg fun q hq=>hc q hq
     ·refine aDg fun q hq=>?_
      rw [ha] at hq
      simp only [oI] at hq
      subst hq
      have h9:=(lL hi)
      rw [List.getElem?_eq_none_iff] at hx
      omega
    | some x =>
     cases hb:c[i-1+1]? with
     | none =>
      by_cases q0:i=0
      ·subst q0
       exact aDg fun q hq=>hc q hq
      ·rw [show i-1+1=i by omega,hi] at hb
       cases hb
     | some b =>
      simp only
      have hor:1≤frE h a∨1≤frE h b:=by
       by_cases q0:i=0
       ·subst q0
        exact Or.inl (hc a ha)
       ·rw [show i-1+1=i by omega] at hb
        exact Or.inr (hc b hb)
      have hm:=fr_mrg a x b hor
      have ha1:=(lL ha)
      have h9:=aDg (l:=l.eraseIdx (i-1)) (c:=c.take (i-1)++mrgE a x b::c.drop (i-1+2)) (i:=i-1) (fun q hq=>by
       rw [List.getElem?_append_right (by simp;omega)] at hq
       have em:i-1-(List.take (i-1) c).length=0:=by rw [List.length_take];omega
       rw [em,List.getElem?_cons_zero] at hq
       simp only [oI] at hq
       subst hq
       exact aHz (aC1 a x b))
      refine nT h9 ?_
      conv=>rhs;rw [aH4 ha hb]
      simp only [List.map_append,List.sum_append,List.map_cons,List.sum_cons]
      omega
  ·exact aDg fun q hq=>by rw [hi] at hq;simp only [oI] at hq;subst hq;exact hc e hi
theorem fr_wol:∀ {h:Nat} (b:BT h),ShB h b→frE h (wolE h (old b)).1≤2*h+1
 | 0,_,_=>nR _
 | h+1,b,⟨_,s2,s3⟩=>by
  have hlen:(opS (old b)).2.length=(opS (old b)).1.length+1:=by
   show (b.2.2.map old).length=b.2.1.length+1
   rw [List.length_map];exact s2
  have hk0:((opS (old b)).2.map (frE h)).sum=0:=aFm b.2.2
  cases hd:(opS (old b)).2[(opS (old b)).1.length]? with
  | some d =>
   rw [aDf hd]
   obtain ⟨kb,hkb,rfl⟩:=List.mem_map.1 (show d∈b.2.2.map old from mG hd)
   have h1:=fr_wol kb (s3 kb hkb).1
   have h2:=aFl (frE h) (opS (old b)).2 (opS (old b)).1.length (wolE h (old kb)).1
   have h3:=fr_setD (l:=(opS (old b)).1) (c:=(opS (old b)).2.set (opS (old b)).1.length (wolE h (old kb)).1) (i:=(opS (old b)).1.length) (by rw [List.length_set];exact hlen) fun e he=>by
    rw [List.getElem?_set_self (lL hd)] at he
    simp only [oI] at he
    subst he
    exact aHz (aCn _)
   show 1+((setD (opS (old b)).1 ((opS (old b)).2.set (opS (old b)).1.length (wolE h (old kb)).1) (opS (old b)).1.length).2.map (frE h)).sum≤_
   omega
  | none =>
   have:(wolE (h+1) (old b)).1=.inr (opS (old b)):=by
    show (match (opS (old b)).2[(opS (old b)).1.length]? with
     | some d=>(Sum.inr (setD (opS (old b)).1 ((opS (old b)).2.set (opS (old b)).1.length (wolE h d).1) (opS (old b)).1.length),(wolE h d).2)
     | none=>(Sum.inr (opS (old b)),([],[]))).1=_
    rw [hd]
   rw [this]
   show 1+((opS (old b)).2.map (frE h)).sum≤_
   omega
theorem fr_del:∀ {h:Nat} (b:BT h) (k:List Nat),ShB h b→frE h (delE h (old b) k).1≤2*h+1
 | 0,_,_,_=>nR _
 | h+1,b,k,⟨_,s2,s3⟩=>by
  have hlen:(opS (old b)).2.length=(opS (old b)).1.length+1:=by
   show (b.2.2.map old).length=b.2.1.length+1
   rw [List.length_map];exact s2
  have hk0:((opS (old b)).2.map (frE h)).sum=0:=aFm b.2.2
  cases hd:(opS (old b)).2[fndI (opS (old b)).1 k]? with
  | some d =>
   obtain ⟨kb,hkb,rfl⟩:=List.mem_map.1 (show d∈b.2.2.map old from mG hd)
   have hi:=(lL hd)
   have key:∀ (l:List It) (d':ED h),l.length=(opS (old b)).1.length→isNew d'→frE h d'≤2*h+1→1+((setD l ((opS (old b)).2.set (fndI (opS (old b)).1 k) d') (fndI (opS (old b)).1 k)).2.map (frE h)).sum≤2*(h+1)+1:=by
    intro l d' hll hn hf
    have h2:=aFl (frE h) (opS (old b)).2 (fndI (opS (old b)).1 k) d'
    have h3:=fr_setD (l:=l) (c:=(opS (old b)).2.set (fndI (opS (old b)).1 k) d') (i:=fndI (opS (old b)).1 k) (by rw [List.length_set,hll];exact hlen) fun e he=>by
     rw [List.getElem?_set_self hi] at he
     simp only [oI] at he
     subst he
     exact aHz hn
    omega
   rw [aDh hd]
   split
   ·exact key _ _ (by simp) (aCn _) (fr_wol kb (s3 kb hkb).1)
   ·split
    ·exact key _ _ rfl (aCe _ k) (fr_del kb k (s3 kb hkb).1)
    ·have h2:=aFl (frE h) (opS (old b)).2 (fndI (opS (old b)).1 k) (delE h (old kb) k).1
     have:=fr_del kb k (s3 kb hkb).1
     show 1+(((opS (old b)).2.set (fndI (opS (old b)).1 k) (delE h (old kb) k).1).map (frE h)).sum≤_
     omega
  | none =>
   have:(delE (h+1) (old b) k).1=.inr (opS (old b)):=by
    show (match (opS (old b)).2[fndI (opS (old b)).1 k]? with
     | some d=>if hasI (opS (old b)).1 k then (Sum.inr (setD ((opS (old b)).1.set (fndI (opS (old b)).1 k) (wolE h d).2) ((opS (old b)).2.set (fndI (opS (old b)).1 k) (wolE h d).1) (fndI (opS (old b)).1 k)),true)
      else if (delE h d k).2 then (Sum.inr (setD (opS (old b)).1 ((opS (old b)).2.set (fndI (opS (old b)).1 k) (delE h d k).1) (fndI (opS (old b)).1 k)),true)
      else (Sum.inr ((opS (old b)).1,(opS (old b)).2.set (fndI (opS (old b)).1 k) (delE h d k).1),false)
     | none=>(Sum.inr (opS (old b)),false)).1=_
    rw [hd]
   rw [this]
   show 1+((opS (old b)).2.map (frE h)).sum≤_
   omega
section
variable {s:DS} {t:PS}
theorem OldOn.gn1:∀ {h:Nat} {e:ED h},OldOn s t h e→∀ x∈Go.Proofs.YtohgmapjokaibaaGreat.gn1 e,x<s.n
 | 0,.inl b,hb,x,hx=>by
  have:x=b.1:=by simpa [Go.Proofs.YtohgmapjokaibaaGreat.gn1] using hx
  subst this
  exact hb.1.lt
 | 0,.inr _,_,x,hx=>by cases hx
 | h+1,.inl b,⟨h1,_⟩,x,hx=>by
  have:x=b.1:=by simpa [Go.Proofs.YtohgmapjokaibaaGreat.gn1] using hx
  subst this
  exact h1.lt
 | _+1,.inr _,_,x,hx=>by cases hx
theorem OldOn.gnS {h:Nat} {c:List (ED h)} {i:Nat} (hc:∀ k∈c,OldOn s t h k):∀ x∈Go.Proofs.YtohgmapjokaibaaGreat.gnS c i,x<s.n:=by
 have hO:∀ j:Nat,∀ x∈gnO c[j]?,x<s.n:=by
  intro j x hx
  cases hj:c[j]? with
  | none=>rw [hj] at hx;cases hx
  | some e=>rw [hj] at hx;exact (hc e (mG hj)).gn1 x hx
 unfold Go.Proofs.YtohgmapjokaibaaGreat.gnS
 split
 ·split
  ·intro x hx
   rcases List.mem_append.1 hx with q | q
   ·exact hO _ x q
   ·exact hO _ x q
  ·intro x hx;cases hx
 ·intro x hx;cases hx
theorem OldOn.gnW:∀ {h:Nat} {e:ED h},OldOn s t h e→∀ x∈Go.Proofs.YtohgmapjokaibaaGreat.gnW h e,x<s.n
 | 0,e,ho,x,hx=>ho.gn1 x hx
 | h+1,e,ho,x,hx=>by
  rcases List.mem_append.1 (show x∈Go.Proofs.YtohgmapjokaibaaGreat.gn1 e++_ from hx) with q | q
  ·exact ho.gn1 x q
  ·cases hd:(opS e).2[(opS e).1.length]? with
   | some d =>
    rw [hd] at q
    have hod:=ho.kids d (mG hd)
    rcases List.mem_append.1 q with q | q
    ·exact OldOn.gnW hod x q
    ·exact OldOn.gnS (aA4 ho.kids hod.wol) x q
   | none=>rw [hd] at q;cases q
theorem OldOn.gnD:∀ {h:Nat} {e:ED h} (k:List Nat),OldOn s t h e→∀ x∈Go.Proofs.YtohgmapjokaibaaGreat.gnD h e k,x<s.n
 | 0,e,k,ho,x,hx=>ho.gn1 x hx
 | h+1,e,k,ho,x,hx=>by
  rcases List.mem_append.1 (show x∈Go.Proofs.YtohgmapjokaibaaGreat.gn1 e++_ from hx) with q | q
  ·exact ho.gn1 x q
  ·cases hd:(opS e).2[fndI (opS e).1 k]? with
   | some d =>
    rw [hd] at q
    have hod:=ho.kids d (mG hd)
    simp only at q
    split at q
    ·rcases List.mem_append.1 q with q | q
     ·exact hod.gnW x q
     ·exact OldOn.gnS (aA4 ho.kids hod.wol) x q
    ·rcases List.mem_append.1 q with q | q
     ·exact OldOn.gnD k hod x q
     ·split at q
      ·exact OldOn.gnS (aA4 ho.kids (hod.del k)) x q
      ·cases q
   | none=>rw [hd] at q;cases q
end
theorem aEs:∀ {h:Nat} (e:ED h),(gn1 e).length≤1
 | 0,.inl _=>nR _
 | 0,.inr _=>Nat.zero_le _
 | _+1,.inl _=>nR _
 | _+1,.inr _=>Nat.zero_le _
theorem gnS_len {h:Nat} (c:List (ED h)) (i:Nat):(gnS c i).length≤2:=by
 have hO:∀ o:Option (ED h),(gnO o).length≤1:=by
  intro o
  cases o with
  | none=>exact Nat.zero_le _
  | some e=>exact aEs e
 unfold gnS
 split
 ·split
  ·have h1:=hO c[i-1]?
   have h2:=hO c[i-1+1]?
   rw [lA]
   omega
  ·exact Nat.zero_le _
 ·exact Nat.zero_le _
theorem aHx:∀ {h:Nat} (e:ED h),(gnW h e).length≤3*h+1
 | 0,e=>aEs e
 | h+1,e=>by
  show (gn1 e++_).length≤_
  have h1:=aEs e
  rw [lA]
  cases hd:(opS e).2[(opS e).1.length]? with
  | some d =>
   have h2:=aHx d
   have h3:=gnS_len ((opS e).2.set (opS e).1.length (wolE h d).1) (opS e).1.length
   simp only [lA]
   omega
  | none=>simp only [List.length_nil];omega
theorem aHy:∀ {h:Nat} (e:ED h) (k:List Nat),(gnD h e k).length≤3*h+1
 | 0,e,_=>aEs e
 | h+1,e,k=>by
  show (gn1 e++_).length≤_
  have h1:=aEs e
  rw [lA]
  cases hd:(opS e).2[fndI (opS e).1 k]? with
  | some d =>
   have h2:=aHx d
   have h3:=gnS_len ((opS e).2.set (fndI (opS e).1 k) (wolE h d).1) (fndI (opS e).1 k)
   have h4:=aHy d k
   have h5:=gnS_len ((opS e).2.set (fndI (opS e).1 k) (delE h d k).1) (fndI (opS e).1 k)
   simp only
   split
   ·rw [lA];omega
   ·rw [lA]
    split
    ·omega
    ·simp only [List.length_nil];omega
  | none=>simp only [List.length_nil];omega
end Go.Proofs.YtohgmapjokaibaaGreat
set_option linter.unusedVariables false
namespace Go.Proofs.YtohgmapjokaibaaGreat
theorem mem_weave:∀ (l:List It) (c:List (List It)) (x:It),x∈weave l c→x∈l∨∃ k∈c,x∈k
 | l,[],x,h=>by rw [weave_nil] at h;exact Or.inl h
 | [],c::_,x,h=>Or.inr ⟨c,List.mem_cons_self,h⟩
 | y::l,c::cs,x,h=>by
  rcases List.mem_append.1 (show x∈c++y::weave l cs from h) with h | h
  ·exact Or.inr ⟨c,List.mem_cons_self,h⟩
  ·rcases List.mem_cons.1 h with h | h
   ·exact Or.inl (by rw [h];exact List.mem_cons_self)
   ·rcases mem_weave l cs x h with h | ⟨k,h1,h2⟩
    ·exact Or.inl (List.mem_cons_of_mem _ h)
    ·exact Or.inr ⟨k,List.mem_cons_of_mem _ h1,h2⟩
theorem OnD.ok {s:DS} {t:PS}:∀ {h:Nat} {b:BT h},OnD s t h b→∀ x∈flB h b,ItOk x
 | 0,b,⟨_,hi⟩,x,hx=>hi.ok x hx
 | h+1,b,⟨_,hi,_,_,hk⟩,x,hx=>by
  rcases mem_weave _ _ x hx with q | ⟨k,q1,q2⟩
  ·exact hi.ok x q
  ·obtain ⟨kb,q3,rfl⟩:=List.mem_map.1 q1
   exact OnD.ok (hk kb q3) x q2
theorem OnD.held {s:DS} {t:PS}:∀ {h:Nat} {b:BT h},OnD s t h b→∀ x∈pgB h b,t.st.getD x 0=2∧x<s.n
 | 0,b,⟨hp,_⟩,x,hx=>by
  simp only [pgB,List.mem_singleton] at hx
  subst hx
  exact ⟨by rw [←aBt];exact hp.of,hp.lt⟩
 | h+1,b,⟨hp,_,_,_,hk⟩,x,hx=>by
  rcases List.mem_cons.1 hx with q | q
  ·subst q
   exact ⟨by rw [←aBt];exact hp.of,hp.lt⟩
  ·obtain ⟨l,q1,q2⟩:=List.mem_flatten.1 q
   obtain ⟨kb,q3,rfl⟩:=List.mem_map.1 q1
   exact OnD.held (hk kb q3) x q2
def Tr (s:DS) (t:PS) (st:StT) (l:List It):Prop :=
 (st.root=0∧st.depth=0∧st.keys=0∧l=[]∧PgS st.pgs []) ∨
 ∃ (h:Nat) (b:BT h),st.root=((BT.id b:Nat):Int)∧st.depth=((h+1:Nat):Int)∧st.keys=((l.length:Nat):Int)∧flB h b=l∧Srt l∧OnD s t h b∧ShB h b∧1≤(BT.it b).length∧PgS st.pgs (pgB h b)
theorem Tr.grow {s s':DS} {t t':PS} {L:List Nat} {st:StT} {l:List It} (h:Tr s t st l) (g:Gw s t s' t' L):Tr s' t' st l:=by
 rcases h with h | ⟨h,b,e1,e2,e3,e4,e5,e6,e7,e8,e9⟩
 ·exact Or.inl h
 ·exact Or.inr ⟨h,b,e1,e2,e3,e4,e5,e6.grow g,e7,e8,e9⟩
theorem Tr.srt {s:DS} {t:PS} {st:StT} {l:List It} (h:Tr s t st l):Srt l:=by
 rcases h with ⟨_,_,_,rfl,_⟩ | ⟨h,b,e1,e2,e3,e4,e5,e6,e7,e8,e9⟩
 ·exact List.Pairwise.nil
 ·exact e5
theorem Tr.keys {s:DS} {t:PS} {st:StT} {l:List It} (h:Tr s t st l):st.keys=((l.length:Nat):Int):=by
 rcases h with ⟨_,_,h,rfl,_⟩ | ⟨h,b,e1,e2,e3,e4,e5,e6,e7,e8,e9⟩
 ·exact h
 ·exact e3
theorem mem_putL {l:List It} {it x:It} (h:x∈putL l it):x∈l∨x=it:=by
 unfold putL at h
 by_cases c:hasI l it.1=true
 ·rw [if_pos c] at h
  exact (List.mem_or_eq_of_mem_set h)
 ·rw [if_neg c] at h
  rcases List.mem_append.1 h with h | h
  ·exact Or.inl (List.mem_of_mem_take h)
  ·rcases List.mem_cons.1 h with h | h
   ·exact Or.inr h
   ·exact Or.inl (List.mem_of_mem_drop h)
theorem deep:∀ {h:Nat} {b:BT h},ShB h b→2≤(BT.it b).length→3 ^ (h+1)≤(flB h b).length+1
 | 0,b,hs,h2=>by
  have h2:2≤b.2.length:=h2
  show 3≤b.2.length+1
  omega
 | h+1,b,⟨s1,s2,s3⟩,h2=>by
  have h2:2≤b.2.1.length:=h2
  have hw:(flB (h+1) b).length=b.2.1.length+((b.2.2.map (flB h)).map List.length).sum:=aBz _ _ (by rw [List.length_map];exact s2)
  have key:∀ (c:List (BT h)),(∀ k∈c,ShB h k∧2≤(BT.it k).length)→c.length*3 ^ (h+1)≤((c.map (flB h)).map List.length).sum+c.length:=by
   intro c
   induction c with
   | nil=>intro _;simp
   | cons k c ih =>
    intro hc
    have i1:=ih fun x hx=>hc x (List.mem_cons_of_mem _ hx)
    obtain ⟨a1,a2⟩:=hc k List.mem_cons_self
    have i2:=deep a1 a2
    simp only [List.length_cons,List.map_cons,List.sum_cons,Nat.add_mul,Nat.one_mul]
    omega
  have hk:=key b.2.2 s3
  have h3:3*3 ^ (h+1)≤b.2.2.length*3 ^ (h+1):=Nat.mul_le_mul_right _ (by omega)
  have e:3 ^ (h+1+1)=3*3 ^ (h+1):=by rw [Nat.pow_succ,Nat.mul_comm]
  omega
theorem deepR:∀ {h:Nat} {b:BT h},ShB h b→1≤(BT.it b).length→2*3 ^ h≤(flB h b).length+1
 | 0,b,hs,h2=>by
  have h2:1≤b.2.length:=h2
  show 2≤b.2.length+1
  omega
 | h+1,b,⟨s1,s2,s3⟩,h2=>by
  have h2:1≤b.2.1.length:=h2
  have hw:(flB (h+1) b).length=b.2.1.length+((b.2.2.map (flB h)).map List.length).sum:=aBz _ _ (by rw [List.length_map];exact s2)
  have key:∀ (c:List (BT h)),(∀ k∈c,ShB h k∧2≤(BT.it k).length)→c.length*3 ^ (h+1)≤((c.map (flB h)).map List.length).sum+c.length:=by
   intro c
   induction c with
   | nil=>intro _;simp
   | cons k c ih =>
    intro hc
    have i1:=ih fun x hx=>hc x (List.mem_cons_of_mem _ hx)
    obtain ⟨a1,a2⟩:=hc k List.mem_cons_self
    have i2:=deep a1 a2
    simp only [List.length_cons,List.map_cons,List.sum_cons,Nat.add_mul,Nat.one_mul]
    omega
  have hk:=key b.2.2 s3
  have h3:2*3 ^ (h+1)≤b.2.2.length*3 ^ (h+1):=Nat.mul_le_mul_right _ (by omega)
  omega
theorem Tr.depth80 {s:DS} {t:PS} {st:StT} {l:List It} (h:Tr s t st l) (hl:l.length≤100):0≤st.depth∧st.depth≤4:=by
 rcases h with ⟨_,h,_,rfl,_⟩ | ⟨h,b,e1,e2,e3,e4,e5,e6,e7,e8,e9⟩
 ·omega
 ·have:=deepR e7 e8
  rw [e4] at this
  have:h≤3:=by
   apply Classical.byContradiction
   intro q
   have h4:3 ^ 4≤3 ^ h:=Nat.pow_le_pow_right (by omega) (by omega)
   omega
  omega
theorem root_ht {h:Nat} (e:ED h):(rootE h e).1=if 4<(itE e).length then h+1 else h:=by
 unfold rootE
 by_cases c:4<(itE e).length
 ·rw [if_pos c,if_pos c]
 ·rw [if_neg c,if_neg c]
section
variable {s:DS} {t:PS} {h:Nat} {b:BT h} {l:List It}
theorem on_put (it:It) (hit:ItOk it) (e4:flB h b=l) (e5:Srt l) (e6:OnD s t h b) (e7:ShB h b) :
  flE (rootE h (putE h (old b) it)).1 (rootE h (putE h (old b) it)).2=putL l it∧ShE (rootE h (putE h (old b) it)).1 4 (rootE h (putE h (old b) it)).2∧1≤(itE (rootE h (putE h (old b) it)).2).length∧OnE s t (rootE h (putE h (old b) it)).1 (rootE h (putE h (old b) it)).2:=by
 have hsh:=aG9 (old b) it (aBg b e7)
 have hfl:flE (rootE h (putE h (old b) it)).1 (rootE h (putE h (old b) it)).2=putL l it:=by
  rw [fl_root hsh,fl_put (old b) it (aBg b e7) (by rw [aBv,e4];exact e5),aBv,e4]
 have h1:1≤(itE (rootE h (putE h (old b) it)).2).length:=by
  have hp:=(aB5 (old b) it (aBg b e7)).1
  have hb:1≤(itE (old b)).length:=by
   rw [aCd]
   cases h with
   | zero=>exact e6.2.n1
   | succ h=>exact e6.2.1.n1
  unfold rootE
  by_cases c:4<(itE (putE h (old b) it)).length
  ·rw [if_pos c];exact nR _
  ·rw [if_neg c];exact nT hb hp
 refine ⟨hfl,Sh_root hsh,h1,OnE.of (((OldOn.old e6).put it).root) (Sh_root hsh) (by rw [hfl];exact putL_srt e5) (fun x hx=>?_) h1⟩
 rw [hfl] at hx
 rcases mem_putL hx with q | q
 ·rw [←e4] at q;exact e6.ok x q
 ·rw [q];exact hit
theorem Tr.put {it:It} {s':DS} {t':PS} {L:List Nat} {ps:List Nat} {b':BT (rootE h (putE h (old b) it)).1} (hit:ItOk it) (e4:flB h b=l) (e5:Srt l) (e6:OnD s t h b) (e7:ShB h b) (e9:PgS ps (pgB h b)) (hsl:t.st.length≤4096)
  (hl:LdR (rootE h (putE h (old b) it)).1 (rootE h (putE h (old b) it)).2 b' L) (hg:Gw s t s' t' L) (hb':OnD s' t' (rootE h (putE h (old b) it)).1 b') :
  Tr s' t' ⟨((BT.id b':Nat):Int),(if 4<(itE (putE h (old b) it)).length then ((h+1:Nat):Int)+1 else ((h+1:Nat):Int)),cntN ((l.length:Nat):Int) (nwB h b it.1),L.foldl adP ((pthB h b it.1).foldl drP ps)⟩ (putL l it):=by
 obtain ⟨f1,f2,f3,f4⟩:=on_put it hit e4 e5 e6 e7
 refine Or.inr ⟨_,b',rfl,?_,?_,by rw [hl.fl,f1],putL_srt e5,hb',hl.sh f2,by rw [hl.it];exact f3,?_⟩
 ·show (if 4<(itE (putE h (old b) it)).length then ((h+1:Nat):Int)+1 else ((h+1:Nat):Int))=(((rootE h (putE h (old b) it)).1+1:Nat):Int)
  rw [root_ht]
  by_cases c:4<(itE (putE h (old b) it)).length
  ·rw [if_pos c,if_pos c];simp
  ·rw [if_neg c,if_neg c]
 ·have e:=len_put b it e7
  rw [fl_put (old b) it (aBg b e7) (by rw [aBv,e4];exact e5),aBv,e4] at e
  show cntN _ _=_
  unfold cntN
  rw [e]
  cases nwB h b it.1<;>simp
 ·refine e9.step (pg_put b it e7) ?_ hg.nd (gw_lt hg hsl) fun x hx q=>?_
  ·have:=hl.pg
   rw [olP_root (aGw _ _)] at this
   exact this
  ·have h1:=(hg.new x hx).1
   have h2:=(e6.held x q).1
   omega
theorem fr_put2 (it:It):frE (rootE h (putE h (old b) it)).1 (rootE h (putE h (old b) it)).2≤2*h+3:=by
 have h1:=fr_put b it
 have h2:=fr_root (fr_new (old b) it)
 omega
end
end Go.Proofs.YtohgmapjokaibaaGreat
set_option linter.unusedVariables false
namespace Go.Proofs.YtohgmapjokaibaaGreat
def rootD:(h:Nat)→ED h→Σ h,ED h
 | 0,e=>⟨0,e⟩
 | h+1,e=>if (opS e).1.length=0 then match (opS e).2 with
   | c::_=>⟨h,c⟩
   | []=>⟨h+1,e⟩
  else ⟨h+1,e⟩
theorem rootD_yes {h:Nat} {e:ED (h+1)} (h0:(opS e).1.length=0) (hl:(opS e).2.length=(opS e).1.length+1):∃ c,(opS e).2=[c]∧rootD (h+1) e=⟨h,c⟩:=by
 obtain ⟨c,hc⟩:∃ c,(opS e).2=[c]:=List.length_eq_one_iff.1 (by omega)
 refine ⟨c,hc,?_⟩
 show (if (opS e).1.length=0 then match (opS e).2 with
   | c::_=>(⟨h,c⟩:Σ h,ED h)
   | []=>⟨h+1,e⟩
  else ⟨h+1,e⟩)=_
 rw [if_pos h0,hc]
theorem rootD_no {h:Nat} {e:ED (h+1)} (h0:(opS e).1.length≠0):rootD (h+1) e=⟨h+1,e⟩:=by
 show (if (opS e).1.length=0 then match (opS e).2 with
   | c::_=>(⟨h,c⟩:Σ h,ED h)
   | []=>⟨h+1,e⟩
  else ⟨h+1,e⟩)=_
 rw [if_neg h0]
def dpD:(h:Nat)→ED h→Nat
 | 0,_=>0
 | h+1,e=>if (opS e).1.length=0 then h else h+1
theorem rootD_all:∀ {h:Nat} {e:ED h},ShE h 4 e→isNew e→(1≤h∨1≤(itE e).length)→(rootD h e).1=dpD h e∧flE (rootD h e).1 (rootD h e).2=flE h e∧ShE (rootD h e).1 4 (rootD h e).2∧1≤(itE (rootD h e).2).length∧frE (rootD h e).1 (rootD h e).2≤frE h e∧olP (rootD h e).1 (rootD h e).2=olP h e∧∀ s t,OldOn s t h e→OldOn s t (rootD h e).1 (rootD h e).2
 | 0,e,hs,hn,h1=>⟨rfl,rfl,hs,by rcases h1 with h1 | h1;exact absurd h1 (by decide);exact h1,nR _,rfl,fun _ _ h=>h⟩
 | h+1,.inr x,⟨h4,h2,h3⟩,hn,_=>by
  by_cases c:(opS (.inr x:ED (h+1))).1.length=0
  ·obtain ⟨k,hk,e⟩:=rootD_yes c h2
   have hk3:=h3 k (by rw [hk];exact List.mem_singleton.2 rfl)
   have hx2:x.2=[k]:=hk
   have hx1:x.1=[]:=List.eq_nil_of_length_eq_zero c
   rw [e]
   refine ⟨(if_pos c).symm,?_,hk3.1,by show 1≤(itE k).length;omega,?_,?_,fun s t ho=>?_⟩
   ·show flE h k=weave x.1 (x.2.map (flE h))
    rw [hx1,hx2]
    simp [weave]
   ·show frE h k≤frE (h+1) (.inr x)
    have:=(fr_kids (.inr x:ED (h+1))).1
    rw [hk] at this
    simpa using this
   ·show olP h k=(x.2.map (olP h)).flatten
    rw [hx2]
    simp
   ·exact ho k (by rw [hx2];exact List.mem_singleton.2 rfl)
  ·rw [rootD_no c]
   exact ⟨(if_neg c).symm,rfl,⟨h4,h2,h3⟩,Nat.one_le_iff_ne_zero.2 c,nR _,rfl,fun _ _ h=>h⟩
theorem le_sumN:∀ {l:List Nat} {x:Nat},x∈l→x≤l.sum
 | y::l,x,hx=>by
  rw [List.sum_cons]
  rcases List.mem_cons.1 hx with rfl | hx
  ·omega
  ·have:=le_sumN hx
   omega
section
variable {h:Nat} {b:BT h} {s:DS} {t:PS} {l:List It}
theorem on_it (e6:OnD s t h b):1≤(itE (old b)).length:=by
 rw [aCd]
 cases h with
 | zero=>exact e6.2.n1
 | succ h=>exact e6.2.1.n1
theorem aF7 (k:List Nat) (e4:flB h b=l) (e5:Srt l) (e6:OnD s t h b) (e7:ShB h b):(delE h (old b) k).2=hasI l k:=by
 have:=(fl_del (old b) k (aBg b e7) (on_it e6) (by rw [aBv,e4];exact e5)).1
 rw [aBv,e4] at this
 exact this
theorem del_fl (k:List Nat) (e4:flB h b=l) (e5:Srt l) (e6:OnD s t h b) (e7:ShB h b) (hw:hasI l k=true):flE h (delE h (old b) k).1=delL l k:=by
 have:=(fl_del (old b) k (aBg b e7) (on_it e6) (by rw [aBv,e4];exact e5)).2 (by rw [aF7 k e4 e5 e6 e7];exact hw)
 rw [aBv,e4] at this
 exact this
theorem del_sh (k:List Nat) (e4:flB h b=l) (e5:Srt l) (e6:OnD s t h b) (e7:ShB h b) (hw:hasI l k=true):ShE h 4 (delE h (old b) k).1 :=
 (Sh_del (old b) k (aBg b e7) (on_it e6) (by rw [aBv,e4];exact e5) (by rw [aF7 k e4 e5 e6 e7];exact hw)).1
theorem aH5 (k:List Nat) (e4:flB h b=l) (e5:Srt l) (e6:OnD s t h b) (e7:ShB h b) (hw:hasI l k=true) (hne:delL l k≠[]):1≤h∨1≤(itE (delE h (old b) k).1).length:=by
 cases h with
 | succ h=>exact Or.inl (by omega)
 | zero =>
  right
  have hf:=del_fl k e4 e5 e6 e7 hw
  have:op0 (delE 0 (old b) k).1=delL l k:=hf
  show 1≤(op0 (delE 0 (old b) k).1).length
  rw [this]
  exact List.length_pos_iff.2 hne
theorem on_del (k:List Nat) (e4:flB h b=l) (e5:Srt l) (e6:OnD s t h b) (e7:ShB h b) (hw:hasI l k=true) (hne:delL l k≠[]) :
  flE (rootD h (delE h (old b) k).1).1 (rootD h (delE h (old b) k).1).2=delL l k∧ShE (rootD h (delE h (old b) k).1).1 4 (rootD h (delE h (old b) k).1).2∧1≤(itE (rootD h (delE h (old b) k).1).2).length∧OnE s t (rootD h (delE h (old b) k).1).1 (rootD h (delE h (old b) k).1).2∧frE (rootD h (delE h (old b) k).1).1 (rootD h (delE h (old b) k).1).2≤2*h+1:=by
 obtain ⟨_,r1,r2,r3,r4,_,r5⟩:=rootD_all (del_sh k e4 e5 e6 e7 hw) (aCe (old b) k) (aH5 k e4 e5 e6 e7 hw hne)
 rw [del_fl k e4 e5 e6 e7 hw] at r1
 refine ⟨r1,r2,r3,OnE.of (r5 s t (OldOn.del k (OldOn.old e6))) r2 (by rw [r1];exact delL_srt e5) (fun x hx=>?_) r3,nT r4 (fr_del b k e7)⟩
 rw [r1] at hx
 have:=delL_mem hx
 rw [←e4] at this
 exact e6.ok x this
theorem Tr.del {k:List Nat} {s':DS} {t':PS} {L:List Nat} {ps:List Nat} {b':BT (rootD h (delE h (old b) k).1).1} (e4:flB h b=l) (e5:Srt l) (e6:OnD s t h b) (e7:ShB h b) (e9:PgS ps (pgB h b)) (hsl:t.st.length≤4096) (hw:hasI l k=true) (hne:delL l k≠[])
  (hl:LdR (rootD h (delE h (old b) k).1).1 (rootD h (delE h (old b) k).1).2 b' L) (hg:Gw s t s' t' L) (hb':OnD s' t' (rootD h (delE h (old b) k).1).1 b') :
  Tr s' t' ⟨((BT.id b':Nat):Int),((dpD h (delE h (old b) k).1+1:Nat):Int),((l.length:Nat):Int)-1,L.foldl adP ((gnD h (old b) k).foldl drP ps)⟩ (delL l k):=by
 obtain ⟨f1,f2,f3,f4,_⟩:=on_del k e4 e5 e6 e7 hw hne
 obtain ⟨r0,_,_,_,_,r6,_⟩:=rootD_all (del_sh k e4 e5 e6 e7 hw) (aCe (old b) k) (aH5 k e4 e5 e6 e7 hw hne)
 refine Or.inr ⟨_,b',rfl,?_,?_,by rw [hl.fl,f1],delL_srt e5,hb',hl.sh f2,by rw [hl.it];exact f3,?_⟩
 ·show ((dpD h (delE h (old b) k).1+1:Nat):Int)=_
  rw [r0]
 ·have e:=aFe (k:=k) e5
  rw [if_pos hw] at e
  show ((l.length:Nat):Int)-1=_
  omega
 ·have hp:=pg_del (old b) k (aBg b e7) (on_it e6) (by rw [aF7 k e4 e5 e6 e7];exact hw)
  rw [olP_old] at hp
  refine e9.step hp ?_ hg.nd (gw_lt hg hsl) fun x hx q=>?_
  ·have:=hl.pg
   rw [r6] at this
   exact this
  ·have h1:=(hg.new x hx).1
   have h2:=(e6.held x q).1
   omega
theorem Tr.del0 {k:List Nat} {ps:List Nat} (e4:flB h b=l) (e5:Srt l) (e6:OnD s t h b) (e7:ShB h b) (e9:PgS ps (pgB h b)) (hw:hasI l k=true) (hne:delL l k=[]):h=0∧l.length=1∧(itE (delE h (old b) k).1).length=0∧Tr s t ⟨0,0,0,(gnD h (old b) k).foldl drP ps⟩ []:=by
 have e:=aFe (k:=k) e5
 rw [if_pos hw,hne] at e
 have hl1:l.length=1:=by simpa using e.symm
 have h0:h=0:=by
  cases h with
  | zero=>rfl
  | succ h =>
   exfalso
   obtain ⟨q1,q2,q3⟩:=e7
   have n1:=e6.2.1.n1
   have hw2:(flB (h+1) b).length=b.2.1.length+((b.2.2.map (flB h)).map List.length).sum:=aBz _ _ (by rw [List.length_map];exact q2)
   obtain ⟨k0,hk0⟩:∃ k0,k0∈b.2.2:=List.exists_mem_of_length_pos (by omega)
   have h2:=deep (q3 k0 hk0).1 (q3 k0 hk0).2
   have hp:3≤3 ^ (h+1):=by
    calc 3=3 ^ 1:=rfl
     _≤3 ^ (h+1):=Nat.pow_le_pow_right (by decide) (by omega)
   have hle:(flB h k0).length≤((b.2.2.map (flB h)).map List.length).sum:=le_sumN (List.mem_map_of_mem (List.mem_map_of_mem hk0))
   have:(flB (h+1) b).length=l.length:=by rw [e4]
   omega
 subst h0
 have hf:=del_fl k e4 e5 e6 e7 hw
 have hop:op0 (delE 0 (old b) k).1=[]:=by
  have:op0 (delE 0 (old b) k).1=delL l k:=hf
  rw [this,hne]
 refine ⟨rfl,hl1,by show (op0 (delE 0 (old b) k).1).length=0;rw [hop];rfl,Or.inl ⟨rfl,rfl,rfl,rfl,?_⟩⟩
 have hp:=pg_del (old b) k (aBg b e7) (on_it e6) (by rw [aF7 k e4 e5 e6 e7];exact hw)
 rw [olP_old] at hp
 refine e9.step (L:=[]) (old:=olP 0 (delE 0 (old b) k).1) hp (List.Perm.refl _) List.nodup_nil (fun x hx=>by simp at hx) fun x hx=>by simp at hx
end
end Go.Proofs.YtohgmapjokaibaaGreat
set_option linter.unusedVariables false
namespace Go.Proofs.YtohgmapjokaibaaGreat
open Go.RowKit
theorem rootE_le {h:Nat} {e:ED h} (h4:(itE e).length≤4):rootE h e=⟨h,e⟩:=by
 unfold rootE
 rw [if_neg (by omega)]
theorem aFo {B px q g:Nat} {w:World} {d n:Int} {gone:List Nat} {iv:Value} (hE:EV B w px q (lfP g) d n gone) (hg:w.heap[g]?=some (.cells #[iv] 101 (0,0))) (hiv:∃ a c,iv=.slice a 0 c) :
  Calls Tryz.prog 42 #[.pointer (some ⟨px,0,none⟩)] w fun e' w'=>e'=.returned (.tuple #[])∧EV B w' px q (plV 0) 0 n gone∧FE B w w':=by
 obtain ⟨a0,c0',rfl⟩:=hiv
 have HIO:=hide (aAp hg)
 have ta:=aAm (.pointer (some ⟨g,0,none⟩)) w
 obtain ⟨c0,c1,c2,c3,fz⟩:=hE.cellsx
 have f1:=fz 1
 have f2:=fz 2
 have HE:=hide hE
 unfold lfP at HIO c1
 clear hE hg fz
 go_enter Tryz.func42,Tryz.ntmps42
 go_wp2_with fail
 refine HIO.out.mono ?_
 rintro e' w1 ⟨rfl,hw⟩
 have hw:=hw.symm
 subst hw
 go_wp2
 go_end0
 obtain ⟨t1,t2⟩:=HE.out.turn (rv':=plV 0) (d':=0)
 exact ⟨rfl,t1,t2⟩
theorem aFp {B px q g gc oc cc:Nat} {w:World} {d n:Int} {gone:List Nat} {iv:Value} {vt:TypeId} {vv:Value} (hE:EV B w px q (brP g) d n gone) (hg:w.heap[g]?=some (.cells #[iv,.slice (some ⟨gc,oc,none⟩) 1 cc] 134 (0,0))) (hiv:∃ a c,iv=.slice a 0 c) (hk:w.cell? ⟨gc,oc,none⟩=some (.iface vt vv)) (hd0:0≤d) (hd1:d<1000) :
  Calls Tryz.prog 42 #[.pointer (some ⟨px,0,none⟩)] w fun e' w'=>e'=.returned (.tuple #[])∧EV B w' px q (.iface vt vv) (d-1) n gone∧FE B w w'∧∀ k,k≠px→w'.heap[k]?=w.heap[k]?:=by
 obtain ⟨a0,c0',rfl⟩:=hiv
 have HIO:=hide (aAn hg)
 have ta:=aAk (.pointer (some ⟨g,0,none⟩)) w
 obtain ⟨c0,c1,c2,c3,fz⟩:=hE.cellsx
 have hgp:g≠px:=by
  intro q9
  obtain ⟨gv,h1,_⟩:=hE.hx
  rw [←q9,hg] at h1
  simp only [oI,cI] at h1
  exact absurd h1.2.1 (by decide)
 have HE:=hide hE
 have HG:=hide hg
 have HCK:=hide hk
 have hwr:IntKind.i64.wrap (d-1)=d-1:=by rw [IntKind.wrap_i64];omega
 unfold brP at HIO c1
 have HFZ:=hide fz
 have f1:=fz 1
 have f2:=fz 2
 clear hE hg fz
 go_enter Tryz.func42,Tryz.ntmps42
 go_wp2_with fail
 refine HIO.out.mono ?_
 rintro e' w1 ⟨rfl,hw⟩
 have hw:=hw.symm
 subst hw
 have r1:w.cell? ⟨g,1,none⟩=some (.slice (some ⟨gc,oc,none⟩) 1 cc):=aAa HG.out
 go_upto_region 7 with fail
 go_region
 all_goals
  go_wp2
  go_end0
  obtain ⟨t1,t2⟩:=HE.out.turn (rv':=.iface vt vv) (d':=d-1)
  have hdr:Below ((w.setCell ⟨px,1,none⟩ (.iface vt vv)).setCell ⟨px,2,none⟩ (.int .i64 (d-1))).heap.size ((w.setCell ⟨px,1,none⟩ (.iface vt vv)).setCell ⟨px,2,none⟩ (.int .i64 (d-1))) ((w.setCell ⟨px,1,none⟩ (.iface vt vv)).setCell ⟨px,2,none⟩ (.int .i64 (d-1))).drew:=(Below.refl _ _).drew
  refine ⟨rfl,t1.later hdr,⟨t2.1.drew,t2.2⟩,fun k hk=>?_⟩
  show ((w.setCell ⟨px,1,none⟩ (.iface vt vv)).setCell ⟨px,2,none⟩ (.int .i64 (d-1))).heap[k]?=_
  rw [heap_setCell_other _ _ _ _ (by exact hk),heap_setCell_other _ _ _ _ (by exact hk)]
theorem change1_ok [Gd] {B p q g tb hb hf ty1 ty2:Nat} {s:DS} {t:PS} {w:World} {cs:Array Value} {now last:StT} {sv:Value} {left d n:Int} {cap:Array Value} {gone:List Nat} {h:Nat} {e:ED h} (hg0:True) (hST:ST B p q s t w) (hB:B≤w.heap.size) (hgB:B≤g) (hg:w.heap[g]?=some (.cells cs 60 (0,0))) (hT:TV cs p q now last sv left false)
  (htb:w.heap[tb]?=some (.cells #[.pointer (some ⟨g,0,none⟩)] ty1 (0,0))) (hhb:w.heap[hb]?=some (.cells #[.func (Fn.func hf) #[] cap] ty2 (0,0))) (hty1:NT ty1) (hcf:∀ (v:Value) (ww:World),(callFunc hf (#[v]++cap)).run Tryz.prog ww=.ok (.enter hf (#[v]++cap)) ww)
  (hHow:∀ (w1:World) (px:Nat),B≤px→Below w.heap.size w w1→EV B w1 px q (.iface 89 (.int .i64 now.root)) now.depth now.keys []→ST B p q s t w1→B≤w1.heap.size→Calls Tryz.prog hf (#[.pointer (some ⟨px,0,none⟩)]++cap) w1 fun e' w'=>e'=.returned (.bool true)∧∃ rv S,EV B w' px q rv d n gone∧NV B w1.heap.size w' h e S rv∧S.Nodup∧FE B w1 w')
  (hlf:s.life=t.life) (hdn:s.down=false) (haf:s.after<1) (hl1:s.life<100000) (hm:s.m+frE h e≤100000) (hsn:t.st.length=s.n) (hf1:frE h e≤1000) (hfr:frE h e≤cntF t.st) (hon:OnE s t h e) (hgo:∀ x∈gone,x<4096) (hgl:gone.length<100000) :
  Calls Tryz.prog 37 #[.pointer (some ⟨tb,0,none⟩),.pointer (some ⟨hb,0,none⟩)] w fun e' w'=>e'=.returned (.int .i64 0)∧ChR B p q g s t w now last sv d n gone h e w':=by
 have r1:w.cell? ⟨g,1,none⟩=some (.pointer (some ⟨q,0,none⟩)):=(aAa hg).trans hT.c1
 have r2:w.cell? ⟨g,2,none⟩=some (.int .i64 now.root):=(aAa hg).trans hT.n0
 have r3:w.cell? ⟨g,3,none⟩=some (.int .i64 now.depth):=(aAa hg).trans hT.n1
 have r4:w.cell? ⟨g,4,none⟩=some (.int .i64 now.keys):=(aAa hg).trans hT.n2
 have r5:w.cell? ⟨tb,0,none⟩=some (.pointer (some ⟨g,0,none⟩)):=aAa htb
 have r6:w.cell? ⟨hb,0,none⟩=some (.func (Fn.func hf) #[] cap):=aAa hhb
 have hsl:t.st.length≤4096:=by obtain ⟨_,gs,h2⟩:=hST;exact h2.ok.sl
 have HG:=hide hg
 have HT:=hide hT
 have HST:=hide hST
 have HTB:=hide htb
 have HHW:=hide hHow
 have HLP:=hide (fun (ww:World) (px:Nat) (rv:Value) (S:List Nat) (B1:Nat) (a1:ST B p q s t ww) (a2:B≤ww.heap.size) (a3:B≤B1) (a4:EL B ww px q rv d n gone []) (a5:NV B B1 ww h e S rv) (a6:S.Nodup)=>lay_ok hg0 h s t ww [] e S rv (⟨a1,a2,a3,hlf,hdn,haf,hl1,hm,hsn,a4,by simpa using hf1,hfr,hon,a5,a6⟩:LayP B B1 p q px s t ww rv d n gone [] h e S rv))
 have HFR:=hide (fun (B1:Nat) (ww:World) (S:List Nat) (v:Value) (a1:B≤ww.heap.size) (a2:NV B B1 ww h e S v)=>fresh_ok h ww e S v a1 hf1 a2)
 have HGO:=hide hgo
 have HGL:=hide hgl
 have HMM:=hide hm
 have HSM:Hid (∀ (s':DS) (t':PS) (L:List Nat) (a b:Nat),Gw s t s' t' L→L.length≤4096):=fun s' t' L a b hg=>by
  have h1:=hg.nd
  have h2:=gw_lt hg hsl
  have:=List.Nodup.length_le_of_subset (l₂:=List.range 4096) h1 fun x hx=>List.mem_range.2 (h2 x hx)
  simpa using this
 have HNT:=hide hty1
 clear hg hT hST htb hhb hHow hlf hdn haf hl1 hm hsn hon hgo hgl hty1
 go_enter Tryz.func37,Tryz.ntmps37
 go_upto_region 1 with fail
 have HY0:Hid ((fun wx=>wx.cell? ⟨tb,0,none⟩=some (.pointer (some ⟨g,0,none⟩))∧wx.cell? ⟨g,1,none⟩=some (.pointer (some ⟨q,0,none⟩))∧wx.cell? ⟨g,2,none⟩=some (.int .i64 now.root)∧wx.cell? ⟨g,3,none⟩=some (.int .i64 now.depth)∧wx.cell? ⟨g,4,none⟩=some (.int .i64 now.keys)) w.drew):=⟨r5,r1,r2,r3,r4⟩
 have HBQ:=hide ((aAb w (.cells #[.pointer (some ⟨q,0,none⟩),.iface 89 (.int .i64 now.root),.int .i64 now.depth,.int .i64 now.keys,.slice none 0 0,.slice none 0 0] 94)).drew)
 have HX1:Hid ((w.alloc (.cells #[.pointer (some ⟨q,0,none⟩),.iface 89 (.int .i64 now.root),.int .i64 now.depth,.int .i64 now.keys,.slice none 0 0,.slice none 0 0] 94)).drew.heap[w.heap.size]?=some (.cells #[.pointer (some ⟨q,0,none⟩),.iface 89 (.int .i64 now.root),.int .i64 now.depth,.int .i64 now.keys,.slice none 0 0,.slice none 0 0] 94 (0,0))):=heap_alloc_new w _
 have HY1:Hid ((fun wx=>wx.cell? ⟨tb,0,none⟩=some (.pointer (some ⟨g,0,none⟩))∧wx.cell? ⟨g,1,none⟩=some (.pointer (some ⟨q,0,none⟩))∧wx.cell? ⟨g,2,none⟩=some (.int .i64 now.root)∧wx.cell? ⟨g,3,none⟩=some (.int .i64 now.depth)∧wx.cell? ⟨g,4,none⟩=some (.int .i64 now.keys)) ((w.alloc (.cells #[.pointer (some ⟨q,0,none⟩),.iface 89 (.int .i64 now.root),.int .i64 now.depth,.int .i64 now.keys,.slice none 0 0,.slice none 0 0] 94)).drew)):=by
  have k5:=block_lt_of_cell r5
  have k1:=block_lt_of_cell r1
  exact ⟨(HBQ.out.cell (p:=⟨tb,0,none⟩) k5).trans r5,(HBQ.out.cell (p:=⟨g,1,none⟩) k1).trans r1,(HBQ.out.cell (p:=⟨g,2,none⟩) k1).trans r2,(HBQ.out.cell (p:=⟨g,3,none⟩) k1).trans r3,(HBQ.out.cell (p:=⟨g,4,none⟩) k1).trans r4⟩
 have HR5:=hide r5
 have HR6:=hide r6
 clear r1 r2 r3 r4 r5 r6
 refine wp_region_noPanic ?_
 refine wp_region_held_drew (S:=fun wx=>wx.cell? ⟨tb,0,none⟩=some (.pointer (some ⟨g,0,none⟩))∧wx.cell? ⟨g,1,none⟩=some (.pointer (some ⟨q,0,none⟩))∧wx.cell? ⟨g,2,none⟩=some (.int .i64 now.root)∧wx.cell? ⟨g,3,none⟩=some (.int .i64 now.depth)∧wx.cell? ⟨g,4,none⟩=some (.int .i64 now.keys)) (by kernel_rfl) HY0.out (fun hHeld=>?_)
 refine wpAnyH_tk 0 6 ?_
 refine wpAnyH_tk 1 7 ?_
 refine wpAnyH_tk 2 8 ?_
 refine wpAnyH_tk 3 9 ?_
 refine wpAnyH_tk 4 10 ?_
 refine wpAnyH_tk 5 11 ?_
 refine wpAnyH_tk 6 12 ?_
 refine wpAnyH_tk 7 13 ?_
 refine wpAnyH_tk 8 14 ?_
 refine wpAnyH_tk 9 15 ?_
 refine wpAnyH_tk 10 16 ?_
 refine wpAnyH_tk 11 17 ?_
 refine wpAnyH_tk 12 18 ?_
 refine wpAnyH_tk 13 19 ?_
 refine wpAnyH_tk 14 20 ?_
 refine wpAnyH_tk 15 21 ?_
 refine wpAnyH_tk 16 22 ?_
 refine wpAnyH_tk 17 23 ?_
 refine wpAnyH_tk 18 24 ?_
 refine wpAnyH_tk 19 25 ?_
 refine wpAnyH_tk 20 26 ?_
 refine wpAnyH_cm 21 ?_;intro K hK
 go_simp
 clear hHeld
 refine hK.out _ _ HY1.out (fun hHeld=>?_)
 clear hK K
 try simp only [Act.put,siT,scZ,scS]
 refine wpAnyH_tk 22 3 ?_
 refine wpAnyH_done (by kernel_rfl) ?_ _
 refine NoPanic.normal ?_
 clear hHeld HY0 HY1
 have HB1:=HBQ
 clear HBQ
 generalize ((w.alloc (.cells #[.pointer (some ⟨q,0,none⟩),.iface 89 (.int .i64 now.root),.int .i64 now.depth,.int .i64 now.keys,.slice none 0 0,.slice none 0 0] 94)).drew)=w1 at *
 have r5:=HR5.out
 have r6:=HR6.out
 have t1:w1.cell? ⟨tb,0,none⟩=some (.pointer (some ⟨g,0,none⟩)):=(HB1.out.cell (p:=⟨tb,0,none⟩) (block_lt_of_cell r5)).trans r5
 have h1:w1.cell? ⟨hb,0,none⟩=some (.func (Fn.func hf) #[] cap):=(HB1.out.cell (p:=⟨hb,0,none⟩) (block_lt_of_cell r6)).trans r6
 have c1:=hcf (.pointer (some ⟨w.heap.size,0,none⟩)) w1
 have HF1:=hide (FE.of HB1.out hB)
 have HEV1:Hid (EV B w1 w.heap.size q (.iface 89 (.int .i64 now.root)) now.depth now.keys []):=⟨hB,⟨_,HX1.out,aHo⟩,by simp⟩
 have HCL:=hide (HHW.out w1 w.heap.size hB HB1.out HEV1.out (HST.out.later HB1.out) (nT hB HB1.out.size))
 have HBw1:Hid (B≤w1.heap.size):=nT hB HB1.out.size
 clear r5 r6 hcf HX1 HEV1 HHW HB1 HR5 HR6
 generalize hpx:w.heap.size=px at *
 go_wp2_with fail
 refine HCL.out.mono ?_
 rintro e2 w2 ⟨rfl,rv,S,v1,v2,v3,v4⟩
 obtain ⟨ty,pv,rfl⟩:=v2.form
 have HF2:=hide (HF1.out.trans v4)
 have HBw2:Hid (B≤w2.heap.size):=nT HBw1.out v4.1.size
 have HEV2:=hide v1
 have HNV2:=hide v2
 have HND:=hide v3
 have HST2:=hide (HF2.out.st HST.out hg0)
 have HG2:=hide (HF2.out.nt HG.out (by decide))
 have HMR:=hide (aD6 HST2.out HG2.out HT.out v1 (HFR.out _ w2 S _ HBw2.out v2) hfr)
 have t2:w2.cell? ⟨tb,0,none⟩=some (.pointer (some ⟨g,0,none⟩)):=aAa (HF2.out.nt HTB.out HNT.out)
 clear v1 v2 v3 v4 t1 h1 c1 HCL
 go_wp2_with fail
 refine HMR.out.mono ?_
 rintro e3 w3 ⟨rfl,hb3⟩
 have HB3:=hide hb3
 have HB3d:Hid (Below w2.heap.size w2 w3.drew):=hb3.drew
 have HF3:=hide (HF2.out.trans (FE.of HB3d.out HBw2.out))
 have HG3:Hid (w3.heap[g]?=some (.cells cs 60 (0,0))):=HF3.out.nt HG.out (by decide)
 have t3:w3.cell? ⟨tb,0,none⟩=some (.pointer (some ⟨g,0,none⟩)):=aAa (show w3.heap[tb]?=_ from HF3.out.nt HTB.out HNT.out)
 have g3:w3.cell? ⟨g,1,none⟩=some (.pointer (some ⟨q,0,none⟩)):=(aAa HG3.out).trans HT.out.c1
 have p3:w3.cell? ⟨px,1,none⟩=some (.iface ty pv):=((HEV2.out.later hb3).cellsx).2.1
 have HLY:=hide (HLP.out w3.drew px (.iface ty pv) S w1.heap.size (HST2.out.later HB3d.out) (nT HBw2.out HB3d.out.size) HBw1.out (HEV2.out.later HB3d.out).el (NV.lf (T:=[]) (Lf.fe [] (FE.of HB3d.out HBw2.out)) (fun _ _=>List.not_mem_nil) HNV2.out) HND.out)
 clear hb3 t2 HMR
 go_upto_region 6 with fail
 have HX0:Hid ((fun wx=>wx.cell? ⟨tb,0,none⟩=some (.pointer (some ⟨g,0,none⟩))∧wx.cell? ⟨g,1,none⟩=some (.pointer (some ⟨q,0,none⟩))∧wx.cell? ⟨px,1,none⟩=some (.iface ty pv)) w3.drew):=⟨t3,g3,p3⟩
 clear t3 g3 p3
 refine wp_region_noPanic ?_
 refine wp_region_held_drew (S:=fun wx=>wx.cell? ⟨tb,0,none⟩=some (.pointer (some ⟨g,0,none⟩))∧wx.cell? ⟨g,1,none⟩=some (.pointer (some ⟨q,0,none⟩))∧wx.cell? ⟨px,1,none⟩=some (.iface ty pv)) (by kernel_rfl) HX0.out (fun hHeld=>?_)
 refine wpAnyH_tk 0 37 ?_
 refine wpAnyH_tk 1 38 ?_
 refine wpAnyH_tk 2 39 ?_
 refine wpAnyH_tk 3 40 ?_
 refine wpAnyH_tk 4 41 ?_
 refine wpAnyH_tk 5 42 ?_
 refine wpAnyH_tk 6 43 ?_
 refine wpAnyH_tk 7 44 ?_
 refine wpAnyH_tk 8 45 ?_
 refine wpAnyH_cm 9 ?_;intro K hK
 go_simp
 refine HLY.out.mono ?_
 rintro e4 w4 ⟨v4,rfl,b,s4,t4,L,rfl,l1,l2,l3,l4,l5,l6⟩
 have HL1:=hide l1
 have HL2:=hide l2
 have HL3:=hide l3
 have HL4:=hide l4
 have HL5:=hide l5
 have HL6:=hide l6
 have HG4:Hid (w4.heap[g]?=some (.cells cs 60 (0,0))):=l6.2.1 g cs _ _ (show w3.drew.heap[g]?=_ from HG3.out) (by decide)
 have HTB4:Hid (w4.heap[tb]?=some (.cells #[.pointer (some ⟨g,0,none⟩)] ty1 (0,0))):=l6.2.1 tb _ _ _ (show w3.drew.heap[tb]?=_ from HF3.out.nt HTB.out HNT.out) HNT.out
 have HX1:Hid ((fun wx=>wx.cell? ⟨tb,0,none⟩=some (.pointer (some ⟨g,0,none⟩))∧wx.cell? ⟨g,1,none⟩=some (.pointer (some ⟨q,0,none⟩))∧wx.cell? ⟨px,1,none⟩=some (.iface ty pv)) w4):=by
  obtain ⟨gv,lv,k1,k2,k3,k4⟩:=l5.hx
  exact ⟨aAa HTB4.out,(aAa HG4.out).trans HT.out.c1,aAa k1⟩
 clear l1 l2 l3 l4 l5 l6 hHeld
 refine hK.out _ _ HX1.out (fun hHeld=>?_)
 clear hK K
 try simp only [Act.put,siT,scZ,scS]
 refine wpAnyH_tk 10 36 ?_
 refine wpAnyH_tk 11 47 ?_
 refine wpAnyH_tk 12 48 ?_
 refine wpAnyH_tk 13 4 ?_
 refine wpAnyH_tk 14 5 ?_
 refine wpAnyH_done (by kernel_rfl) ?_ _
 refine NoPanic.normal ?_
 clear hHeld HX0 HX1 HLY
 have t4x:w4.cell? ⟨tb,0,none⟩=some (.pointer (some ⟨g,0,none⟩)):=aAa HTB4.out
 have hLn:L.length<100000:=by exact Nat.lt_of_le_of_lt (HSM.out _ _ _ 0 0 HL2.out) (by decide)
 have HTK:=hide (take_ok (root:=BT.id b) hgB HL3.out HG4.out HT.out HL5.out HGO.out (by rw [List.nil_append];exact gw_lt HL2.out hsl) HGL.out (by rw [List.nil_append];exact hLn))
 go_wp2_with fail
 refine HTK.out.mono ?_
 rintro e5 w5 ⟨rfl,cs',k1,k2,k3⟩
 rw [List.nil_append] at k2
 have HK1:=hide k1
 have HK2:=hide k2
 have HK3:=hide k3
 clear k1 k2 k3 t4x HTK
 go_wp2
 go_ret
 refine ⟨rfl,b,s4,t4,L,cs',HL1.out,HL2.out,HL3.out.exT HK3.out HG4.out,HL4.out,HK1.out,HK2.out,((HF3.out.1.trans HL6.out.1).trans HK3.out.1),fun k cs0 t0 fz k1 k2 k3=>?_,(HF3.out.gdk.trans HL6.out.2.2.2).trans (HK3.out.gdk HG4.out (by unfold DTy;decide))⟩
 have m1:=HL6.out.2.1 k cs0 t0 fz (show w3.drew.heap[k]?=_ from HF3.out.nt k1 k2) k2
 rw [HK3.out.2 k (lO m1) (by simpa using k3),m1]
theorem Ex.keepX {B g k:Nat} {w w':World} {cs cs':Array Value} {t T0:TypeId} {fz fz0:Nat×Nat} (h:Ex B [g] w w') (hg:w.heap[g]?=some (.cells cs T0 fz0)) (hk:w.heap[k]?=some (.cells cs' t fz)) (ht:t≠T0):w'.heap[k]?=some (.cells cs' t fz):=by
 rw [h.2 k (lO hk) ?_,hk]
 intro q9
 simp only [List.mem_singleton] at q9
 subst q9
 rw [hg] at hk
 simp only [oI,cI] at hk
 exact ht hk.2.1.symm
theorem ST.exE [Gd] {B p q g:Nat} {s:DS} {t:PS} {w w':World} {cs:Array Value} (h:ST B p q s t w) (f:Ex B [g] w w') (hg:w.heap[g]?=some (.cells cs 29 (0,0))):ST B p q s t w':=by
 obtain ⟨h1,gs,h2⟩:=h
 refine ⟨?_,gs,f.keepX hg h2.hq (by decide),f.keepX hg h2.hs (by decide),h2.qB,h2.gB,h2.ok,h2.hG⟩
 exact h1.of_stay (fun k cs t e ht=>f.keepX hg e (by rcases ht with rfl | rfl | rfl | rfl | rfl | rfl | rfl<;>decide))
theorem aGb [Gd] {B p q g hf:Nat} {s:DS} {t:PS} {w:World} {cs:Array Value} {now last:StT} {sv:Value} {left d n:Int} {cap:Array Value} {gone:List Nat} {h:Nat} {e:ED h} (hg0:True) (hST:ST B p q s t w) (hB:B≤w.heap.size) (hgB:B≤g) (hg:w.heap[g]?=some (.cells cs 60 (0,0))) (hT:TV cs p q now last sv left false)
  (hcf:∀ (v:Value) (ww:World),(callFunc hf (#[v]++cap)).run Tryz.prog ww=.ok (.enter hf (#[v]++cap)) ww)
  (hHow:∀ (w1:World) (px:Nat),B≤px→Below w.heap.size w w1→EV B w1 px q (.iface 89 (.int .i64 now.root)) now.depth now.keys []→ST B p q s t w1→B≤w1.heap.size→Calls Tryz.prog hf (#[.pointer (some ⟨px,0,none⟩)]++cap) w1 fun e' w'=>e'=.returned (.bool true)∧∃ rv S,EV B w' px q rv d n gone∧NV B w1.heap.size w' h e S rv∧S.Nodup∧FE B w1 w')
  (hlf:s.life=t.life) (hdn:s.down=false) (haf:s.after<1) (hl1:s.life<100000) (hm:s.m+frE h e≤100000) (hsn:t.st.length=s.n) (hf1:frE h e≤1000) (hfr:frE h e≤cntF t.st) (hon:OnE s t h e) (hgo:∀ x∈gone,x<4096) (hgl:gone.length<100000) :
  Calls Tryz.prog 16 #[.pointer (some ⟨g,0,none⟩),.func (Fn.func hf) #[] cap] w fun e' w'=>e'=.returned (.int .i64 0)∧ChR B p q g s t w now last sv d n gone h e w':=by
 have hmf:∀ (fn:Fn) (first cap:Array Value) (w:World),(Instr.makeFunc fn first cap).run Tryz.prog w=.ok (.func fn first cap) w:=fun _ _ _ _=>rfl
 have hgl':=(lO hg)
 have x1:Hid ((w.alloc (.cells #[.pointer (some ⟨g,0,none⟩)] 25)).heap[w.heap.size]?=some (.cells #[.pointer (some ⟨g,0,none⟩)] 25 (0,0))):=heap_alloc_new w _
 have b1:=aAb w (.cells #[.pointer (some ⟨g,0,none⟩)] 25)
 have e1:(w.alloc (.cells #[.pointer (some ⟨g,0,none⟩)] 25)).heap.size=w.heap.size+1:=Array.size_push _
 have HCR:Hid (Calls Tryz.prog 36 #[.func (Fn.func 37) #[] #[.pointer (some ⟨w.heap.size,0,none⟩),.pointer (some ⟨w.heap.size+1,0,none⟩)]] ((w.alloc (.cells #[.pointer (some ⟨g,0,none⟩)] 25)).alloc (.cells #[.func (Fn.func hf) #[] cap] 51)) fun e' w'=>e'=.returned (.int .i64 0)∧ChR B p q g s t w now last sv d n gone h e w'):=by
  generalize hw1:(w.alloc (.cells #[.pointer (some ⟨g,0,none⟩)] 25))=w1 at *
  have x2:(w1.alloc (.cells #[.func (Fn.func hf) #[] cap] 51)).heap[w1.heap.size]?=some (.cells #[.func (Fn.func hf) #[] cap] 51 (0,0)):=heap_alloc_new w1 _
  have b2:=aAb w1 (.cells #[.func (Fn.func hf) #[] cap] 51)
  generalize hw2:(w1.alloc (.cells #[.func (Fn.func hf) #[] cap] 51))=w2 at *
  have x3:(w2.alloc (.cells #[.int .i64 0] 29)).heap[w2.heap.size]?=some (.cells #[.int .i64 0] 29 (0,0)):=heap_alloc_new w2 _
  have b3:=aAb w2 (.cells #[.int .i64 0] 29)
  have b12:Below w.heap.size w w2:=b1.trans (b2.mono b1.size)
  have b13:Below w.heap.size w (w2.alloc (.cells #[.int .i64 0] 29)):=b12.trans (b3.mono b12.size)
  have hbx:B≤w2.heap.size:=nT hB b12.size
  have y1:=((b2.block w.heap.size (by omega)).trans x1.out)
  have y1':=((b3.block w.heap.size (lO y1)).trans y1)
  have y2':=((b3.block w1.heap.size (lO x2)).trans x2)
  rw [e1] at y2'
  have hC:=change1_ok (w:=w2.alloc (.cells #[.int .i64 0] 29)) hg0 (hST.later b13) (nT hB b13.size) hgB ((b13.block g hgl').trans hg) hT y1' y2' (by decide) hcf (fun wx px k1 k2=>hHow wx px k1 (b13.trans (k2.mono b13.size))) hlf hdn haf hl1 hm hsn hf1 hfr hon hgo hgl
  have hgs:g<w2.heap.size:=Nat.lt_of_lt_of_le hgl' b12.size
  refine (aB6 (w:=w2) (P:=fun r ww=>r=0∧ChR B p q g s t (w2.alloc (.cells #[.int .i64 0] 29)) now last sv d n gone h e ww) (fun ww=>by rfl) (hC.mono ?_)).mono ?_
  ·rintro e9 w9 ⟨rfl,hc⟩
   refine ⟨0,rfl,⟨rfl,hc⟩,?_⟩
   obtain ⟨b,s',t',L,cs',k1,k2,k3,k4,k5,k6,k7⟩:=hc
   exact k7.2 _ _ _ _ x3 (by decide) (by omega)
  ·rintro e9 w9 ⟨r,w8,rfl,⟨rfl,hc⟩,rfl⟩
   refine ⟨rfl,?_⟩
   obtain ⟨b,s',t',L,cs',k1,k2,k3,k4,k5,k6,k7⟩:=hc
   have x9:=k7.2 _ _ _ _ x3 (by decide) (by omega)
   have hex:Ex B [w2.heap.size] w8 (w8.setCell ⟨w2.heap.size,0,none⟩ (.int .i64 0)):=Ex.set hbx
   refine ⟨b,s',t',L,cs',k1,k2,k3.exE hex x9,k4,hex.keepX x9 k5 (by decide),k6,(b13.mono hB).trans (k7.1.trans hex.1),fun k cs0 t0 fz m1 m2 m3=>?_,(GdK.of b13).trans (k7.gd.trans (hex.gdk x9 (by unfold DTy;decide)))⟩
   have m4:=k7.2 k cs0 t0 fz ((b13.block k (lO m1)).trans m1) m2 m3
   have hkl:=(lO m1)
   have hs2:=b12.size
   rw [hex.2 k (lO m4) (by simp;omega),m4]
 clear hST hg hT hcf hHow hlf hdn haf hl1 hm hsn hf1 hfr hon hgo hgl x1 b1
 go_enter Tryz.func16,Tryz.ntmps16
 go_wp2_with fail
 refine HCR.out.mono ?_
 rintro e9 w9 ⟨rfl,hc⟩
 have HC:=hide hc
 clear hc
 go_wp2
 go_ret
 exact ⟨rfl,HC.out⟩
end Go.Proofs.YtohgmapjokaibaaGreat
