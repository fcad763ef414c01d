import Derived.Laws.StructEq
import Derived.Test.YtdfjjhlhnfindaaGreatZ45
set_option maxRecDepth 100000
set_option maxHeartbeats 16000000
set_option linter.unusedVariables false
namespace Go.Proofs.YtdfjjhlhnfindaaGreat
open Go.RowKit
section
variable [Gd] {B p q g ls rg nd N c u n0:Nat} {l:List It} {L:Nat->Lg} {W w w':World}
theorem NDM.aset (h:NDM B p q g ls rg nd N c u l L W w) {cf:Array Value} {o:Nat} {x:Value} (hf:w.heap[n0]?=some (.cells cf 75 (0,0))) (hB:B<=n0):NDM B p q g ls rg nd N c u l L W (w.setCell ⟨n0,o,none⟩ x):=by
 obtain ⟨cs,h1,h2⟩:=h.s.lv
 obtain ⟨cn,h3,h4⟩:=h.v
 have keep:∀ (k:Nat) (cs:Array Value) (t:TypeId) (fz:Nat×Nat),w.heap[k]?=some (Obj.cells cs t fz)->t≠75->(w.setCell ⟨n0,o,none⟩ x).heap[k]?=some (Obj.cells cs t fz):=fun k cs t fz e ht=>by
  rw [(Ex.set (w:=w) (o:=o) (u:=x) hB).2 k (lO e) (by simpa using aAr e hf ht),e]
 refine ⟨⟨h.s.kx.same (Ex.set hB).1 (fun k cs t fz e ht=>keep k cs t fz e ?_),h.s.bl,cs,keep _ _ _ _ h1 (by decide),h2⟩,h.b,cn,keep _ _ _ _ h3 (by decide),h4⟩
 rcases ht with rfl | rfl | ht
 ·decide
 ·decide
 ·intro q9
  rw [q9] at ht
  exact ht (by decide)
theorem NDM.an6 (h:NDM B p q g ls rg nd N c u l L W w) {a0 a1 a2 a3 a4 a5 b0 b1 b2 b3 b4 b5:Value} (hn:w.heap[n0]?=some (.cells #[a0,a1,a2,a3,a4,a5] 75 (0,0))) (hB:B<=n0):NDM B p q g ls rg nd N c u l L W ((((((w.setCell ⟨n0,0,none⟩ b0).setCell ⟨n0,1,none⟩ b1).setCell ⟨n0,2,none⟩ b2).setCell ⟨n0,3,none⟩ b3).setCell ⟨n0,4,none⟩ b4).setCell ⟨n0,5,none⟩ b5):=by
 have k1:=heap_setCell_same w n0 0 _ _ b0 hn
 have k2:=heap_setCell_same _ n0 1 _ _ b1 k1
 have k3:=heap_setCell_same _ n0 2 _ _ b2 k2
 have k4:=heap_setCell_same _ n0 3 _ _ b3 k3
 have k5:=heap_setCell_same _ n0 4 _ _ b4 k4
 exact (((((h.aset hn hB).aset k1 hB).aset k2 hB).aset k3 hB).aset k4 hB).aset k5 hB
end
def NX [Gd] (B p q g ls rg nd N m:Nat) (l:List It) (L:Nat->Lg) (W w:World):Prop:=∃ c u,NDM B p q g ls rg nd N c u l L W w/\c<=m/\u<=m/\l.length<=m
section
variable [Gd] {B p q g ls rg nd N m:Nat} {l:List It} {L:Nat->Lg} {W w w':World}
theorem NX.bw (h:NX B p q g ls rg nd N m l L W w):B<=w.heap.size:=by
 obtain ⟨c,u,h1,h2⟩:=h
 exact h1.bw
theorem NX.srt (h:NX B p q g ls rg nd N m l L W w):Srt l:=by
 obtain ⟨c,u,h1,h2⟩:=h
 exact h1.s.kx.srt
end
structure NdP where
 p:Nat
 q:Nat
 g:Nat
 ls:Nat
 rg:Nat
 nd:Nat
def RGB (B:Nat) (P:NdP) (w:World):Prop:=B<=P.rg/\∃ cs,w.heap[P.rg]?=some (.cells cs 135 (0,0))/\cs.size=18/\cs[0]?=some (.pointer (some ⟨P.ls,0,none⟩))
theorem RGB.same {B:Nat} {P:NdP} {w w':World} (h:RGB B P w) (e:w'.heap[P.rg]?=w.heap[P.rg]?):RGB B P w':=by
 obtain ⟨h1,cs,h2,h3⟩:=h
 exact ⟨h1,cs,e.trans h2,h3⟩
def NXc (B:Nat) (P:NdP) (N m:Nat) (l:List It) (L:Nat->Lg) (W:World) (F:Nat->Prop) (w:World):Prop :=
 ((∀ k,F k->FBk w k)/\(∃ cs,w.heap[P.g]?=some (.cells cs 183 (0,0)))/\(∃ cs,w.heap[P.ls]?=some (.cells cs 130 (0,0)))/\∃ cs,w.heap[P.nd]?=some (.cells cs 115 (0,0)))/\RGB B P w /\
 ∀ (w':World) (S':Nat->Prop),(∀ k,F k->w'.heap[k]?=w.heap[k]?)->ByK w w'->w'.heap[P.g]?=w.heap[P.g]?->w'.heap[P.ls]?=w.heap[P.ls]?->w'.heap[P.nd]?=w.heap[P.nd]?->Below B w w'->(∀ k,S' k->FBk w' k/\¬ F k)->@NX ⟨S'⟩ B P.p P.q P.g P.ls P.rg P.nd N m l L W w'
section
variable {B:Nat} {P:NdP} {N m:Nat} {l:List It} {L:Nat->Lg} {W w w':World} {F:Nat->Prop}
theorem NXc.keep (h:NXc B P N m l L W F w) (hF:∀ k,F k->w'.heap[k]?=w.heap[k]?) (hB:ByK w w') (hg:w'.heap[P.g]?=w.heap[P.g]?) (hl:w'.heap[P.ls]?=w.heap[P.ls]?) (hn:w'.heap[P.nd]?=w.heap[P.nd]?) (hb:Below B w w') (hr:w'.heap[P.rg]?=w.heap[P.rg]?):NXc B P N m l L W F w':=by
 obtain ⟨⟨h1,⟨c1,h2⟩,⟨c2,h3⟩,⟨c3,h4⟩⟩,h6,h5⟩:=h
 refine ⟨⟨fun k hk=>(h1 k hk).same (hF k hk),⟨c1,hg.trans h2⟩,⟨c2,hl.trans h3⟩,⟨c3,hn.trans h4⟩⟩,h6.same hr,fun w2 S' a1 a2 a3 a4 a5 a6 a7=>?_⟩
 exact h5 w2 S' (fun k hk=>(a1 k hk).trans (hF k hk)) (fun k cs fz e=>a2 k cs fz (hB k cs fz e)) (a3.trans hg) (a4.trans hl) (a5.trans hn) (hb.trans a6) a7
theorem NXc.nx (h:NXc B P N m l L W F w) (S':Nat->Prop) (hS:∀ k,S' k->FBk w k/\¬ F k):@NX ⟨S'⟩ B P.p P.q P.g P.ls P.rg P.nd N m l L W w :=
 h.2.2 w S' (fun _ _=>rfl) (fun _ _ _ e=>e) rfl rfl rfl (Below.refl _ _) hS
theorem NX.c [Gd] (h:NX B P.p P.q P.g P.ls P.rg P.nd N m l L W w) (hr:RGB B P w):∃ F:Nat->Prop,NXc B P N m l L W F w/\∀ k,Gd.s k->¬ F k:=by
 obtain ⟨c,u,h1,h2⟩:=h
 obtain ⟨F,k1,k2,k3⟩:=h1.fp
 obtain ⟨cg,hg⟩:=h1.s.kx.blk
 obtain ⟨cl,hl,_⟩:=h1.s.lv
 obtain ⟨cn,hn,_⟩:=h1.v
 exact ⟨F,⟨⟨k1,⟨cg,hg⟩,⟨cl,hl⟩,⟨cn,hn⟩⟩,hr,fun w' S' a1 a2 a3 a4 a5 a6 a7=>⟨c,u,k3 w' S' a1 a2 a3 a4 a5 a6 a7,h2⟩⟩,k2⟩
end
structure RgN [Gd] (B:Nat) (P:NdP) (w w':World):Prop where
 bel:Below B w w'
 stay:∀ (k:Nat) (cs:Array Value) (t:TypeId) (fz:Nat×Nat),w.heap[k]?=some (Obj.cells cs t fz)->NT t->k≠P.g->k≠P.ls->k≠P.nd->k≠P.rg->w'.heap[k]?=some (Obj.cells cs t fz)
 gd:GdK w w'
def NdK (w w':World):Prop:=∀ (k:Nat) (cs:Array Value) (t:TypeId) (fz:Nat×Nat),w.heap[k]?=some (Obj.cells cs t fz)->NT t->t≠183->t≠130->t≠115/\t≠135->w'.heap[k]?=some (Obj.cells cs t fz)
theorem NdK.of {w w':World} (h:Below w.heap.size w w'):NdK w w':=fun k cs t fz e _ _ _ _=>(h.block k (lO e)).trans e
theorem NdK.trans {a b c:World} (h:NdK a b) (k:NdK b c):NdK a c:=fun i cs t fz e n1 n2 n3 n4=>k i cs t fz (h i cs t fz e n1 n2 n3 n4) n1 n2 n3 n4
structure NdS where
 m:Nat
 l:List It
 L:Nat->Lg
def upS {α:Type} (f:Nat->α) (i:Nat) (x:α):Nat->α:=fun j=>if j=i then x else f j
theorem aB5 {α:Type} (f:Nat->α) (i:Nat) (x:α):upS f i x i=x:=if_pos rfl
theorem aBj {α:Type} (f:Nat->α) {i j:Nat} (x:α) (h:j≠i):upS f i x j=f j:=if_neg h
def MND (B N M:Nat) (P:Nat->NdP) (A:Nat->NdS) (E:Nat->Prop) (W w:World):Prop:=∃ F:Nat->Nat->Prop,((∀ i,i<M->NXc B (P i) N (A i).m (A i).l (A i).L W (F i) w)/\∀ k,E k->FBk w k/\∀ i,i<M->¬ F i k)/\(∀ i j,i<M->j<M->i≠j->(∀ k,F i k->¬ F j k)/\(P i).g≠(P j).g/\(P i).ls≠(P j).ls/\(P i).nd≠(P j).nd/\(P i).rg≠(P j).rg)
section
variable {B N M:Nat} {P:Nat->NdP} {A:Nat->NdS} {E:Nat->Prop} {W w w':World}
theorem MND.later (h:MND B N M P A E W w) (hb:Below w.heap.size w w') (hB:B<=w.heap.size):MND B N M P A E W w':=by
 obtain ⟨F,⟨h1,hE⟩,h2⟩:=h
 refine ⟨F,⟨fun i hi=>?_,fun k hk=>⟨(hE k hk).1.same (hb.block k (hE k hk).1.lt),(hE k hk).2⟩⟩,h2⟩
 obtain ⟨⟨k1,⟨c1,k2⟩,⟨c2,k3⟩,⟨c3,k4⟩⟩,⟨_,c5,k5,_⟩,_⟩:=h1 i hi
 have blk:∀ {k:Nat} {o:Obj},w.heap[k]?=some o->w'.heap[k]?=w.heap[k]?:=fun e=>hb.block _ (lO e)
 exact (h1 i hi).keep (fun k hk=>hb.block k (k1 k hk).lt) (fun k cs fz e=>(blk e).trans e) (blk k2) (blk k3) (blk k4) (hb.mono hB) (blk k5)
theorem MND.callr (h:MND B N M P A E W w) {i:Nat} (hi:i<M) {K:Nat} {args:Array Value} {Q:Ending->World->Prop} {x:NdS}
  (hc:∀ S:Nat->Prop,@NX ⟨S⟩ B (P i).p (P i).q (P i).g (P i).ls (P i).rg (P i).nd N (A i).m (A i).l (A i).L W w->RGB B (P i) w->Calls Tryz.prog K args w fun e w'=>Q e w'/\@NX ⟨S⟩ B (P i).p (P i).q (P i).g (P i).ls (P i).rg (P i).nd N x.m x.l x.L W w'/\RGB B (P i) w'/\@RgN ⟨S⟩ B (P i) w w') :
  Calls Tryz.prog K args w fun e w'=>Q e w'/\MND B N M P (upS A i x) E W w'/\NdK w w'/\Below B w w'/\∀ k,E k->w'.heap[k]?=w.heap[k]?:=by
 obtain ⟨F,⟨h1,hE⟩,h2⟩:=h
 have hS:∀ k,(E k\/∃ j,j<M/\j≠i/\F j k)->FBk w k/\¬ F i k:=by
  rintro k (hk | ⟨j,hj,hne,hk⟩)
  ·exact ⟨(hE k hk).1,(hE k hk).2 i hi⟩
  ·exact ⟨(h1 j hj).1.1 k hk,(h2 j i hj hi hne).1 k hk⟩
 refine (hc _ ((h1 i hi).nx (fun k=>E k\/∃ j,j<M/\j≠i/\F j k) hS) (h1 i hi).2.1).mono ?_
 rintro e w' ⟨hq,hx,hr,hf⟩
 letI:Gd:=⟨fun k=>E k\/∃ j,j<M/\j≠i/\F j k⟩
 obtain ⟨F',k1,k2⟩:=hx.c hr
 obtain ⟨⟨b1,⟨c1,b2⟩,⟨c2,b3⟩,⟨c3,b4⟩⟩,⟨_,c5,b5,_⟩,_⟩:=h1 i hi
 have ne:∀ {a b:Nat} {ca cb:Array Value} {ta tb:TypeId} {fa fb:Nat×Nat},w.heap[a]?=some (Obj.cells ca ta fa)->w.heap[b]?=some (Obj.cells cb tb fb)->ta≠tb->a≠b:=by
  intro a b ca cb ta tb fa fb e1 e2 ht e3
  subst e3
  rw [e1] at e2
  simp only [oI,cI] at e2
  exact ht e2.2.1
 have hK:NdK w w':=fun k cs t fz e n1 n2 n3 n4=>hf.2 k cs t fz e n1 (ne e b2 n2) (ne e b3 n3) (ne e b4 n4.1) (ne e b5 n4.2)
 have gE:∀ k,E k->w'.heap[k]?=w.heap[k]?:=fun k hk=>hf.gd k (Or.inl hk) (hE k hk).1
 refine ⟨hq,⟨upS F i F',⟨fun j hj=>?_,fun k hk=>⟨(hE k hk).1.same (gE k hk),fun j hj=>?_⟩⟩,fun j j' hj hj' hne=>?_⟩,hK,hf.1,gE⟩
 ·by_cases hji:j=i
  ·subst hji
   rw [aB5,aB5]
   exact k1
  ·rw [aBj _ _ hji,aBj _ _ hji]
   obtain ⟨⟨d1,⟨e1,d2⟩,⟨e2,d3⟩,⟨e3,d4⟩⟩,⟨_,e5,d5,_⟩,_⟩:=h1 j hj
   obtain ⟨_,o1,o2,o3,o4⟩:=h2 j i hj hi hji
   refine (h1 j hj).keep (fun k hk=>hf.gd k (Or.inr ⟨j,hj,hji,hk⟩) (d1 k hk)) (fun k cs fz e=>hK k cs _ _ e (by decide) (by decide) (by decide) (by decide)) ?_ ?_ ?_ hf.1 ?_
   ·rw [d2];exact hf.2 _ _ _ _ d2 (by decide) o1 (ne d2 b3 (by decide)) (ne d2 b4 (by decide)) (ne d2 b5 (by decide))
   ·rw [d3];exact hf.2 _ _ _ _ d3 (by decide) (ne d3 b2 (by decide)) o2 (ne d3 b4 (by decide)) (ne d3 b5 (by decide))
   ·rw [d4];exact hf.2 _ _ _ _ d4 (by decide) (ne d4 b2 (by decide)) (ne d4 b3 (by decide)) o3 (ne d4 b5 (by decide))
   ·rw [d5];exact hf.2 _ _ _ _ d5 (by decide) (ne d5 b2 (by decide)) (ne d5 b3 (by decide)) (ne d5 b4 (by decide)) o4
 ·by_cases hji:j=i
  ·subst hji
   rw [aB5]
   exact k2 k (Or.inl hk)
  ·rw [aBj _ _ hji]
   exact (hE k hk).2 j hj
 ·refine ⟨fun k hk=>?_,(h2 j j' hj hj' hne).2⟩
  by_cases hji:j=i
  ·subst hji
   rw [aB5] at hk
   rw [aBj _ _ (Ne.symm hne)]
   intro hk'
   exact k2 k (Or.inr ⟨j',hj',Ne.symm hne,hk'⟩) hk
  ·rw [aBj _ _ hji] at hk
   by_cases hji':j'=i
   ·subst hji'
    rw [aB5]
    exact k2 k (Or.inr ⟨j,hj,hji,hk⟩)
   ·rw [aBj _ _ hji']
    exact (h2 j j' hj hj' hne).1 k hk
theorem MND.less {E':Nat->Prop} (h:MND B N M P A E W w) (hE:∀ k,E' k->E k):MND B N M P A E' W w:=by
 obtain ⟨F,⟨h1,h3⟩,h2⟩:=h
 exact ⟨F,⟨h1,fun k hk=>h3 k (hE k hk)⟩,h2⟩
theorem MND.wrE (h:MND B N M P A E W w) {g o:Nat} {u:Value} (hg:E g) (hB:B<=g):MND B N M P A E W (w.setCell ⟨g,o,none⟩ u):=by
 obtain ⟨F,⟨h1,hE⟩,h2⟩:=h
 obtain ⟨c0,t0,e0,ht0⟩:=(hE g hg).1
 have oth:∀ k,k≠g->(w.setCell ⟨g,o,none⟩ u).heap[k]?=w.heap[k]?:=fun k hk=>heap_setCell_other _ _ _ _ hk
 have ne:∀ {k:Nat} {cs:Array Value} {t:TypeId} {fz:Nat×Nat},w.heap[k]?=some (Obj.cells cs t fz)->¬ DTy t->k≠g:=by
  intro k cs t fz e ht e3
  subst e3
  rw [e0] at e
  simp only [oI,cI] at e
  exact ht (e.2.1 ▸ ht0)
 refine ⟨F,⟨fun i hi=>?_,fun k hk=>?_⟩,h2⟩
 ·obtain ⟨⟨d1,⟨c1,d2⟩,⟨c2,d3⟩,⟨c3,d4⟩⟩,⟨_,c5,d5,_⟩,_⟩:=h1 i hi
  exact (h1 i hi).keep (fun k hk=>oth k (fun e=>(hE g hg).2 i hi (e ▸ hk))) (fun k cs fz e=>(oth k (ne e (by unfold DTy;decide))).trans e) (oth _ (ne d2 (by unfold DTy;decide))) (oth _ (ne d3 (by unfold DTy;decide))) (oth _ (ne d4 (by unfold DTy;decide))) ((Below.refl _ _).setCell (p:=⟨g,o,none⟩) hB u) (oth _ (ne d5 (by unfold DTy;decide)))
 ·refine ⟨?_,(hE k hk).2⟩
  by_cases e:k=g
  ·subst e
   exact ⟨_,t0,heap_setCell_same _ _ _ _ _ _ e0,ht0⟩
  ·exact (hE k hk).1.same (oth k e)
end
def MNE (B N M:Nat) (P:Nat->NdP) (A:Nat->NdS) (E:Nat->Prop) (W:World) (p:Nat) (s:DS) (w:World):Prop:=∃ F:Nat->Nat->Prop,(((∀ i,i<M->NXc B (P i) N (A i).m (A i).l (A i).L W (F i) w)/\∀ k,E k->FBk w k/\∀ i,i<M->¬ F i k)/\(∀ i j,i<M->j<M->i≠j->(∀ k,F i k->¬ F j k)/\(P i).g≠(P j).g/\(P i).ls≠(P j).ls/\(P i).nd≠(P j).nd/\(P i).rg≠(P j).rg))/\@DI ⟨fun k=>E k\/∃ j,j<M/\F j k⟩ B p s w
theorem MND.nil (B N:Nat) (P:Nat->NdP) (A:Nat->NdS) (W w:World):MND B N 0 P A (fun _=>False) W w:=⟨fun _ _=>False,⟨fun i hi=>absurd hi (by omega),fun k hk=>False.elim hk⟩,fun i j hi=>absurd hi (by omega)⟩
section
variable {B N M:Nat} {P:Nat->NdP} {A:Nat->NdS} {E:Nat->Prop} {W w w':World}
theorem aEc {F:Nat->Nat->Prop} (h:∀ i,i<M->NXc B (P i) N (A i).m (A i).l (A i).L W (F i) w) (hs:∀ (k:Nat) (cs:Array Value) (t:TypeId) (fz:Nat×Nat),w.heap[k]?=some (Obj.cells cs t fz)->NT t->w'.heap[k]?=some (Obj.cells cs t fz)) (hg:@GdK ⟨fun k=>E k\/∃ j,j<M/\F j k⟩ w w') (hb:Below B w w'):∀ i,i<M->NXc B (P i) N (A i).m (A i).l (A i).L W (F i) w':=by
 intro i hi
 obtain ⟨⟨d1,⟨e1,d2⟩,⟨e2,d3⟩,⟨e3,d4⟩⟩,⟨_,e5,d5,_⟩,_⟩:=h i hi
 exact (h i hi).keep (fun k hk=>hg k (Or.inr ⟨i,hi,hk⟩) (d1 k hk)) (fun k cs fz e=>hs k cs _ _ e (by decide)) (by rw [d2];exact hs _ _ _ _ d2 (by decide)) (by rw [d3];exact hs _ _ _ _ d3 (by decide)) (by rw [d4];exact hs _ _ _ _ d4 (by decide)) hb (by rw [d5];exact hs _ _ _ _ d5 (by decide))
theorem MND.disk (h:MND B N M P A E W w) (hB:B<=w.heap.size) {n:Nat} (h1:1<=n) (h2:n<=4096) :
  Calls Tryz.prog 16 #[.int .i64 (n:Int)] w fun e w'=>∃ p,e=.returned (.tuple #[.pointer (some ⟨p,0,none⟩),.int .i64 0])/\MNE B N M P A E W p (DS.new n) w'/\Below w.heap.size w w':=by
 obtain ⟨F,⟨k1,hE⟩,k2⟩:=h
 letI:Gd:=⟨fun k=>E k\/∃ j,j<M/\F j k⟩
 refine (new_any B n w h1 h2 hB (fun k hk=>by
  rcases hk with hk | ⟨j,hj,hk⟩
  ·exact (hE k hk).1
  ·exact (k1 j hj).1.1 k hk)).mono ?_
 rintro e w' ⟨p,rfl,hD,hb⟩
 exact ⟨p,rfl,⟨F,⟨⟨aEc (E:=E) k1 (fun k cs t fz e _=>(hb.block k (lO e)).trans e) (GdK.of hb) (hb.mono hB),fun k hk=>⟨(hE k hk).1.same (hb.block k (hE k hk).1.lt),(hE k hk).2⟩⟩,k2⟩,hD⟩,hb⟩
theorem MNE.call {p:Nat} {s s':DS} (h:MNE B N M P A E W p s w) {K:Nat} {args:Array Value} {Q:Ending->World->Prop}
  (hc:∀ S:Nat->Prop,@DI ⟨S⟩ B p s w->Calls Tryz.prog K args w fun e w'=>Q e w'/\@DI ⟨S⟩ B p s' w'/\@Fr ⟨S⟩ B w w') :
  Calls Tryz.prog K args w fun e w'=>Q e w'/\MNE B N M P A E W p s' w'/\Below B w w'/\∀ (k:Nat) (cs:Array Value) (t:TypeId) (fz:Nat×Nat),w.heap[k]?=some (Obj.cells cs t fz)->NT t->w'.heap[k]?=some (Obj.cells cs t fz):=by
 obtain ⟨F,⟨⟨h1,hE⟩,h2⟩,h3⟩:=h
 refine (hc _ h3).mono ?_
 rintro e w' ⟨hq,hd,hf⟩
 have hst:∀ (k:Nat) (cs:Array Value) (t:TypeId) (fz:Nat×Nat),w.heap[k]?=some (Obj.cells cs t fz)->NT t->w'.heap[k]?=some (Obj.cells cs t fz):=fun k cs t fz e ht=>by
  refine @Fr.stay ⟨_⟩ _ _ _ hf k cs t fz e ?_ ?_ ?_ ?_<;>(intro q9;rw [q9] at ht;exact ht (by decide))
 have hgd:=@Fr.gd ⟨_⟩ _ _ _ hf
 exact ⟨hq,⟨F,⟨⟨aEc (E:=E) h1 hst hgd (@Fr.bel ⟨_⟩ _ _ _ hf),fun k hk=>⟨(hE k hk).1.same (hgd k (Or.inl hk) (hE k hk).1),(hE k hk).2⟩⟩,h2⟩,hd⟩,@Fr.bel ⟨_⟩ _ _ _ hf,hst⟩
theorem MNE.open {p n:Nat} (h:MNE B n M P A E W p (DS.new n) w) (hB:B<=w.heap.size) (hW:Below B W w) (h3:3<=n) (h4:n<=4096) :
  Calls Tryz.prog 30 #[.pointer (some ⟨p,0,none⟩)] w fun e w'=>∃ x:NdP,e=.returned (.tuple #[.pointer (some ⟨x.nd,0,none⟩),.int .i64 0])/\x.p=p/\MND B n (M+1) (upS P M x) (upS A M ⟨0,[],fun _=>(0,0,false)⟩) E W w'/\Below B w w'/\∀ (k:Nat) (cs:Array Value) (t:TypeId) (fz:Nat×Nat),w.heap[k]?=some (Obj.cells cs t fz)->NT t->w'.heap[k]?=some (Obj.cells cs t fz):=by
 obtain ⟨F,⟨⟨h1,hE⟩,h2⟩,hD⟩:=h
 letI:Gd:=⟨fun k=>E k\/∃ j,j<M/\F j k⟩
 refine (nopen_new (W:=W) rfl hD hB hW h3 h4).mono ?_
 rintro e w' ⟨q,g,ls,rg,nd,rfl,hN,⟨a1,a2,a3⟩,y,hy,hf,hrg,a5,hRG⟩
 obtain ⟨x,hx⟩:∃ x:NdP,x=⟨p,q,g,ls,rg,nd⟩:=⟨_,rfl⟩
 have hX:NX B x.p x.q x.g x.ls x.rg x.nd n 0 [] (fun _=>(0,0,false)) W w':=by rw [hx];exact ⟨0,0,hN,nR _,nR _,nR _⟩
 have b1:w.heap.size<=x.g/\w.heap.size<=x.ls/\w.heap.size<=x.nd/\w.heap.size<=x.rg:=by rw [hx];exact ⟨a1,a2,a3,hrg⟩
 have hR:RGB B x w':=by rw [hx];exact ⟨a5,hRG⟩
 obtain ⟨F',k1,k2⟩:=hX.c hR
 have hst:∀ (k:Nat) (cs:Array Value) (t:TypeId) (fz:Nat×Nat),w.heap[k]?=some (Obj.cells cs t fz)->NT t->w'.heap[k]?=some (Obj.cells cs t fz):=fun k cs t fz e ht=>by
  have:=(lO e)
  exact hf.2 k cs t fz e ht (by omega) (by omega) (by omega)
 have hnk:=aEc (E:=E) h1 hst hf.gd hf.1
 have old:∀ j,j<M->(P j).g<w.heap.size/\(P j).ls<w.heap.size/\(P j).nd<w.heap.size/\(P j).rg<w.heap.size:=fun j hj=>by
  obtain ⟨⟨_,⟨_,d2⟩,⟨_,d3⟩,⟨_,d4⟩⟩,⟨_,_,d5,_⟩,_⟩:=h1 j hj
  exact ⟨(lO d2),(lO d3),(lO d4),(lO d5)⟩
 refine ⟨x,by rw [hx],by rw [hx],⟨upS F M F',⟨fun j hj=>?_,fun k hk=>⟨(hE k hk).1.same (hf.gd k (Or.inl hk) (hE k hk).1),fun j hj=>?_⟩⟩,fun j j' hj hj' hne=>?_⟩,hf.1,hst⟩
 ·by_cases e:j=M
  ·subst e
   rw [aB5,aB5,aB5]
   exact k1
  ·rw [aBj _ _ e,aBj _ _ e,aBj _ _ e]
   exact hnk j (by omega)
 ·by_cases e:j=M
  ·subst e
   rw [aB5]
   exact k2 k (Or.inl hk)
  ·rw [aBj _ _ e]
   exact (hE k hk).2 j (by omega)
 ·by_cases e:j=M
  ·subst e
   have e':j'≠j:=Ne.symm hne
   have o:=old j' (by omega)
   rw [aB5,aB5,aBj _ _ e',aBj _ _ e']
   exact ⟨fun k hk hk'=>k2 k (Or.inr ⟨j',by omega,hk'⟩) hk,by omega,by omega,by omega,by omega⟩
  ·by_cases e':j'=M
   ·subst e'
    have o:=old j (by omega)
    rw [aB5,aB5,aBj _ _ e,aBj _ _ e]
    exact ⟨fun k hk=>k2 k (Or.inr ⟨j,by omega,hk⟩),by omega,by omega,by omega,by omega⟩
   ·rw [aBj _ _ e,aBj _ _ e,aBj _ _ e',aBj _ _ e']
    exact h2 j j' (by omega) (by omega) hne
end
theorem aCc {fn:Func} {p u:Tmp} (h:fn.results=#[.cell p 75,.tmp u]) (tmps:Array Value) (w:World) (g:Nat) (cs:Array Value)
  (hp:tmps.getD p undef=.pointer (some ⟨g,0,none⟩)) (hg:w.heap[g]?=some (.cells cs 75 (0,0))) (hz:cs.size=6) :
  (results fn tmps).run Tryz.prog w=.ok (.tuple #[.agg cs,tmps.getD u undef]) w:=by
 have hi:(Tryz.prog.info? 75).map (·.size)=some cs.size:=by rw [hz];exact aA4
 rw [results_cell_tmp h,hp]
 simp only [asAddr,Sem.run_pure,Result.andThen_ok,run_loadVar_row w g 75 75 cs (0,0) _ hg Tryz.underlying75 rfl hi]
section
variable {B N M:Nat} {P:Nat->NdP} {A:Nat->NdS} {E:Nat->Prop} {W w w':World}
theorem MND.dead (h:MND B N M P A E W w) {i:Nat} (hi:i<M):Calls Tryz.prog 49 #[.pointer (some ⟨(P i).nd,0,none⟩)] w fun e w'=>e=.returned (.bool false)/\Below w.heap.size w w':=by
 obtain ⟨F,⟨h1,_⟩,_⟩:=h
 have hx:=(h1 i hi).nx (fun _=>False) (fun k hk=>False.elim hk)
 letI:Gd:=⟨fun _=>False⟩
 obtain ⟨c,u,k1,_⟩:=hx
 exact k1.dead
theorem MND.wrO (h:MND B N M P A E W w) {g o:Nat} {u:Value} {cs:Array Value} {t:TypeId} (hg:w.heap[g]?=some (.cells cs t (0,0))) (hB:B<=g) (h0:¬ DTy t) (h1:t≠5) (h2:t≠183) (h3:t≠130) (h4:t≠115/\t≠135):MND B N M P A E W (w.setCell ⟨g,o,none⟩ u):=by
 obtain ⟨F,⟨k1,hE⟩,k2⟩:=h
 have oth:∀ k,k≠g->(w.setCell ⟨g,o,none⟩ u).heap[k]?=w.heap[k]?:=fun k hk=>heap_setCell_other _ _ _ _ hk
 have ne:∀ {k:Nat} {cs':Array Value} {t':TypeId} {fz:Nat×Nat},w.heap[k]?=some (Obj.cells cs' t' fz)->t≠t'->k≠g:=by
  intro k cs' t' fz e ht e3
  subst e3
  rw [hg] at e
  simp only [oI,cI] at e
  exact ht e.2.1
 refine ⟨F,⟨fun i hi=>?_,fun k hk=>⟨(hE k hk).1.same (oth k ((hE k hk).1.ne hg h0)),(hE k hk).2⟩⟩,k2⟩
 obtain ⟨⟨d1,⟨c1,d2⟩,⟨c2,d3⟩,⟨c3,d4⟩⟩,⟨_,c5,d5,_⟩,_⟩:=k1 i hi
 exact (k1 i hi).keep (fun k hk=>oth k ((d1 k hk).ne hg h0)) (fun k cs fz e=>(oth k (ne e h1)).trans e) (oth _ (ne d2 h2)) (oth _ (ne d3 h3)) (oth _ (ne d4 h4.1)) ((Below.refl _ _).setCell (p:=⟨g,o,none⟩) hB u) (oth _ (ne d5 h4.2))
theorem MND.wr6 (h:MND B N M P A E W w) {g:Nat} {a0 a1 a2 a3 a4 a5 b0 b1 b2 b3 b4 b5:Value} (hg:w.heap[g]?=some (.cells #[a0,a1,a2,a3,a4,a5] 75 (0,0))) (hB:B<=g):MND B N M P A E W ((((((w.setCell ⟨g,0,none⟩ b0).setCell ⟨g,1,none⟩ b1).setCell ⟨g,2,none⟩ b2).setCell ⟨g,3,none⟩ b3).setCell ⟨g,4,none⟩ b4).setCell ⟨g,5,none⟩ b5):=by
 have s1:=heap_setCell_same w g 0 _ _ b0 hg
 have s2:=heap_setCell_same _ g 1 _ _ b1 s1
 have s3:=heap_setCell_same _ g 2 _ _ b2 s2
 have s4:=heap_setCell_same _ g 3 _ _ b3 s3
 have s5:=heap_setCell_same _ g 4 _ _ b4 s4
 have d:¬ DTy 75:=by unfold DTy;decide
 exact (((((h.wrO hg hB d (by decide) (by decide) (by decide) (by decide)).wrO s1 hB d (by decide) (by decide) (by decide) (by decide)).wrO s2 hB d (by decide) (by decide) (by decide) (by decide)).wrO s3 hB d (by decide) (by decide) (by decide) (by decide)).wrO s4 hB d (by decide) (by decide) (by decide) (by decide)).wrO s5 hB d (by decide) (by decide) (by decide) (by decide)
end
theorem NdK.wr6 {w0 w:World} {g:Nat} {b0 b1 b2 b3 b4 b5:Value} (h:NdK w0 w) (hn:w0.heap.size<=g):NdK w0 ((((((w.setCell ⟨g,0,none⟩ b0).setCell ⟨g,1,none⟩ b1).setCell ⟨g,2,none⟩ b2).setCell ⟨g,3,none⟩ b3).setCell ⟨g,4,none⟩ b4).setCell ⟨g,5,none⟩ b5):=fun k cs t fz e n1 n2 n3 n4=>by
 have hne:k≠g:=by
  have:=(lO e)
  omega
 rw [heap_setCell_other _ _ _ _ hne,heap_setCell_other _ _ _ _ hne,heap_setCell_other _ _ _ _ hne,heap_setCell_other _ _ _ _ hne,heap_setCell_other _ _ _ _ hne,heap_setCell_other _ _ _ _ hne]
 exact h k cs t fz e n1 n2 n3 n4
theorem oth6 {w:World} {g k:Nat} {b0 b1 b2 b3 b4 b5:Value} (hne:k≠g):((((((w.setCell ⟨g,0,none⟩ b0).setCell ⟨g,1,none⟩ b1).setCell ⟨g,2,none⟩ b2).setCell ⟨g,3,none⟩ b3).setCell ⟨g,4,none⟩ b4).setCell ⟨g,5,none⟩ b5).heap[k]?=w.heap[k]?:=by
 rw [heap_setCell_other _ _ _ _ hne,heap_setCell_other _ _ _ _ hne,heap_setCell_other _ _ _ _ hne,heap_setCell_other _ _ _ _ hne,heap_setCell_other _ _ _ _ hne,heap_setCell_other _ _ _ _ hne]
def DoT (B N:Nat) (P:NdP) (W:World) (k lg at_:Int) (va:Option Addr) (n cp:Nat) (a x:NdS) (e0 tl:Int) (sl:Bool) (tr bl:Int) (vn:Nat) (val:List Nat) (ww:World):Prop:=∀ S:Nat->Prop,@NX ⟨S⟩ B P.p P.q P.g P.ls P.rg P.nd N a.m a.l a.L W ww->RGB B P ww->Calls Tryz.prog 42 #[.pointer (some ⟨P.nd,0,none⟩),.agg #[.int .i64 k,.int .i64 lg,.int .i64 at_,.slice va n cp]] ww fun e w'=>(∃ sa sc,e=.returned (.agg #[.int .i64 e0,.int .i64 tl,.bool sl,.int .i64 tr,.int .i64 bl,.slice sa vn sc])/\BK B w' sa vn sc val)/\@NX ⟨S⟩ B P.p P.q P.g P.ls P.rg P.nd N x.m x.l x.L W w'/\RGB B P w'/\@RgN ⟨S⟩ B P ww w'
theorem host_up {B N M:Nat} {P:Nat->NdP} {A:Nat->NdS} {E:Nat->Prop} {W w:World} (h:MND B N M P A E W w) {i gh:Nat} (hi:i<M) (hh:w.cell? ⟨gh,i*2+1,none⟩=some (.pointer (some ⟨(P i).nd,0,none⟩))) :
  Calls Tryz.prog 41 #[.pointer (some ⟨gh,i*2,none⟩)] w fun e w'=>e=.returned (.bool true)/\Below w.heap.size w w':=by
 have HD:=hide (h.dead hi)
 clear h
 go_enter Tryz.func41,Tryz.ntmps41
 go_wp2_with fail
 refine HD.out.mono ?_
 rintro e w1 ⟨rfl,hb1⟩
 have HB1:=hide hb1
 clear hb1 HD
 go_wp2
 go_ret
 exact ⟨rfl,HB1.out⟩
theorem host_do {B N M:Nat} {P:Nat->NdP} {A:Nat->NdS} {E:Nat->Prop} {W w:World} (h:MND B N M P A E W w) (hBw:B<=w.heap.size) {i gh n cp vn:Nat} {k lg at_ e0 tl tr bl:Int} {sl:Bool} {va:Option Addr} {val:List Nat} {x:NdS} {hc:Array Value} (hi:i<M) (hh:w.heap[gh]?=some (.cells hc 51 (0,0))) (hcc:hc[i*2+1]?=some (.pointer (some ⟨(P i).nd,0,none⟩))) (he:¬ e0=20) (hEl:∀ k,E k->k<w.heap.size)
  (hdo:∀ ww,Below w.heap.size w ww->DoT B N (P i) W k lg at_ va n cp (A i) x e0 tl sl tr bl vn val ww) :
  Calls Tryz.prog 27 #[.pointer (some ⟨gh,i*2,none⟩),.agg #[.int .i64 k,.int .i64 lg,.int .i64 at_,.slice va n cp]] w fun e w'=>(∃ sa sc,e=.returned (.tuple #[.agg #[.int .i64 e0,.int .i64 tl,.bool sl,.int .i64 tr,.int .i64 bl,.slice sa vn sc],.bool true])/\BK B w' sa vn sc val)/\MND B N M P (upS A i x) E W w'/\NdK w w'/\Below B w w'/\∀ k,E k->w'.heap[k]?=w.heap[k]?:=by
 have lt:∀ {k:Nat} {o:Obj} {ww:World},ww.heap[k]?=some o->k<ww.heap.size:=fun e=>(lO e)
 have HBX:=hide (aBz w (.cells #[.int .i64 k,.int .i64 lg,.int .i64 at_,.slice va n cp] 68) (.cells #[.int .i64 0,.int .i64 0,.bool false,.int .i64 0,.int .i64 0,.slice none 0 0] 75))
 have HR1:Hid (((w.alloc (.cells #[.int .i64 k,.int .i64 lg,.int .i64 at_,.slice va n cp] 68)).alloc (.cells #[.int .i64 0,.int .i64 0,.bool false,.int .i64 0,.int .i64 0,.slice none 0 0] 75)).heap[w.heap.size]?=some (.cells #[.int .i64 k,.int .i64 lg,.int .i64 at_,.slice va n cp] 68 (0,0))):=aAf [Obj.cells #[.int .i64 k,.int .i64 lg,.int .i64 at_,.slice va n cp] 68,Obj.cells #[.int .i64 0,.int .i64 0,.bool false,.int .i64 0,.int .i64 0,.slice none 0 0] 75] w 0 _ rfl
 have HA1:Hid (((w.alloc (.cells #[.int .i64 k,.int .i64 lg,.int .i64 at_,.slice va n cp] 68)).alloc (.cells #[.int .i64 0,.int .i64 0,.bool false,.int .i64 0,.int .i64 0,.slice none 0 0] 75)).heap[w.heap.size+1]?=some (.cells #[.int .i64 0,.int .i64 0,.bool false,.int .i64 0,.int .i64 0,.slice none 0 0] 75 (0,0))):=aAf [Obj.cells #[.int .i64 k,.int .i64 lg,.int .i64 at_,.slice va n cp] 68,Obj.cells #[.int .i64 0,.int .i64 0,.bool false,.int .i64 0,.int .i64 0,.slice none 0 0] 75] w 1 _ rfl
 have HM1:=hide (h.later HBX.out hBw)
 have HH1:=hide ((HBX.out.block gh (lt hh)).trans hh)
 have HGH:Hid (gh<w.heap.size):=lt hh
 have HHC:=hide hcc
 have HI:=hide hi
 have HDO:=hide hdo
 have HBW:=hide hBw
 have HEL:=hide hEl
 have y0:((w.alloc (.cells #[.int .i64 k,.int .i64 lg,.int .i64 at_,.slice va n cp] 68)).alloc (.cells #[.int .i64 0,.int .i64 0,.bool false,.int .i64 0,.int .i64 0,.slice none 0 0] 75)).cell? ⟨gh,i*2+1,none⟩=some (.pointer (some ⟨(P i).nd,0,none⟩)):=(aAa HH1.out).trans hcc
 have HU1:=hide (host_up HM1.out hi y0)
 clear h hh hcc hi hdo hBw hEl y0
 go_enter Tryz.func27,Tryz.ntmps27
 go_upto_region 1 with fail
 generalize ((w.alloc (.cells #[.int .i64 k,.int .i64 lg,.int .i64 at_,.slice va n cp] 68)).alloc (.cells #[.int .i64 0,.int .i64 0,.bool false,.int .i64 0,.int .i64 0,.slice none 0 0] 75))=w1 at *
 generalize hn0:w.heap.size=n0 at *
 generalize hn1:n0+1=n1 at *
 have HN1:Hid (n0<=n1):=by show n0<=n1;omega
 have HBN:Hid (B<=n1):=by show B<=n1;have:=HBW.out;omega
 clear hn1
 go_wp2_with fail
 refine HU1.out.mono ?_
 rintro e w2 ⟨rfl,hb2⟩
 have HB1:B<=w1.heap.size:=by have:=HBX.out.size;have:=HBW.out;omega
 have hb2:=hb2.drew
 have HM2:=hide (HM1.out.later hb2 HB1)
 have HR2:=hide ((hb2.block n0 (lt HR1.out)).trans HR1.out)
 have HA2:=hide ((hb2.block n1 (lt HA1.out)).trans HA1.out)
 have HH2:=hide ((hb2.block gh (lt HH1.out)).trans HH1.out)
 have HWD:Hid (Below n0 w w2.drew):=HBX.out.trans (hb2.mono (by have:=HBX.out.size;omega))
 have HNW2:Hid (NdK w w2.drew):=NdK.of (by rw [hn0];exact HWD.out)
 have HWB2:Hid (Below B w w2.drew):=HWD.out.mono HBW.out
 have HE2:Hid (∀ k,E k->w2.drew.heap[k]?=w.heap[k]?):=fun k hk=>HWD.out.block k (HEL.out k hk)
 have HB2:Hid (B<=w2.heap.size):=by show B<=_;have h9:w1.heap.size<=w2.heap.size:=hb2.size;omega
 have HCA:=hide (HM2.out.callr HI.out (HDO.out w2.drew HWD.out))
 have HX2:Hid ((fun wx=>wx.cell? ⟨gh,i*2+1,none⟩=some (.pointer (some ⟨(P i).nd,0,none⟩))/\wx.cell? ⟨n0,0,none⟩=some (.int .i64 k)/\wx.cell? ⟨n0,1,none⟩=some (.int .i64 lg)/\wx.cell? ⟨n0,2,none⟩=some (.int .i64 at_)/\wx.cell? ⟨n0,3,none⟩=some (.slice va n cp)) w2.drew):=⟨(aAa HH2.out).trans HHC.out,aAa HR2.out,aAa HR2.out,aAa HR2.out,aAa HR2.out⟩
 clear hb2 HB1 HU1 HM1 HR1 HA1 HH1 HBX
 go_upto_region 3 with fail
 refine wp_region_noPanic ?_
 refine wp_region_held_drew (S:=fun wx=>wx.cell? ⟨gh,i*2+1,none⟩=some (.pointer (some ⟨(P i).nd,0,none⟩))/\wx.cell? ⟨n0,0,none⟩=some (.int .i64 k)/\wx.cell? ⟨n0,1,none⟩=some (.int .i64 lg)/\wx.cell? ⟨n0,2,none⟩=some (.int .i64 at_)/\wx.cell? ⟨n0,3,none⟩=some (.slice va n cp)) (by kernel_rfl) HX2.out (fun hHeld=>?_)
 refine wpAnyH_tk 0 11 ?_
 refine wpAnyH_tk 1 12 ?_
 refine wpAnyH_tk 2 13 ?_
 refine wpAnyH_tk 3 14 ?_
 refine wpAnyH_tk 4 15 ?_
 refine aAp (i:=5) (j:=6) (by kernel_rfl) (by kernel_rfl) (by kernel_rfl) ?ba ?bb
 case ba =>
  intro o ho K hK
  simp only [List.getElem?_toArray,List.getElem?_cons_succ,List.getElem?_cons_zero,oI] at ho
  subst ho
  go_simp
  refine HCA.out.mono ?_
  rintro e w3 ⟨⟨sa,sc,rfl,hk3⟩,hM3,hN3,hb3,hE3⟩
  have HM3:=hide hM3
  have HK3:=hide hk3
  have HR3:=hide (hN3 _ _ _ _ HR2.out (by decide) (by decide) (by decide) (by decide))
  have HA3:=hide (hN3 _ _ _ _ HA2.out (by decide) (by decide) (by decide) (by decide))
  have HH3:=hide (hN3 _ _ _ _ HH2.out (by decide) (by decide) (by decide) (by decide))
  have HN3:=hide (HNW2.out.trans hN3)
  have HW3:Hid (Below B w w3):=HWB2.out.trans hb3
  have HE3:Hid (∀ k,E k->w3.heap[k]?=w.heap[k]?):=fun k hk=>(hE3 k hk).trans (HE2.out k hk)
  have HX3:Hid ((fun wx=>wx.cell? ⟨gh,i*2+1,none⟩=some (.pointer (some ⟨(P i).nd,0,none⟩))/\wx.cell? ⟨n0,0,none⟩=some (.int .i64 k)/\wx.cell? ⟨n0,1,none⟩=some (.int .i64 lg)/\wx.cell? ⟨n0,2,none⟩=some (.int .i64 at_)/\wx.cell? ⟨n0,3,none⟩=some (.slice va n cp)) w3):=⟨(aAa HH3.out).trans HHC.out,aAa HR3.out,aAa HR3.out,aAa HR3.out,aAa HR3.out⟩
  have HB3:Hid (B<=w3.heap.size):=by show B<=_;have:=HW3.out.size;have:=HBW.out;omega
  clear hk3 hM3 hN3 hb3 hE3 hHeld HCA HM2 HR2 HA2 HH2 HNW2 HWB2 HE2
  refine hK.out _ _ HX3.out (fun hHeld=>?_)
  clear hK K
  try simp only [Act.put,siT,scZ,scS]
  refine wpAnyH_cm 6 ?_;intro K hK
  go_simp
  have hb4:=aAc w3 (.cells #[.int .i64 0,.int .i64 0,.bool false,.int .i64 0,.int .i64 0,.slice none 0 0] 75)
  have HM4:=hide (HM3.out.later hb4 HB3.out)
  have HC4:Hid ((w3.alloc (.cells #[.int .i64 0,.int .i64 0,.bool false,.int .i64 0,.int .i64 0,.slice none 0 0] 75)).heap[w3.heap.size]?=some (.cells #[.int .i64 0,.int .i64 0,.bool false,.int .i64 0,.int .i64 0,.slice none 0 0] 75 (0,0))):=heap_alloc_new w3 _
  have HR4:=hide ((hb4.block n0 (lt HR3.out)).trans HR3.out)
  have HA4:=hide ((hb4.block n1 (lt HA3.out)).trans HA3.out)
  have HH4:=hide ((hb4.block gh (lt HH3.out)).trans HH3.out)
  have HK4:=hide (HK3.out.later hb4 HB3.out)
  have HN4:=hide (HN3.out.trans (NdK.of hb4))
  have HW4:Hid (Below B w (w3.alloc (.cells #[.int .i64 0,.int .i64 0,.bool false,.int .i64 0,.int .i64 0,.slice none 0 0] 75))):=HW3.out.trans (hb4.mono HB3.out)
  have HE4:Hid (∀ k,E k->(w3.alloc (.cells #[.int .i64 0,.int .i64 0,.bool false,.int .i64 0,.int .i64 0,.slice none 0 0] 75)).heap[k]?=w.heap[k]?):=fun k hk=>(hb4.block k (by have:=HEL.out k hk;have:=HW3.out.size;omega)).trans (HE3.out k hk)
  have HN2:Hid (n1<w3.heap.size):=lt HA3.out
  have HBC:Hid (B<=w3.heap.size):=HB3.out
  have HX4:Hid ((fun wx=>wx.cell? ⟨gh,i*2+1,none⟩=some (.pointer (some ⟨(P i).nd,0,none⟩))/\wx.cell? ⟨n0,0,none⟩=some (.int .i64 k)/\wx.cell? ⟨n0,1,none⟩=some (.int .i64 lg)/\wx.cell? ⟨n0,2,none⟩=some (.int .i64 at_)/\wx.cell? ⟨n0,3,none⟩=some (.slice va n cp)) (w3.alloc (.cells #[.int .i64 0,.int .i64 0,.bool false,.int .i64 0,.int .i64 0,.slice none 0 0] 75))):=⟨(aAa HH4.out).trans HHC.out,aAa HR4.out,aAa HR4.out,aAa HR4.out,aAa HR4.out⟩
  clear hb4 hHeld HM3 HR3 HA3 HH3 HK3 HN3 HW3 HE3 HB3
  generalize w3.alloc (.cells #[.int .i64 0,.int .i64 0,.bool false,.int .i64 0,.int .i64 0,.slice none 0 0] 75)=w4 at *
  generalize w3.heap.size=n2 at *
  refine hK.out _ _ HX4.out (fun hHeld=>?_)
  clear hK K
  try simp only [Act.put,siT,scZ,scS]
  have m0:w4.cell? ⟨n2,0,none⟩=some (.int .i64 0):=aAa HC4.out
  have mf0:w4.frozen? ⟨n2,0,none⟩=false:=aAb HC4.out
  have m1:w4.cell? ⟨n2,1,none⟩=some (.int .i64 0):=aAa HC4.out
  have mf1:w4.frozen? ⟨n2,1,none⟩=false:=aAb HC4.out
  have m2:w4.cell? ⟨n2,2,none⟩=some (.bool false):=aAa HC4.out
  have mf2:w4.frozen? ⟨n2,2,none⟩=false:=aAb HC4.out
  have m3:w4.cell? ⟨n2,3,none⟩=some (.int .i64 0):=aAa HC4.out
  have mf3:w4.frozen? ⟨n2,3,none⟩=false:=aAb HC4.out
  have m4:w4.cell? ⟨n2,4,none⟩=some (.int .i64 0):=aAa HC4.out
  have mf4:w4.frozen? ⟨n2,4,none⟩=false:=aAb HC4.out
  have m5:w4.cell? ⟨n2,5,none⟩=some (.slice none 0 0):=aAa HC4.out
  have mf5:w4.frozen? ⟨n2,5,none⟩=false:=aAb HC4.out
  refine wpAnyH_cm 7 ?_;intro K hK
  go_simp
  have HM5:=hide (HM4.out.wr6 (b0:=.int .i64 e0) (b1:=.int .i64 tl) (b2:=.bool sl) (b3:=.int .i64 tr) (b4:=.int .i64 bl) (b5:=.slice sa vn sc) HC4.out HBC.out)
  have HC5:Hid (((((((w4.setCell ⟨n2,0,none⟩ (.int .i64 e0)).setCell ⟨n2,1,none⟩ (.int .i64 tl)).setCell ⟨n2,2,none⟩ (.bool sl)).setCell ⟨n2,3,none⟩ (.int .i64 tr)).setCell ⟨n2,4,none⟩ (.int .i64 bl)).setCell ⟨n2,5,none⟩ (.slice sa vn sc)).heap[n2]?=some (.cells #[.int .i64 e0,.int .i64 tl,.bool sl,.int .i64 tr,.int .i64 bl,.slice sa vn sc] 75 (0,0))):=set6 HC4.out
  have HH5:Hid (((((((w4.setCell ⟨n2,0,none⟩ (.int .i64 e0)).setCell ⟨n2,1,none⟩ (.int .i64 tl)).setCell ⟨n2,2,none⟩ (.bool sl)).setCell ⟨n2,3,none⟩ (.int .i64 tr)).setCell ⟨n2,4,none⟩ (.int .i64 bl)).setCell ⟨n2,5,none⟩ (.slice sa vn sc)).heap[gh]?=some (.cells hc 51 (0,0))):=(oth6 (by have:=HGH.out;have:=HN2.out;have:=HN1.out;omega)).trans HH4.out
  have HA5:Hid (((((((w4.setCell ⟨n2,0,none⟩ (.int .i64 e0)).setCell ⟨n2,1,none⟩ (.int .i64 tl)).setCell ⟨n2,2,none⟩ (.bool sl)).setCell ⟨n2,3,none⟩ (.int .i64 tr)).setCell ⟨n2,4,none⟩ (.int .i64 bl)).setCell ⟨n2,5,none⟩ (.slice sa vn sc)).heap[n1]?=some (.cells #[.int .i64 0,.int .i64 0,.bool false,.int .i64 0,.int .i64 0,.slice none 0 0] 75 (0,0))):=(oth6 (by have:=HN2.out;omega)).trans HA4.out
  have HR5:Hid (((((((w4.setCell ⟨n2,0,none⟩ (.int .i64 e0)).setCell ⟨n2,1,none⟩ (.int .i64 tl)).setCell ⟨n2,2,none⟩ (.bool sl)).setCell ⟨n2,3,none⟩ (.int .i64 tr)).setCell ⟨n2,4,none⟩ (.int .i64 bl)).setCell ⟨n2,5,none⟩ (.slice sa vn sc)).heap[n0]?=some (.cells #[.int .i64 k,.int .i64 lg,.int .i64 at_,.slice va n cp] 68 (0,0))):=(oth6 (by have:=HN2.out;have:=HN1.out;omega)).trans HR4.out
  have HK5:Hid (BK B ((((((w4.setCell ⟨n2,0,none⟩ (.int .i64 e0)).setCell ⟨n2,1,none⟩ (.int .i64 tl)).setCell ⟨n2,2,none⟩ (.bool sl)).setCell ⟨n2,3,none⟩ (.int .i64 tr)).setCell ⟨n2,4,none⟩ (.int .i64 bl)).setCell ⟨n2,5,none⟩ (.slice sa vn sc)) sa vn sc val):=HK4.out.ft (ft6 HC4.out (by decide) HBC.out)
  have HN5:Hid (NdK w ((((((w4.setCell ⟨n2,0,none⟩ (.int .i64 e0)).setCell ⟨n2,1,none⟩ (.int .i64 tl)).setCell ⟨n2,2,none⟩ (.bool sl)).setCell ⟨n2,3,none⟩ (.int .i64 tr)).setCell ⟨n2,4,none⟩ (.int .i64 bl)).setCell ⟨n2,5,none⟩ (.slice sa vn sc))):=HN4.out.wr6 (by have:=HN2.out;have:=HN1.out;omega)
  have HW5:Hid (Below B w ((((((w4.setCell ⟨n2,0,none⟩ (.int .i64 e0)).setCell ⟨n2,1,none⟩ (.int .i64 tl)).setCell ⟨n2,2,none⟩ (.bool sl)).setCell ⟨n2,3,none⟩ (.int .i64 tr)).setCell ⟨n2,4,none⟩ (.int .i64 bl)).setCell ⟨n2,5,none⟩ (.slice sa vn sc))):=bel6 HW4.out HBC.out
  have HE5:Hid (∀ k,E k->((((((w4.setCell ⟨n2,0,none⟩ (.int .i64 e0)).setCell ⟨n2,1,none⟩ (.int .i64 tl)).setCell ⟨n2,2,none⟩ (.bool sl)).setCell ⟨n2,3,none⟩ (.int .i64 tr)).setCell ⟨n2,4,none⟩ (.int .i64 bl)).setCell ⟨n2,5,none⟩ (.slice sa vn sc)).heap[k]?=w.heap[k]?):=fun k hk=>(oth6 (by have:=HEL.out k hk;have:=HN2.out;have:=HN1.out;omega)).trans (HE4.out k hk)
  have HB5:Hid (B<=((((((w4.setCell ⟨n2,0,none⟩ (.int .i64 e0)).setCell ⟨n2,1,none⟩ (.int .i64 tl)).setCell ⟨n2,2,none⟩ (.bool sl)).setCell ⟨n2,3,none⟩ (.int .i64 tr)).setCell ⟨n2,4,none⟩ (.int .i64 bl)).setCell ⟨n2,5,none⟩ (.slice sa vn sc)).heap.size):=by show B<=_;have:=HW5.out.size;have:=HBW.out;omega
  have HS5:Hid (n0<=((((((w4.setCell ⟨n2,0,none⟩ (.int .i64 e0)).setCell ⟨n2,1,none⟩ (.int .i64 tl)).setCell ⟨n2,2,none⟩ (.bool sl)).setCell ⟨n2,3,none⟩ (.int .i64 tr)).setCell ⟨n2,4,none⟩ (.int .i64 bl)).setCell ⟨n2,5,none⟩ (.slice sa vn sc)).heap.size):=by show n0<=_;have:=HW5.out.size;omega
  have HX5:Hid ((fun wx=>wx.cell? ⟨gh,i*2+1,none⟩=some (.pointer (some ⟨(P i).nd,0,none⟩))/\wx.cell? ⟨n0,0,none⟩=some (.int .i64 k)/\wx.cell? ⟨n0,1,none⟩=some (.int .i64 lg)/\wx.cell? ⟨n0,2,none⟩=some (.int .i64 at_)/\wx.cell? ⟨n0,3,none⟩=some (.slice va n cp)) ((((((w4.setCell ⟨n2,0,none⟩ (.int .i64 e0)).setCell ⟨n2,1,none⟩ (.int .i64 tl)).setCell ⟨n2,2,none⟩ (.bool sl)).setCell ⟨n2,3,none⟩ (.int .i64 tr)).setCell ⟨n2,4,none⟩ (.int .i64 bl)).setCell ⟨n2,5,none⟩ (.slice sa vn sc))):=⟨(aAa HH5.out).trans HHC.out,aAa HR5.out,aAa HR5.out,aAa HR5.out,aAa HR5.out⟩
  clear hHeld HM4 HH4 HA4 HC4 HR4 HK4 HN4 HW4 HE4
  generalize ((((((w4.setCell ⟨n2,0,none⟩ (.int .i64 e0)).setCell ⟨n2,1,none⟩ (.int .i64 tl)).setCell ⟨n2,2,none⟩ (.bool sl)).setCell ⟨n2,3,none⟩ (.int .i64 tr)).setCell ⟨n2,4,none⟩ (.int .i64 bl)).setCell ⟨n2,5,none⟩ (.slice sa vn sc))=w5 at *
  refine hK.out _ _ HX5.out (fun hHeld=>?_)
  clear hK K
  try simp only [Act.put,siT,scZ,scS]
  refine wpAnyH_done (by kernel_rfl) ?_ _
  refine NoPanic.normal ?_
  clear hHeld
  have y0:w5.cell? ⟨gh,i*2+1,none⟩=some (.pointer (some ⟨(P i).nd,0,none⟩)):=(aAa HH5.out).trans HHC.out
  have HU5:=hide (host_up HM5.out HI.out y0)
  clear y0
  go_wp2_with fail
  refine HU5.out.mono ?_
  rintro e w6 ⟨rfl,hb6⟩
  have HM6:=hide (HM5.out.later hb6 HB5.out)
  have HA6:=hide ((hb6.block n1 (lt HA5.out)).trans HA5.out)
  have HC6:=hide ((hb6.block n2 (lt HC5.out)).trans HC5.out)
  have HK6:=hide (HK5.out.later hb6 HB5.out)
  have HN6:=hide (HN5.out.trans (NdK.of hb6))
  have HW6:Hid (Below B w w6):=HW5.out.trans (hb6.mono HB5.out)
  have HE6:Hid (∀ k,E k->w6.heap[k]?=w.heap[k]?):=fun k hk=>(hb6.block k (by have:=HEL.out k hk;have:=HS5.out;omega)).trans (HE5.out k hk)
  clear hb6 HU5 HM5 HA5 HC5 HK5 HN5 HW5 HE5
  have z0:w6.cell? ⟨n1,0,none⟩=some (.int .i64 0):=aAa HA6.out
  have zf0:w6.frozen? ⟨n1,0,none⟩=false:=aAb HA6.out
  have z1:w6.cell? ⟨n1,1,none⟩=some (.int .i64 0):=aAa HA6.out
  have zf1:w6.frozen? ⟨n1,1,none⟩=false:=aAb HA6.out
  have z2:w6.cell? ⟨n1,2,none⟩=some (.bool false):=aAa HA6.out
  have zf2:w6.frozen? ⟨n1,2,none⟩=false:=aAb HA6.out
  have z3:w6.cell? ⟨n1,3,none⟩=some (.int .i64 0):=aAa HA6.out
  have zf3:w6.frozen? ⟨n1,3,none⟩=false:=aAb HA6.out
  have z4:w6.cell? ⟨n1,4,none⟩=some (.int .i64 0):=aAa HA6.out
  have zf4:w6.frozen? ⟨n1,4,none⟩=false:=aAb HA6.out
  have z5:w6.cell? ⟨n1,5,none⟩=some (.slice none 0 0):=aAa HA6.out
  have zf5:w6.frozen? ⟨n1,5,none⟩=false:=aAb HA6.out
  have x0:w6.cell? ⟨n2,0,none⟩=some (.int .i64 e0):=aAa HC6.out
  have xf0:w6.frozen? ⟨n2,0,none⟩=false:=aAb HC6.out
  have x1:w6.cell? ⟨n2,1,none⟩=some (.int .i64 tl):=aAa HC6.out
  have xf1:w6.frozen? ⟨n2,1,none⟩=false:=aAb HC6.out
  have x2:w6.cell? ⟨n2,2,none⟩=some (.bool sl):=aAa HC6.out
  have xf2:w6.frozen? ⟨n2,2,none⟩=false:=aAb HC6.out
  have x3:w6.cell? ⟨n2,3,none⟩=some (.int .i64 tr):=aAa HC6.out
  have xf3:w6.frozen? ⟨n2,3,none⟩=false:=aAb HC6.out
  have x4:w6.cell? ⟨n2,4,none⟩=some (.int .i64 bl):=aAa HC6.out
  have xf4:w6.frozen? ⟨n2,4,none⟩=false:=aAb HC6.out
  have x5:w6.cell? ⟨n2,5,none⟩=some (.slice sa vn sc):=aAa HC6.out
  have xf5:w6.frozen? ⟨n2,5,none⟩=false:=aAb HC6.out
  go_wp2
  (try simp only [Exit.inBlock,Exit.then])
  refine bodyPost_ret (aCc rfl _ _ n1 _ rfl (set6 HA6.out) rfl) rfl ?_
  refine ⟨⟨sa,sc,rfl,HK6.out.ft (ft6 HA6.out (by decide) HBN.out)⟩,HM6.out.wr6 HA6.out HBN.out,HN6.out.wr6 (by rw [hn0];exact HN1.out),bel6 HW6.out HBN.out,fun k hk=>(oth6 (by have:=HEL.out k hk;have:=HN1.out;omega)).trans (HE6.out k hk)⟩
 case bb =>
  intro o ho K hK
  simp only [List.getElem?_toArray,List.getElem?_cons_succ,List.getElem?_cons_zero,oI] at ho
  subst ho
  go_simp
  have hb3:Below w2.drew.heap.size w2.drew (w2.alloc (.cells #[.int .i64 0,.int .i64 0,.bool false,.int .i64 0,.int .i64 0,.slice none 0 0] 75)).drew:=⟨(aAc w2 (.cells #[.int .i64 0,.int .i64 0,.bool false,.int .i64 0,.int .i64 0,.slice none 0 0] 75)).os,(aAc w2 (.cells #[.int .i64 0,.int .i64 0,.bool false,.int .i64 0,.int .i64 0,.slice none 0 0] 75)).tape,(aAc w2 (.cells #[.int .i64 0,.int .i64 0,.bool false,.int .i64 0,.int .i64 0,.slice none 0 0] 75)).output,(aAc w2 (.cells #[.int .i64 0,.int .i64 0,.bool false,.int .i64 0,.int .i64 0,.slice none 0 0] 75)).size,(aAc w2 (.cells #[.int .i64 0,.int .i64 0,.bool false,.int .i64 0,.int .i64 0,.slice none 0 0] 75)).block⟩
  have HC3:Hid ((w2.alloc (.cells #[.int .i64 0,.int .i64 0,.bool false,.int .i64 0,.int .i64 0,.slice none 0 0] 75)).drew.heap[w2.heap.size]?=some (.cells #[.int .i64 0,.int .i64 0,.bool false,.int .i64 0,.int .i64 0,.slice none 0 0] 75 (0,0))):=heap_alloc_new w2 _
  have HM3:=hide (HM2.out.later hb3 HB2.out)
  have HR3:=hide ((hb3.block n0 (lt HR2.out)).trans HR2.out)
  have HA3:=hide ((hb3.block n1 (lt HA2.out)).trans HA2.out)
  have HH3:=hide ((hb3.block gh (lt HH2.out)).trans HH2.out)
  have HN3:=hide (HNW2.out.trans (NdK.of hb3))
  have HW3:Hid (Below B w (w2.alloc (.cells #[.int .i64 0,.int .i64 0,.bool false,.int .i64 0,.int .i64 0,.slice none 0 0] 75)).drew):=HWB2.out.trans (hb3.mono HB2.out)
  have HE3:Hid (∀ k,E k->(w2.alloc (.cells #[.int .i64 0,.int .i64 0,.bool false,.int .i64 0,.int .i64 0,.slice none 0 0] 75)).drew.heap[k]?=w.heap[k]?):=fun k hk=>(hb3.block k (by have:=HEL.out k hk;have:=HWB2.out.size;omega)).trans (HE2.out k hk)
  have HN2:Hid (n1<w2.heap.size):=lt HA2.out
  have HBC:Hid (B<=w2.heap.size):=HB2.out
  have HX3:Hid ((fun wx=>wx.cell? ⟨gh,i*2+1,none⟩=some (.pointer (some ⟨(P i).nd,0,none⟩))/\wx.cell? ⟨n0,0,none⟩=some (.int .i64 k)/\wx.cell? ⟨n0,1,none⟩=some (.int .i64 lg)/\wx.cell? ⟨n0,2,none⟩=some (.int .i64 at_)/\wx.cell? ⟨n0,3,none⟩=some (.slice va n cp)) (w2.alloc (.cells #[.int .i64 0,.int .i64 0,.bool false,.int .i64 0,.int .i64 0,.slice none 0 0] 75)).drew):=⟨(aAa HH3.out).trans HHC.out,aAa HR3.out,aAa HR3.out,aAa HR3.out,aAa HR3.out⟩
  have HCB:=hide (HM3.out.callr HI.out (HDO.out (w2.alloc (.cells #[.int .i64 0,.int .i64 0,.bool false,.int .i64 0,.int .i64 0,.slice none 0 0] 75)).drew (HWD.out.trans (hb3.mono (by have:=HWD.out.size;omega)))))
  clear hb3 hHeld HCA HM2 HR2 HA2 HH2 HNW2 HWB2 HE2 HB2
  generalize (w2.alloc (.cells #[.int .i64 0,.int .i64 0,.bool false,.int .i64 0,.int .i64 0,.slice none 0 0] 75)).drew=x2 at *
  generalize w2.heap.size=n2 at *
  refine hK.out _ _ HX3.out (fun hHeld=>?_)
  clear hK K
  try simp only [Act.put,siT,scZ,scS]
  refine wpAnyH_cm 5 ?_;intro K hK
  go_simp
  refine HCB.out.mono ?_
  rintro e w4 ⟨⟨sa,sc,rfl,hk4⟩,hM4,hN4,hb4,hE4⟩
  have HM4:=hide hM4
  have HK4:=hide hk4
  have HR4:=hide (hN4 _ _ _ _ HR3.out (by decide) (by decide) (by decide) (by decide))
  have HA4:=hide (hN4 _ _ _ _ HA3.out (by decide) (by decide) (by decide) (by decide))
  have HH4:=hide (hN4 _ _ _ _ HH3.out (by decide) (by decide) (by decide) (by decide))
  have HC4:=hide (hN4 _ _ _ _ HC3.out (by decide) (by decide) (by decide) (by decide))
  have HN4:=hide (HN3.out.trans hN4)
  have HW4:Hid (Below B w w4):=HW3.out.trans hb4
  have HE4:Hid (∀ k,E k->w4.heap[k]?=w.heap[k]?):=fun k hk=>(hE4 k hk).trans (HE3.out k hk)
  have HX4:Hid ((fun wx=>wx.cell? ⟨gh,i*2+1,none⟩=some (.pointer (some ⟨(P i).nd,0,none⟩))/\wx.cell? ⟨n0,0,none⟩=some (.int .i64 k)/\wx.cell? ⟨n0,1,none⟩=some (.int .i64 lg)/\wx.cell? ⟨n0,2,none⟩=some (.int .i64 at_)/\wx.cell? ⟨n0,3,none⟩=some (.slice va n cp)) w4):=⟨(aAa HH4.out).trans HHC.out,aAa HR4.out,aAa HR4.out,aAa HR4.out,aAa HR4.out⟩
  clear hk4 hM4 hN4 hb4 hE4 hHeld HCB HM3 HR3 HA3 HH3 HC3 HN3 HW3 HE3
  refine hK.out _ _ HX4.out (fun hHeld=>?_)
  clear hK K
  try simp only [Act.put,siT,scZ,scS]
  have m0:w4.cell? ⟨n2,0,none⟩=some (.int .i64 0):=aAa HC4.out
  have mf0:w4.frozen? ⟨n2,0,none⟩=false:=aAb HC4.out
  have m1:w4.cell? ⟨n2,1,none⟩=some (.int .i64 0):=aAa HC4.out
  have mf1:w4.frozen? ⟨n2,1,none⟩=false:=aAb HC4.out
  have m2:w4.cell? ⟨n2,2,none⟩=some (.bool false):=aAa HC4.out
  have mf2:w4.frozen? ⟨n2,2,none⟩=false:=aAb HC4.out
  have m3:w4.cell? ⟨n2,3,none⟩=some (.int .i64 0):=aAa HC4.out
  have mf3:w4.frozen? ⟨n2,3,none⟩=false:=aAb HC4.out
  have m4:w4.cell? ⟨n2,4,none⟩=some (.int .i64 0):=aAa HC4.out
  have mf4:w4.frozen? ⟨n2,4,none⟩=false:=aAb HC4.out
  have m5:w4.cell? ⟨n2,5,none⟩=some (.slice none 0 0):=aAa HC4.out
  have mf5:w4.frozen? ⟨n2,5,none⟩=false:=aAb HC4.out
  refine wpAnyH_cm 7 ?_;intro K hK
  go_simp
  have HM5:=hide (HM4.out.wr6 (b0:=.int .i64 e0) (b1:=.int .i64 tl) (b2:=.bool sl) (b3:=.int .i64 tr) (b4:=.int .i64 bl) (b5:=.slice sa vn sc) HC4.out HBC.out)
  have HC5:Hid (((((((w4.setCell ⟨n2,0,none⟩ (.int .i64 e0)).setCell ⟨n2,1,none⟩ (.int .i64 tl)).setCell ⟨n2,2,none⟩ (.bool sl)).setCell ⟨n2,3,none⟩ (.int .i64 tr)).setCell ⟨n2,4,none⟩ (.int .i64 bl)).setCell ⟨n2,5,none⟩ (.slice sa vn sc)).heap[n2]?=some (.cells #[.int .i64 e0,.int .i64 tl,.bool sl,.int .i64 tr,.int .i64 bl,.slice sa vn sc] 75 (0,0))):=set6 HC4.out
  have HH5:Hid (((((((w4.setCell ⟨n2,0,none⟩ (.int .i64 e0)).setCell ⟨n2,1,none⟩ (.int .i64 tl)).setCell ⟨n2,2,none⟩ (.bool sl)).setCell ⟨n2,3,none⟩ (.int .i64 tr)).setCell ⟨n2,4,none⟩ (.int .i64 bl)).setCell ⟨n2,5,none⟩ (.slice sa vn sc)).heap[gh]?=some (.cells hc 51 (0,0))):=(oth6 (by have:=HGH.out;have:=HN2.out;have:=HN1.out;omega)).trans HH4.out
  have HA5:Hid (((((((w4.setCell ⟨n2,0,none⟩ (.int .i64 e0)).setCell ⟨n2,1,none⟩ (.int .i64 tl)).setCell ⟨n2,2,none⟩ (.bool sl)).setCell ⟨n2,3,none⟩ (.int .i64 tr)).setCell ⟨n2,4,none⟩ (.int .i64 bl)).setCell ⟨n2,5,none⟩ (.slice sa vn sc)).heap[n1]?=some (.cells #[.int .i64 0,.int .i64 0,.bool false,.int .i64 0,.int .i64 0,.slice none 0 0] 75 (0,0))):=(oth6 (by have:=HN2.out;omega)).trans HA4.out
  have HR5:Hid (((((((w4.setCell ⟨n2,0,none⟩ (.int .i64 e0)).setCell ⟨n2,1,none⟩ (.int .i64 tl)).setCell ⟨n2,2,none⟩ (.bool sl)).setCell ⟨n2,3,none⟩ (.int .i64 tr)).setCell ⟨n2,4,none⟩ (.int .i64 bl)).setCell ⟨n2,5,none⟩ (.slice sa vn sc)).heap[n0]?=some (.cells #[.int .i64 k,.int .i64 lg,.int .i64 at_,.slice va n cp] 68 (0,0))):=(oth6 (by have:=HN2.out;have:=HN1.out;omega)).trans HR4.out
  have HK5:Hid (BK B ((((((w4.setCell ⟨n2,0,none⟩ (.int .i64 e0)).setCell ⟨n2,1,none⟩ (.int .i64 tl)).setCell ⟨n2,2,none⟩ (.bool sl)).setCell ⟨n2,3,none⟩ (.int .i64 tr)).setCell ⟨n2,4,none⟩ (.int .i64 bl)).setCell ⟨n2,5,none⟩ (.slice sa vn sc)) sa vn sc val):=HK4.out.ft (ft6 HC4.out (by decide) HBC.out)
  have HN5:Hid (NdK w ((((((w4.setCell ⟨n2,0,none⟩ (.int .i64 e0)).setCell ⟨n2,1,none⟩ (.int .i64 tl)).setCell ⟨n2,2,none⟩ (.bool sl)).setCell ⟨n2,3,none⟩ (.int .i64 tr)).setCell ⟨n2,4,none⟩ (.int .i64 bl)).setCell ⟨n2,5,none⟩ (.slice sa vn sc))):=HN4.out.wr6 (by have:=HN2.out;have:=HN1.out;omega)
  have HW5:Hid (Below B w ((((((w4.setCell ⟨n2,0,none⟩ (.int .i64 e0)).setCell ⟨n2,1,none⟩ (.int .i64 tl)).setCell ⟨n2,2,none⟩ (.bool sl)).setCell ⟨n2,3,none⟩ (.int .i64 tr)).setCell ⟨n2,4,none⟩ (.int .i64 bl)).setCell ⟨n2,5,none⟩ (.slice sa vn sc))):=bel6 HW4.out HBC.out
  have HE5:Hid (∀ k,E k->((((((w4.setCell ⟨n2,0,none⟩ (.int .i64 e0)).setCell ⟨n2,1,none⟩ (.int .i64 tl)).setCell ⟨n2,2,none⟩ (.bool sl)).setCell ⟨n2,3,none⟩ (.int .i64 tr)).setCell ⟨n2,4,none⟩ (.int .i64 bl)).setCell ⟨n2,5,none⟩ (.slice sa vn sc)).heap[k]?=w.heap[k]?):=fun k hk=>(oth6 (by have:=HEL.out k hk;have:=HN2.out;have:=HN1.out;omega)).trans (HE4.out k hk)
  have HB5:Hid (B<=((((((w4.setCell ⟨n2,0,none⟩ (.int .i64 e0)).setCell ⟨n2,1,none⟩ (.int .i64 tl)).setCell ⟨n2,2,none⟩ (.bool sl)).setCell ⟨n2,3,none⟩ (.int .i64 tr)).setCell ⟨n2,4,none⟩ (.int .i64 bl)).setCell ⟨n2,5,none⟩ (.slice sa vn sc)).heap.size):=by show B<=_;have:=HW5.out.size;have:=HBW.out;omega
  have HS5:Hid (n0<=((((((w4.setCell ⟨n2,0,none⟩ (.int .i64 e0)).setCell ⟨n2,1,none⟩ (.int .i64 tl)).setCell ⟨n2,2,none⟩ (.bool sl)).setCell ⟨n2,3,none⟩ (.int .i64 tr)).setCell ⟨n2,4,none⟩ (.int .i64 bl)).setCell ⟨n2,5,none⟩ (.slice sa vn sc)).heap.size):=by show n0<=_;have:=HW5.out.size;omega
  have HX5:Hid ((fun wx=>wx.cell? ⟨gh,i*2+1,none⟩=some (.pointer (some ⟨(P i).nd,0,none⟩))/\wx.cell? ⟨n0,0,none⟩=some (.int .i64 k)/\wx.cell? ⟨n0,1,none⟩=some (.int .i64 lg)/\wx.cell? ⟨n0,2,none⟩=some (.int .i64 at_)/\wx.cell? ⟨n0,3,none⟩=some (.slice va n cp)) ((((((w4.setCell ⟨n2,0,none⟩ (.int .i64 e0)).setCell ⟨n2,1,none⟩ (.int .i64 tl)).setCell ⟨n2,2,none⟩ (.bool sl)).setCell ⟨n2,3,none⟩ (.int .i64 tr)).setCell ⟨n2,4,none⟩ (.int .i64 bl)).setCell ⟨n2,5,none⟩ (.slice sa vn sc))):=⟨(aAa HH5.out).trans HHC.out,aAa HR5.out,aAa HR5.out,aAa HR5.out,aAa HR5.out⟩
  clear hHeld HM4 HH4 HA4 HC4 HR4 HK4 HN4 HW4 HE4
  generalize ((((((w4.setCell ⟨n2,0,none⟩ (.int .i64 e0)).setCell ⟨n2,1,none⟩ (.int .i64 tl)).setCell ⟨n2,2,none⟩ (.bool sl)).setCell ⟨n2,3,none⟩ (.int .i64 tr)).setCell ⟨n2,4,none⟩ (.int .i64 bl)).setCell ⟨n2,5,none⟩ (.slice sa vn sc))=w5 at *
  refine hK.out _ _ HX5.out (fun hHeld=>?_)
  clear hK K
  try simp only [Act.put,siT,scZ,scS]
  refine wpAnyH_done (by kernel_rfl) ?_ _
  refine NoPanic.normal ?_
  clear hHeld
  have y0:w5.cell? ⟨gh,i*2+1,none⟩=some (.pointer (some ⟨(P i).nd,0,none⟩)):=(aAa HH5.out).trans HHC.out
  have HU5:=hide (host_up HM5.out HI.out y0)
  clear y0
  go_wp2_with fail
  refine HU5.out.mono ?_
  rintro e w6 ⟨rfl,hb6⟩
  have HM6:=hide (HM5.out.later hb6 HB5.out)
  have HA6:=hide ((hb6.block n1 (lt HA5.out)).trans HA5.out)
  have HC6:=hide ((hb6.block n2 (lt HC5.out)).trans HC5.out)
  have HK6:=hide (HK5.out.later hb6 HB5.out)
  have HN6:=hide (HN5.out.trans (NdK.of hb6))
  have HW6:Hid (Below B w w6):=HW5.out.trans (hb6.mono HB5.out)
  have HE6:Hid (∀ k,E k->w6.heap[k]?=w.heap[k]?):=fun k hk=>(hb6.block k (by have:=HEL.out k hk;have:=HS5.out;omega)).trans (HE5.out k hk)
  clear hb6 HU5 HM5 HA5 HC5 HK5 HN5 HW5 HE5
  have z0:w6.cell? ⟨n1,0,none⟩=some (.int .i64 0):=aAa HA6.out
  have zf0:w6.frozen? ⟨n1,0,none⟩=false:=aAb HA6.out
  have z1:w6.cell? ⟨n1,1,none⟩=some (.int .i64 0):=aAa HA6.out
  have zf1:w6.frozen? ⟨n1,1,none⟩=false:=aAb HA6.out
  have z2:w6.cell? ⟨n1,2,none⟩=some (.bool false):=aAa HA6.out
  have zf2:w6.frozen? ⟨n1,2,none⟩=false:=aAb HA6.out
  have z3:w6.cell? ⟨n1,3,none⟩=some (.int .i64 0):=aAa HA6.out
  have zf3:w6.frozen? ⟨n1,3,none⟩=false:=aAb HA6.out
  have z4:w6.cell? ⟨n1,4,none⟩=some (.int .i64 0):=aAa HA6.out
  have zf4:w6.frozen? ⟨n1,4,none⟩=false:=aAb HA6.out
  have z5:w6.cell? ⟨n1,5,none⟩=some (.slice none 0 0):=aAa HA6.out
  have zf5:w6.frozen? ⟨n1,5,none⟩=false:=aAb HA6.out
  have x0:w6.cell? ⟨n2,0,none⟩=some (.int .i64 e0):=aAa HC6.out
  have xf0:w6.frozen? ⟨n2,0,none⟩=false:=aAb HC6.out
  have x1:w6.cell? ⟨n2,1,none⟩=some (.int .i64 tl):=aAa HC6.out
  have xf1:w6.frozen? ⟨n2,1,none⟩=false:=aAb HC6.out
  have x2:w6.cell? ⟨n2,2,none⟩=some (.bool sl):=aAa HC6.out
  have xf2:w6.frozen? ⟨n2,2,none⟩=false:=aAb HC6.out
  have x3:w6.cell? ⟨n2,3,none⟩=some (.int .i64 tr):=aAa HC6.out
  have xf3:w6.frozen? ⟨n2,3,none⟩=false:=aAb HC6.out
  have x4:w6.cell? ⟨n2,4,none⟩=some (.int .i64 bl):=aAa HC6.out
  have xf4:w6.frozen? ⟨n2,4,none⟩=false:=aAb HC6.out
  have x5:w6.cell? ⟨n2,5,none⟩=some (.slice sa vn sc):=aAa HC6.out
  have xf5:w6.frozen? ⟨n2,5,none⟩=false:=aAb HC6.out
  go_wp2
  (try simp only [Exit.inBlock,Exit.then])
  refine bodyPost_ret (aCc rfl _ _ n1 _ rfl (set6 HA6.out) rfl) rfl ?_
  refine ⟨⟨sa,sc,rfl,HK6.out.ft (ft6 HA6.out (by decide) HBN.out)⟩,HM6.out.wr6 HA6.out HBN.out,HN6.out.wr6 (by rw [hn0];exact HN1.out),bel6 HW6.out HBN.out,fun k hk=>(oth6 (by have:=HEL.out k hk;have:=HN1.out;omega)).trans (HE6.out k hk)⟩
theorem NDM.cell1 [Gd] {B p q g ls rg nd N c u:Nat} {l:List It} {L:Nat->Lg} {W w:World} (h:NDM B p q g ls rg nd N c u l L W w):w.cell? ⟨nd,1,none⟩=some (.pointer (some ⟨rg,0,none⟩)):=by
 obtain ⟨cs,h1,h2⟩:=h.v
 exact (aAa h1).trans h2.c1
theorem RGB.an6 {B:Nat} {P:NdP} {w:World} (h:RGB B P w) {n0:Nat} {a0 a1 a2 a3 a4 a5 b0 b1 b2 b3 b4 b5:Value} (hn:w.heap[n0]?=some (.cells #[a0,a1,a2,a3,a4,a5] 75 (0,0))):RGB B P ((((((w.setCell ⟨n0,0,none⟩ b0).setCell ⟨n0,1,none⟩ b1).setCell ⟨n0,2,none⟩ b2).setCell ⟨n0,3,none⟩ b3).setCell ⟨n0,4,none⟩ b4).setCell ⟨n0,5,none⟩ b5):=by
 obtain ⟨h1,cs,h2,h3⟩:=h
 exact ⟨h1,cs,(oth6 (aAr h2 hn (by decide))).trans h2,h3⟩
theorem RgN.an6 [Gd] {B:Nat} {P:NdP} {n0:Nat} {w0 w:World} {b0 b1 b2 b3 b4 b5:Value} (h:RgN B P w0 w) (hn:w0.heap.size<=n0) (hB:B<=n0):RgN B P w0 ((((((w.setCell ⟨n0,0,none⟩ b0).setCell ⟨n0,1,none⟩ b1).setCell ⟨n0,2,none⟩ b2).setCell ⟨n0,3,none⟩ b3).setCell ⟨n0,4,none⟩ b4).setCell ⟨n0,5,none⟩ b5):=⟨bel6 h.1 hB,fun k cs t fz e m1 m2 m3 m4 m5=>(oth6 (by have:=(lO e);omega)).trans (h.2 k cs t fz e m1 m2 m3 m4 m5),fun k hk hf=>(oth6 (by have:=hf.lt;omega)).trans (h.gd k hk hf)⟩
theorem nx_reg7 [Gd] {B N m m' v b n cp vn:Nat} {P:NdP} {l l':List It} {L:Nat->Lg} {W w:World} {va:Option Addr} {ae tl bl:Int} {val:List Nat} (hx:NX B P.p P.q P.g P.ls P.rg P.nd N m l L W w) (hr:RGB B P w) (hv:v<=16) (hn:n<=1800)
  (hs:∀ ww c u,RGM B P.p P.q P.g P.ls P.rg N c u l W ww->c<=m->u<=m->l.length<=m->Below w.heap.size w ww->Calls Tryz.prog 51 #[.pointer (some ⟨P.rg,0,none⟩),.int .i64 (v:Int),.int .i64 (b:Int)] ww fun e w'=>(∃ sa sc,e=.returned (.agg #[.int .i64 ae,.int .i64 tl,.bool false,.int .i64 0,.int .i64 bl,.slice sa vn sc])/\BK B w' sa vn sc val)/\(∃ c' u',RGM B P.p P.q P.g P.ls P.rg N c' u' l' W w'/\c'<=m'/\u'<=m'/\l'.length<=m')/\RgF B P.g P.ls P.rg ww w') :
  Calls Tryz.prog 42 #[.pointer (some ⟨P.nd,0,none⟩),.agg #[.int .i64 7,.int .i64 (v:Int),.int .i64 (b:Int),.slice va n cp]] w fun e w'=>(∃ sa sc,e=.returned (.agg #[.int .i64 ae,.int .i64 tl,.bool false,.int .i64 0,.int .i64 bl,.slice sa vn sc])/\BK B w' sa vn sc val)/\NX B P.p P.q P.g P.ls P.rg P.nd N m' l' L W w'/\RGB B P w'/\RgN B P w w':=by
 have lt:∀ {k:Nat} {o:Obj} {ww:World},ww.heap[k]?=some o->k<ww.heap.size:=fun e=>(lO e)
 obtain ⟨c,u,h,m1,m2,m3⟩:=hx
 have HBX:=hide (aBz w (.cells #[.int .i64 7,.int .i64 (v:Int),.int .i64 (b:Int),.slice va n cp] 68) (.cells #[.int .i64 0,.int .i64 0,.bool false,.int .i64 0,.int .i64 0,.slice none 0 0] 75))
 have HN1:Hid (((w.alloc (.cells #[.int .i64 7,.int .i64 (v:Int),.int .i64 (b:Int),.slice va n cp] 68)).alloc (.cells #[.int .i64 0,.int .i64 0,.bool false,.int .i64 0,.int .i64 0,.slice none 0 0] 75)).heap[w.heap.size]?=some (.cells #[.int .i64 7,.int .i64 (v:Int),.int .i64 (b:Int),.slice va n cp] 68 (0,0))):=aAf [Obj.cells #[.int .i64 7,.int .i64 (v:Int),.int .i64 (b:Int),.slice va n cp] 68,Obj.cells #[.int .i64 0,.int .i64 0,.bool false,.int .i64 0,.int .i64 0,.slice none 0 0] 75] w 0 _ rfl
 have HA1:Hid (((w.alloc (.cells #[.int .i64 7,.int .i64 (v:Int),.int .i64 (b:Int),.slice va n cp] 68)).alloc (.cells #[.int .i64 0,.int .i64 0,.bool false,.int .i64 0,.int .i64 0,.slice none 0 0] 75)).heap[w.heap.size+1]?=some (.cells #[.int .i64 0,.int .i64 0,.bool false,.int .i64 0,.int .i64 0,.slice none 0 0] 75 (0,0))):=aAf [Obj.cells #[.int .i64 7,.int .i64 (v:Int),.int .i64 (b:Int),.slice va n cp] 68,Obj.cells #[.int .i64 0,.int .i64 0,.bool false,.int .i64 0,.int .i64 0,.slice none 0 0] 75] w 1 _ rfl
 have H1:=hide (h.later HBX.out)
 have HG1:Hid (RGB B P ((w.alloc (.cells #[.int .i64 7,.int .i64 (v:Int),.int .i64 (b:Int),.slice va n cp] 68)).alloc (.cells #[.int .i64 0,.int .i64 0,.bool false,.int .i64 0,.int .i64 0,.slice none 0 0] 75))):=by
  obtain ⟨g1,cs,g2,g3⟩:=hr
  exact ⟨g1,cs,(HBX.out.block _ (lt g2)).trans g2,g3⟩
 have HBW:=hide h.bw
 have HSV:=hide (fun ww (r:RGM B P.p P.q P.g P.ls P.rg N c u l W ww)=>hs ww c u r m1 m2 m3)
 have HRF:=hide (nref_ok (k:=7) (lg:=v) (at_:=b) (va:=va) (cp:=cp) H1.out (by decide) (by decide) hv hn)
 clear h hs hn hv hr m1 m2 m3
 go_enter Tryz.func42,Tryz.ntmps42
 go_upto_region 1 with fail
 generalize ((w.alloc (.cells #[.int .i64 7,.int .i64 (v:Int),.int .i64 (b:Int),.slice va n cp] 68)).alloc (.cells #[.int .i64 0,.int .i64 0,.bool false,.int .i64 0,.int .i64 0,.slice none 0 0] 75))=w1 at *
 generalize hn0:w.heap.size=n0 at *
 generalize hn1:n0+1=n1 at *
 have y0:w1.cell? ⟨n0,0,none⟩=some (.int .i64 7):=aAa HN1.out
 have y1:w1.cell? ⟨n0,1,none⟩=some (.int .i64 (v:Int)):=aAa HN1.out
 have y2:w1.cell? ⟨n0,2,none⟩=some (.int .i64 (b:Int)):=aAa HN1.out
 have y3:w1.cell? ⟨n0,3,none⟩=some (.slice va n cp):=aAa HN1.out
 go_wp2_with fail
 refine HRF.out.mono ?_
 rintro e w2 ⟨rfl,hb2⟩
 have H2:=hide (H1.out.later hb2)
 have HN2:=hide ((hb2.block n0 (lt HN1.out)).trans HN1.out)
 have HA2:=hide ((hb2.block n1 (lt HA1.out)).trans HA1.out)
 have HG2:Hid (RGB B P w2):=by
  obtain ⟨g1,cs,g2,g3⟩:=HG1.out
  exact ⟨g1,cs,(hb2.block _ (lt g2)).trans g2,g3⟩
 have HB2:Hid (Below n0 w w2):=HBX.out.trans (hb2.mono (by have:=HBX.out.size;omega))
 clear hb2 HRF HN1 HA1 HBX H1 HG1 y0 y1 y2 y3
 have y0:w2.cell? ⟨n0,0,none⟩=some (.int .i64 7):=aAa HN2.out
 go_upto_region 6 with fail
 clear y0
 have hbd:Below w2.heap.size w2 w2.drew:=(Below.refl _ _).drew
 have HN3:=hide HN2.out
 have HX1:Hid ((fun wx=>wx.cell? ⟨P.nd,1,none⟩=some (.pointer (some ⟨P.rg,0,none⟩))/\wx.cell? ⟨n0,0,none⟩=some (.int .i64 7)/\wx.cell? ⟨n0,1,none⟩=some (.int .i64 (v:Int))/\wx.cell? ⟨n0,2,none⟩=some (.int .i64 (b:Int))/\wx.cell? ⟨n0,3,none⟩=some (.slice va n cp)) w2.drew):=⟨H2.out.cell1,aAa (show w2.drew.heap[n0]?=_ from HN2.out),aAa (show w2.drew.heap[n0]?=_ from HN2.out),aAa (show w2.drew.heap[n0]?=_ from HN2.out),aAa (show w2.drew.heap[n0]?=_ from HN2.out)⟩
 have HP:Hid (RGM B P.p P.q P.g P.ls P.rg N c u l W w2.drew):=by
  obtain ⟨g1,g2⟩:=HG2.out
  exact RGM.later ⟨H2.out.s,g1,g2⟩ hbd
 have HBD:Hid (Below n0 w w2.drew):=HB2.out.trans (hbd.mono (by have:=HB2.out.size;omega))
 have HSV2:=hide (HSV.out w2.drew HP.out HBD.out)
 clear hbd HSV
 refine wp_region_noPanic ?_
 refine wp_region_held_drew (S:=fun wx=>wx.cell? ⟨P.nd,1,none⟩=some (.pointer (some ⟨P.rg,0,none⟩))/\wx.cell? ⟨n0,0,none⟩=some (.int .i64 7)/\wx.cell? ⟨n0,1,none⟩=some (.int .i64 (v:Int))/\wx.cell? ⟨n0,2,none⟩=some (.int .i64 (b:Int))/\wx.cell? ⟨n0,3,none⟩=some (.slice va n cp)) (by kernel_rfl) HX1.out (fun hHeld=>?_)
 refine wpAnyH_tk 0 20 ?_
 refine wpAnyH_tk 1 21 ?_
 refine wpAnyH_tk 2 22 ?_
 refine wpAnyH_tk 3 23 ?_
 refine wpAnyH_tk 4 24 ?_
 refine wpAnyH_tk 5 25 ?_
 refine wpAnyH_tk 6 26 ?_
 refine wpAnyH_tk 7 27 ?_
 refine wpAnyH_cm 8 ?_;intro K hK
 go_simp
 refine HSV2.out.mono ?_
 rintro e w3 ⟨⟨sa,sc,rfl,hk3⟩,⟨c',u',h3,m1',m2',m3'⟩,hf3⟩
 have HK3:=hide hk3
 have HR3:=hide h3
 have HM3:Hid (c'<=m'/\u'<=m'/\l'.length<=m'):=⟨m1',m2',m3'⟩
 have HRN:Hid (w3.heap[n0]?=_):=aBb HP.out hf3 (show w2.drew.heap[n0]?=_ from HN2.out) (by decide) (by decide) (by decide) (by decide)
 have HRA:Hid (w3.heap[n1]?=_):=aBb HP.out hf3 (show w2.drew.heap[n1]?=_ from HA2.out) (by decide) (by decide) (by decide) (by decide)
 have HND:Hid (∃ cs,w3.heap[P.nd]?=some (.cells cs 115 (0,0))/\NDV cs P.ls P.rg L):=by
  obtain ⟨cs,v1,v2⟩:=H2.out.v
  exact ⟨cs,aBb HP.out hf3 (show w2.drew.heap[P.nd]?=_ from v1) (by decide) (by decide) (by decide) (by decide),v2⟩
 have HRG:Hid (RgN B P w w3):=by
  have f1:RgN B P w w2.drew:=⟨HBD.out.mono HBW.out,fun k cs t fz e _ _ _ _ _=>(HBD.out.block k (by rw [<-hn0];exact lt e)).trans e,GdK.of (by rw [hn0];exact HBD.out)⟩
  exact ⟨f1.1.trans hf3.1,fun k cs t fz e q1 q2 q3 q4 q5=>hf3.2 k cs t fz (f1.2 k cs t fz e q1 q2 q3 q4 q5) q1 q2 q3 q5,f1.gd.trans hf3.gd⟩
 have HX3:Hid ((fun wx=>wx.cell? ⟨P.nd,1,none⟩=some (.pointer (some ⟨P.rg,0,none⟩))/\wx.cell? ⟨n0,0,none⟩=some (.int .i64 7)/\wx.cell? ⟨n0,1,none⟩=some (.int .i64 (v:Int))/\wx.cell? ⟨n0,2,none⟩=some (.int .i64 (b:Int))/\wx.cell? ⟨n0,3,none⟩=some (.slice va n cp)) w3):=by
  obtain ⟨cs,v1,v2⟩:=HND.out
  exact ⟨(aAa v1).trans v2.c1,aAa HRN.out,aAa HRN.out,aAa HRN.out,aAa HRN.out⟩
 clear hk3 h3 m1' m2' m3' hf3 hHeld HSV2 HP HBD
 refine hK.out _ _ HX3.out (fun hHeld=>?_)
 clear hK K
 try simp only [Act.put,siT,scZ,scS]
 have z0:w3.cell? ⟨n1,0,none⟩=some (.int .i64 0):=aAa HRA.out
 have zf0:w3.frozen? ⟨n1,0,none⟩=false:=aAb HRA.out
 have z1:w3.cell? ⟨n1,1,none⟩=some (.int .i64 0):=aAa HRA.out
 have zf1:w3.frozen? ⟨n1,1,none⟩=false:=aAb HRA.out
 have z2:w3.cell? ⟨n1,2,none⟩=some (.bool false):=aAa HRA.out
 have zf2:w3.frozen? ⟨n1,2,none⟩=false:=aAb HRA.out
 have z3:w3.cell? ⟨n1,3,none⟩=some (.int .i64 0):=aAa HRA.out
 have zf3:w3.frozen? ⟨n1,3,none⟩=false:=aAb HRA.out
 have z4:w3.cell? ⟨n1,4,none⟩=some (.int .i64 0):=aAa HRA.out
 have zf4:w3.frozen? ⟨n1,4,none⟩=false:=aAb HRA.out
 have z5:w3.cell? ⟨n1,5,none⟩=some (.slice none 0 0):=aAa HRA.out
 have zf5:w3.frozen? ⟨n1,5,none⟩=false:=aAb HRA.out
 refine wpAnyH_cm 9 ?_;intro K hK
 go_simp
 have HBC:Hid (B<=n1):=by show B<=n1;have:=HBW.out;omega
 have HA6:Hid (((((((w3.setCell ⟨n1,0,none⟩ (.int .i64 ae)).setCell ⟨n1,1,none⟩ (.int .i64 tl)).setCell ⟨n1,2,none⟩ (.bool false)).setCell ⟨n1,3,none⟩ (.int .i64 0)).setCell ⟨n1,4,none⟩ (.int .i64 bl)).setCell ⟨n1,5,none⟩ (.slice sa vn sc)).heap[n1]?=some (.cells #[.int .i64 ae,.int .i64 tl,.bool false,.int .i64 0,.int .i64 bl,.slice sa vn sc] 75 (0,0))):=set6 HRA.out
 have HX6:Hid ((fun wx=>wx.cell? ⟨P.nd,1,none⟩=some (.pointer (some ⟨P.rg,0,none⟩))/\wx.cell? ⟨n0,0,none⟩=some (.int .i64 7)/\wx.cell? ⟨n0,1,none⟩=some (.int .i64 (v:Int))/\wx.cell? ⟨n0,2,none⟩=some (.int .i64 (b:Int))/\wx.cell? ⟨n0,3,none⟩=some (.slice va n cp)) ((((((w3.setCell ⟨n1,0,none⟩ (.int .i64 ae)).setCell ⟨n1,1,none⟩ (.int .i64 tl)).setCell ⟨n1,2,none⟩ (.bool false)).setCell ⟨n1,3,none⟩ (.int .i64 0)).setCell ⟨n1,4,none⟩ (.int .i64 bl)).setCell ⟨n1,5,none⟩ (.slice sa vn sc))):=by
  obtain ⟨cs,v1,v2⟩:=HND.out
  exact ⟨(aAa ((oth6 (aAr v1 HRA.out (by decide))).trans v1)).trans v2.c1,aAa ((oth6 (by omega)).trans HRN.out),aAa ((oth6 (by omega)).trans HRN.out),aAa ((oth6 (by omega)).trans HRN.out),aAa ((oth6 (by omega)).trans HRN.out)⟩
 have HNX:Hid (NX B P.p P.q P.g P.ls P.rg P.nd N m' l' L W ((((((w3.setCell ⟨n1,0,none⟩ (.int .i64 ae)).setCell ⟨n1,1,none⟩ (.int .i64 tl)).setCell ⟨n1,2,none⟩ (.bool false)).setCell ⟨n1,3,none⟩ (.int .i64 0)).setCell ⟨n1,4,none⟩ (.int .i64 bl)).setCell ⟨n1,5,none⟩ (.slice sa vn sc))):=⟨c',u',NDM.an6 ⟨HR3.out.s,H2.out.b,HND.out⟩ HRA.out HBC.out,HM3.out⟩
 have HGB:Hid (RGB B P ((((((w3.setCell ⟨n1,0,none⟩ (.int .i64 ae)).setCell ⟨n1,1,none⟩ (.int .i64 tl)).setCell ⟨n1,2,none⟩ (.bool false)).setCell ⟨n1,3,none⟩ (.int .i64 0)).setCell ⟨n1,4,none⟩ (.int .i64 bl)).setCell ⟨n1,5,none⟩ (.slice sa vn sc))):=RGB.an6 (P:=P) ⟨HR3.out.b,HR3.out.v⟩ HRA.out
 have HRR:Hid (RgN B P w ((((((w3.setCell ⟨n1,0,none⟩ (.int .i64 ae)).setCell ⟨n1,1,none⟩ (.int .i64 tl)).setCell ⟨n1,2,none⟩ (.bool false)).setCell ⟨n1,3,none⟩ (.int .i64 0)).setCell ⟨n1,4,none⟩ (.int .i64 bl)).setCell ⟨n1,5,none⟩ (.slice sa vn sc))):=HRG.out.an6 (by rw [hn0];omega) HBC.out
 have HKK:Hid (BK B ((((((w3.setCell ⟨n1,0,none⟩ (.int .i64 ae)).setCell ⟨n1,1,none⟩ (.int .i64 tl)).setCell ⟨n1,2,none⟩ (.bool false)).setCell ⟨n1,3,none⟩ (.int .i64 0)).setCell ⟨n1,4,none⟩ (.int .i64 bl)).setCell ⟨n1,5,none⟩ (.slice sa vn sc)) sa vn sc val):=HK3.out.ft (ft6 HRA.out (by decide) HBC.out)
 clear hHeld z0 zf0 z1 zf1 z2 zf2 z3 zf3 z4 zf4 z5 zf5
 generalize ((((((w3.setCell ⟨n1,0,none⟩ (.int .i64 ae)).setCell ⟨n1,1,none⟩ (.int .i64 tl)).setCell ⟨n1,2,none⟩ (.bool false)).setCell ⟨n1,3,none⟩ (.int .i64 0)).setCell ⟨n1,4,none⟩ (.int .i64 bl)).setCell ⟨n1,5,none⟩ (.slice sa vn sc))=w5 at *
 refine hK.out _ _ HX6.out (fun hHeld=>?_)
 clear hK K
 try simp only [Act.put,siT,scZ,scS]
 refine wpAnyH_done (by kernel_rfl) ?_ _
 refine NoPanic.normal ?_
 clear hHeld
 go_wp2
 (try simp only [Exit.inBlock,Exit.then])
 refine bodyPost_ret (results_cell_row Tryz.results42 _ _ n1 _ _ _ _ rfl HA6.out Tryz.underlying75 rfl aA4) rfl ?_
 exact ⟨⟨sa,sc,rfl,HKK.out⟩,HNX.out,HGB.out,HRR.out⟩
theorem nx_reg8 [Gd] {B N m m' v b n cp vn:Nat} {P:NdP} {l l':List It} {L:Nat->Lg} {W w:World} {va:Option Addr} {ae tl bl:Int} {val:List Nat} (hx:NX B P.p P.q P.g P.ls P.rg P.nd N m l L W w) (hr:RGB B P w) (hv:v<=16) (hn:n<=1800)
  (hs:∀ ww c u,RGM B P.p P.q P.g P.ls P.rg N c u l W ww->c<=m->u<=m->l.length<=m->Below w.heap.size w ww->Calls Tryz.prog 52 #[.pointer (some ⟨P.rg,0,none⟩),.int .i64 (v:Int),.int .i64 (b:Int),.slice va n cp] ww fun e w'=>(∃ sa sc,e=.returned (.agg #[.int .i64 ae,.int .i64 tl,.bool false,.int .i64 0,.int .i64 bl,.slice sa vn sc])/\BK B w' sa vn sc val)/\(∃ c' u',RGM B P.p P.q P.g P.ls P.rg N c' u' l' W w'/\c'<=m'/\u'<=m'/\l'.length<=m')/\RgF B P.g P.ls P.rg ww w') :
  Calls Tryz.prog 42 #[.pointer (some ⟨P.nd,0,none⟩),.agg #[.int .i64 8,.int .i64 (v:Int),.int .i64 (b:Int),.slice va n cp]] w fun e w'=>(∃ sa sc,e=.returned (.agg #[.int .i64 ae,.int .i64 tl,.bool false,.int .i64 0,.int .i64 bl,.slice sa vn sc])/\BK B w' sa vn sc val)/\NX B P.p P.q P.g P.ls P.rg P.nd N m' l' L W w'/\RGB B P w'/\RgN B P w w':=by
 have lt:∀ {k:Nat} {o:Obj} {ww:World},ww.heap[k]?=some o->k<ww.heap.size:=fun e=>(lO e)
 obtain ⟨c,u,h,m1,m2,m3⟩:=hx
 have HBX:=hide (aBz w (.cells #[.int .i64 8,.int .i64 (v:Int),.int .i64 (b:Int),.slice va n cp] 68) (.cells #[.int .i64 0,.int .i64 0,.bool false,.int .i64 0,.int .i64 0,.slice none 0 0] 75))
 have HN1:Hid (((w.alloc (.cells #[.int .i64 8,.int .i64 (v:Int),.int .i64 (b:Int),.slice va n cp] 68)).alloc (.cells #[.int .i64 0,.int .i64 0,.bool false,.int .i64 0,.int .i64 0,.slice none 0 0] 75)).heap[w.heap.size]?=some (.cells #[.int .i64 8,.int .i64 (v:Int),.int .i64 (b:Int),.slice va n cp] 68 (0,0))):=aAf [Obj.cells #[.int .i64 8,.int .i64 (v:Int),.int .i64 (b:Int),.slice va n cp] 68,Obj.cells #[.int .i64 0,.int .i64 0,.bool false,.int .i64 0,.int .i64 0,.slice none 0 0] 75] w 0 _ rfl
 have HA1:Hid (((w.alloc (.cells #[.int .i64 8,.int .i64 (v:Int),.int .i64 (b:Int),.slice va n cp] 68)).alloc (.cells #[.int .i64 0,.int .i64 0,.bool false,.int .i64 0,.int .i64 0,.slice none 0 0] 75)).heap[w.heap.size+1]?=some (.cells #[.int .i64 0,.int .i64 0,.bool false,.int .i64 0,.int .i64 0,.slice none 0 0] 75 (0,0))):=aAf [Obj.cells #[.int .i64 8,.int .i64 (v:Int),.int .i64 (b:Int),.slice va n cp] 68,Obj.cells #[.int .i64 0,.int .i64 0,.bool false,.int .i64 0,.int .i64 0,.slice none 0 0] 75] w 1 _ rfl
 have H1:=hide (h.later HBX.out)
 have HG1:Hid (RGB B P ((w.alloc (.cells #[.int .i64 8,.int .i64 (v:Int),.int .i64 (b:Int),.slice va n cp] 68)).alloc (.cells #[.int .i64 0,.int .i64 0,.bool false,.int .i64 0,.int .i64 0,.slice none 0 0] 75))):=by
  obtain ⟨g1,cs,g2,g3⟩:=hr
  exact ⟨g1,cs,(HBX.out.block _ (lt g2)).trans g2,g3⟩
 have HBW:=hide h.bw
 have HSV:=hide (fun ww (r:RGM B P.p P.q P.g P.ls P.rg N c u l W ww)=>hs ww c u r m1 m2 m3)
 have HRF:=hide (nref_ok (k:=8) (lg:=v) (at_:=b) (va:=va) (cp:=cp) H1.out (by decide) (by decide) hv hn)
 clear h hs hn hv hr m1 m2 m3
 go_enter Tryz.func42,Tryz.ntmps42
 go_upto_region 1 with fail
 generalize ((w.alloc (.cells #[.int .i64 8,.int .i64 (v:Int),.int .i64 (b:Int),.slice va n cp] 68)).alloc (.cells #[.int .i64 0,.int .i64 0,.bool false,.int .i64 0,.int .i64 0,.slice none 0 0] 75))=w1 at *
 generalize hn0:w.heap.size=n0 at *
 generalize hn1:n0+1=n1 at *
 have y0:w1.cell? ⟨n0,0,none⟩=some (.int .i64 8):=aAa HN1.out
 have y1:w1.cell? ⟨n0,1,none⟩=some (.int .i64 (v:Int)):=aAa HN1.out
 have y2:w1.cell? ⟨n0,2,none⟩=some (.int .i64 (b:Int)):=aAa HN1.out
 have y3:w1.cell? ⟨n0,3,none⟩=some (.slice va n cp):=aAa HN1.out
 go_wp2_with fail
 refine HRF.out.mono ?_
 rintro e w2 ⟨rfl,hb2⟩
 have H2:=hide (H1.out.later hb2)
 have HN2:=hide ((hb2.block n0 (lt HN1.out)).trans HN1.out)
 have HA2:=hide ((hb2.block n1 (lt HA1.out)).trans HA1.out)
 have HG2:Hid (RGB B P w2):=by
  obtain ⟨g1,cs,g2,g3⟩:=HG1.out
  exact ⟨g1,cs,(hb2.block _ (lt g2)).trans g2,g3⟩
 have HB2:Hid (Below n0 w w2):=HBX.out.trans (hb2.mono (by have:=HBX.out.size;omega))
 clear hb2 HRF HN1 HA1 HBX H1 HG1 y0 y1 y2 y3
 have y0:w2.cell? ⟨n0,0,none⟩=some (.int .i64 8):=aAa HN2.out
 go_upto_region 8 with fail
 clear y0
 have hbd:Below w2.heap.size w2 w2.drew:=(Below.refl _ _).drew
 have HN3:=hide HN2.out
 have HX1:Hid ((fun wx=>wx.cell? ⟨P.nd,1,none⟩=some (.pointer (some ⟨P.rg,0,none⟩))/\wx.cell? ⟨n0,0,none⟩=some (.int .i64 8)/\wx.cell? ⟨n0,1,none⟩=some (.int .i64 (v:Int))/\wx.cell? ⟨n0,2,none⟩=some (.int .i64 (b:Int))/\wx.cell? ⟨n0,3,none⟩=some (.slice va n cp)) w2.drew):=⟨H2.out.cell1,aAa (show w2.drew.heap[n0]?=_ from HN2.out),aAa (show w2.drew.heap[n0]?=_ from HN2.out),aAa (show w2.drew.heap[n0]?=_ from HN2.out),aAa (show w2.drew.heap[n0]?=_ from HN2.out)⟩
 have HP:Hid (RGM B P.p P.q P.g P.ls P.rg N c u l W w2.drew):=by
  obtain ⟨g1,g2⟩:=HG2.out
  exact RGM.later ⟨H2.out.s,g1,g2⟩ hbd
 have HBD:Hid (Below n0 w w2.drew):=HB2.out.trans (hbd.mono (by have:=HB2.out.size;omega))
 have HSV2:=hide (HSV.out w2.drew HP.out HBD.out)
 clear hbd HSV
 refine wp_region_noPanic ?_
 refine wp_region_held_drew (S:=fun wx=>wx.cell? ⟨P.nd,1,none⟩=some (.pointer (some ⟨P.rg,0,none⟩))/\wx.cell? ⟨n0,0,none⟩=some (.int .i64 8)/\wx.cell? ⟨n0,1,none⟩=some (.int .i64 (v:Int))/\wx.cell? ⟨n0,2,none⟩=some (.int .i64 (b:Int))/\wx.cell? ⟨n0,3,none⟩=some (.slice va n cp)) (by kernel_rfl) HX1.out (fun hHeld=>?_)
 refine wpAnyH_tk 0 31 ?_
 refine wpAnyH_tk 1 32 ?_
 refine wpAnyH_tk 2 33 ?_
 refine wpAnyH_tk 3 34 ?_
 refine wpAnyH_tk 4 35 ?_
 refine wpAnyH_tk 5 36 ?_
 refine wpAnyH_tk 6 37 ?_
 refine wpAnyH_tk 7 38 ?_
 refine wpAnyH_tk 8 39 ?_
 refine wpAnyH_tk 9 40 ?_
 refine wpAnyH_cm 10 ?_;intro K hK
 go_simp
 refine HSV2.out.mono ?_
 rintro e w3 ⟨⟨sa,sc,rfl,hk3⟩,⟨c',u',h3,m1',m2',m3'⟩,hf3⟩
 have HK3:=hide hk3
 have HR3:=hide h3
 have HM3:Hid (c'<=m'/\u'<=m'/\l'.length<=m'):=⟨m1',m2',m3'⟩
 have HRN:Hid (w3.heap[n0]?=_):=aBb HP.out hf3 (show w2.drew.heap[n0]?=_ from HN2.out) (by decide) (by decide) (by decide) (by decide)
 have HRA:Hid (w3.heap[n1]?=_):=aBb HP.out hf3 (show w2.drew.heap[n1]?=_ from HA2.out) (by decide) (by decide) (by decide) (by decide)
 have HND:Hid (∃ cs,w3.heap[P.nd]?=some (.cells cs 115 (0,0))/\NDV cs P.ls P.rg L):=by
  obtain ⟨cs,v1,v2⟩:=H2.out.v
  exact ⟨cs,aBb HP.out hf3 (show w2.drew.heap[P.nd]?=_ from v1) (by decide) (by decide) (by decide) (by decide),v2⟩
 have HRG:Hid (RgN B P w w3):=by
  have f1:RgN B P w w2.drew:=⟨HBD.out.mono HBW.out,fun k cs t fz e _ _ _ _ _=>(HBD.out.block k (by rw [<-hn0];exact lt e)).trans e,GdK.of (by rw [hn0];exact HBD.out)⟩
  exact ⟨f1.1.trans hf3.1,fun k cs t fz e q1 q2 q3 q4 q5=>hf3.2 k cs t fz (f1.2 k cs t fz e q1 q2 q3 q4 q5) q1 q2 q3 q5,f1.gd.trans hf3.gd⟩
 have HX3:Hid ((fun wx=>wx.cell? ⟨P.nd,1,none⟩=some (.pointer (some ⟨P.rg,0,none⟩))/\wx.cell? ⟨n0,0,none⟩=some (.int .i64 8)/\wx.cell? ⟨n0,1,none⟩=some (.int .i64 (v:Int))/\wx.cell? ⟨n0,2,none⟩=some (.int .i64 (b:Int))/\wx.cell? ⟨n0,3,none⟩=some (.slice va n cp)) w3):=by
  obtain ⟨cs,v1,v2⟩:=HND.out
  exact ⟨(aAa v1).trans v2.c1,aAa HRN.out,aAa HRN.out,aAa HRN.out,aAa HRN.out⟩
 clear hk3 h3 m1' m2' m3' hf3 hHeld HSV2 HP HBD
 refine hK.out _ _ HX3.out (fun hHeld=>?_)
 clear hK K
 try simp only [Act.put,siT,scZ,scS]
 have z0:w3.cell? ⟨n1,0,none⟩=some (.int .i64 0):=aAa HRA.out
 have zf0:w3.frozen? ⟨n1,0,none⟩=false:=aAb HRA.out
 have z1:w3.cell? ⟨n1,1,none⟩=some (.int .i64 0):=aAa HRA.out
 have zf1:w3.frozen? ⟨n1,1,none⟩=false:=aAb HRA.out
 have z2:w3.cell? ⟨n1,2,none⟩=some (.bool false):=aAa HRA.out
 have zf2:w3.frozen? ⟨n1,2,none⟩=false:=aAb HRA.out
 have z3:w3.cell? ⟨n1,3,none⟩=some (.int .i64 0):=aAa HRA.out
 have zf3:w3.frozen? ⟨n1,3,none⟩=false:=aAb HRA.out
 have z4:w3.cell? ⟨n1,4,none⟩=some (.int .i64 0):=aAa HRA.out
 have zf4:w3.frozen? ⟨n1,4,none⟩=false:=aAb HRA.out
 have z5:w3.cell? ⟨n1,5,none⟩=some (.slice none 0 0):=aAa HRA.out
 have zf5:w3.frozen? ⟨n1,5,none⟩=false:=aAb HRA.out
 refine wpAnyH_cm 11 ?_;intro K hK
 go_simp
 have HBC:Hid (B<=n1):=by show B<=n1;have:=HBW.out;omega
 have HA6:Hid (((((((w3.setCell ⟨n1,0,none⟩ (.int .i64 ae)).setCell ⟨n1,1,none⟩ (.int .i64 tl)).setCell ⟨n1,2,none⟩ (.bool false)).setCell ⟨n1,3,none⟩ (.int .i64 0)).setCell ⟨n1,4,none⟩ (.int .i64 bl)).setCell ⟨n1,5,none⟩ (.slice sa vn sc)).heap[n1]?=some (.cells #[.int .i64 ae,.int .i64 tl,.bool false,.int .i64 0,.int .i64 bl,.slice sa vn sc] 75 (0,0))):=set6 HRA.out
 have HX6:Hid ((fun wx=>wx.cell? ⟨P.nd,1,none⟩=some (.pointer (some ⟨P.rg,0,none⟩))/\wx.cell? ⟨n0,0,none⟩=some (.int .i64 8)/\wx.cell? ⟨n0,1,none⟩=some (.int .i64 (v:Int))/\wx.cell? ⟨n0,2,none⟩=some (.int .i64 (b:Int))/\wx.cell? ⟨n0,3,none⟩=some (.slice va n cp)) ((((((w3.setCell ⟨n1,0,none⟩ (.int .i64 ae)).setCell ⟨n1,1,none⟩ (.int .i64 tl)).setCell ⟨n1,2,none⟩ (.bool false)).setCell ⟨n1,3,none⟩ (.int .i64 0)).setCell ⟨n1,4,none⟩ (.int .i64 bl)).setCell ⟨n1,5,none⟩ (.slice sa vn sc))):=by
  obtain ⟨cs,v1,v2⟩:=HND.out
  exact ⟨(aAa ((oth6 (aAr v1 HRA.out (by decide))).trans v1)).trans v2.c1,aAa ((oth6 (by omega)).trans HRN.out),aAa ((oth6 (by omega)).trans HRN.out),aAa ((oth6 (by omega)).trans HRN.out),aAa ((oth6 (by omega)).trans HRN.out)⟩
 have HNX:Hid (NX B P.p P.q P.g P.ls P.rg P.nd N m' l' L W ((((((w3.setCell ⟨n1,0,none⟩ (.int .i64 ae)).setCell ⟨n1,1,none⟩ (.int .i64 tl)).setCell ⟨n1,2,none⟩ (.bool false)).setCell ⟨n1,3,none⟩ (.int .i64 0)).setCell ⟨n1,4,none⟩ (.int .i64 bl)).setCell ⟨n1,5,none⟩ (.slice sa vn sc))):=⟨c',u',NDM.an6 ⟨HR3.out.s,H2.out.b,HND.out⟩ HRA.out HBC.out,HM3.out⟩
 have HGB:Hid (RGB B P ((((((w3.setCell ⟨n1,0,none⟩ (.int .i64 ae)).setCell ⟨n1,1,none⟩ (.int .i64 tl)).setCell ⟨n1,2,none⟩ (.bool false)).setCell ⟨n1,3,none⟩ (.int .i64 0)).setCell ⟨n1,4,none⟩ (.int .i64 bl)).setCell ⟨n1,5,none⟩ (.slice sa vn sc))):=RGB.an6 (P:=P) ⟨HR3.out.b,HR3.out.v⟩ HRA.out
 have HRR:Hid (RgN B P w ((((((w3.setCell ⟨n1,0,none⟩ (.int .i64 ae)).setCell ⟨n1,1,none⟩ (.int .i64 tl)).setCell ⟨n1,2,none⟩ (.bool false)).setCell ⟨n1,3,none⟩ (.int .i64 0)).setCell ⟨n1,4,none⟩ (.int .i64 bl)).setCell ⟨n1,5,none⟩ (.slice sa vn sc))):=HRG.out.an6 (by rw [hn0];omega) HBC.out
 have HKK:Hid (BK B ((((((w3.setCell ⟨n1,0,none⟩ (.int .i64 ae)).setCell ⟨n1,1,none⟩ (.int .i64 tl)).setCell ⟨n1,2,none⟩ (.bool false)).setCell ⟨n1,3,none⟩ (.int .i64 0)).setCell ⟨n1,4,none⟩ (.int .i64 bl)).setCell ⟨n1,5,none⟩ (.slice sa vn sc)) sa vn sc val):=HK3.out.ft (ft6 HRA.out (by decide) HBC.out)
 clear hHeld z0 zf0 z1 zf1 z2 zf2 z3 zf3 z4 zf4 z5 zf5
 generalize ((((((w3.setCell ⟨n1,0,none⟩ (.int .i64 ae)).setCell ⟨n1,1,none⟩ (.int .i64 tl)).setCell ⟨n1,2,none⟩ (.bool false)).setCell ⟨n1,3,none⟩ (.int .i64 0)).setCell ⟨n1,4,none⟩ (.int .i64 bl)).setCell ⟨n1,5,none⟩ (.slice sa vn sc))=w5 at *
 refine hK.out _ _ HX6.out (fun hHeld=>?_)
 clear hK K
 try simp only [Act.put,siT,scZ,scS]
 refine wpAnyH_done (by kernel_rfl) ?_ _
 refine NoPanic.normal ?_
 clear hHeld
 go_wp2
 (try simp only [Exit.inBlock,Exit.then])
 refine bodyPost_ret (results_cell_row Tryz.results42 _ _ n1 _ _ _ _ rfl HA6.out Tryz.underlying75 rfl aA4) rfl ?_
 exact ⟨⟨sa,sc,rfl,HKK.out⟩,HNX.out,HGB.out,HRR.out⟩
section
variable {B N v b n cp:Nat} {P:NdP} {a:NdS} {W ww:World} {va:Option Addr} {R:Nat->Rec} {val:List Nat}
def lP (l:List It) (R:Nat->Rec) (v b:Nat):List It:=apL l [([v],enc b++enc (R v).2.1)]
def lAcc (l:List It) (v b:Nat) (val:List Nat):List It:=apL l [([v],enc b++enc b),([v,0],val)]
def vnR (r:Rec):Nat:=if r.2.1=0 then 0 else r.2.2.length
def vlR (r:Rec):List Nat:=if r.2.1=0 then [] else r.2.2
theorem dt_prep (hR:RL a.l R) (hv:v<=16) (hb1:1<=b) (hb2:b<9223372036854775808) (hlt:(R v).1<b) (hN:a.m+30<=N) (hm:a.m<=87) (hn:n<=1800):DoT B N P W 7 (v:Int) (b:Int) va n cp a ⟨a.m+1,lP a.l R v b,a.L⟩ 0 (b:Int) false 0 ((R v).2.1:Int) (vnR (R v)) (vlR (R v)) ww:=by
 intro S hx hr
 letI:Gd:=⟨S⟩
 refine nx_reg7 (v:=v) (b:=b) hx hr hv hn fun w9 c u r q1 q2 q3 _=>?_
 refine (prepare_u trivial r hR hv hb1 hb2 hlt (by omega) (by omega) (by omega) (by omega) (by omega)).mono ?_
 rintro e w' ⟨⟨av,rfl,va',vc',rfl,k1⟩,c',u',k2,k3,k4,k5,k6,k7⟩
 exact ⟨⟨va',vc',rfl,k1⟩,⟨c',u',k2,by show c'<=a.m+1;omega,by show u'<=a.m+1;omega,by show (apL a.l [([v],enc b++enc (R v).2.1)]).length<=a.m+1;omega⟩,k7⟩
theorem dt_prepl (hR:RL a.l R) (hv:v<=16) (hb1:1<=b) (hb2:b<9223372036854775808) (hlt:b<=(R v).1) (hn:n<=1800):DoT B N P W 7 (v:Int) (b:Int) va n cp a a 41 ((R v).1:Int) false 0 ((R v).2.1:Int) (vnR (R v)) (vlR (R v)) ww:=by
 intro S hx hr
 letI:Gd:=⟨S⟩
 refine nx_reg7 (v:=v) (b:=b) hx hr hv hn fun w9 c u r q1 q2 q3 _=>?_
 refine (aF3 r hR hv hb1 hb2 hlt).mono ?_
 rintro e w' ⟨⟨av,rfl,va',vc',rfl,k1⟩,c',u',k2,k3,k4,k5,k6,k7⟩
 exact ⟨⟨va',vc',rfl,k1⟩,⟨c',u',k2,by omega,by omega,by omega⟩,k7⟩
theorem dt_acc (hR:RL a.l R) (hv:v<=16) (hb1:1<=b) (hb2:b<9223372036854775808) (hlt:(R v).1<=b) (hN:a.m+30<=N) (hm:a.m<=87) (hn:n<=1800) (hk:BK B ww va n cp val):DoT B N P W 8 (v:Int) (b:Int) va n cp a ⟨a.m+2,lAcc a.l v b val,a.L⟩ 0 (b:Int) false 0 0 0 [] ww:=by
 intro S hx hr
 letI:Gd:=⟨S⟩
 have hbw:=hx.bw
 refine nx_reg8 (v:=v) (b:=b) hx hr hv hn fun w9 c u r q1 q2 q3 hb9=>?_
 refine (accept_u (val:=val) trivial r hR (fun w' hf=>((hk.later hb9 hbw).ft hf).1) hn hv hb1 hb2 hlt (by omega) (by omega) (by omega) (by omega) (by omega)).mono ?_
 rintro e w' ⟨rfl,c',u',k2,k3,k4,k5,k6,k7⟩
 exact ⟨⟨none,0,rfl,BK.nil _ _⟩,⟨c',u',k2,by show c'<=a.m+2;omega,by show u'<=a.m+2;omega,by show (apL a.l [([v],enc b++enc b),([v,0],val)]).length<=a.m+2;omega⟩,k7⟩
end
theorem and7 (z:Int):∃ v:Nat,v<=7/\bits BinOp.and IntKind.i64 z 7=(v:Int)/\(v:Int)=z % 8:=⟨(z % 8).toNat,by omega,by rw [aE5 z 3 (by omega) 7 (by decide)];omega,by omega⟩
def fat (v:Nat):Int:=if v=4 then 1 else if v=5 then 2 else if v=6 then 3 else if v=7 then 4 else 0
theorem fateOf_any {z:Int} {v:Nat} (hv:v<=7) (hb:bits BinOp.and IntKind.i64 z 7=(v:Int)) (w:World):Calls Tryz.prog 22 #[.int .i64 z] w fun e w'=>e=.returned (.int .i64 (fat v))/\w'=w:=by
 have h:v=0\/v=1\/v=2\/v=3\/v=4\/v=5\/v=6\/v=7:=by omega
 go_enter Tryz.func22,Tryz.ntmps22
 rcases h with rfl | rfl | rfl | rfl | rfl | rfl | rfl | rfl<;>(go_wp2;go_ret;exact ⟨rfl,rfl⟩)
def NTM (w:World) (nt gh M:Nat) (wv lv:Value):Prop:=w.heap[nt]?=some (.cells #[.slice (some ⟨gh,0,none⟩) M M,wv,lv] 45 (0,0))
theorem NTM.later {w w':World} {nt gh M:Nat} {wv lv:Value} (h:NTM w nt gh M wv lv) (hb:Below w.heap.size w w'):NTM w' nt gh M wv lv:=(hb.block nt (lO h)).trans h
theorem has_yes {w:World} {nt gh M i:Nat} {wv lv:Value} (h:NTM w nt gh M wv lv) (hi:i<M):Calls Tryz.prog 63 #[.pointer (some ⟨nt,0,none⟩),.int .i64 (i:Int)] w fun e w'=>e=.returned (.bool true)/\w'=w:=by
 have c0:w.cell? ⟨nt,0,none⟩=some (.slice (some ⟨gh,0,none⟩) M M):=aAa h
 have i0:(0:Int)<=(i:Int):=by omega
 have i1:(i:Int)<(M:Int):=by omega
 go_enter Tryz.func63,Tryz.ntmps63
 go_wp2
 go_ret
 exact ⟨rfl,rfl⟩
theorem ahead_any {w:World} {nt gh M n c:Nat} {a:Option Addr} {lv:Value} (h:NTM w nt gh M (.slice a n c) lv):Calls Tryz.prog 9 #[.pointer (some ⟨nt,0,none⟩)] w fun e w'=>e=.returned (.int .i64 (n:Int))/\w'=w:=by
 have c1:w.cell? ⟨nt,1,none⟩=some (.slice a n c):=aAa h
 go_enter Tryz.func9,Tryz.ntmps9
 go_wp2
 go_ret
 exact ⟨rfl,rfl⟩
theorem fate_none {w:World} {nt gh M c:Nat} {a:Option Addr} {lv:Value} (h:NTM w nt gh M (.slice a 0 c) lv):Calls Tryz.prog 10 #[.pointer (some ⟨nt,0,none⟩)] w fun e w'=>e=.returned (.int .i64 0)/\w'=w:=by
 have c1:w.cell? ⟨nt,1,none⟩=some (.slice a 0 c):=aAa h
 go_enter Tryz.func10,Tryz.ntmps10
 go_wp2
 go_ret
 exact ⟨rfl,rfl⟩
def tl1 (g o c:Nat):Value:=.slice (some ⟨g,if c=1 then o else o+1,none⟩) 0 (c-1)
section
variable {B N M:Nat} {P:Nat->NdP} {A:Nat->NdS} {E:Nat->Prop} {W w w':World}
theorem MND.oth (h:MND B N M P A E W w) (T:Nat->Prop) (hT:∀ k,T k->∃ cs t fz,w.heap[k]?=some (Obj.cells cs t fz)/\¬ DTy t/\t≠5/\t≠183/\t≠130/\t≠115/\t≠135) (hs:∀ k,k<w.heap.size->¬ T k->w'.heap[k]?=w.heap[k]?) (hb:Below B w w'):MND B N M P A E W w':=by
 obtain ⟨F,⟨k1,hE⟩,k2⟩:=h
 have nf:∀ {k:Nat},FBk w k->¬ T k:=fun hf hk=>by
  obtain ⟨cs,t,fz,e,h0,_⟩:=hT _ hk
  exact hf.ne e h0 rfl
 have nt:∀ {k:Nat} {cs:Array Value} {t:TypeId} {fz:Nat×Nat},w.heap[k]?=some (Obj.cells cs t fz)->(t=5\/t=183\/t=130\/t=115\/t=135)->w'.heap[k]?=w.heap[k]?:=fun e ht=>by
  refine hs _ (lO e) (fun hk=>?_)
  obtain ⟨cs,t,fz,e',_,h1,h2,h3,h4,h5⟩:=hT _ hk
  rw [e] at e'
  simp only [oI,cI] at e'
  rcases ht with q | q | q | q | q
  ·exact h1 (e'.2.1.symm.trans q)
  ·exact h2 (e'.2.1.symm.trans q)
  ·exact h3 (e'.2.1.symm.trans q)
  ·exact h4 (e'.2.1.symm.trans q)
  ·exact h5 (e'.2.1.symm.trans q)
 refine ⟨F,⟨fun i hi=>?_,fun k hk=>⟨(hE k hk).1.same (hs k (hE k hk).1.lt (nf (hE k hk).1)),(hE k hk).2⟩⟩,k2⟩
 obtain ⟨⟨d1,⟨c1,d2⟩,⟨c2,d3⟩,⟨c3,d4⟩⟩,⟨_,c5,d5,_⟩,_⟩:=k1 i hi
 exact (k1 i hi).keep (fun k hk=>hs k (d1 k hk).lt (nf (d1 k hk))) (fun k cs fz e=>(nt e (Or.inl rfl)).trans e) (nt d2 (by simp)) (nt d3 (by simp)) (nt d4 (by simp)) hb (nt d5 (by simp))
end
structure LR where
 nd:Nat
 k:Int
 lg:Int
 at_:Int
 val:List Nat
def lrC (x:LR) (v:Value):List Value:=[.int .i64 (x.nd:Int),.int .i64 x.k,.int .i64 x.lg,.int .i64 x.at_,v]
def lrF:List LR->List Value->List Value
 | [],_=>[]
 | _,[]=>[]
 | x::l,v::vs=>lrC x v++lrF l vs
def LTV (B:Nat) (w:World) (lv:Value) (l:List LR):Prop:=∃ vs:List Value,vs.length=l.length/\w.ownsRow B 70 5 lv l.length (lrF l vs)/\∀ (i:Nat) x v,l[i]?=some x->vs[i]?=some v->∃ a c,v=.slice a x.val.length c/\BK B w a x.val.length c x.val
end Go.Proofs.YtdfjjhlhnfindaaGreat
