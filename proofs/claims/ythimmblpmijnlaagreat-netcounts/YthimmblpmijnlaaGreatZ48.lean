import Derived.Test.YthimmblpmijnlaaGreatZ47
set_option maxRecDepth 100000
set_option maxHeartbeats 16000000
set_option linter.unusedVariables false
namespace Go.Proofs.YthimmblpmijnlaaGreat
open Go.RowKit
def fv:List Int→Int
 | []=>0
 | z::_=>fat (z % 8).toNat
def WV (B:Nat) (w:World) (wv:Value) (F:List Int):Prop:=∃ a c,wv=.slice a F.length c∧F.length≤c∧c≤9223372036854775807∧(c≠0→∃ g o cs,a=some ⟨g,o,none⟩∧B≤g∧w.heap[g]?=some (.cells cs 3 (0,0))∧o+c≤cs.size∧∀ j z,F[j]?=some z→cs[o+j]?=some (.int .i64 z))
theorem WV.same {B:Nat} {w w':World} {wv:Value} {F:List Int} (h:WV B w wv F) (hs:∀ k,wv.ownBlock=some k→w'.heap[k]?=w.heap[k]?):WV B w' wv F:=by
 obtain ⟨a,c,rfl,h1,h2,h3⟩:=h
 refine ⟨a,c,rfl,h1,h2,fun hc=>?_⟩
 obtain ⟨g,o,cs,rfl,hgB,h4,h5,h6⟩:=h3 hc
 exact ⟨g,o,cs,rfl,hgB,(hs g rfl).trans h4,h5,h6⟩
theorem WV.nil (B:Nat) (w:World):WV B w (.slice none 0 0) []:=⟨none,0,rfl,nR _,by omega,fun h=>absurd rfl h⟩
def tln (g o n c:Nat):Value:=.slice (some ⟨g,if c=1 then o else o+1,none⟩) n (c-1)
theorem fate_cons {w:World} {nt gh M g o c v n:Nat} {z:Int} {lv:Value} (h:NTM w nt gh M (.slice (some ⟨g,o,none⟩) (n+1) c) lv) (hc:n+1≤c) (hcm:c≤9223372036854775807) (hz:w.cell? ⟨g,o,none⟩=some (.int .i64 z)) (hv:v≤7) (hb:bits BinOp.and IntKind.i64 z 7=(v:Int)) :
  Calls Tryz.prog 15 #[.pointer (some ⟨nt,0,none⟩)] w fun e w'=>e=.returned (.int .i64 (fat v))∧w'=w.setCell ⟨nt,1,none⟩ (tln g o n c):=by
 have c1:w.cell? ⟨nt,1,none⟩=some (.slice (some ⟨g,o,none⟩) (n+1) c):=aAa h
 have f1:w.frozen? ⟨nt,1,none⟩=false:=aAb h
 have i1:(n:Int)+1≤(c:Int):=by omega
 have i2:(c:Int)≤9223372036854775807:=by omega
 have i7:(0:Int)<(n:Int)+1:=by omega
 have i8:¬ (n:Int)+1=0:=by omega
 have i9:(1:Int)≤(n:Int)+1:=by omega
 have HFT:=hide (fun ww=>fateOf_any (z:=z) hv hb ww)
 clear h hb
 by_cases q:c=1
 ·have q2:n=0:=by omega
  subst q q2
  go_enter Tryz.func15,Tryz.ntmps15
  go_wp2_with fail
  refine (HFT.out _).mono ?_
  rintro e w2 ⟨rfl,rfl⟩
  go_wp2
  go_ret
  exact ⟨rfl,rfl⟩
 ·have i3:¬ (c:Int)=1:=by omega
  have i4:¬ c=1:=q
  have i5:¬ (1:Int)=(c:Int):=by omega
  have i6:¬ 1=c:=by omega
  go_enter Tryz.func15,Tryz.ntmps15
  go_wp2_with fail
  refine (HFT.out _).mono ?_
  rintro e w2 ⟨rfl,rfl⟩
  go_wp2
  go_ret
  refine ⟨rfl,?_⟩
  unfold tln
  rw [if_neg q]
  try rfl
def FtT (B nt gh M:Nat) (wv lv:Value) (F:List Int) (w w':World):Prop:=∃ wv',NTM w' nt gh M wv' lv∧WV B w' wv' F∧(∀ k,wv'.ownBlock=some k→wv.ownBlock=some k)∧(∀ k,k≠nt→w'.heap[k]?=w.heap[k]?)∧Below B w w'
theorem fate_any {B:Nat} {w:World} {nt gh M:Nat} {wv lv:Value} {F:List Int} (h:NTM w nt gh M wv lv) (hw:WV B w wv F) (hB:B≤nt) :
  Calls Tryz.prog 15 #[.pointer (some ⟨nt,0,none⟩)] w fun e w'=>e=.returned (.int .i64 (fv F))∧FtT B nt gh M wv lv F.tail w w':=by
 obtain ⟨a,c,rfl,h1,h2,h3⟩:=hw
 cases F with
 | nil =>
  refine (fate_none h).mono ?_
  rintro e w' ⟨rfl,rfl⟩
  exact ⟨rfl,_,h,⟨a,c,rfl,h1,h2,h3⟩,fun k e=>e,fun k _=>rfl,Below.refl _ _⟩
 | cons z F' =>
  have hl:(z::F').length=F'.length+1:=rfl
  rw [hl] at h h1
  obtain ⟨g,o,cs,rfl,hgB,h4,h5,h6⟩:=h3 (by omega)
  obtain ⟨v,hv,hb,hm⟩:=and7 z
  have hz:w.cell? ⟨g,o,none⟩=some (.int .i64 z):=(aAa h4).trans (h6 0 z rfl)
  refine (fate_cons h h1 h2 hz hv hb).mono ?_
  rintro e w' ⟨rfl,rfl⟩
  have hvv:v=(z % 8).toNat:=by omega
  have hgn:g≠nt:=fun e=>by
   subst e
   have h9:w.heap[g]?=_:=h
   rw [h4] at h9
   simp only [oI,cI] at h9
   exact absurd h9.2.1 (by decide)
  refine ⟨by rw [hvv];rfl,tln g o F'.length c,heap_setCell_same _ _ _ _ _ _ h,⟨_,c-1,rfl,by show F'.length≤c-1;omega,by omega,fun hc=>?_⟩,fun k e=>e,fun k hk=>heap_setCell_other _ _ _ _ hk,(Below.refl _ _).setCell (p:=⟨nt,1,none⟩) hB _⟩
  refine ⟨g,o+1,cs,by rw [if_neg (by omega)],hgB,(heap_setCell_other _ _ _ _ hgn).trans h4,by omega,fun j z' hj=>?_⟩
  rw [show o+1+j=o+(j+1) by omega]
  exact h6 (j+1) z' hj
structure NsF (B:Nat) (w w':World):Prop where
 bel:Below B w w'
 stay:∀ (k:Nat) (cs:Array Value) (t:TypeId) (fz:Nat×Nat),w.heap[k]?=some (Obj.cells cs t fz)→NT t→t≠155→t≠104→(t≠89∧t≠109)→(t≠46∧t≠40)→w'.heap[k]?=some (Obj.cells cs t fz)
theorem NsF.trans {B:Nat} {a b c:World} (h:NsF B a b) (k:NsF B b c):NsF B a c:=⟨h.1.trans k.1,fun i cs t fz e n1 n2 n3 n4 n5=>k.2 i cs t fz (h.2 i cs t fz e n1 n2 n3 n4 n5) n1 n2 n3 n4 n5⟩
theorem NsF.of {B:Nat} {w w':World} (h:Below w.heap.size w w') (hB:B≤w.heap.size):NsF B w w':=⟨h.mono hB,fun i cs t fz e _ _ _ _ _=>(h.block i (lO e)).trans e⟩
theorem NsF.nd {B:Nat} {w w':World} (h:NdK w w') (hb:Below B w w'):NsF B w w':=⟨hb,fun i cs t fz e n1 n2 n3 n4 _=>h i cs t fz e n1 n2 n3 n4⟩
theorem NsF.ft {B:Nat} {w w':World} (h:NsF B w w'):FT B w w':=⟨h.1,fun k cs fz e=>h.2 k cs _ fz e (by decide) (by decide) (by decide) (by decide) (by decide)⟩
structure NSw (B N M nt gh:Nat) (P:Nat→NdP) (A:Nat→NdS) (wv:Value) (F:List Int) (l:List LR) (W w:World):Prop where
 m:MND B N M P A (fun k=>wv.ownBlock=some k) W w
 f:WV B w wv F
 n:∃ lv,NTM w nt gh M wv lv∧LTV B w lv l
 h:∃ hc,w.heap[gh]?=some (.cells hc 52 (0,0))∧∀ j,j<M→hc[j*2+1]?=some (.pointer (some ⟨(P j).nd,0,none⟩))
 b:B≤nt
 bw:B≤w.heap.size
theorem LTV.keep {B:Nat} {w w':World} {lv:Value} {l:List LR} (h:LTV B w lv l) (hk:∀ (k:Nat) (cs:Array Value),w.heap[k]?=some (Obj.cells cs 40 (0,0))→w'.heap[k]?=some (Obj.cells cs 40 (0,0))) (hf:FT B w w'):LTV B w' lv l:=by
 obtain ⟨vs,q1,q2,q3⟩:=h
 refine ⟨vs,q1,aAj q2 fun k cs _ e=>hk k cs e,fun i x v e1 e2=>?_⟩
 obtain ⟨a,c,e3,e4⟩:=q3 i x v e1 e2
 exact ⟨a,c,e3,e4.ft hf⟩
theorem LTV.nil (B:Nat) (w:World):LTV B w (.slice none 0 0) []:=⟨[],rfl,World.ownsRow_nil w _ _ _,fun i x v e _=>by simp at e⟩
theorem MND.El {B N M:Nat} {P:Nat→NdP} {A:Nat→NdS} {E:Nat→Prop} {W w:World} (h:MND B N M P A E W w):∀ k,E k→FBk w k:=by
 obtain ⟨F,⟨_,hE⟩,_⟩:=h
 exact fun k hk=>(hE k hk).1
section
variable {B N M nt gh:Nat} {P:Nat→NdP} {A:Nat→NdS} {wv:Value} {F:List Int} {l:List LR} {W w w':World}
theorem NSw.later (h:NSw B N M nt gh P A wv F l W w) (hb:Below w.heap.size w w'):NSw B N M nt gh P A wv F l W w':=by
 obtain ⟨lv,h1,h2⟩:=h.n
 obtain ⟨hc,h3,h4⟩:=h.h
 have blk:∀ {k:Nat} {o:Obj},w.heap[k]?=some o→w'.heap[k]?=some o:=fun e=>(hb.block _ (lO e)).trans e
 exact ⟨h.m.later hb h.bw,h.f.same fun k hk=>hb.block k (h.m.El k hk).lt,⟨lv,h1.later hb,h2.keep (fun k cs e=>blk e) ⟨hb.mono h.bw,fun k cs fz e=>blk e⟩⟩,⟨hc,blk h3,h4⟩,h.b,nT h.bw hb.size⟩
theorem NSw.fate (h:NSw B N M nt gh P A wv F l W w) :
  Calls Tryz.prog 15 #[.pointer (some ⟨nt,0,none⟩)] w fun e w'=>e=.returned (.int .i64 (fv F))∧∃ wv',NSw B N M nt gh P A wv' F.tail l W w'∧NsF B w w'∧∀ k,k≠nt→w'.heap[k]?=w.heap[k]?:=by
 obtain ⟨lv,h1,h2⟩:=h.n
 obtain ⟨hc,h3,h4⟩:=h.h
 refine (fate_any h1 h.f h.b).mono ?_
 rintro e w' ⟨rfl,wv',k1,k2,k3,k4,k5⟩
 have ne:∀ {k:Nat} {cs:Array Value} {t:TypeId} {fz:Nat×Nat},w.heap[k]?=some (Obj.cells cs t fz)→t≠46→k≠nt:=by
  intro k cs t fz e ht e3
  subst e3
  have h9:w.heap[k]?=_:=h1
  rw [h9] at e
  simp only [oI,cI] at e
  exact ht e.2.1.symm
 have st:∀ {k:Nat} {cs:Array Value} {t:TypeId} {fz:Nat×Nat},w.heap[k]?=some (Obj.cells cs t fz)→t≠46→w'.heap[k]?=some (Obj.cells cs t fz):=fun e ht=>(k4 _ (ne e ht)).trans e
 have hf:FT B w w':=⟨k5,fun k cs fz e=>st e (by decide)⟩
 have hm:=h.m.oth (fun k=>k=nt) (fun k hk=>by
  subst hk
  exact ⟨_,_,_,h1,by unfold DTy;decide,by decide,by decide,by decide,by decide,by decide⟩) (fun k _ hk=>k4 k hk) k5
 exact ⟨rfl,wv',⟨hm.less k3,k2,⟨lv,k1,h2.keep (fun k cs e=>st e (by decide)) hf⟩,⟨hc,st h3 (by decide),h4⟩,h.b,nT h.bw k5.size⟩,⟨k5,fun k cs t fz e _ _ _ _ n5=>st e n5.1⟩,k4⟩
end
section
variable {B N M nt gh:Nat} {P:Nat→NdP} {A A':Nat→NdS} {wv:Value} {F:List Int} {l:List LR} {W w w':World}
theorem NSw.did (h:NSw B N M nt gh P A wv F l W w) (hM:MND B N M P A' (fun k=>wv.ownBlock=some k) W w') (hN:NdK w w') (hb:Below B w w') (hE:∀ k,wv.ownBlock=some k→w'.heap[k]?=w.heap[k]?):NSw B N M nt gh P A' wv F l W w':=by
 obtain ⟨lv,h1,h2⟩:=h.n
 obtain ⟨hc,h3,h4⟩:=h.h
 exact ⟨hM,h.f.same hE,⟨lv,hN nt _ _ _ h1 (by decide) (by decide) (by decide) (by decide),h2.keep (fun k cs e=>hN k cs _ _ e (by decide) (by decide) (by decide) (by decide)) ⟨hb,fun k cs fz e=>hN k cs _ fz e (by decide) (by decide) (by decide) (by decide)⟩⟩,⟨hc,hN gh _ _ _ h3 (by decide) (by decide) (by decide) (by decide),h4⟩,h.b,nT h.bw hb.size⟩
theorem NdK.one6 {w:World} {g:Nat} {a0 a1 a2 a3 a4 a5 b0 b1 b2 b3 b4 b5:Value} (hg:w.heap[g]?=some (.cells #[a0,a1,a2,a3,a4,a5] 30 (0,0))) {k:Nat} {cs:Array Value} {t:TypeId} {fz:Nat×Nat} (e:w.heap[k]?=some (Obj.cells cs t fz)) (ht:t≠30):((((((w.setCell ⟨g,0,none⟩ b0).setCell ⟨g,1,none⟩ b1).setCell ⟨g,2,none⟩ b2).setCell ⟨g,3,none⟩ b3).setCell ⟨g,4,none⟩ b4).setCell ⟨g,5,none⟩ b5).heap[k]?=some (Obj.cells cs t fz):=by
 refine (oth6 ?_).trans e
 intro e3
 subst e3
 rw [hg] at e
 simp only [oI,cI] at e
 exact ht e.2.1.symm
theorem NSw.wr6 (h:NSw B N M nt gh P A wv F l W w) {g:Nat} {a0 a1 a2 a3 a4 a5 b0 b1 b2 b3 b4 b5:Value} (hg:w.heap[g]?=some (.cells #[a0,a1,a2,a3,a4,a5] 30 (0,0))) (hB:B≤g):NSw B N M nt gh P A wv F l W ((((((w.setCell ⟨g,0,none⟩ b0).setCell ⟨g,1,none⟩ b1).setCell ⟨g,2,none⟩ b2).setCell ⟨g,3,none⟩ b3).setCell ⟨g,4,none⟩ b4).setCell ⟨g,5,none⟩ b5):=by
 obtain ⟨lv,h1,h2⟩:=h.n
 obtain ⟨hc,h3,h4⟩:=h.h
 have hb:Below B w ((((((w.setCell ⟨g,0,none⟩ b0).setCell ⟨g,1,none⟩ b1).setCell ⟨g,2,none⟩ b2).setCell ⟨g,3,none⟩ b3).setCell ⟨g,4,none⟩ b4).setCell ⟨g,5,none⟩ b5):=bel6 (Below.refl _ _) hB
 exact ⟨h.m.wr6 hg hB,h.f.same fun k hk=>oth6 ((h.m.El k hk).ne hg (by unfold DTy;decide)),⟨lv,NdK.one6 hg h1 (by decide),h2.keep (fun k cs e=>NdK.one6 hg e (by decide)) ⟨hb,fun k cs fz e=>NdK.one6 hg e (by decide)⟩⟩,⟨hc,NdK.one6 hg h3 (by decide),h4⟩,h.b,nT h.bw hb.size⟩
theorem NSw.delay (h:NSw B N M nt gh P A wv F l W w) {n cp td:Nat} {k lg at_:Int} {va:Option Addr} {val:List Nat} (hl6:l.length<64) (hv:BS w va n cp val) (hn:n≤100000) :
  Calls Tryz.prog 17 #[.pointer (some ⟨nt,0,none⟩),.int .i64 (td:Int),.agg #[.int .i64 k,.int .i64 lg,.int .i64 at_,.slice va n cp]] w fun e w'=>e=.returned (.tuple #[])∧NSw B N M nt gh P A wv F (l++[⟨td,k,lg,at_,val⟩]) W w'∧NsF B w w':=by
 obtain ⟨lv,h1,h2⟩:=h.n
 obtain ⟨hc,h3,h4⟩:=h.h
 refine (delay_ok (td:=td) h1 h.b h.bw h2 hl6 hv hn).mono ?_
 rintro e w' ⟨rfl,lv',k1,k2,k3,k4⟩
 obtain ⟨vs,q1,q2,q3⟩:=h2
 have own:∀ {k:Nat} {cs:Array Value} {t:TypeId} {fz:Nat×Nat},w.heap[k]?=some (Obj.cells cs t fz)→t≠46→t≠40→w'.heap[k]?=some (Obj.cells cs t fz):=by
  intro k cs t fz e n1 n2
  refine (k4 k (lO e) (fun e3=>?_) (fun e3=>?_)).trans e
  ·subst e3
   have h9:w.heap[k]?=_:=h1
   rw [h9] at e
   simp only [oI,cI] at e
   exact n1 e.2.1.symm
  ·obtain ⟨_,cur,h9⟩:=aAl q2 e3
   rw [h9] at e
   simp only [oI,cI] at e
   exact n2 e.2.1.symm
 have hm:=h.m.oth (fun k=>k=nt∨lv.ownBlock=some k) (fun k hk=>by
  rcases hk with rfl | hk
  ·exact ⟨_,_,_,h1,by unfold DTy;decide,by decide,by decide,by decide,by decide,by decide⟩
  ·obtain ⟨_,cur,h9⟩:=aAl q2 hk
   exact ⟨_,_,_,h9,by unfold DTy;decide,by decide,by decide,by decide,by decide,by decide⟩) (fun k h5 h6=>k4 k h5 (fun e=>h6 (Or.inl e)) (fun e=>h6 (Or.inr e))) k3
 refine ⟨rfl,⟨hm,h.f.same fun k hk=>?_,⟨lv',k1,k2⟩,⟨hc,own h3 (by decide) (by decide),h4⟩,h.b,nT h.bw k3.size⟩,k3,fun k cs t fz e _ _ _ _ n5=>own e n5.1 n5.2⟩
 obtain ⟨cs,t,e,ht⟩:=h.m.El k hk
 rw [e]
 refine own e (fun q=>?_) (fun q=>?_)<;>(rw [q] at ht;exact absurd ht (by unfold DTy;decide))
theorem NsF.wr6 {w0:World} (h:NsF B w0 w) {g:Nat} {b0 b1 b2 b3 b4 b5:Value} (hn:w0.heap.size≤g) (hB:B≤g):NsF B w0 ((((((w.setCell ⟨g,0,none⟩ b0).setCell ⟨g,1,none⟩ b1).setCell ⟨g,2,none⟩ b2).setCell ⟨g,3,none⟩ b3).setCell ⟨g,4,none⟩ b4).setCell ⟨g,5,none⟩ b5):=⟨bel6 h.1 hB,fun k cs t fz e n1 n2 n3 n4 n5=>(oth6 (by have:=(lO e);omega)).trans (h.2 k cs t fz e n1 n2 n3 n4 n5)⟩
end
theorem NSw.call0 {B N M nt gh i n cp:Nat} {P:Nat→NdP} {A:Nat→NdS} {wv:Value} {F:List Int} {l:List LR} {W w:World} {k lg at_:Int} {va:Option Addr} {vn1:Nat} {e1 tl1 tr1 bl1:Int} {sl1:Bool} {val1:List Nat} {x:NdS} (h:NSw B N M nt gh P A wv F l W w) (hM:i<M) (hM6:M≤64) (hf:fv F=0) (he1:¬ e1=20) (hdo:∀ ww,FT B w ww→DoT B N (P i) W k lg at_ va n cp (A i) x e1 tl1 sl1 tr1 bl1 vn1 val1 ww) :
  Calls Tryz.prog 6 #[.pointer (some ⟨nt,0,none⟩),.int .i64 (i:Int),.agg #[.int .i64 k,.int .i64 lg,.int .i64 at_,.slice va n cp]] w fun e w'=>(∃ sa1 sc1,e=.returned (.tuple #[.agg #[.int .i64 e1,.int .i64 tl1,.bool sl1,.int .i64 tr1,.int .i64 bl1,.slice sa1 vn1 sc1],.bool true])∧BK B w' sa1 vn1 sc1 val1)∧∃ wv',NSw B N M nt gh P (upS A i x) wv' F.tail l W w'∧NsF B w w':=by
 have lt:∀ {k:Nat} {o:Obj} {ww:World},ww.heap[k]?=some o→k<ww.heap.size:=fun e=>(lO e)
 have HBX:=hide (aAr w (.cells #[.int .i64 k,.int .i64 lg,.int .i64 at_,.slice va n cp] 34) (.cells #[.int .i64 0,.int .i64 0,.bool false,.int .i64 0,.int .i64 0,.slice none 0 0] 30))
 have HR2:Hid (((w.alloc (.cells #[.int .i64 k,.int .i64 lg,.int .i64 at_,.slice va n cp] 34)).alloc (.cells #[.int .i64 0,.int .i64 0,.bool false,.int .i64 0,.int .i64 0,.slice none 0 0] 30)).heap[w.heap.size]?=some (.cells #[.int .i64 k,.int .i64 lg,.int .i64 at_,.slice va n cp] 34 (0,0))):=aAd [Obj.cells #[.int .i64 k,.int .i64 lg,.int .i64 at_,.slice va n cp] 34,Obj.cells #[.int .i64 0,.int .i64 0,.bool false,.int .i64 0,.int .i64 0,.slice none 0 0] 30] w 0 _ rfl
 have HA2:Hid (((w.alloc (.cells #[.int .i64 k,.int .i64 lg,.int .i64 at_,.slice va n cp] 34)).alloc (.cells #[.int .i64 0,.int .i64 0,.bool false,.int .i64 0,.int .i64 0,.slice none 0 0] 30)).heap[w.heap.size+1]?=some (.cells #[.int .i64 0,.int .i64 0,.bool false,.int .i64 0,.int .i64 0,.slice none 0 0] 30 (0,0))):=aAd [Obj.cells #[.int .i64 k,.int .i64 lg,.int .i64 at_,.slice va n cp] 34,Obj.cells #[.int .i64 0,.int .i64 0,.bool false,.int .i64 0,.int .i64 0,.slice none 0 0] 30] w 1 _ rfl
 have HS2:=hide (h.later HBX.out)
 have HBW:=hide h.bw
 have HX:=hide hM
 have hfa:=HS2.out.fate
 rw [hf] at hfa
 have HFT:=hide hfa
 have HNT:Hid (nt<w.heap.size):=by
  obtain ⟨lv,h1,_⟩:=h.n
  exact lt h1
 obtain ⟨lv,hn,_⟩:=HS2.out.n
 have HHS:=hide (aCv hn hM)
 have c0:((w.alloc (.cells #[.int .i64 k,.int .i64 lg,.int .i64 at_,.slice va n cp] 34)).alloc (.cells #[.int .i64 0,.int .i64 0,.bool false,.int .i64 0,.int .i64 0,.slice none 0 0] 30)).cell? ⟨nt,0,none⟩=some (.slice (some ⟨gh,0,none⟩) M M):=aAa hn
 have xx:(i:Int)<(M:Int):=by omega
 have xx0:(0:Int)≤(i:Int):=by omega
 have xx1:¬ (i:Int)<0:=by omega
 have HE1:=hide he1
 have HDO:=hide hdo
 clear he1 hdo
 clear h hf hfa hn hM
 go_enter Tryz.func6,Tryz.ntmps6
 go_wp2_with fail
 refine HHS.out.mono ?_
 rintro e w2' ⟨rfl,rfl⟩
 generalize ((w.alloc (.cells #[.int .i64 k,.int .i64 lg,.int .i64 at_,.slice va n cp] 34)).alloc (.cells #[.int .i64 0,.int .i64 0,.bool false,.int .i64 0,.int .i64 0,.slice none 0 0] 30))=w2 at *
 generalize hn0:w.heap.size=n0 at *
 generalize hn1:n0+1=n1 at *
 have HN1:Hid (n0<n1):=by show n0<n1;omega
 go_wp2_with fail
 refine HFT.out.mono ?_
 rintro e w3 ⟨rfl,wv',h3,hf3,hk3⟩
 have HR3:Hid (w3.heap[n0]?=_):=(hk3 n0 (by have:=HNT.out;omega)).trans HR2.out
 have HA3:Hid (w3.heap[n1]?=_):=(hk3 n1 (by have:=HNT.out;have:=HN1.out;omega)).trans HA2.out
 have HS3:=hide h3
 have HF3:Hid (NsF B w w3):=(NsF.of (w':=w2) (by rw [hn0];exact HBX.out) (by rw [hn0];exact HBW.out)).trans hf3
 have HBC:Hid (B≤n1):=by show B≤n1;have:=HBW.out;have:=HN1.out;omega
 have HNW:Hid (n0≤n1):=by show n0≤n1;have:=HN1.out;omega
 clear h3 hf3 hk3 HFT HHS c0
 have HD4:=hide (by
  obtain ⟨hc,g1,g2⟩:=HS3.out.h
  exact aCu (w:=w3) HS3.out.m HS3.out.bw HX.out g1 (g2 i HX.out) HE1.out (fun k hk=>(HS3.out.m.El k hk).lt) (fun ww hw=>HDO.out ww (HF3.out.trans (NsF.of hw HS3.out.bw)).ft))
 have r40:w3.cell? ⟨n0,0,none⟩=some (.int .i64 k):=aAa HR3.out
 have r41:w3.cell? ⟨n0,1,none⟩=some (.int .i64 lg):=aAa HR3.out
 have r42:w3.cell? ⟨n0,2,none⟩=some (.int .i64 at_):=aAa HR3.out
 have r43:w3.cell? ⟨n0,3,none⟩=some (.slice va n cp):=aAa HR3.out
 go_wp2_with fail
 refine HD4.out.mono ?_
 rintro e w4 ⟨⟨sa1,sc1,rfl,hk4⟩,hM4,hN4,hb4,hE4⟩
 have HS4:=hide (HS3.out.did hM4 hN4 hb4 hE4)
 have HF4:=hide (HF3.out.trans (NsF.nd hN4 hb4))
 have HR4:Hid (w4.heap[n0]?=_):=hN4 n0 _ _ _ HR3.out (by decide) (by decide) (by decide) (by decide)
 have HA4:Hid (w4.heap[n1]?=_):=hN4 n1 _ _ _ HA3.out (by decide) (by decide) (by decide) (by decide)
 have HK4:=hide hk4
 clear hk4 hM4 hN4 hb4 hE4 HD4 r40 r41 r42 r43
 have z0:w4.cell? ⟨n1,0,none⟩=some (.int .i64 0):=aAa HA4.out
 have zf0:w4.frozen? ⟨n1,0,none⟩=false:=aAb HA4.out
 have z1:w4.cell? ⟨n1,1,none⟩=some (.int .i64 0):=aAa HA4.out
 have zf1:w4.frozen? ⟨n1,1,none⟩=false:=aAb HA4.out
 have z2:w4.cell? ⟨n1,2,none⟩=some (.bool false):=aAa HA4.out
 have zf2:w4.frozen? ⟨n1,2,none⟩=false:=aAb HA4.out
 have z3:w4.cell? ⟨n1,3,none⟩=some (.int .i64 0):=aAa HA4.out
 have zf3:w4.frozen? ⟨n1,3,none⟩=false:=aAb HA4.out
 have z4:w4.cell? ⟨n1,4,none⟩=some (.int .i64 0):=aAa HA4.out
 have zf4:w4.frozen? ⟨n1,4,none⟩=false:=aAb HA4.out
 have z5:w4.cell? ⟨n1,5,none⟩=some (.slice none 0 0):=aAa HA4.out
 have zf5:w4.frozen? ⟨n1,5,none⟩=false:=aAb HA4.out
 go_wp2
 (try simp only [Exit.inBlock,Exit.then])
 refine bodyPost_ret (aA7 rfl _ _ n1 _ rfl (set6 HA4.out) rfl) rfl ?_
 exact ⟨⟨sa1,sc1,rfl,HK4.out.ft (ft6 HA4.out (by decide) HBC.out)⟩,wv',HS4.out.wr6 HA4.out HBC.out,HF4.out.wr6 (by rw [hn0];exact HNW.out) HBC.out⟩
theorem NSw.call1 {B N M nt gh i n cp:Nat} {P:Nat→NdP} {A:Nat→NdS} {wv:Value} {F:List Int} {l:List LR} {W w:World} {k lg at_:Int} {va:Option Addr}  (h:NSw B N M nt gh P A wv F l W w) (hM:i<M) (hM6:M≤64) (hf:fv F=1)  :
  Calls Tryz.prog 6 #[.pointer (some ⟨nt,0,none⟩),.int .i64 (i:Int),.agg #[.int .i64 k,.int .i64 lg,.int .i64 at_,.slice va n cp]] w fun e w'=>e=.returned (.tuple #[.agg #[.int .i64 0,.int .i64 0,.bool false,.int .i64 0,.int .i64 0,.slice none 0 0],.bool false])∧∃ wv',NSw B N M nt gh P A wv' F.tail l W w'∧NsF B w w':=by
 have lt:∀ {k:Nat} {o:Obj} {ww:World},ww.heap[k]?=some o→k<ww.heap.size:=fun e=>(lO e)
 have HBX:=hide (aAr w (.cells #[.int .i64 k,.int .i64 lg,.int .i64 at_,.slice va n cp] 34) (.cells #[.int .i64 0,.int .i64 0,.bool false,.int .i64 0,.int .i64 0,.slice none 0 0] 30))
 have HR2:Hid (((w.alloc (.cells #[.int .i64 k,.int .i64 lg,.int .i64 at_,.slice va n cp] 34)).alloc (.cells #[.int .i64 0,.int .i64 0,.bool false,.int .i64 0,.int .i64 0,.slice none 0 0] 30)).heap[w.heap.size]?=some (.cells #[.int .i64 k,.int .i64 lg,.int .i64 at_,.slice va n cp] 34 (0,0))):=aAd [Obj.cells #[.int .i64 k,.int .i64 lg,.int .i64 at_,.slice va n cp] 34,Obj.cells #[.int .i64 0,.int .i64 0,.bool false,.int .i64 0,.int .i64 0,.slice none 0 0] 30] w 0 _ rfl
 have HA2:Hid (((w.alloc (.cells #[.int .i64 k,.int .i64 lg,.int .i64 at_,.slice va n cp] 34)).alloc (.cells #[.int .i64 0,.int .i64 0,.bool false,.int .i64 0,.int .i64 0,.slice none 0 0] 30)).heap[w.heap.size+1]?=some (.cells #[.int .i64 0,.int .i64 0,.bool false,.int .i64 0,.int .i64 0,.slice none 0 0] 30 (0,0))):=aAd [Obj.cells #[.int .i64 k,.int .i64 lg,.int .i64 at_,.slice va n cp] 34,Obj.cells #[.int .i64 0,.int .i64 0,.bool false,.int .i64 0,.int .i64 0,.slice none 0 0] 30] w 1 _ rfl
 have HS2:=hide (h.later HBX.out)
 have HBW:=hide h.bw
 have HX:=hide hM
 have hfa:=HS2.out.fate
 rw [hf] at hfa
 have HFT:=hide hfa
 have HNT:Hid (nt<w.heap.size):=by
  obtain ⟨lv,h1,_⟩:=h.n
  exact lt h1
 obtain ⟨lv,hn,_⟩:=HS2.out.n
 have HHS:=hide (aCv hn hM)
 have c0:((w.alloc (.cells #[.int .i64 k,.int .i64 lg,.int .i64 at_,.slice va n cp] 34)).alloc (.cells #[.int .i64 0,.int .i64 0,.bool false,.int .i64 0,.int .i64 0,.slice none 0 0] 30)).cell? ⟨nt,0,none⟩=some (.slice (some ⟨gh,0,none⟩) M M):=aAa hn
 have xx:(i:Int)<(M:Int):=by omega
 have xx0:(0:Int)≤(i:Int):=by omega
 have xx1:¬ (i:Int)<0:=by omega
 clear h hf hfa hn hM
 go_enter Tryz.func6,Tryz.ntmps6
 go_wp2_with fail
 refine HHS.out.mono ?_
 rintro e w2' ⟨rfl,rfl⟩
 generalize ((w.alloc (.cells #[.int .i64 k,.int .i64 lg,.int .i64 at_,.slice va n cp] 34)).alloc (.cells #[.int .i64 0,.int .i64 0,.bool false,.int .i64 0,.int .i64 0,.slice none 0 0] 30))=w2 at *
 generalize hn0:w.heap.size=n0 at *
 generalize hn1:n0+1=n1 at *
 have HN1:Hid (n0<n1):=by show n0<n1;omega
 go_wp2_with fail
 refine HFT.out.mono ?_
 rintro e w3 ⟨rfl,wv',h3,hf3,hk3⟩
 have HR3:Hid (w3.heap[n0]?=_):=(hk3 n0 (by have:=HNT.out;omega)).trans HR2.out
 have HA3:Hid (w3.heap[n1]?=_):=(hk3 n1 (by have:=HNT.out;have:=HN1.out;omega)).trans HA2.out
 have HS3:=hide h3
 have HF3:Hid (NsF B w w3):=(NsF.of (w':=w2) (by rw [hn0];exact HBX.out) (by rw [hn0];exact HBW.out)).trans hf3
 have HBC:Hid (B≤n1):=by show B≤n1;have:=HBW.out;have:=HN1.out;omega
 have HNW:Hid (n0≤n1):=by show n0≤n1;have:=HN1.out;omega
 clear h3 hf3 hk3 HFT HHS c0
 have z0:w3.cell? ⟨n1,0,none⟩=some (.int .i64 0):=aAa HA3.out
 have zf0:w3.frozen? ⟨n1,0,none⟩=false:=aAb HA3.out
 have z1:w3.cell? ⟨n1,1,none⟩=some (.int .i64 0):=aAa HA3.out
 have zf1:w3.frozen? ⟨n1,1,none⟩=false:=aAb HA3.out
 have z2:w3.cell? ⟨n1,2,none⟩=some (.bool false):=aAa HA3.out
 have zf2:w3.frozen? ⟨n1,2,none⟩=false:=aAb HA3.out
 have z3:w3.cell? ⟨n1,3,none⟩=some (.int .i64 0):=aAa HA3.out
 have zf3:w3.frozen? ⟨n1,3,none⟩=false:=aAb HA3.out
 have z4:w3.cell? ⟨n1,4,none⟩=some (.int .i64 0):=aAa HA3.out
 have zf4:w3.frozen? ⟨n1,4,none⟩=false:=aAb HA3.out
 have z5:w3.cell? ⟨n1,5,none⟩=some (.slice none 0 0):=aAa HA3.out
 have zf5:w3.frozen? ⟨n1,5,none⟩=false:=aAb HA3.out
 go_wp2
 (try simp only [Exit.inBlock,Exit.then])
 refine bodyPost_ret (aA7 rfl _ _ n1 _ rfl (set6 HA3.out) rfl) rfl ?_
 exact ⟨rfl,wv',HS3.out.wr6 HA3.out HBC.out,HF3.out.wr6 (by rw [hn0];exact HNW.out) HBC.out⟩
theorem NSw.call2 {B N M nt gh i n cp:Nat} {P:Nat→NdP} {A:Nat→NdS} {wv:Value} {F:List Int} {l:List LR} {W w:World} {k lg at_:Int} {va:Option Addr} {vn1:Nat} {e1 tl1 tr1 bl1:Int} {sl1:Bool} {val1:List Nat} {x:NdS} (h:NSw B N M nt gh P A wv F l W w) (hM:i<M) (hM6:M≤64) (hf:fv F=2) (he1:¬ e1=20) (hdo:∀ ww,FT B w ww→DoT B N (P i) W k lg at_ va n cp (A i) x e1 tl1 sl1 tr1 bl1 vn1 val1 ww) :
  Calls Tryz.prog 6 #[.pointer (some ⟨nt,0,none⟩),.int .i64 (i:Int),.agg #[.int .i64 k,.int .i64 lg,.int .i64 at_,.slice va n cp]] w fun e w'=>e=.returned (.tuple #[.agg #[.int .i64 0,.int .i64 0,.bool false,.int .i64 0,.int .i64 0,.slice none 0 0],.bool false])∧∃ wv',NSw B N M nt gh P (upS A i x) wv' F.tail l W w'∧NsF B w w':=by
 have lt:∀ {k:Nat} {o:Obj} {ww:World},ww.heap[k]?=some o→k<ww.heap.size:=fun e=>(lO e)
 have HBX:=hide (aAr w (.cells #[.int .i64 k,.int .i64 lg,.int .i64 at_,.slice va n cp] 34) (.cells #[.int .i64 0,.int .i64 0,.bool false,.int .i64 0,.int .i64 0,.slice none 0 0] 30))
 have HR2:Hid (((w.alloc (.cells #[.int .i64 k,.int .i64 lg,.int .i64 at_,.slice va n cp] 34)).alloc (.cells #[.int .i64 0,.int .i64 0,.bool false,.int .i64 0,.int .i64 0,.slice none 0 0] 30)).heap[w.heap.size]?=some (.cells #[.int .i64 k,.int .i64 lg,.int .i64 at_,.slice va n cp] 34 (0,0))):=aAd [Obj.cells #[.int .i64 k,.int .i64 lg,.int .i64 at_,.slice va n cp] 34,Obj.cells #[.int .i64 0,.int .i64 0,.bool false,.int .i64 0,.int .i64 0,.slice none 0 0] 30] w 0 _ rfl
 have HA2:Hid (((w.alloc (.cells #[.int .i64 k,.int .i64 lg,.int .i64 at_,.slice va n cp] 34)).alloc (.cells #[.int .i64 0,.int .i64 0,.bool false,.int .i64 0,.int .i64 0,.slice none 0 0] 30)).heap[w.heap.size+1]?=some (.cells #[.int .i64 0,.int .i64 0,.bool false,.int .i64 0,.int .i64 0,.slice none 0 0] 30 (0,0))):=aAd [Obj.cells #[.int .i64 k,.int .i64 lg,.int .i64 at_,.slice va n cp] 34,Obj.cells #[.int .i64 0,.int .i64 0,.bool false,.int .i64 0,.int .i64 0,.slice none 0 0] 30] w 1 _ rfl
 have HS2:=hide (h.later HBX.out)
 have HBW:=hide h.bw
 have HX:=hide hM
 have hfa:=HS2.out.fate
 rw [hf] at hfa
 have HFT:=hide hfa
 have HNT:Hid (nt<w.heap.size):=by
  obtain ⟨lv,h1,_⟩:=h.n
  exact lt h1
 obtain ⟨lv,hn,_⟩:=HS2.out.n
 have HHS:=hide (aCv hn hM)
 have c0:((w.alloc (.cells #[.int .i64 k,.int .i64 lg,.int .i64 at_,.slice va n cp] 34)).alloc (.cells #[.int .i64 0,.int .i64 0,.bool false,.int .i64 0,.int .i64 0,.slice none 0 0] 30)).cell? ⟨nt,0,none⟩=some (.slice (some ⟨gh,0,none⟩) M M):=aAa hn
 have xx:(i:Int)<(M:Int):=by omega
 have xx0:(0:Int)≤(i:Int):=by omega
 have xx1:¬ (i:Int)<0:=by omega
 have HE1:=hide he1
 have HDO:=hide hdo
 clear he1 hdo
 clear h hf hfa hn hM
 go_enter Tryz.func6,Tryz.ntmps6
 go_wp2_with fail
 refine HHS.out.mono ?_
 rintro e w2' ⟨rfl,rfl⟩
 generalize ((w.alloc (.cells #[.int .i64 k,.int .i64 lg,.int .i64 at_,.slice va n cp] 34)).alloc (.cells #[.int .i64 0,.int .i64 0,.bool false,.int .i64 0,.int .i64 0,.slice none 0 0] 30))=w2 at *
 generalize hn0:w.heap.size=n0 at *
 generalize hn1:n0+1=n1 at *
 have HN1:Hid (n0<n1):=by show n0<n1;omega
 go_wp2_with fail
 refine HFT.out.mono ?_
 rintro e w3 ⟨rfl,wv',h3,hf3,hk3⟩
 have HR3:Hid (w3.heap[n0]?=_):=(hk3 n0 (by have:=HNT.out;omega)).trans HR2.out
 have HA3:Hid (w3.heap[n1]?=_):=(hk3 n1 (by have:=HNT.out;have:=HN1.out;omega)).trans HA2.out
 have HS3:=hide h3
 have HF3:Hid (NsF B w w3):=(NsF.of (w':=w2) (by rw [hn0];exact HBX.out) (by rw [hn0];exact HBW.out)).trans hf3
 have HBC:Hid (B≤n1):=by show B≤n1;have:=HBW.out;have:=HN1.out;omega
 have HNW:Hid (n0≤n1):=by show n0≤n1;have:=HN1.out;omega
 clear h3 hf3 hk3 HFT HHS c0
 have HD4:=hide (by
  obtain ⟨hc,g1,g2⟩:=HS3.out.h
  exact aCu (w:=w3) HS3.out.m HS3.out.bw HX.out g1 (g2 i HX.out) HE1.out (fun k hk=>(HS3.out.m.El k hk).lt) (fun ww hw=>HDO.out ww (HF3.out.trans (NsF.of hw HS3.out.bw)).ft))
 have r40:w3.cell? ⟨n0,0,none⟩=some (.int .i64 k):=aAa HR3.out
 have r41:w3.cell? ⟨n0,1,none⟩=some (.int .i64 lg):=aAa HR3.out
 have r42:w3.cell? ⟨n0,2,none⟩=some (.int .i64 at_):=aAa HR3.out
 have r43:w3.cell? ⟨n0,3,none⟩=some (.slice va n cp):=aAa HR3.out
 go_wp2_with fail
 refine HD4.out.mono ?_
 rintro e w4 ⟨⟨sa1,sc1,rfl,hk4⟩,hM4,hN4,hb4,hE4⟩
 have HS4:=hide (HS3.out.did hM4 hN4 hb4 hE4)
 have HF4:=hide (HF3.out.trans (NsF.nd hN4 hb4))
 have HR4:Hid (w4.heap[n0]?=_):=hN4 n0 _ _ _ HR3.out (by decide) (by decide) (by decide) (by decide)
 have HA4:Hid (w4.heap[n1]?=_):=hN4 n1 _ _ _ HA3.out (by decide) (by decide) (by decide) (by decide)
 have HK4:=hide hk4
 clear hk4 hM4 hN4 hb4 hE4 HD4 r40 r41 r42 r43
 have z0:w4.cell? ⟨n1,0,none⟩=some (.int .i64 0):=aAa HA4.out
 have zf0:w4.frozen? ⟨n1,0,none⟩=false:=aAb HA4.out
 have z1:w4.cell? ⟨n1,1,none⟩=some (.int .i64 0):=aAa HA4.out
 have zf1:w4.frozen? ⟨n1,1,none⟩=false:=aAb HA4.out
 have z2:w4.cell? ⟨n1,2,none⟩=some (.bool false):=aAa HA4.out
 have zf2:w4.frozen? ⟨n1,2,none⟩=false:=aAb HA4.out
 have z3:w4.cell? ⟨n1,3,none⟩=some (.int .i64 0):=aAa HA4.out
 have zf3:w4.frozen? ⟨n1,3,none⟩=false:=aAb HA4.out
 have z4:w4.cell? ⟨n1,4,none⟩=some (.int .i64 0):=aAa HA4.out
 have zf4:w4.frozen? ⟨n1,4,none⟩=false:=aAb HA4.out
 have z5:w4.cell? ⟨n1,5,none⟩=some (.slice none 0 0):=aAa HA4.out
 have zf5:w4.frozen? ⟨n1,5,none⟩=false:=aAb HA4.out
 go_wp2
 (try simp only [Exit.inBlock,Exit.then])
 refine bodyPost_ret (aA7 rfl _ _ n1 _ rfl (set6 HA4.out) rfl) rfl ?_
 exact ⟨rfl,wv',HS4.out.wr6 HA4.out HBC.out,HF4.out.wr6 (by rw [hn0];exact HNW.out) HBC.out⟩
theorem NSw.call4 {B N M nt gh i n cp:Nat} {P:Nat→NdP} {A:Nat→NdS} {wv:Value} {F:List Int} {l:List LR} {W w:World} {k lg at_:Int} {va:Option Addr} {vn1:Nat} {e1 tl1 tr1 bl1:Int} {sl1:Bool} {val1:List Nat} {x:NdS} {vn2:Nat} {e2 tl2 tr2 bl2:Int} {sl2:Bool} {val2:List Nat} {y:NdS} (h:NSw B N M nt gh P A wv F l W w) (hM:i<M) (hM6:M≤64) (hf:fv F=4) (he1:¬ e1=20) (hdo:∀ ww,FT B w ww→DoT B N (P i) W k lg at_ va n cp (A i) x e1 tl1 sl1 tr1 bl1 vn1 val1 ww) (he2:¬ e2=20) (hdo2:∀ ww,FT B w ww→DoT B N (P i) W k lg at_ va n cp x y e2 tl2 sl2 tr2 bl2 vn2 val2 ww) :
  Calls Tryz.prog 6 #[.pointer (some ⟨nt,0,none⟩),.int .i64 (i:Int),.agg #[.int .i64 k,.int .i64 lg,.int .i64 at_,.slice va n cp]] w fun e w'=>(∃ sa2 sc2,e=.returned (.tuple #[.agg #[.int .i64 e2,.int .i64 tl2,.bool sl2,.int .i64 tr2,.int .i64 bl2,.slice sa2 vn2 sc2],.bool true])∧BK B w' sa2 vn2 sc2 val2)∧∃ wv',NSw B N M nt gh P (upS (upS A i x) i y) wv' F.tail l W w'∧NsF B w w':=by
 have lt:∀ {k:Nat} {o:Obj} {ww:World},ww.heap[k]?=some o→k<ww.heap.size:=fun e=>(lO e)
 have HBX:=hide (aAr w (.cells #[.int .i64 k,.int .i64 lg,.int .i64 at_,.slice va n cp] 34) (.cells #[.int .i64 0,.int .i64 0,.bool false,.int .i64 0,.int .i64 0,.slice none 0 0] 30))
 have HR2:Hid (((w.alloc (.cells #[.int .i64 k,.int .i64 lg,.int .i64 at_,.slice va n cp] 34)).alloc (.cells #[.int .i64 0,.int .i64 0,.bool false,.int .i64 0,.int .i64 0,.slice none 0 0] 30)).heap[w.heap.size]?=some (.cells #[.int .i64 k,.int .i64 lg,.int .i64 at_,.slice va n cp] 34 (0,0))):=aAd [Obj.cells #[.int .i64 k,.int .i64 lg,.int .i64 at_,.slice va n cp] 34,Obj.cells #[.int .i64 0,.int .i64 0,.bool false,.int .i64 0,.int .i64 0,.slice none 0 0] 30] w 0 _ rfl
 have HA2:Hid (((w.alloc (.cells #[.int .i64 k,.int .i64 lg,.int .i64 at_,.slice va n cp] 34)).alloc (.cells #[.int .i64 0,.int .i64 0,.bool false,.int .i64 0,.int .i64 0,.slice none 0 0] 30)).heap[w.heap.size+1]?=some (.cells #[.int .i64 0,.int .i64 0,.bool false,.int .i64 0,.int .i64 0,.slice none 0 0] 30 (0,0))):=aAd [Obj.cells #[.int .i64 k,.int .i64 lg,.int .i64 at_,.slice va n cp] 34,Obj.cells #[.int .i64 0,.int .i64 0,.bool false,.int .i64 0,.int .i64 0,.slice none 0 0] 30] w 1 _ rfl
 have HS2:=hide (h.later HBX.out)
 have HBW:=hide h.bw
 have HX:=hide hM
 have hfa:=HS2.out.fate
 rw [hf] at hfa
 have HFT:=hide hfa
 have HNT:Hid (nt<w.heap.size):=by
  obtain ⟨lv,h1,_⟩:=h.n
  exact lt h1
 obtain ⟨lv,hn,_⟩:=HS2.out.n
 have HHS:=hide (aCv hn hM)
 have c0:((w.alloc (.cells #[.int .i64 k,.int .i64 lg,.int .i64 at_,.slice va n cp] 34)).alloc (.cells #[.int .i64 0,.int .i64 0,.bool false,.int .i64 0,.int .i64 0,.slice none 0 0] 30)).cell? ⟨nt,0,none⟩=some (.slice (some ⟨gh,0,none⟩) M M):=aAa hn
 have xx:(i:Int)<(M:Int):=by omega
 have xx0:(0:Int)≤(i:Int):=by omega
 have xx1:¬ (i:Int)<0:=by omega
 have HE1:=hide he1
 have HDO:=hide hdo
 clear he1 hdo
 have HE2:=hide he2
 have HD2O:=hide (fun ww hw=>by
  have h9:=hdo2 ww hw
  rw [←aBp A i x] at h9
  exact h9)
 clear he2 hdo2
 clear h hf hfa hn hM
 go_enter Tryz.func6,Tryz.ntmps6
 go_wp2_with fail
 refine HHS.out.mono ?_
 rintro e w2' ⟨rfl,rfl⟩
 generalize ((w.alloc (.cells #[.int .i64 k,.int .i64 lg,.int .i64 at_,.slice va n cp] 34)).alloc (.cells #[.int .i64 0,.int .i64 0,.bool false,.int .i64 0,.int .i64 0,.slice none 0 0] 30))=w2 at *
 generalize hn0:w.heap.size=n0 at *
 generalize hn1:n0+1=n1 at *
 have HN1:Hid (n0<n1):=by show n0<n1;omega
 go_wp2_with fail
 refine HFT.out.mono ?_
 rintro e w3 ⟨rfl,wv',h3,hf3,hk3⟩
 have HR3:Hid (w3.heap[n0]?=_):=(hk3 n0 (by have:=HNT.out;omega)).trans HR2.out
 have HA3:Hid (w3.heap[n1]?=_):=(hk3 n1 (by have:=HNT.out;have:=HN1.out;omega)).trans HA2.out
 have HS3:=hide h3
 have HF3:Hid (NsF B w w3):=(NsF.of (w':=w2) (by rw [hn0];exact HBX.out) (by rw [hn0];exact HBW.out)).trans hf3
 have HBC:Hid (B≤n1):=by show B≤n1;have:=HBW.out;have:=HN1.out;omega
 have HNW:Hid (n0≤n1):=by show n0≤n1;have:=HN1.out;omega
 clear h3 hf3 hk3 HFT HHS c0
 have HD4:=hide (by
  obtain ⟨hc,g1,g2⟩:=HS3.out.h
  exact aCu (w:=w3) HS3.out.m HS3.out.bw HX.out g1 (g2 i HX.out) HE1.out (fun k hk=>(HS3.out.m.El k hk).lt) (fun ww hw=>HDO.out ww (HF3.out.trans (NsF.of hw HS3.out.bw)).ft))
 have r40:w3.cell? ⟨n0,0,none⟩=some (.int .i64 k):=aAa HR3.out
 have r41:w3.cell? ⟨n0,1,none⟩=some (.int .i64 lg):=aAa HR3.out
 have r42:w3.cell? ⟨n0,2,none⟩=some (.int .i64 at_):=aAa HR3.out
 have r43:w3.cell? ⟨n0,3,none⟩=some (.slice va n cp):=aAa HR3.out
 go_wp2_with fail
 refine HD4.out.mono ?_
 rintro e w4 ⟨⟨sa1,sc1,rfl,hk4⟩,hM4,hN4,hb4,hE4⟩
 have HS4:=hide (HS3.out.did hM4 hN4 hb4 hE4)
 have HF4:=hide (HF3.out.trans (NsF.nd hN4 hb4))
 have HR4:Hid (w4.heap[n0]?=_):=hN4 n0 _ _ _ HR3.out (by decide) (by decide) (by decide) (by decide)
 have HA4:Hid (w4.heap[n1]?=_):=hN4 n1 _ _ _ HA3.out (by decide) (by decide) (by decide) (by decide)
 have HK4:=hide hk4
 clear hk4 hM4 hN4 hb4 hE4 HD4 r40 r41 r42 r43
 have HD5:=hide (by
  obtain ⟨hc,g1,g2⟩:=HS4.out.h
  exact aCu (w:=w4) HS4.out.m HS4.out.bw HX.out g1 (g2 i HX.out) HE2.out (fun k hk=>(HS4.out.m.El k hk).lt) (fun ww hw=>HD2O.out ww (HF4.out.trans (NsF.of hw HS4.out.bw)).ft))
 have r50:w4.cell? ⟨n0,0,none⟩=some (.int .i64 k):=aAa HR4.out
 have r51:w4.cell? ⟨n0,1,none⟩=some (.int .i64 lg):=aAa HR4.out
 have r52:w4.cell? ⟨n0,2,none⟩=some (.int .i64 at_):=aAa HR4.out
 have r53:w4.cell? ⟨n0,3,none⟩=some (.slice va n cp):=aAa HR4.out
 go_wp2_with fail
 refine HD5.out.mono ?_
 rintro e w5 ⟨⟨sa2,sc2,rfl,hk5⟩,hM5,hN5,hb5,hE5⟩
 have HS5:=hide (HS4.out.did hM5 hN5 hb5 hE5)
 have HF5:=hide (HF4.out.trans (NsF.nd hN5 hb5))
 have HR5:Hid (w5.heap[n0]?=_):=hN5 n0 _ _ _ HR4.out (by decide) (by decide) (by decide) (by decide)
 have HA5:Hid (w5.heap[n1]?=_):=hN5 n1 _ _ _ HA4.out (by decide) (by decide) (by decide) (by decide)
 have HK5:=hide hk5
 clear hk5 hM5 hN5 hb5 hE5 HD5 r50 r51 r52 r53
 have z0:w5.cell? ⟨n1,0,none⟩=some (.int .i64 0):=aAa HA5.out
 have zf0:w5.frozen? ⟨n1,0,none⟩=false:=aAb HA5.out
 have z1:w5.cell? ⟨n1,1,none⟩=some (.int .i64 0):=aAa HA5.out
 have zf1:w5.frozen? ⟨n1,1,none⟩=false:=aAb HA5.out
 have z2:w5.cell? ⟨n1,2,none⟩=some (.bool false):=aAa HA5.out
 have zf2:w5.frozen? ⟨n1,2,none⟩=false:=aAb HA5.out
 have z3:w5.cell? ⟨n1,3,none⟩=some (.int .i64 0):=aAa HA5.out
 have zf3:w5.frozen? ⟨n1,3,none⟩=false:=aAb HA5.out
 have z4:w5.cell? ⟨n1,4,none⟩=some (.int .i64 0):=aAa HA5.out
 have zf4:w5.frozen? ⟨n1,4,none⟩=false:=aAb HA5.out
 have z5:w5.cell? ⟨n1,5,none⟩=some (.slice none 0 0):=aAa HA5.out
 have zf5:w5.frozen? ⟨n1,5,none⟩=false:=aAb HA5.out
 go_wp2
 (try simp only [Exit.inBlock,Exit.then])
 refine bodyPost_ret (aA7 rfl _ _ n1 _ rfl (set6 HA5.out) rfl) rfl ?_
 exact ⟨⟨sa2,sc2,rfl,HK5.out.ft (ft6 HA5.out (by decide) HBC.out)⟩,wv',HS5.out.wr6 HA5.out HBC.out,HF5.out.wr6 (by rw [hn0];exact HNW.out) HBC.out⟩
theorem NSw.call3 {B N M nt gh i n cp:Nat} {P:Nat→NdP} {A:Nat→NdS} {wv:Value} {F:List Int} {l:List LR} {W w:World} {k lg at_:Int} {va:Option Addr} {val:List Nat} (h:NSw B N M nt gh P A wv F l W w) (hM:i<M) (hM6:M≤64) (hf:fv F=3) (hl6:l.length<64) (hv:∀ ww,FT B w ww→BS ww va n cp val) (hn1:n≤100000) :
  Calls Tryz.prog 6 #[.pointer (some ⟨nt,0,none⟩),.int .i64 (i:Int),.agg #[.int .i64 k,.int .i64 lg,.int .i64 at_,.slice va n cp]] w fun e w'=>e=.returned (.tuple #[.agg #[.int .i64 0,.int .i64 0,.bool false,.int .i64 0,.int .i64 0,.slice none 0 0],.bool false])∧∃ wv',NSw B N M nt gh P A wv' F.tail (l++[⟨i,k,lg,at_,val⟩]) W w'∧NsF B w w':=by
 have lt:∀ {k:Nat} {o:Obj} {ww:World},ww.heap[k]?=some o→k<ww.heap.size:=fun e=>(lO e)
 have HBX:=hide (aAr w (.cells #[.int .i64 k,.int .i64 lg,.int .i64 at_,.slice va n cp] 34) (.cells #[.int .i64 0,.int .i64 0,.bool false,.int .i64 0,.int .i64 0,.slice none 0 0] 30))
 have HR2:Hid (((w.alloc (.cells #[.int .i64 k,.int .i64 lg,.int .i64 at_,.slice va n cp] 34)).alloc (.cells #[.int .i64 0,.int .i64 0,.bool false,.int .i64 0,.int .i64 0,.slice none 0 0] 30)).heap[w.heap.size]?=some (.cells #[.int .i64 k,.int .i64 lg,.int .i64 at_,.slice va n cp] 34 (0,0))):=aAd [Obj.cells #[.int .i64 k,.int .i64 lg,.int .i64 at_,.slice va n cp] 34,Obj.cells #[.int .i64 0,.int .i64 0,.bool false,.int .i64 0,.int .i64 0,.slice none 0 0] 30] w 0 _ rfl
 have HA2:Hid (((w.alloc (.cells #[.int .i64 k,.int .i64 lg,.int .i64 at_,.slice va n cp] 34)).alloc (.cells #[.int .i64 0,.int .i64 0,.bool false,.int .i64 0,.int .i64 0,.slice none 0 0] 30)).heap[w.heap.size+1]?=some (.cells #[.int .i64 0,.int .i64 0,.bool false,.int .i64 0,.int .i64 0,.slice none 0 0] 30 (0,0))):=aAd [Obj.cells #[.int .i64 k,.int .i64 lg,.int .i64 at_,.slice va n cp] 34,Obj.cells #[.int .i64 0,.int .i64 0,.bool false,.int .i64 0,.int .i64 0,.slice none 0 0] 30] w 1 _ rfl
 have HS2:=hide (h.later HBX.out)
 have HBW:=hide h.bw
 have HX:=hide hM
 have hfa:=HS2.out.fate
 rw [hf] at hfa
 have HFT:=hide hfa
 have HNT:Hid (nt<w.heap.size):=by
  obtain ⟨lv,h1,_⟩:=h.n
  exact lt h1
 obtain ⟨lv,hn,_⟩:=HS2.out.n
 have HHS:=hide (aCv hn hM)
 have c0:((w.alloc (.cells #[.int .i64 k,.int .i64 lg,.int .i64 at_,.slice va n cp] 34)).alloc (.cells #[.int .i64 0,.int .i64 0,.bool false,.int .i64 0,.int .i64 0,.slice none 0 0] 30)).cell? ⟨nt,0,none⟩=some (.slice (some ⟨gh,0,none⟩) M M):=aAa hn
 have xx:(i:Int)<(M:Int):=by omega
 have xx0:(0:Int)≤(i:Int):=by omega
 have xx1:¬ (i:Int)<0:=by omega
 have HL6:=hide hl6
 have HV:=hide hv
 have HNN:=hide hn1
 clear hl6 hv hn1
 clear h hf hfa hn hM
 go_enter Tryz.func6,Tryz.ntmps6
 go_wp2_with fail
 refine HHS.out.mono ?_
 rintro e w2' ⟨rfl,rfl⟩
 generalize ((w.alloc (.cells #[.int .i64 k,.int .i64 lg,.int .i64 at_,.slice va n cp] 34)).alloc (.cells #[.int .i64 0,.int .i64 0,.bool false,.int .i64 0,.int .i64 0,.slice none 0 0] 30))=w2 at *
 generalize hn0:w.heap.size=n0 at *
 generalize hn1:n0+1=n1 at *
 have HN1:Hid (n0<n1):=by show n0<n1;omega
 go_wp2_with fail
 refine HFT.out.mono ?_
 rintro e w3 ⟨rfl,wv',h3,hf3,hk3⟩
 have HR3:Hid (w3.heap[n0]?=_):=(hk3 n0 (by have:=HNT.out;omega)).trans HR2.out
 have HA3:Hid (w3.heap[n1]?=_):=(hk3 n1 (by have:=HNT.out;have:=HN1.out;omega)).trans HA2.out
 have HS3:=hide h3
 have HF3:Hid (NsF B w w3):=(NsF.of (w':=w2) (by rw [hn0];exact HBX.out) (by rw [hn0];exact HBW.out)).trans hf3
 have HBC:Hid (B≤n1):=by show B≤n1;have:=HBW.out;have:=HN1.out;omega
 have HNW:Hid (n0≤n1):=by show n0≤n1;have:=HN1.out;omega
 clear h3 hf3 hk3 HFT HHS c0
 have HDL:=hide (HS3.out.delay (td:=i) (k:=k) (lg:=lg) (at_:=at_) HL6.out (HV.out w3 HF3.out.ft) HNN.out)
 have r0:w3.cell? ⟨n0,0,none⟩=some (.int .i64 k):=aAa HR3.out
 have r1:w3.cell? ⟨n0,1,none⟩=some (.int .i64 lg):=aAa HR3.out
 have r2:w3.cell? ⟨n0,2,none⟩=some (.int .i64 at_):=aAa HR3.out
 have r3:w3.cell? ⟨n0,3,none⟩=some (.slice va n cp):=aAa HR3.out
 go_wp2_with fail
 refine HDL.out.mono ?_
 rintro e w4 ⟨rfl,h4,hf4⟩
 have HS4:=hide h4
 have HF4:=hide (HF3.out.trans hf4)
 have HA4:Hid (w4.heap[n1]?=_):=hf4.2 n1 _ _ _ HA3.out (by decide) (by decide) (by decide) (by decide) (by decide)
 clear h4 hf4 HDL r0 r1 r2 r3
 have z0:w4.cell? ⟨n1,0,none⟩=some (.int .i64 0):=aAa HA4.out
 have zf0:w4.frozen? ⟨n1,0,none⟩=false:=aAb HA4.out
 have z1:w4.cell? ⟨n1,1,none⟩=some (.int .i64 0):=aAa HA4.out
 have zf1:w4.frozen? ⟨n1,1,none⟩=false:=aAb HA4.out
 have z2:w4.cell? ⟨n1,2,none⟩=some (.bool false):=aAa HA4.out
 have zf2:w4.frozen? ⟨n1,2,none⟩=false:=aAb HA4.out
 have z3:w4.cell? ⟨n1,3,none⟩=some (.int .i64 0):=aAa HA4.out
 have zf3:w4.frozen? ⟨n1,3,none⟩=false:=aAb HA4.out
 have z4:w4.cell? ⟨n1,4,none⟩=some (.int .i64 0):=aAa HA4.out
 have zf4:w4.frozen? ⟨n1,4,none⟩=false:=aAb HA4.out
 have z5:w4.cell? ⟨n1,5,none⟩=some (.slice none 0 0):=aAa HA4.out
 have zf5:w4.frozen? ⟨n1,5,none⟩=false:=aAb HA4.out
 go_wp2
 (try simp only [Exit.inBlock,Exit.then])
 refine bodyPost_ret (aA7 rfl _ _ n1 _ rfl (set6 HA4.out) rfl) rfl ?_
 exact ⟨rfl,wv',HS4.out.wr6 HA4.out HBC.out,HF4.out.wr6 (by rw [hn0];exact HNW.out) HBC.out⟩
theorem info_late5:(Tryz.prog.info? 40).map (·.size)=some 5:=by kernel_rfl
theorem results_late {fn:Func} {p u:Tmp} (h:fn.results=#[.cell p 40,.tmp u]) (tmps:Array Value) (w:World) (g:Nat) (cs:Array Value)
  (hp:tmps.getD p undef=.pointer (some ⟨g,0,none⟩)) (hg:w.heap[g]?=some (.cells cs 40 (0,0))) (hz:cs.size=5) :
  (results fn tmps).run Tryz.prog w=.ok (.tuple #[.agg cs,tmps.getD u undef]) w:=by
 have hi:(Tryz.prog.info? 40).map (·.size)=some cs.size:=by rw [hz];exact info_late5
 rw [results_cell_tmp h,hp]
 simp only [asAddr,Sem.run_pure,Result.andThen_ok,run_loadVar_row w g 40 40 cs (0,0) _ hg Tryz.underlying40 rfl hi]
theorem set5 {w:World} {g:Nat} {a0 a1 a2 a3 a4 b0 b1 b2 b3 b4:Value} {t:TypeId} (h:w.heap[g]?=some (.cells #[a0,a1,a2,a3,a4] t (0,0))):(((((w.setCell ⟨g,0,none⟩ b0).setCell ⟨g,1,none⟩ b1).setCell ⟨g,2,none⟩ b2).setCell ⟨g,3,none⟩ b3).setCell ⟨g,4,none⟩ b4).heap[g]?=some (.cells #[b0,b1,b2,b3,b4] t (0,0)):=(heap_setCell_same _ _ _ _ _ _ (heap_setCell_same _ _ _ _ _ _ (heap_setCell_same _ _ _ _ _ _ (heap_setCell_same _ _ _ _ _ _ (heap_setCell_same _ _ _ _ _ _ h)))))
theorem oth5 {w:World} {g k:Nat} {b0 b1 b2 b3 b4:Value} (hne:k≠g):(((((w.setCell ⟨g,0,none⟩ b0).setCell ⟨g,1,none⟩ b1).setCell ⟨g,2,none⟩ b2).setCell ⟨g,3,none⟩ b3).setCell ⟨g,4,none⟩ b4).heap[k]?=w.heap[k]?:=by
 rw [heap_setCell_other _ _ _ _ hne,heap_setCell_other _ _ _ _ hne,heap_setCell_other _ _ _ _ hne,heap_setCell_other _ _ _ _ hne,heap_setCell_other _ _ _ _ hne]
theorem bel5 {w0 w:World} {B g:Nat} {b0 b1 b2 b3 b4:Value} (hb:Below B w0 w) (hg:B≤g):Below B w0 (((((w.setCell ⟨g,0,none⟩ b0).setCell ⟨g,1,none⟩ b1).setCell ⟨g,2,none⟩ b2).setCell ⟨g,3,none⟩ b3).setCell ⟨g,4,none⟩ b4):=((((hb.setCell (p:=⟨g,0,none⟩) hg _).setCell (p:=⟨g,1,none⟩) hg _).setCell (p:=⟨g,2,none⟩) hg _).setCell (p:=⟨g,3,none⟩) hg _).setCell (p:=⟨g,4,none⟩) hg _
theorem lrF_one:∀ (l:List LR) (vs:List Value),(∀ (i:Nat) x v,l[i]?=some x→vs[i]?=some v→v.oneCell'=true)→∀ u∈lrF l vs,u.oneCell'=true
 | [],_,_,u,hu=>by simp [lrF] at hu
 | _::_,[],_,u,hu=>by simp [lrF] at hu
 | x::l,v::vs,h,u,hu=>by
  have hu':u∈lrC x v++lrF l vs:=hu
  rcases List.mem_append.1 hu' with h1 | h1
  ·simp only [lrC,List.mem_cons,List.not_mem_nil,or_false] at h1
   rcases h1 with rfl | rfl | rfl | rfl | rfl
   ·rfl
   ·rfl
   ·rfl
   ·rfl
   ·exact h 0 x u rfl rfl
  ·exact lrF_one l vs (fun i y z e1 e2=>h (i+1) y z e1 e2) u h1
theorem ntake_ok {B nt gh M i:Nat} {wv lv:Value} {l:List LR} {x:LR} {w:World} (h:NTM w nt gh M wv lv) (hB:B≤nt) (hBw:B≤w.heap.size) (hl:LTV B w lv l) (hl6:l.length≤64) (hx:l[i]?=some x) :
  Calls Tryz.prog 19 #[.pointer (some ⟨nt,0,none⟩),.int .i64 (i:Int)] w fun e w'=>∃ a c lv',e=.returned (.tuple #[.agg #[.int .i64 (x.nd:Int),.int .i64 x.k,.int .i64 x.lg,.int .i64 x.at_,.slice a x.val.length c],.int .i64 0])∧BK B w' a x.val.length c x.val∧NTM w' nt gh M wv lv'∧LTV B w' lv' (l.eraseIdx i)∧Below B w w'∧∀ k,k<w.heap.size→k≠nt→lv.ownBlock≠some k→w'.heap[k]?=w.heap[k]?:=by
 have lt:∀ {k:Nat} {o:Obj} {ww:World},ww.heap[k]?=some o→k<ww.heap.size:=fun e=>(lO e)
 have hil:i<l.length:=(lL hx)
 obtain ⟨vs,q1,q2,q3⟩:=hl
 obtain ⟨v,hv⟩:∃ v,vs[i]?=some v:=⟨_,gE (by omega)⟩
 obtain ⟨a,c,rfl,hbk⟩:=q3 i x v hx hv
 rcases q2.2 with ⟨_,e0⟩ | ⟨g,C,cur,rfl,hgB,hg,hnc,hcm,hcs,ht⟩
 ·omega
 have hcell:∀ j u,j<5→(lrC x (.slice a x.val.length c))[j]?=some u→cur[i*5+j]?=some u:=fun j u hj hu=>by
  have h9:=lrF_get q1 hx hv j hj
  rw [hu,←ht,List.getElem?_take_of_lt (by omega)] at h9
  simpa using h9
 have hne:nt≠g:=by
  intro e
  subst e
  have h9:w.heap[nt]?=_:=h
  rw [h9] at hg
  simp only [oI,cI] at hg
  exact absurd hg.2.1 (by decide)
 have HBX:=hide (aAc w (.cells #[.int .i64 0,.int .i64 0,.int .i64 0,.int .i64 0,.slice none 0 0] 40))
 have HBY:=hide (aAc (w.alloc (.cells #[.int .i64 0,.int .i64 0,.int .i64 0,.int .i64 0,.slice none 0 0] 40)) (.cells #[.int .i64 (x.nd:Int),.int .i64 x.k,.int .i64 x.lg,.int .i64 x.at_,.slice a x.val.length c] 40))
 have HZ1:=hide (heap_alloc_new w (.cells #[.int .i64 0,.int .i64 0,.int .i64 0,.int .i64 0,.slice none 0 0] 40))
 have HX2:Hid (((w.alloc (.cells #[.int .i64 0,.int .i64 0,.int .i64 0,.int .i64 0,.slice none 0 0] 40)).alloc (.cells #[.int .i64 (x.nd:Int),.int .i64 x.k,.int .i64 x.lg,.int .i64 x.at_,.slice a x.val.length c] 40)).heap[w.heap.size+1]?=some (.cells #[.int .i64 (x.nd:Int),.int .i64 x.k,.int .i64 x.lg,.int .i64 x.at_,.slice a x.val.length c] 40 (0,0))):=aAd [Obj.cells #[.int .i64 0,.int .i64 0,.int .i64 0,.int .i64 0,.slice none 0 0] 40,Obj.cells #[.int .i64 (x.nd:Int),.int .i64 x.k,.int .i64 x.lg,.int .i64 x.at_,.slice a x.val.length c] 40] w 1 _ rfl
 have HB2:Hid (Below w.heap.size w ((w.alloc (.cells #[.int .i64 0,.int .i64 0,.int .i64 0,.int .i64 0,.slice none 0 0] 40)).alloc (.cells #[.int .i64 (x.nd:Int),.int .i64 x.k,.int .i64 x.lg,.int .i64 x.at_,.slice a x.val.length c] 40))):=HBX.out.trans (HBY.out.mono HBX.out.size)
 have HZ2:Hid (((w.alloc (.cells #[.int .i64 0,.int .i64 0,.int .i64 0,.int .i64 0,.slice none 0 0] 40)).alloc (.cells #[.int .i64 (x.nd:Int),.int .i64 x.k,.int .i64 x.lg,.int .i64 x.at_,.slice a x.val.length c] 40)).heap[w.heap.size]?=some (.cells #[.int .i64 0,.int .i64 0,.int .i64 0,.int .i64 0,.slice none 0 0] 40 (0,0))):=(HBY.out.block _ (lt HZ1.out)).trans HZ1.out
 have HT2:=hide ((HB2.out.block nt (lt h)).trans h)
 have HG2:=hide ((HB2.out.block g (lt hg)).trans hg)
 have HK2:=hide (hbk.later HB2.out hBw)
 have HQ2:Hid (∀ (i':Nat) x' v',l[i']?=some x'→vs[i']?=some v'→∃ a' c',v'=.slice a' x'.val.length c'∧BK B ((w.alloc (.cells #[.int .i64 0,.int .i64 0,.int .i64 0,.int .i64 0,.slice none 0 0] 40)).alloc (.cells #[.int .i64 (x.nd:Int),.int .i64 x.k,.int .i64 x.lg,.int .i64 x.at_,.slice a x.val.length c] 40)) a' x'.val.length c' x'.val):=fun i' x' v' e1 e2=>by
  obtain ⟨a',c',e3,e4⟩:=q3 i' x' v' e1 e2
  exact ⟨a',c',e3,e4.later HB2.out hBw⟩
 have HON:Hid (∀ u∈cur.toList.take (l.length*5),u.oneCell'=true):=by
  show ∀ u∈cur.toList.take (l.length*5),u.oneCell'=true
  rw [ht]
  refine lrF_one l vs fun i' x' v' e1 e2=>?_
  obtain ⟨a',c',e3,e4⟩:=q3 i' x' v' e1 e2
  rw [e3]
  rfl
 have HQ1:=hide q1
 have HHT:=hide ht
 have HCS:=hide hcs
 have HLT:Hid (nt<w.heap.size∧g<w.heap.size):=⟨lt h,lt hg⟩
 have HB:=hide hB
 have HBW:=hide hBw
 have HGB:=hide hgB
 have HNE:=hide hne
 have HNC:=hide hnc
 have HCC:=hide hcm
 have HCM:Hid (C≤9223372036854775807):=by show C≤_;unfold maxLen at hcm;omega
 have x0:¬ (i:Int)<0:=by omega
 have x1:¬ (l.length:Int)≤(i:Int):=by omega
 have x2:(i:Int)<(l.length:Int):=by omega
 have x3:(0:Int)≤(i:Int):=by omega
 have HT1:=hide ((HBX.out.block nt (lt h)).trans h)
 have HG1:=hide ((HBX.out.block g (lt hg)).trans hg)
 have c2:(w.alloc (.cells #[.int .i64 0,.int .i64 0,.int .i64 0,.int .i64 0,.slice none 0 0] 40)).cell? ⟨nt,2,none⟩=some (.slice (some ⟨g,0,none⟩) l.length C):=aAa HT1.out
 have e00:(w.alloc (.cells #[.int .i64 0,.int .i64 0,.int .i64 0,.int .i64 0,.slice none 0 0] 40)).cell? ⟨g,i*5,none⟩=some (.int .i64 (x.nd:Int)):=(aAa HG1.out).trans (hcell 0 _ (by decide) rfl)
 have e1:(w.alloc (.cells #[.int .i64 0,.int .i64 0,.int .i64 0,.int .i64 0,.slice none 0 0] 40)).cell? ⟨g,i*5+1,none⟩=some (.int .i64 x.k):=(aAa HG1.out).trans (hcell 1 _ (by decide) rfl)
 have e2:(w.alloc (.cells #[.int .i64 0,.int .i64 0,.int .i64 0,.int .i64 0,.slice none 0 0] 40)).cell? ⟨g,i*5+2,none⟩=some (.int .i64 x.lg):=(aAa HG1.out).trans (hcell 2 _ (by decide) rfl)
 have e3:(w.alloc (.cells #[.int .i64 0,.int .i64 0,.int .i64 0,.int .i64 0,.slice none 0 0] 40)).cell? ⟨g,i*5+3,none⟩=some (.int .i64 x.at_):=(aAa HG1.out).trans (hcell 3 _ (by decide) rfl)
 have e4:(w.alloc (.cells #[.int .i64 0,.int .i64 0,.int .i64 0,.int .i64 0,.slice none 0 0] 40)).cell? ⟨g,i*5+4,none⟩=some (.slice a x.val.length c):=(aAa HG1.out).trans (hcell 4 _ (by decide) rfl)
 clear h hB hBw q1 q2 q3 hx hv hbk hg ht hcs hcm hne hnc hgB hcell
 go_enter Tryz.func19,Tryz.ntmps19
 go_upto_region 4 with fail
 clear c2 e00 e1 e2 e3 e4 HBX HBY HZ1 HT1 HG1
 generalize (w.alloc (.cells #[.int .i64 0,.int .i64 0,.int .i64 0,.int .i64 0,.slice none 0 0] 40)).alloc (.cells #[.int .i64 (x.nd:Int),.int .i64 x.k,.int .i64 x.lg,.int .i64 x.at_,.slice a x.val.length c] 40)=w2 at *
 generalize hn0:w.heap.size=n0 at *
 generalize hn1:n0+1=n1 at *
 have HN1:Hid (n0<n1):=by show n0<n1;omega
 have hwr:IntKind.i64.wrap ((i:Int)+1)=((i+1:Nat):Int):=by rw [show ((i+1:Nat):Int)=(i:Int)+1 by omega];exact wrap_small _ (by omega) (by omega)
 have HDL:=hide (ldel_ok (w:=w2) (g:=g) (L:=l.length) (C:=C) (i:=i) (cs:=cur.toList) (by rw [Array.toArray_toList];exact HG2.out) (by rw [Array.length_toList];exact HCS.out) HNC.out HCM.out hil HON.out)
 have c2:w2.cell? ⟨nt,2,none⟩=some (.slice (some ⟨g,0,none⟩) l.length C):=aAa HT2.out
 have hcst:((i+1:Nat):Int)=(i:Int)+1:=by omega
 go_wp2_with fail
 refine HDL.out.mono ?_
 rintro e w3 ⟨rfl,hg3,ho3,hb3⟩
 have HT3:Hid (w3.heap[nt]?=_):=(ho3 nt HNE.out).trans HT2.out
 have HG3:=hide hg3
 have hn0g:n0≠g:=by have:=HLT.out.2;omega
 have hn1g:n1≠g:=by have:=HLT.out.2;omega
 have HZ3:Hid (w3.heap[n0]?=_):=(ho3 n0 hn0g).trans HZ2.out
 have HX3:Hid (w3.heap[n1]?=_):=(ho3 (n1) hn1g).trans HX2.out
 have hb3':Below B w2 w3:=⟨(hb3 B HGB.out).os,(hb3 B HGB.out).tape,(hb3 B HGB.out).output,(hb3 B HGB.out).size,(hb3 B HGB.out).block⟩
 have HF3:Hid (FT B w2 w3):=⟨hb3',fun k' cs' fz' e'=>(ho3 k' (fun e''=>by
  subst e''
  rw [HG2.out] at e'
  simp only [oI,cI] at e'
  exact absurd e'.2.1 (by decide))).trans e'⟩
 have HS3:Hid (∀ k',k'≠g→w3.heap[k']?=w2.heap[k']?):=fun k' h9=>ho3 k' h9
 clear hg3 ho3 hb3 hb3' hn0g hn1g c2 HDL
 have y2:w3.cell? ⟨nt,2,none⟩=some (.slice (some ⟨g,0,none⟩) l.length C):=aAa HT3.out
 have yf2:w3.frozen? ⟨nt,2,none⟩=false:=aAb HT3.out
 have hn0t:n0≠nt:=by have:=HLT.out.1;omega
 have hn1t:n1≠nt:=by have:=HLT.out.1;omega
 have HT4:Hid ((w3.setCell ⟨nt,2,none⟩ (.slice (some ⟨g,0,none⟩) (l.length-1) C)).heap[nt]?=some (.cells #[.slice (some ⟨gh,0,none⟩) M M,wv,.slice (some ⟨g,0,none⟩) (l.length-1) C] 46 (0,0))):=heap_setCell_same _ _ _ _ _ _ HT3.out
 have HG4:Hid ((w3.setCell ⟨nt,2,none⟩ (.slice (some ⟨g,0,none⟩) (l.length-1) C)).heap[g]?=_):=(heap_setCell_other _ _ _ _ (Ne.symm HNE.out)).trans HG3.out
 have HZ4:Hid ((w3.setCell ⟨nt,2,none⟩ (.slice (some ⟨g,0,none⟩) (l.length-1) C)).heap[n0]?=_):=(heap_setCell_other _ _ _ _ hn0t).trans HZ3.out
 have HX4:Hid ((w3.setCell ⟨nt,2,none⟩ (.slice (some ⟨g,0,none⟩) (l.length-1) C)).heap[n1]?=_):=(heap_setCell_other _ _ _ _ hn1t).trans HX3.out
 have HF4:Hid (FT B w2 (w3.setCell ⟨nt,2,none⟩ (.slice (some ⟨g,0,none⟩) (l.length-1) C))):=HF3.out.trans (ft1 HT3.out (by decide) HB.out)
 have HS4:Hid (∀ k',k'≠g→k'≠nt→(w3.setCell ⟨nt,2,none⟩ (.slice (some ⟨g,0,none⟩) (l.length-1) C)).heap[k']?=w2.heap[k']?):=fun k' h9 h8=>(heap_setCell_other _ _ _ _ h8).trans (HS3.out k' h9)
 clear hn0t hn1t HT3 HG3 HZ3 HX3 HF3 HS3
 go_upto_region 5 with fail
 generalize (w3.setCell ⟨nt,2,none⟩ (.slice (some ⟨g,0,none⟩) (l.length-1) C))=w4 at *
 clear y2 yf2
 have u0:w4.cell? ⟨n1,0,none⟩=some (.int .i64 (x.nd:Int)):=aAa HX4.out
 have u1:w4.cell? ⟨n1,1,none⟩=some (.int .i64 x.k):=aAa HX4.out
 have u2:w4.cell? ⟨n1,2,none⟩=some (.int .i64 x.lg):=aAa HX4.out
 have u3:w4.cell? ⟨n1,3,none⟩=some (.int .i64 x.at_):=aAa HX4.out
 have u4:w4.cell? ⟨n1,4,none⟩=some (.slice a x.val.length c):=aAa HX4.out
 have z0:w4.cell? ⟨n0,0,none⟩=some (.int .i64 0):=aAa HZ4.out
 have zf0:w4.frozen? ⟨n0,0,none⟩=false:=aAb HZ4.out
 have z1:w4.cell? ⟨n0,1,none⟩=some (.int .i64 0):=aAa HZ4.out
 have zf1:w4.frozen? ⟨n0,1,none⟩=false:=aAb HZ4.out
 have z2:w4.cell? ⟨n0,2,none⟩=some (.int .i64 0):=aAa HZ4.out
 have zf2:w4.frozen? ⟨n0,2,none⟩=false:=aAb HZ4.out
 have z3:w4.cell? ⟨n0,3,none⟩=some (.int .i64 0):=aAa HZ4.out
 have zf3:w4.frozen? ⟨n0,3,none⟩=false:=aAb HZ4.out
 have z4:w4.cell? ⟨n0,4,none⟩=some (.slice none 0 0):=aAa HZ4.out
 have zf4:w4.frozen? ⟨n0,4,none⟩=false:=aAb HZ4.out
 go_wp2
 (try simp only [Exit.inBlock,Exit.then])
 have hB0:B≤n0:=HBW.out
 have HF5:Hid (FT B w4 (((((w4.setCell ⟨n0,0,none⟩ (.int .i64 (x.nd:Int))).setCell ⟨n0,1,none⟩ (.int .i64 x.k)).setCell ⟨n0,2,none⟩ (.int .i64 x.lg)).setCell ⟨n0,3,none⟩ (.int .i64 x.at_)).setCell ⟨n0,4,none⟩ (.slice a x.val.length c))):=⟨bel5 (Below.refl _ _) hB0,fun k' cs' fz' e'=>(oth5 (fun e''=>by
  subst e''
  rw [HZ4.out] at e'
  simp only [oI,cI] at e'
  exact absurd e'.2.1 (by decide))).trans e'⟩
 have HF6:=hide (HF4.out.trans HF5.out)
 have hn0t:nt≠n0:=by have:=HLT.out.1;omega
 have hn0g:g≠n0:=by have:=HLT.out.2;omega
 refine bodyPost_ret (results_late (u:=5) (p:=4) rfl _ _ n0 _ rfl (set5 HZ4.out) rfl) rfl ?_
 refine ⟨a,c,_,rfl,HK2.out.ft HF6.out,(oth5 hn0t).trans HT4.out,⟨vs.eraseIdx i,?_,⟨?_,Or.inr ⟨g,C,_,?_,HGB.out,(oth5 hn0g).trans HG4.out,?_,HCC.out,?_,?_⟩⟩,?_⟩,(HB2.out.mono hB0).trans HF6.out.1,?_⟩
 ·rw [List.length_eraseIdx_of_lt hil,List.length_eraseIdx_of_lt (by rw [HQ1.out];exact hil),HQ1.out]
 ·exact lrF_len _ _ (by rw [List.length_eraseIdx_of_lt hil,List.length_eraseIdx_of_lt (by rw [HQ1.out];exact hil),HQ1.out])
 ·rw [List.length_eraseIdx_of_lt hil]
 ·rw [List.length_eraseIdx_of_lt hil];have:=HNC.out;omega
 ·have h9:cur.toList.length=C*5:=by rw [Array.length_toList];exact HCS.out
  have:=HNC.out
  simp only [List.size_toArray,lA,List.length_take,List.length_drop,h9]
  show _+5+_=_
  omega
 ·have h9:cur.toList.length=C*5:=by rw [Array.length_toList];exact HCS.out
  have:=HNC.out
  rw [List.length_eraseIdx_of_lt hil,←lrF_erase l vs i HQ1.out,←HHT.out,List.take_take,Nat.min_eq_left (by omega)]
  show List.take _ (_++_++_++_)=_
  rw [List.append_assoc (_++_)]
  refine List.take_left' ?_
  simp only [lA,List.length_take,List.length_drop,h9]
  omega
 ·intro i' x' v' e1 e2
  rw [List.getElem?_eraseIdx] at e1 e2
  by_cases h9:i'<i
  ·rw [if_pos h9] at e1 e2
   obtain ⟨a',c',e3,e4⟩:=HQ2.out i' x' v' e1 e2
   exact ⟨a',c',e3,e4.ft HF6.out⟩
  ·rw [if_neg h9] at e1 e2
   obtain ⟨a',c',e3,e4⟩:=HQ2.out (i'+1) x' v' e1 e2
   exact ⟨a',c',e3,e4.ft HF6.out⟩
 ·intro k' h1 h2 h3
  refine (oth5 (by omega)).trans ((HS4.out k' (fun e=>h3 (by rw [e];rfl)) h2).trans (HB2.out.block k' (by omega)))
theorem LTV.stay {B:Nat} {w w':World} {lv:Value} {l:List LR} (h:LTV B w lv l) (hk:NdK w w') (hb:Below B w w'):LTV B w' lv l:=by
 obtain ⟨vs,q1,q2,q3⟩:=h
 have hf:FT B w w':=⟨hb,fun k cs fz e=>hk k cs _ fz e (by decide) (by decide) (by decide) (by decide)⟩
 refine ⟨vs,q1,aAj q2 fun k cs _ e=>hk k cs _ _ e (by decide) (by decide) (by decide) (by decide),fun i x v e1 e2=>?_⟩
 obtain ⟨a,c,e3,e4⟩:=q3 i x v e1 e2
 exact ⟨a,c,e3,e4.ft hf⟩
theorem deliver_ok {B N M:Nat} {P:Nat→NdP} {A:Nat→NdS} {E:Nat→Prop} {W w:World} (h:MND B N M P A E W w) {nt gh i:Nat} {wv lv:Value} {l:List LR} {x:LR} {y:NdS} {hc:Array Value} {e0 tl tr bl:Int} {sl:Bool} {vn:Nat} {val:List Nat} (hn:NTM w nt gh M wv lv) (hB:B≤nt) (hBw:B≤w.heap.size) (hl:LTV B w lv l) (hl6:l.length≤64) (hx:l[i]?=some x) (hM:x.nd<M) (hM6:M≤64) (hh:w.heap[gh]?=some (.cells hc 52 (0,0))) (hcc:hc[x.nd*2+1]?=some (.pointer (some ⟨(P x.nd).nd,0,none⟩))) (he:¬ e0=20) (hEt:∀ k,E k→k≠nt∧lv.ownBlock≠some k∧k<w.heap.size)
  (hdo:∀ ww va cp,Below B w ww→BK B ww va x.val.length cp x.val→DoT B N (P x.nd) W x.k x.lg x.at_ va x.val.length cp (A x.nd) y e0 tl sl tr bl vn val ww) :
  Calls Tryz.prog 10 #[.pointer (some ⟨nt,0,none⟩),.int .i64 (i:Int)] w fun e w'=>e=.returned (.int .i64 0)∧∃ lv',MND B N M P (upS A x.nd y) E W w'∧NTM w' nt gh M wv lv'∧LTV B w' lv' (l.eraseIdx i)∧w'.heap[gh]?=some (.cells hc 52 (0,0))∧Below B w w'∧(∀ k,E k→w'.heap[k]?=w.heap[k]?)∧NsF B w w':=by
 have lt:∀ {k:Nat} {o:Obj} {ww:World},ww.heap[k]?=some o→k<ww.heap.size:=fun e=>(lO e)
 obtain ⟨vs,q1,q2,q3⟩:=hl
 have hL:LTV B w lv l:=⟨vs,q1,q2,q3⟩
 have HTK:=hide (ntake_ok hn hB hBw hL hl6 hx)
 have hgn:gh≠nt:=fun e=>by
  subst e
  have h9:w.heap[gh]?=_:=hn
  rw [hh] at h9
  simp only [oI,cI] at h9
  exact absurd h9.2.1 (by decide)
 have hgl:lv.ownBlock≠some gh:=fun e=>by
  obtain ⟨_,cur,h9⟩:=aAl q2 e
  rw [hh] at h9
  simp only [oI,cI] at h9
  exact absurd h9.2.1 (by decide)
 have HTT:Hid (∀ k,(k=nt∨lv.ownBlock=some k)→∃ cs t fz,w.heap[k]?=some (Obj.cells cs t fz)∧¬ DTy t∧t≠5∧t≠155∧t≠104∧t≠89∧t≠109):=fun k hk=>by
  rcases hk with rfl | hk
  ·exact ⟨_,_,_,hn,by unfold DTy;decide,by decide,by decide,by decide,by decide,by decide⟩
  ·obtain ⟨_,cur,h9⟩:=aAl q2 hk
   exact ⟨_,_,_,h9,by unfold DTy;decide,by decide,by decide,by decide,by decide,by decide⟩
 have HNE:Hid (∀ (k:Nat) (cs:Array Value) (t:TypeId) (fz:Nat×Nat),w.heap[k]?=some (Obj.cells cs t fz)→(t≠46∧t≠40)→k≠nt∧lv.ownBlock≠some k):=fun k cs t fz e n=>by
  refine ⟨fun e3=>?_,fun e3=>?_⟩
  ·subst e3
   have h9:w.heap[k]?=_:=hn
   rw [h9] at e
   simp only [oI,cI] at e
   exact n.1 e.2.1.symm
  ·obtain ⟨_,cur,h9⟩:=aAl q2 e3
   rw [h9] at e
   simp only [oI,cI] at e
   exact n.2 e.2.1.symm
 have HM:=hide h
 have HH:=hide hh
 have HCC:=hide hcc
 have HE:=hide hEt
 have HDO:=hide hdo
 have HG:Hid (gh≠nt∧lv.ownBlock≠some gh):=⟨hgn,hgl⟩
 have HX:=hide hM
 have HBW:=hide hBw
 have HBN:=hide hB
 have xx:(x.nd:Int)<(M:Int):=by omega
 have xx0:(0:Int)≤(x.nd:Int):=by omega
 have xx1:¬ (x.nd:Int)<0:=by omega
 clear h hh hcc hEt hdo hgn hgl hBw hB hL q1 q2 q3 hx hn hM
 go_enter Tryz.func10,Tryz.ntmps10
 go_wp2_with fail
 refine HTK.out.mono ?_
 rintro e w1 ⟨a,c,lv',rfl,hk1,hn1,hl1,hb1,hs1⟩
 have HM1:=hide (HM.out.oth (fun k=>k=nt∨lv.ownBlock=some k) HTT.out (fun k h1 h2=>hs1 k h1 (fun e=>h2 (Or.inl e)) (fun e=>h2 (Or.inr e))) hb1)
 have HH1:=hide ((hs1 gh (lt HH.out) HG.out.1 HG.out.2).trans HH.out)
 have HE1:Hid (∀ k,E k→w1.heap[k]?=w.heap[k]?):=fun k hk=>hs1 k (HE.out k hk).2.2 (HE.out k hk).1 (HE.out k hk).2.1
 have HNF1:Hid (NsF B w w1):=⟨hb1,fun k cs t fz e _ _ _ _ n5=>(hs1 k (lt e) (HNE.out k cs t fz e n5).1 (HNE.out k cs t fz e n5).2).trans e⟩
 have HK1:=hide hk1
 have HN1:=hide hn1
 have HL1:=hide hl1
 have HB1:=hide hb1
 have HBS:Hid (B≤w1.heap.size):=by show B≤_;have:=hb1.size;have:=HBW.out;omega
 have HEL:Hid (∀ k,E k→k<w1.heap.size):=fun k hk=>by
  have h9:=HE1.out k hk
  rw [Array.getElem?_eq_getElem (HE.out k hk).2.2] at h9
  exact lt h9
 clear hk1 hn1 hl1 hb1 hs1 HTK HM HH HTT
 have HBX:=hide (aAc w1 (.cells #[.int .i64 (x.nd:Int),.int .i64 x.k,.int .i64 x.lg,.int .i64 x.at_,.slice a x.val.length c] 40))
 have HX2:Hid ((w1.alloc (.cells #[.int .i64 (x.nd:Int),.int .i64 x.k,.int .i64 x.lg,.int .i64 x.at_,.slice a x.val.length c] 40)).heap[w1.heap.size]?=some (.cells #[.int .i64 (x.nd:Int),.int .i64 x.k,.int .i64 x.lg,.int .i64 x.at_,.slice a x.val.length c] 40 (0,0))):=heap_alloc_new w1 _
 have HN2:=hide (HN1.out.later HBX.out)
 have HM2:=hide (HM1.out.later HBX.out HBS.out)
 have HH2:=hide ((HBX.out.block gh (lt HH1.out)).trans HH1.out)
 have HK2:=hide (HK1.out.later HBX.out HBS.out)
 have HL2:=hide (HL1.out.stay (NdK.of HBX.out) (HBX.out.mono HBS.out))
 have HB2:Hid (Below B w (w1.alloc (.cells #[.int .i64 (x.nd:Int),.int .i64 x.k,.int .i64 x.lg,.int .i64 x.at_,.slice a x.val.length c] 40))):=HB1.out.trans (HBX.out.mono HBS.out)
 have HNF2:Hid (NsF B w (w1.alloc (.cells #[.int .i64 (x.nd:Int),.int .i64 x.k,.int .i64 x.lg,.int .i64 x.at_,.slice a x.val.length c] 40))):=HNF1.out.trans (NsF.of HBX.out HBS.out)
 have HBT:Hid (B≤(w1.alloc (.cells #[.int .i64 (x.nd:Int),.int .i64 x.k,.int .i64 x.lg,.int .i64 x.at_,.slice a x.val.length c] 40)).heap.size):=by show B≤_;have:=HBX.out.size;have:=HBS.out;omega
 have HEL2:Hid (∀ k,E k→k<(w1.alloc (.cells #[.int .i64 (x.nd:Int),.int .i64 x.k,.int .i64 x.lg,.int .i64 x.at_,.slice a x.val.length c] 40)).heap.size):=fun k hk=>Nat.lt_of_lt_of_le (HEL.out k hk) HBX.out.size
 have HE2:Hid (∀ k,E k→(w1.alloc (.cells #[.int .i64 (x.nd:Int),.int .i64 x.k,.int .i64 x.lg,.int .i64 x.at_,.slice a x.val.length c] 40)).heap[k]?=w.heap[k]?):=fun k hk=>(HBX.out.block k (HEL.out k hk)).trans (HE1.out k hk)
 go_wp2_with fail
 generalize w1.alloc (.cells #[.int .i64 (x.nd:Int),.int .i64 x.k,.int .i64 x.lg,.int .i64 x.at_,.slice a x.val.length c] 40)=w2 at *
 generalize w1.heap.size=n1 at *
 have hbd:Below w2.heap.size w2 w2.drew:=(Below.refl _ _).drew
 have HM3:=hide (HM2.out.later hbd HBT.out)
 have HD:=hide (aCu (w:=w2.drew) HM3.out HBT.out HX.out HH2.out HCC.out he HEL2.out (fun ww hw=>HDO.out ww a c (HB2.out.trans ((hbd.trans hw).mono HBT.out)) (HK2.out.later (hbd.trans hw) HBT.out)))
 have HX1:Hid ((fun wx=>wx.cell? ⟨nt,0,none⟩=some (.slice (some ⟨gh,0,none⟩) M M)∧wx.cell? ⟨n1,0,none⟩=some (.int .i64 (x.nd:Int))∧wx.cell? ⟨n1,1,none⟩=some (.int .i64 x.k)∧wx.cell? ⟨n1,2,none⟩=some (.int .i64 x.lg)∧wx.cell? ⟨n1,3,none⟩=some (.int .i64 x.at_)∧wx.cell? ⟨n1,4,none⟩=some (.slice a x.val.length c)) w2.drew):=⟨aAa (show w2.drew.heap[nt]?=_ from HN2.out),aAa (show w2.drew.heap[n1]?=_ from HX2.out),aAa (show w2.drew.heap[n1]?=_ from HX2.out),aAa (show w2.drew.heap[n1]?=_ from HX2.out),aAa (show w2.drew.heap[n1]?=_ from HX2.out),aAa (show w2.drew.heap[n1]?=_ from HX2.out)⟩
 clear hbd HBX
 refine wp_region_noPanic ?_
 refine wp_region_held_drew (S:=fun wx=>wx.cell? ⟨nt,0,none⟩=some (.slice (some ⟨gh,0,none⟩) M M)∧wx.cell? ⟨n1,0,none⟩=some (.int .i64 (x.nd:Int))∧wx.cell? ⟨n1,1,none⟩=some (.int .i64 x.k)∧wx.cell? ⟨n1,2,none⟩=some (.int .i64 x.lg)∧wx.cell? ⟨n1,3,none⟩=some (.int .i64 x.at_)∧wx.cell? ⟨n1,4,none⟩=some (.slice a x.val.length c)) (by kernel_rfl) HX1.out (fun hHeld=>?_)
 refine wpAnyH_tk 0 16 ?_
 refine wpAnyH_tk 1 17 ?_
 refine wpAnyH_tk 2 18 ?_
 refine wpAnyH_tk 3 19 ?_
 refine wpAnyH_tk 4 20 ?_
 refine wpAnyH_tk 5 21 ?_
 refine wpAnyH_tk 6 22 ?_
 refine wpAnyH_tk 7 23 ?_
 refine wpAnyH_tk 8 24 ?_
 refine wpAnyH_cm 9 ?_;intro K hK
 go_simp
 refine HD.out.mono ?_
 rintro e w3 ⟨⟨sa,sc,rfl,hk3⟩,hM3,hN3,hb3,hE3⟩
 have HN4:Hid (NTM w3 nt gh M wv lv'):=hN3 nt _ _ _ HN2.out (by decide) (by decide) (by decide) (by decide)
 have HX4:Hid (w3.heap[n1]?=_):=hN3 n1 _ _ _ HX2.out (by decide) (by decide) (by decide) (by decide)
 have HH4:Hid (w3.heap[gh]?=_):=hN3 gh _ _ _ HH2.out (by decide) (by decide) (by decide) (by decide)
 have hb4:Below B w2 w3:=⟨hb3.os,hb3.tape,hb3.output,hb3.size,hb3.block⟩
 have HL4:=hide (HL2.out.stay (fun k cs t fz e=>hN3 k cs t fz e) hb4)
 have HM4:=hide hM3
 have HB4:=hide (HB2.out.trans hb4)
 have HNF4:=hide (HNF2.out.trans (NsF.nd (w':=w3) (fun k cs t fz e=>hN3 k cs t fz e) hb4))
 have HE4:Hid (∀ k,E k→w3.heap[k]?=w.heap[k]?):=fun k hk=>(hE3 k hk).trans (HE2.out k hk)
 have HX5:Hid ((fun wx=>wx.cell? ⟨nt,0,none⟩=some (.slice (some ⟨gh,0,none⟩) M M)∧wx.cell? ⟨n1,0,none⟩=some (.int .i64 (x.nd:Int))∧wx.cell? ⟨n1,1,none⟩=some (.int .i64 x.k)∧wx.cell? ⟨n1,2,none⟩=some (.int .i64 x.lg)∧wx.cell? ⟨n1,3,none⟩=some (.int .i64 x.at_)∧wx.cell? ⟨n1,4,none⟩=some (.slice a x.val.length c)) w3):=⟨aAa HN4.out,aAa HX4.out,aAa HX4.out,aAa HX4.out,aAa HX4.out,aAa HX4.out⟩
 clear hk3 hM3 hN3 hb3 hb4 hE3 hHeld HD
 refine hK.out _ _ HX5.out (fun hHeld=>?_)
 clear hK K
 try simp only [Act.put,siT,scZ,scS]
 refine wpAnyH_done (by kernel_rfl) ?_ _
 refine NoPanic.normal ?_
 clear hHeld
 go_wp2
 (try simp only [Exit.inBlock,Exit.then])
 go_ret
 exact ⟨rfl,HM4.out,lv',HN4.out,HL4.out,HH4.out,HB4.out,HE4.out,HNF4.out⟩
theorem nlook4_ok {B N M:Nat} {P:Nat→NdP} {A:Nat→NdS} {E:Nat→Prop} {W w:World} (h:MND B N M P A E W w) {nt gh i n cp vn:Nat} {wv lv:Value} {lg at_ e0 tl tr bl:Int} {sl:Bool} {va:Option Addr} {val:List Nat} {y:NdS} {hc:Array Value} (hn:NTM w nt gh M wv lv) (hB:B≤nt) (hBw:B≤w.heap.size) (hM:i<M) (hM6:M≤64) (hh:w.heap[gh]?=some (.cells hc 52 (0,0))) (hcc:hc[i*2+1]?=some (.pointer (some ⟨(P i).nd,0,none⟩))) (he:¬ e0=20) (hEl:∀ k,E k→k<w.heap.size)
  (hdo:∀ ww,Below w.heap.size w ww→DoT B N (P i) W 4 lg at_ va n cp (A i) y e0 tl sl tr bl vn val ww) :
  Calls Tryz.prog 7 #[.pointer (some ⟨nt,0,none⟩),.int .i64 (i:Int),.agg #[.int .i64 4,.int .i64 lg,.int .i64 at_,.slice va n cp]] w fun e w'=>(∃ sa sc,e=.returned (.tuple #[.agg #[.int .i64 e0,.int .i64 tl,.bool sl,.int .i64 tr,.int .i64 bl,.slice sa vn sc],.bool true])∧BK B w' sa vn sc val)∧MND B N M P (upS A i y) E W w'∧NdK w w'∧Below B w w'∧∀ k,E k→w'.heap[k]?=w.heap[k]?:=by
 have lt:∀ {k:Nat} {o:Obj} {ww:World},ww.heap[k]?=some o→k<ww.heap.size:=fun e=>(lO e)
 have HBX:=hide (aAr w (.cells #[.int .i64 4,.int .i64 lg,.int .i64 at_,.slice va n cp] 34) (.cells #[.int .i64 0,.int .i64 0,.bool false,.int .i64 0,.int .i64 0,.slice none 0 0] 30))
 have HR2:Hid (((w.alloc (.cells #[.int .i64 4,.int .i64 lg,.int .i64 at_,.slice va n cp] 34)).alloc (.cells #[.int .i64 0,.int .i64 0,.bool false,.int .i64 0,.int .i64 0,.slice none 0 0] 30)).heap[w.heap.size]?=some (.cells #[.int .i64 4,.int .i64 lg,.int .i64 at_,.slice va n cp] 34 (0,0))):=aAd [Obj.cells #[.int .i64 4,.int .i64 lg,.int .i64 at_,.slice va n cp] 34,Obj.cells #[.int .i64 0,.int .i64 0,.bool false,.int .i64 0,.int .i64 0,.slice none 0 0] 30] w 0 _ rfl
 have HA2:Hid (((w.alloc (.cells #[.int .i64 4,.int .i64 lg,.int .i64 at_,.slice va n cp] 34)).alloc (.cells #[.int .i64 0,.int .i64 0,.bool false,.int .i64 0,.int .i64 0,.slice none 0 0] 30)).heap[w.heap.size+1]?=some (.cells #[.int .i64 0,.int .i64 0,.bool false,.int .i64 0,.int .i64 0,.slice none 0 0] 30 (0,0))):=aAd [Obj.cells #[.int .i64 4,.int .i64 lg,.int .i64 at_,.slice va n cp] 34,Obj.cells #[.int .i64 0,.int .i64 0,.bool false,.int .i64 0,.int .i64 0,.slice none 0 0] 30] w 1 _ rfl
 have HN2:=hide (hn.later HBX.out)
 have HM2:=hide (h.later HBX.out hBw)
 have HH2:=hide ((HBX.out.block gh (lt hh)).trans hh)
 have HBT:Hid (B≤((w.alloc (.cells #[.int .i64 4,.int .i64 lg,.int .i64 at_,.slice va n cp] 34)).alloc (.cells #[.int .i64 0,.int .i64 0,.bool false,.int .i64 0,.int .i64 0,.slice none 0 0] 30)).heap.size):=by show B≤_;have:=HBX.out.size;omega
 have HEL2:Hid (∀ k,E k→k<((w.alloc (.cells #[.int .i64 4,.int .i64 lg,.int .i64 at_,.slice va n cp] 34)).alloc (.cells #[.int .i64 0,.int .i64 0,.bool false,.int .i64 0,.int .i64 0,.slice none 0 0] 30)).heap.size):=fun k hk=>Nat.lt_of_lt_of_le (hEl k hk) HBX.out.size
 have HEL:=hide hEl
 have HCC:=hide hcc
 have HDO:=hide hdo
 have HX:=hide hM
 have HBW:=hide hBw
 have HNT:Hid (nt<w.heap.size):=lt hn
 have HHS:=hide (aCv HN2.out hM)
 have xx:(i:Int)<(M:Int):=by omega
 have xx0:(0:Int)≤(i:Int):=by omega
 have xx1:¬ (i:Int)<0:=by omega
 clear h hh hcc hEl hdo hBw hB hn hM
 go_enter Tryz.func7,Tryz.ntmps7
 go_wp2_with fail
 refine HHS.out.mono ?_
 rintro e w2' ⟨rfl,rfl⟩
 generalize ((w.alloc (.cells #[.int .i64 4,.int .i64 lg,.int .i64 at_,.slice va n cp] 34)).alloc (.cells #[.int .i64 0,.int .i64 0,.bool false,.int .i64 0,.int .i64 0,.slice none 0 0] 30))=w2 at *
 generalize hn0:w.heap.size=n0 at *
 generalize hn1:n0+1=n1 at *
 have HN1:Hid (n0<n1):=by show n0<n1;omega
 have c0:w2.cell? ⟨n0,0,none⟩=some (.int .i64 4):=aAa HR2.out
 go_upto_region 3 with fail
 have hbd:Below w2.heap.size w2 w2.drew:=(Below.refl _ _).drew
 have HSZ:Hid (n0≤w2.heap.size):=by show n0≤_;have:=HBX.out.size;omega
 have HM3:=hide (HM2.out.later hbd HBT.out)
 have HD:=hide (aCu (w:=w2.drew) HM3.out HBT.out HX.out HH2.out HCC.out he HEL2.out (fun ww hw=>HDO.out ww (HBX.out.trans ((hbd.trans hw).mono HSZ.out))))
 have HX1:Hid ((fun wx=>wx.cell? ⟨nt,0,none⟩=some (.slice (some ⟨gh,0,none⟩) M M)∧wx.cell? ⟨n0,0,none⟩=some (.int .i64 4)∧wx.cell? ⟨n0,1,none⟩=some (.int .i64 lg)∧wx.cell? ⟨n0,2,none⟩=some (.int .i64 at_)∧wx.cell? ⟨n0,3,none⟩=some (.slice va n cp)) w2.drew):=⟨aAa (show w2.drew.heap[nt]?=_ from HN2.out),aAa (show w2.drew.heap[n0]?=_ from HR2.out),aAa (show w2.drew.heap[n0]?=_ from HR2.out),aAa (show w2.drew.heap[n0]?=_ from HR2.out),aAa (show w2.drew.heap[n0]?=_ from HR2.out)⟩
 clear hbd c0 HHS
 refine wp_region_noPanic ?_
 refine wp_region_held_drew (S:=fun wx=>wx.cell? ⟨nt,0,none⟩=some (.slice (some ⟨gh,0,none⟩) M M)∧wx.cell? ⟨n0,0,none⟩=some (.int .i64 4)∧wx.cell? ⟨n0,1,none⟩=some (.int .i64 lg)∧wx.cell? ⟨n0,2,none⟩=some (.int .i64 at_)∧wx.cell? ⟨n0,3,none⟩=some (.slice va n cp)) (by kernel_rfl) HX1.out (fun hHeld=>?_)
 refine wpAnyH_tk 0 23 ?_
 refine wpAnyH_tk 1 24 ?_
 refine wpAnyH_tk 2 25 ?_
 refine wpAnyH_tk 3 26 ?_
 refine wpAnyH_tk 4 27 ?_
 refine wpAnyH_tk 5 28 ?_
 refine wpAnyH_tk 6 29 ?_
 refine wpAnyH_cm 7 ?_;intro K hK
 go_simp
 refine HD.out.mono ?_
 rintro e w3 ⟨⟨sa,sc,rfl,hk3⟩,hM3,hN3,hb3,hE3⟩
 have HN4:Hid (NTM w3 nt gh M wv lv):=hN3 nt _ _ _ HN2.out (by decide) (by decide) (by decide) (by decide)
 have HR4:Hid (w3.heap[n0]?=_):=hN3 n0 _ _ _ HR2.out (by decide) (by decide) (by decide) (by decide)
 have HA4:Hid (w3.heap[n1]?=_):=hN3 n1 _ _ _ HA2.out (by decide) (by decide) (by decide) (by decide)
 have hb4:Below B w2 w3:=⟨hb3.os,hb3.tape,hb3.output,hb3.size,hb3.block⟩
 have HM4:=hide hM3
 have HK4:=hide hk3
 have HW4:Hid (Below B w w3):=(HBX.out.mono HBW.out).trans hb4
 have HNK4:Hid (NdK w w3):=(NdK.of (w':=w2) (by rw [hn0];exact HBX.out)).trans (c:=w3) (fun k cs t fz e=>hN3 k cs t fz e)
 have HE4:Hid (∀ k,E k→w3.heap[k]?=w.heap[k]?):=fun k hk=>(hE3 k hk).trans (HBX.out.block k (HEL.out k hk))
 have HX5:Hid ((fun wx=>wx.cell? ⟨nt,0,none⟩=some (.slice (some ⟨gh,0,none⟩) M M)∧wx.cell? ⟨n0,0,none⟩=some (.int .i64 4)∧wx.cell? ⟨n0,1,none⟩=some (.int .i64 lg)∧wx.cell? ⟨n0,2,none⟩=some (.int .i64 at_)∧wx.cell? ⟨n0,3,none⟩=some (.slice va n cp)) w3):=⟨aAa HN4.out,aAa HR4.out,aAa HR4.out,aAa HR4.out,aAa HR4.out⟩
 clear hk3 hM3 hN3 hb3 hb4 hE3 hHeld HD
 refine hK.out _ _ HX5.out (fun hHeld=>?_)
 clear hK K
 try simp only [Act.put,siT,scZ,scS]
 refine wpAnyH_tk 8 31 ?_
 refine wpAnyH_tk 9 32 ?_
 have z0:w3.cell? ⟨n1,0,none⟩=some (.int .i64 0):=aAa HA4.out
 have zf0:w3.frozen? ⟨n1,0,none⟩=false:=aAb HA4.out
 have z1:w3.cell? ⟨n1,1,none⟩=some (.int .i64 0):=aAa HA4.out
 have zf1:w3.frozen? ⟨n1,1,none⟩=false:=aAb HA4.out
 have z2:w3.cell? ⟨n1,2,none⟩=some (.bool false):=aAa HA4.out
 have zf2:w3.frozen? ⟨n1,2,none⟩=false:=aAb HA4.out
 have z3:w3.cell? ⟨n1,3,none⟩=some (.int .i64 0):=aAa HA4.out
 have zf3:w3.frozen? ⟨n1,3,none⟩=false:=aAb HA4.out
 have z4:w3.cell? ⟨n1,4,none⟩=some (.int .i64 0):=aAa HA4.out
 have zf4:w3.frozen? ⟨n1,4,none⟩=false:=aAb HA4.out
 have z5:w3.cell? ⟨n1,5,none⟩=some (.slice none 0 0):=aAa HA4.out
 have zf5:w3.frozen? ⟨n1,5,none⟩=false:=aAb HA4.out
 refine wpAnyH_cm 10 ?_;intro K hK
 go_simp
 have HBC:Hid (B≤n1):=by show B≤n1;have:=HBW.out;have:=HN1.out;omega
 have HM5:=hide (HM4.out.wr6 (b0:=.int .i64 e0) (b1:=.int .i64 tl) (b2:=.bool sl) (b3:=.int .i64 tr) (b4:=.int .i64 bl) (b5:=.slice sa vn sc) HA4.out HBC.out)
 have HA5:Hid (((((((w3.setCell ⟨n1,0,none⟩ (.int .i64 e0)).setCell ⟨n1,1,none⟩ (.int .i64 tl)).setCell ⟨n1,2,none⟩ (.bool sl)).setCell ⟨n1,3,none⟩ (.int .i64 tr)).setCell ⟨n1,4,none⟩ (.int .i64 bl)).setCell ⟨n1,5,none⟩ (.slice sa vn sc)).heap[n1]?=some (.cells #[.int .i64 e0,.int .i64 tl,.bool sl,.int .i64 tr,.int .i64 bl,.slice sa vn sc] 30 (0,0))):=set6 HA4.out
 have HN5:=(oth6 (w:=w3) (g:=n1) (b0:=.int .i64 e0) (b1:=.int .i64 tl) (b2:=.bool sl) (b3:=.int .i64 tr) (b4:=.int .i64 bl) (b5:=.slice sa vn sc) (k:=nt) (by have:=HNT.out;have:=HN1.out;omega)).trans HN4.out
 have HR5:=(oth6 (w:=w3) (g:=n1) (b0:=.int .i64 e0) (b1:=.int .i64 tl) (b2:=.bool sl) (b3:=.int .i64 tr) (b4:=.int .i64 bl) (b5:=.slice sa vn sc) (k:=n0) (by have:=HN1.out;omega)).trans HR4.out
 have HK5:Hid (BK B ((((((w3.setCell ⟨n1,0,none⟩ (.int .i64 e0)).setCell ⟨n1,1,none⟩ (.int .i64 tl)).setCell ⟨n1,2,none⟩ (.bool sl)).setCell ⟨n1,3,none⟩ (.int .i64 tr)).setCell ⟨n1,4,none⟩ (.int .i64 bl)).setCell ⟨n1,5,none⟩ (.slice sa vn sc)) sa vn sc val):=HK4.out.ft (ft6 HA4.out (by decide) HBC.out)
 have HNK5:Hid (NdK w ((((((w3.setCell ⟨n1,0,none⟩ (.int .i64 e0)).setCell ⟨n1,1,none⟩ (.int .i64 tl)).setCell ⟨n1,2,none⟩ (.bool sl)).setCell ⟨n1,3,none⟩ (.int .i64 tr)).setCell ⟨n1,4,none⟩ (.int .i64 bl)).setCell ⟨n1,5,none⟩ (.slice sa vn sc))):=HNK4.out.wr6 (by have:=HN1.out;omega)
 have HW5:Hid (Below B w ((((((w3.setCell ⟨n1,0,none⟩ (.int .i64 e0)).setCell ⟨n1,1,none⟩ (.int .i64 tl)).setCell ⟨n1,2,none⟩ (.bool sl)).setCell ⟨n1,3,none⟩ (.int .i64 tr)).setCell ⟨n1,4,none⟩ (.int .i64 bl)).setCell ⟨n1,5,none⟩ (.slice sa vn sc))):=bel6 HW4.out HBC.out
 have HE5:Hid (∀ k,E k→((((((w3.setCell ⟨n1,0,none⟩ (.int .i64 e0)).setCell ⟨n1,1,none⟩ (.int .i64 tl)).setCell ⟨n1,2,none⟩ (.bool sl)).setCell ⟨n1,3,none⟩ (.int .i64 tr)).setCell ⟨n1,4,none⟩ (.int .i64 bl)).setCell ⟨n1,5,none⟩ (.slice sa vn sc)).heap[k]?=w.heap[k]?):=fun k hk=>(oth6 (by have:=HEL.out k hk;have:=HN1.out;omega)).trans (HE4.out k hk)
 have HX6:Hid ((fun wx=>wx.cell? ⟨nt,0,none⟩=some (.slice (some ⟨gh,0,none⟩) M M)∧wx.cell? ⟨n0,0,none⟩=some (.int .i64 4)∧wx.cell? ⟨n0,1,none⟩=some (.int .i64 lg)∧wx.cell? ⟨n0,2,none⟩=some (.int .i64 at_)∧wx.cell? ⟨n0,3,none⟩=some (.slice va n cp)) ((((((w3.setCell ⟨n1,0,none⟩ (.int .i64 e0)).setCell ⟨n1,1,none⟩ (.int .i64 tl)).setCell ⟨n1,2,none⟩ (.bool sl)).setCell ⟨n1,3,none⟩ (.int .i64 tr)).setCell ⟨n1,4,none⟩ (.int .i64 bl)).setCell ⟨n1,5,none⟩ (.slice sa vn sc))):=⟨aAa HN5,aAa HR5,aAa HR5,aAa HR5,aAa HR5⟩
 clear hHeld HN5 HR5 z0 zf0 z1 zf1 z2 zf2 z3 zf3 z4 zf4 z5 zf5
 generalize ((((((w3.setCell ⟨n1,0,none⟩ (.int .i64 e0)).setCell ⟨n1,1,none⟩ (.int .i64 tl)).setCell ⟨n1,2,none⟩ (.bool sl)).setCell ⟨n1,3,none⟩ (.int .i64 tr)).setCell ⟨n1,4,none⟩ (.int .i64 bl)).setCell ⟨n1,5,none⟩ (.slice sa vn sc))=w5 at *
 refine hK.out _ _ HX6.out (fun hHeld=>?_)
 clear hK K
 try simp only [Act.put,siT,scZ,scS]
 refine wpAnyH_tk 11 7 ?_
 refine wpAnyH_done (by kernel_rfl) ?_ _
 refine NoPanic.normal ?_
 clear hHeld
 go_wp2
 (try simp only [Exit.inBlock,Exit.then])
 refine bodyPost_ret (aA7 rfl _ _ n1 _ rfl HA5.out rfl) rfl ?_
 exact ⟨⟨sa,sc,rfl,HK5.out⟩,HM5.out,HNK5.out,HW5.out,HE5.out⟩
theorem nlook5_ok {B N M:Nat} {P:Nat→NdP} {A:Nat→NdS} {E:Nat→Prop} {W w:World} (h:MND B N M P A E W w) {nt gh i n cp vn:Nat} {wv lv:Value} {lg at_ e0 tl tr bl:Int} {sl:Bool} {va:Option Addr} {val:List Nat} {y:NdS} {hc:Array Value} (hn:NTM w nt gh M wv lv) (hB:B≤nt) (hBw:B≤w.heap.size) (hM:i<M) (hM6:M≤64) (hh:w.heap[gh]?=some (.cells hc 52 (0,0))) (hcc:hc[i*2+1]?=some (.pointer (some ⟨(P i).nd,0,none⟩))) (he:¬ e0=20) (hEl:∀ k,E k→k<w.heap.size)
  (hdo:∀ ww,Below w.heap.size w ww→DoT B N (P i) W 5 lg at_ va n cp (A i) y e0 tl sl tr bl vn val ww) :
  Calls Tryz.prog 7 #[.pointer (some ⟨nt,0,none⟩),.int .i64 (i:Int),.agg #[.int .i64 5,.int .i64 lg,.int .i64 at_,.slice va n cp]] w fun e w'=>(∃ sa sc,e=.returned (.tuple #[.agg #[.int .i64 e0,.int .i64 tl,.bool sl,.int .i64 tr,.int .i64 bl,.slice sa vn sc],.bool true])∧BK B w' sa vn sc val)∧MND B N M P (upS A i y) E W w'∧NdK w w'∧Below B w w'∧∀ k,E k→w'.heap[k]?=w.heap[k]?:=by
 have lt:∀ {k:Nat} {o:Obj} {ww:World},ww.heap[k]?=some o→k<ww.heap.size:=fun e=>(lO e)
 have HBX:=hide (aAr w (.cells #[.int .i64 5,.int .i64 lg,.int .i64 at_,.slice va n cp] 34) (.cells #[.int .i64 0,.int .i64 0,.bool false,.int .i64 0,.int .i64 0,.slice none 0 0] 30))
 have HR2:Hid (((w.alloc (.cells #[.int .i64 5,.int .i64 lg,.int .i64 at_,.slice va n cp] 34)).alloc (.cells #[.int .i64 0,.int .i64 0,.bool false,.int .i64 0,.int .i64 0,.slice none 0 0] 30)).heap[w.heap.size]?=some (.cells #[.int .i64 5,.int .i64 lg,.int .i64 at_,.slice va n cp] 34 (0,0))):=aAd [Obj.cells #[.int .i64 5,.int .i64 lg,.int .i64 at_,.slice va n cp] 34,Obj.cells #[.int .i64 0,.int .i64 0,.bool false,.int .i64 0,.int .i64 0,.slice none 0 0] 30] w 0 _ rfl
 have HA2:Hid (((w.alloc (.cells #[.int .i64 5,.int .i64 lg,.int .i64 at_,.slice va n cp] 34)).alloc (.cells #[.int .i64 0,.int .i64 0,.bool false,.int .i64 0,.int .i64 0,.slice none 0 0] 30)).heap[w.heap.size+1]?=some (.cells #[.int .i64 0,.int .i64 0,.bool false,.int .i64 0,.int .i64 0,.slice none 0 0] 30 (0,0))):=aAd [Obj.cells #[.int .i64 5,.int .i64 lg,.int .i64 at_,.slice va n cp] 34,Obj.cells #[.int .i64 0,.int .i64 0,.bool false,.int .i64 0,.int .i64 0,.slice none 0 0] 30] w 1 _ rfl
 have HN2:=hide (hn.later HBX.out)
 have HM2:=hide (h.later HBX.out hBw)
 have HH2:=hide ((HBX.out.block gh (lt hh)).trans hh)
 have HBT:Hid (B≤((w.alloc (.cells #[.int .i64 5,.int .i64 lg,.int .i64 at_,.slice va n cp] 34)).alloc (.cells #[.int .i64 0,.int .i64 0,.bool false,.int .i64 0,.int .i64 0,.slice none 0 0] 30)).heap.size):=by show B≤_;have:=HBX.out.size;omega
 have HEL2:Hid (∀ k,E k→k<((w.alloc (.cells #[.int .i64 5,.int .i64 lg,.int .i64 at_,.slice va n cp] 34)).alloc (.cells #[.int .i64 0,.int .i64 0,.bool false,.int .i64 0,.int .i64 0,.slice none 0 0] 30)).heap.size):=fun k hk=>Nat.lt_of_lt_of_le (hEl k hk) HBX.out.size
 have HEL:=hide hEl
 have HCC:=hide hcc
 have HDO:=hide hdo
 have HX:=hide hM
 have HBW:=hide hBw
 have HNT:Hid (nt<w.heap.size):=lt hn
 have HHS:=hide (aCv HN2.out hM)
 have xx:(i:Int)<(M:Int):=by omega
 have xx0:(0:Int)≤(i:Int):=by omega
 have xx1:¬ (i:Int)<0:=by omega
 clear h hh hcc hEl hdo hBw hB hn hM
 go_enter Tryz.func7,Tryz.ntmps7
 go_wp2_with fail
 refine HHS.out.mono ?_
 rintro e w2' ⟨rfl,rfl⟩
 generalize ((w.alloc (.cells #[.int .i64 5,.int .i64 lg,.int .i64 at_,.slice va n cp] 34)).alloc (.cells #[.int .i64 0,.int .i64 0,.bool false,.int .i64 0,.int .i64 0,.slice none 0 0] 30))=w2 at *
 generalize hn0:w.heap.size=n0 at *
 generalize hn1:n0+1=n1 at *
 have HN1:Hid (n0<n1):=by show n0<n1;omega
 have c0:w2.cell? ⟨n0,0,none⟩=some (.int .i64 5):=aAa HR2.out
 go_upto_region 3 with fail
 have hbd:Below w2.heap.size w2 w2.drew:=(Below.refl _ _).drew
 have HSZ:Hid (n0≤w2.heap.size):=by show n0≤_;have:=HBX.out.size;omega
 have HM3:=hide (HM2.out.later hbd HBT.out)
 have HD:=hide (aCu (w:=w2.drew) HM3.out HBT.out HX.out HH2.out HCC.out he HEL2.out (fun ww hw=>HDO.out ww (HBX.out.trans ((hbd.trans hw).mono HSZ.out))))
 have HX1:Hid ((fun wx=>wx.cell? ⟨nt,0,none⟩=some (.slice (some ⟨gh,0,none⟩) M M)∧wx.cell? ⟨n0,0,none⟩=some (.int .i64 5)∧wx.cell? ⟨n0,1,none⟩=some (.int .i64 lg)∧wx.cell? ⟨n0,2,none⟩=some (.int .i64 at_)∧wx.cell? ⟨n0,3,none⟩=some (.slice va n cp)) w2.drew):=⟨aAa (show w2.drew.heap[nt]?=_ from HN2.out),aAa (show w2.drew.heap[n0]?=_ from HR2.out),aAa (show w2.drew.heap[n0]?=_ from HR2.out),aAa (show w2.drew.heap[n0]?=_ from HR2.out),aAa (show w2.drew.heap[n0]?=_ from HR2.out)⟩
 clear hbd c0 HHS
 refine wp_region_noPanic ?_
 refine wp_region_held_drew (S:=fun wx=>wx.cell? ⟨nt,0,none⟩=some (.slice (some ⟨gh,0,none⟩) M M)∧wx.cell? ⟨n0,0,none⟩=some (.int .i64 5)∧wx.cell? ⟨n0,1,none⟩=some (.int .i64 lg)∧wx.cell? ⟨n0,2,none⟩=some (.int .i64 at_)∧wx.cell? ⟨n0,3,none⟩=some (.slice va n cp)) (by kernel_rfl) HX1.out (fun hHeld=>?_)
 refine wpAnyH_tk 0 23 ?_
 refine wpAnyH_tk 1 24 ?_
 refine wpAnyH_tk 2 25 ?_
 refine wpAnyH_tk 3 26 ?_
 refine wpAnyH_tk 4 27 ?_
 refine wpAnyH_tk 5 28 ?_
 refine wpAnyH_tk 6 29 ?_
 refine wpAnyH_cm 7 ?_;intro K hK
 go_simp
 refine HD.out.mono ?_
 rintro e w3 ⟨⟨sa,sc,rfl,hk3⟩,hM3,hN3,hb3,hE3⟩
 have HN4:Hid (NTM w3 nt gh M wv lv):=hN3 nt _ _ _ HN2.out (by decide) (by decide) (by decide) (by decide)
 have HR4:Hid (w3.heap[n0]?=_):=hN3 n0 _ _ _ HR2.out (by decide) (by decide) (by decide) (by decide)
 have HA4:Hid (w3.heap[n1]?=_):=hN3 n1 _ _ _ HA2.out (by decide) (by decide) (by decide) (by decide)
 have hb4:Below B w2 w3:=⟨hb3.os,hb3.tape,hb3.output,hb3.size,hb3.block⟩
 have HM4:=hide hM3
 have HK4:=hide hk3
 have HW4:Hid (Below B w w3):=(HBX.out.mono HBW.out).trans hb4
 have HNK4:Hid (NdK w w3):=(NdK.of (w':=w2) (by rw [hn0];exact HBX.out)).trans (c:=w3) (fun k cs t fz e=>hN3 k cs t fz e)
 have HE4:Hid (∀ k,E k→w3.heap[k]?=w.heap[k]?):=fun k hk=>(hE3 k hk).trans (HBX.out.block k (HEL.out k hk))
 have HX5:Hid ((fun wx=>wx.cell? ⟨nt,0,none⟩=some (.slice (some ⟨gh,0,none⟩) M M)∧wx.cell? ⟨n0,0,none⟩=some (.int .i64 5)∧wx.cell? ⟨n0,1,none⟩=some (.int .i64 lg)∧wx.cell? ⟨n0,2,none⟩=some (.int .i64 at_)∧wx.cell? ⟨n0,3,none⟩=some (.slice va n cp)) w3):=⟨aAa HN4.out,aAa HR4.out,aAa HR4.out,aAa HR4.out,aAa HR4.out⟩
 clear hk3 hM3 hN3 hb3 hb4 hE3 hHeld HD
 refine hK.out _ _ HX5.out (fun hHeld=>?_)
 clear hK K
 try simp only [Act.put,siT,scZ,scS]
 refine wpAnyH_tk 8 31 ?_
 refine wpAnyH_tk 9 32 ?_
 have z0:w3.cell? ⟨n1,0,none⟩=some (.int .i64 0):=aAa HA4.out
 have zf0:w3.frozen? ⟨n1,0,none⟩=false:=aAb HA4.out
 have z1:w3.cell? ⟨n1,1,none⟩=some (.int .i64 0):=aAa HA4.out
 have zf1:w3.frozen? ⟨n1,1,none⟩=false:=aAb HA4.out
 have z2:w3.cell? ⟨n1,2,none⟩=some (.bool false):=aAa HA4.out
 have zf2:w3.frozen? ⟨n1,2,none⟩=false:=aAb HA4.out
 have z3:w3.cell? ⟨n1,3,none⟩=some (.int .i64 0):=aAa HA4.out
 have zf3:w3.frozen? ⟨n1,3,none⟩=false:=aAb HA4.out
 have z4:w3.cell? ⟨n1,4,none⟩=some (.int .i64 0):=aAa HA4.out
 have zf4:w3.frozen? ⟨n1,4,none⟩=false:=aAb HA4.out
 have z5:w3.cell? ⟨n1,5,none⟩=some (.slice none 0 0):=aAa HA4.out
 have zf5:w3.frozen? ⟨n1,5,none⟩=false:=aAb HA4.out
 refine wpAnyH_cm 10 ?_;intro K hK
 go_simp
 have HBC:Hid (B≤n1):=by show B≤n1;have:=HBW.out;have:=HN1.out;omega
 have HM5:=hide (HM4.out.wr6 (b0:=.int .i64 e0) (b1:=.int .i64 tl) (b2:=.bool sl) (b3:=.int .i64 tr) (b4:=.int .i64 bl) (b5:=.slice sa vn sc) HA4.out HBC.out)
 have HA5:Hid (((((((w3.setCell ⟨n1,0,none⟩ (.int .i64 e0)).setCell ⟨n1,1,none⟩ (.int .i64 tl)).setCell ⟨n1,2,none⟩ (.bool sl)).setCell ⟨n1,3,none⟩ (.int .i64 tr)).setCell ⟨n1,4,none⟩ (.int .i64 bl)).setCell ⟨n1,5,none⟩ (.slice sa vn sc)).heap[n1]?=some (.cells #[.int .i64 e0,.int .i64 tl,.bool sl,.int .i64 tr,.int .i64 bl,.slice sa vn sc] 30 (0,0))):=set6 HA4.out
 have HN5:=(oth6 (w:=w3) (g:=n1) (b0:=.int .i64 e0) (b1:=.int .i64 tl) (b2:=.bool sl) (b3:=.int .i64 tr) (b4:=.int .i64 bl) (b5:=.slice sa vn sc) (k:=nt) (by have:=HNT.out;have:=HN1.out;omega)).trans HN4.out
 have HR5:=(oth6 (w:=w3) (g:=n1) (b0:=.int .i64 e0) (b1:=.int .i64 tl) (b2:=.bool sl) (b3:=.int .i64 tr) (b4:=.int .i64 bl) (b5:=.slice sa vn sc) (k:=n0) (by have:=HN1.out;omega)).trans HR4.out
 have HK5:Hid (BK B ((((((w3.setCell ⟨n1,0,none⟩ (.int .i64 e0)).setCell ⟨n1,1,none⟩ (.int .i64 tl)).setCell ⟨n1,2,none⟩ (.bool sl)).setCell ⟨n1,3,none⟩ (.int .i64 tr)).setCell ⟨n1,4,none⟩ (.int .i64 bl)).setCell ⟨n1,5,none⟩ (.slice sa vn sc)) sa vn sc val):=HK4.out.ft (ft6 HA4.out (by decide) HBC.out)
 have HNK5:Hid (NdK w ((((((w3.setCell ⟨n1,0,none⟩ (.int .i64 e0)).setCell ⟨n1,1,none⟩ (.int .i64 tl)).setCell ⟨n1,2,none⟩ (.bool sl)).setCell ⟨n1,3,none⟩ (.int .i64 tr)).setCell ⟨n1,4,none⟩ (.int .i64 bl)).setCell ⟨n1,5,none⟩ (.slice sa vn sc))):=HNK4.out.wr6 (by have:=HN1.out;omega)
 have HW5:Hid (Below B w ((((((w3.setCell ⟨n1,0,none⟩ (.int .i64 e0)).setCell ⟨n1,1,none⟩ (.int .i64 tl)).setCell ⟨n1,2,none⟩ (.bool sl)).setCell ⟨n1,3,none⟩ (.int .i64 tr)).setCell ⟨n1,4,none⟩ (.int .i64 bl)).setCell ⟨n1,5,none⟩ (.slice sa vn sc))):=bel6 HW4.out HBC.out
 have HE5:Hid (∀ k,E k→((((((w3.setCell ⟨n1,0,none⟩ (.int .i64 e0)).setCell ⟨n1,1,none⟩ (.int .i64 tl)).setCell ⟨n1,2,none⟩ (.bool sl)).setCell ⟨n1,3,none⟩ (.int .i64 tr)).setCell ⟨n1,4,none⟩ (.int .i64 bl)).setCell ⟨n1,5,none⟩ (.slice sa vn sc)).heap[k]?=w.heap[k]?):=fun k hk=>(oth6 (by have:=HEL.out k hk;have:=HN1.out;omega)).trans (HE4.out k hk)
 have HX6:Hid ((fun wx=>wx.cell? ⟨nt,0,none⟩=some (.slice (some ⟨gh,0,none⟩) M M)∧wx.cell? ⟨n0,0,none⟩=some (.int .i64 5)∧wx.cell? ⟨n0,1,none⟩=some (.int .i64 lg)∧wx.cell? ⟨n0,2,none⟩=some (.int .i64 at_)∧wx.cell? ⟨n0,3,none⟩=some (.slice va n cp)) ((((((w3.setCell ⟨n1,0,none⟩ (.int .i64 e0)).setCell ⟨n1,1,none⟩ (.int .i64 tl)).setCell ⟨n1,2,none⟩ (.bool sl)).setCell ⟨n1,3,none⟩ (.int .i64 tr)).setCell ⟨n1,4,none⟩ (.int .i64 bl)).setCell ⟨n1,5,none⟩ (.slice sa vn sc))):=⟨aAa HN5,aAa HR5,aAa HR5,aAa HR5,aAa HR5⟩
 clear hHeld HN5 HR5 z0 zf0 z1 zf1 z2 zf2 z3 zf3 z4 zf4 z5 zf5
 generalize ((((((w3.setCell ⟨n1,0,none⟩ (.int .i64 e0)).setCell ⟨n1,1,none⟩ (.int .i64 tl)).setCell ⟨n1,2,none⟩ (.bool sl)).setCell ⟨n1,3,none⟩ (.int .i64 tr)).setCell ⟨n1,4,none⟩ (.int .i64 bl)).setCell ⟨n1,5,none⟩ (.slice sa vn sc))=w5 at *
 refine hK.out _ _ HX6.out (fun hHeld=>?_)
 clear hK K
 try simp only [Act.put,siT,scZ,scS]
 refine wpAnyH_tk 11 7 ?_
 refine wpAnyH_done (by kernel_rfl) ?_ _
 refine NoPanic.normal ?_
 clear hHeld
 go_wp2
 (try simp only [Exit.inBlock,Exit.then])
 refine bodyPost_ret (aA7 rfl _ _ n1 _ rfl HA5.out rfl) rfl ?_
 exact ⟨⟨sa,sc,rfl,HK5.out⟩,HM5.out,HNK5.out,HW5.out,HE5.out⟩
end Go.Proofs.YthimmblpmijnlaaGreat
