import Derived.Test.YtfkaeefpigoapaaGreatZ46
set_option maxRecDepth 100000
set_option maxHeartbeats 16000000
set_option linter.unusedVariables false
namespace Go.Proofs.YtfkaeefpigoapaaGreat
open Go.RowKit
def fv:List Int→Int
 | []=>0
 | z::_=>fat (z % 8).toNat
def WV (B:Nat) (w:World) (wv:Value) (F:List Int):Prop:=∃ a c,wv=.slice a F.length c∧F.length≤c∧c≤9223372036854775807∧(c≠0→∃ g o cs,a=some ⟨g,o,none⟩∧B≤g∧w.heap[g]?=some (.cells cs 3 (0,0))∧o+c≤cs.size∧∀ j z,F[j]?=some z→cs[o+j]?=some (.int .i64 z))
theorem WV.same {B:Nat} {w w':World} {wv:Value} {F:List Int} (h:WV B w wv F) (hs:∀ k,wv.ownBlock=some k→w'.heap[k]?=w.heap[k]?):WV B w' wv F:=by
 obtain ⟨a,c,rfl,h1,h2,h3⟩:=h
 refine ⟨a,c,rfl,h1,h2,fun hc=>?_⟩
 obtain ⟨g,o,cs,rfl,hgB,h4,h5,h6⟩:=h3 hc
 exact ⟨g,o,cs,rfl,hgB,(hs g rfl).trans h4,h5,h6⟩
theorem WV.nil (B:Nat) (w:World):WV B w (.slice none 0 0) []:=⟨none,0,rfl,nR _,by omega,fun h=>absurd rfl h⟩
def tln (g o n c:Nat):Value:=.slice (some ⟨g,if c=1 then o else o+1,none⟩) n (c-1)
theorem fate_cons {w:World} {nt gh M g o c v n:Nat} {z:Int} {lv:Value} (h:NTM w nt gh M (.slice (some ⟨g,o,none⟩) (n+1) c) lv) (hc:n+1≤c) (hcm:c≤9223372036854775807) (hz:w.cell? ⟨g,o,none⟩=some (.int .i64 z)) (hv:v≤7) (hb:bits BinOp.and IntKind.i64 z 7=(v:Int)) :
  Calls Tryz.prog 11 #[.pointer (some ⟨nt,0,none⟩)] w fun e w'=>e=.returned (.int .i64 (fat v))∧w'=w.setCell ⟨nt,1,none⟩ (tln g o n c):=by
 have c1:w.cell? ⟨nt,1,none⟩=some (.slice (some ⟨g,o,none⟩) (n+1) c):=aAa h
 have f1:w.frozen? ⟨nt,1,none⟩=false:=aAb h
 have i1:(n:Int)+1≤(c:Int):=by omega
 have i2:(c:Int)≤9223372036854775807:=by omega
 have i7:(0:Int)<(n:Int)+1:=by omega
 have i8:¬ (n:Int)+1=0:=by omega
 have i9:(1:Int)≤(n:Int)+1:=by omega
 have HFT:=hide (fun ww=>fateOf_any (z:=z) hv hb ww)
 clear h hb
 by_cases q:c=1
 ·have q2:n=0:=by omega
  subst q q2
  go_enter Tryz.func11,Tryz.ntmps11
  go_wp2_with fail
  refine (HFT.out _).mono ?_
  rintro e w2 ⟨rfl,rfl⟩
  go_wp2
  go_ret
  exact ⟨rfl,rfl⟩
 ·have i3:¬ (c:Int)=1:=by omega
  have i4:¬ c=1:=q
  have i5:¬ (1:Int)=(c:Int):=by omega
  have i6:¬ 1=c:=by omega
  go_enter Tryz.func11,Tryz.ntmps11
  go_wp2_with fail
  refine (HFT.out _).mono ?_
  rintro e w2 ⟨rfl,rfl⟩
  go_wp2
  go_ret
  refine ⟨rfl,?_⟩
  unfold tln
  rw [if_neg q]
  try rfl
def FtT (B nt gh M:Nat) (wv lv:Value) (F:List Int) (w w':World):Prop:=∃ wv',NTM w' nt gh M wv' lv∧WV B w' wv' F∧(∀ k,wv'.ownBlock=some k→wv.ownBlock=some k)∧(∀ k,k≠nt→w'.heap[k]?=w.heap[k]?)∧Below B w w'
theorem fate_any {B:Nat} {w:World} {nt gh M:Nat} {wv lv:Value} {F:List Int} (h:NTM w nt gh M wv lv) (hw:WV B w wv F) (hB:B≤nt) :
  Calls Tryz.prog 11 #[.pointer (some ⟨nt,0,none⟩)] w fun e w'=>e=.returned (.int .i64 (fv F))∧FtT B nt gh M wv lv F.tail w w':=by
 obtain ⟨a,c,rfl,h1,h2,h3⟩:=hw
 cases F with
 | nil =>
  refine (fate_none h).mono ?_
  rintro e w' ⟨rfl,rfl⟩
  exact ⟨rfl,_,h,⟨a,c,rfl,h1,h2,h3⟩,fun k e=>e,fun k _=>rfl,Below.refl _ _⟩
 | cons z F' =>
  have hl:(z::F').length=F'.length+1:=rfl
  rw [hl] at h h1
  obtain ⟨g,o,cs,rfl,hgB,h4,h5,h6⟩:=h3 (by omega)
  obtain ⟨v,hv,hb,hm⟩:=and7 z
  have hz:w.cell? ⟨g,o,none⟩=some (.int .i64 z):=(aAa h4).trans (h6 0 z rfl)
  refine (fate_cons h h1 h2 hz hv hb).mono ?_
  rintro e w' ⟨rfl,rfl⟩
  have hvv:v=(z % 8).toNat:=by omega
  have hgn:g≠nt:=fun e=>by
   subst e
   have h9:w.heap[g]?=_:=h
   rw [h4] at h9
   simp only [oI,cI] at h9
   exact absurd h9.2.1 (by decide)
  refine ⟨by rw [hvv];rfl,tln g o F'.length c,heap_setCell_same _ _ _ _ _ _ h,⟨_,c-1,rfl,by show F'.length≤c-1;omega,by omega,fun hc=>?_⟩,fun k e=>e,fun k hk=>heap_setCell_other _ _ _ _ hk,(Below.refl _ _).setCell (p:=⟨nt,1,none⟩) hB _⟩
  refine ⟨g,o+1,cs,by rw [if_neg (by omega)],hgB,(heap_setCell_other _ _ _ _ hgn).trans h4,by omega,fun j z' hj=>?_⟩
  rw [show o+1+j=o+(j+1) by omega]
  exact h6 (j+1) z' hj
structure NsF (B:Nat) (w w':World):Prop where
 bel:Below B w w'
 stay:∀ (k:Nat) (cs:Array Value) (t:TypeId) (fz:Nat×Nat),w.heap[k]?=some (Obj.cells cs t fz)→NT t→t≠185→t≠132→(t≠117∧t≠137)→(t≠47∧t≠72)→w'.heap[k]?=some (Obj.cells cs t fz)
theorem NsF.trans {B:Nat} {a b c:World} (h:NsF B a b) (k:NsF B b c):NsF B a c:=⟨h.1.trans k.1,fun i cs t fz e n1 n2 n3 n4 n5=>k.2 i cs t fz (h.2 i cs t fz e n1 n2 n3 n4 n5) n1 n2 n3 n4 n5⟩
theorem NsF.of {B:Nat} {w w':World} (h:Below w.heap.size w w') (hB:B≤w.heap.size):NsF B w w':=⟨h.mono hB,fun i cs t fz e _ _ _ _ _=>(h.block i (lO e)).trans e⟩
theorem NsF.nd {B:Nat} {w w':World} (h:NdK w w') (hb:Below B w w'):NsF B w w':=⟨hb,fun i cs t fz e n1 n2 n3 n4 _=>h i cs t fz e n1 n2 n3 n4⟩
theorem NsF.ft {B:Nat} {w w':World} (h:NsF B w w'):FT B w w':=⟨h.1,fun k cs fz e=>h.2 k cs _ fz e (by decide) (by decide) (by decide) (by decide) (by decide)⟩
structure NSw (B N M nt gh:Nat) (P:Nat→NdP) (A:Nat→NdS) (wv:Value) (F:List Int) (l:List LR) (W w:World):Prop where
 m:MND B N M P A (fun k=>wv.ownBlock=some k) W w
 f:WV B w wv F
 n:∃ lv,NTM w nt gh M wv lv∧LTV B w lv l
 h:∃ hc,w.heap[gh]?=some (.cells hc 53 (0,0))∧∀ j,j<M→hc[j*2+1]?=some (.pointer (some ⟨(P j).nd,0,none⟩))
 b:B≤nt
 bw:B≤w.heap.size
theorem LTV.keep {B:Nat} {w w':World} {lv:Value} {l:List LR} (h:LTV B w lv l) (hk:∀ (k:Nat) (cs:Array Value),w.heap[k]?=some (Obj.cells cs 72 (0,0))→w'.heap[k]?=some (Obj.cells cs 72 (0,0))) (hf:FT B w w'):LTV B w' lv l:=by
 obtain ⟨vs,q1,q2,q3⟩:=h
 refine ⟨vs,q1,aAl q2 fun k cs _ e=>hk k cs e,fun i x v e1 e2=>?_⟩
 obtain ⟨a,c,e3,e4⟩:=q3 i x v e1 e2
 exact ⟨a,c,e3,e4.ft hf⟩
theorem LTV.nil (B:Nat) (w:World):LTV B w (.slice none 0 0) []:=⟨[],rfl,World.ownsRow_nil w _ _ _,fun i x v e _=>by simp at e⟩
theorem MND.El {B N M:Nat} {P:Nat→NdP} {A:Nat→NdS} {E:Nat→Prop} {W w:World} (h:MND B N M P A E W w):∀ k,E k→FBk w k:=by
 obtain ⟨F,⟨_,hE⟩,_⟩:=h
 exact fun k hk=>(hE k hk).1
section
variable {B N M nt gh:Nat} {P:Nat→NdP} {A:Nat→NdS} {wv:Value} {F:List Int} {l:List LR} {W w w':World}
theorem NSw.later (h:NSw B N M nt gh P A wv F l W w) (hb:Below w.heap.size w w'):NSw B N M nt gh P A wv F l W w':=by
 obtain ⟨lv,h1,h2⟩:=h.n
 obtain ⟨hc,h3,h4⟩:=h.h
 have blk:∀ {k:Nat} {o:Obj},w.heap[k]?=some o→w'.heap[k]?=some o:=fun e=>(hb.block _ (lO e)).trans e
 exact ⟨h.m.later hb h.bw,h.f.same fun k hk=>hb.block k (h.m.El k hk).lt,⟨lv,h1.later hb,h2.keep (fun k cs e=>blk e) ⟨hb.mono h.bw,fun k cs fz e=>blk e⟩⟩,⟨hc,blk h3,h4⟩,h.b,nT h.bw hb.size⟩
theorem NSw.fate (h:NSw B N M nt gh P A wv F l W w) :
  Calls Tryz.prog 11 #[.pointer (some ⟨nt,0,none⟩)] w fun e w'=>e=.returned (.int .i64 (fv F))∧∃ wv',NSw B N M nt gh P A wv' F.tail l W w'∧NsF B w w'∧∀ k,k≠nt→w'.heap[k]?=w.heap[k]?:=by
 obtain ⟨lv,h1,h2⟩:=h.n
 obtain ⟨hc,h3,h4⟩:=h.h
 refine (fate_any h1 h.f h.b).mono ?_
 rintro e w' ⟨rfl,wv',k1,k2,k3,k4,k5⟩
 have ne:∀ {k:Nat} {cs:Array Value} {t:TypeId} {fz:Nat×Nat},w.heap[k]?=some (Obj.cells cs t fz)→t≠47→k≠nt:=by
  intro k cs t fz e ht e3
  subst e3
  have h9:w.heap[k]?=_:=h1
  rw [h9] at e
  simp only [oI,cI] at e
  exact ht e.2.1.symm
 have st:∀ {k:Nat} {cs:Array Value} {t:TypeId} {fz:Nat×Nat},w.heap[k]?=some (Obj.cells cs t fz)→t≠47→w'.heap[k]?=some (Obj.cells cs t fz):=fun e ht=>(k4 _ (ne e ht)).trans e
 have hf:FT B w w':=⟨k5,fun k cs fz e=>st e (by decide)⟩
 have hm:=h.m.oth (fun k=>k=nt) (fun k hk=>by
  subst hk
  exact ⟨_,_,_,h1,by unfold DTy;decide,by decide,by decide,by decide,by decide,by decide⟩) (fun k _ hk=>k4 k hk) k5
 exact ⟨rfl,wv',⟨hm.less k3,k2,⟨lv,k1,h2.keep (fun k cs e=>st e (by decide)) hf⟩,⟨hc,st h3 (by decide),h4⟩,h.b,nT h.bw k5.size⟩,⟨k5,fun k cs t fz e _ _ _ _ n5=>st e n5.1⟩,k4⟩
end
section
variable {B N M nt gh:Nat} {P:Nat→NdP} {A A':Nat→NdS} {wv:Value} {F:List Int} {l:List LR} {W w w':World}
theorem NSw.did (h:NSw B N M nt gh P A wv F l W w) (hM:MND B N M P A' (fun k=>wv.ownBlock=some k) W w') (hN:NdK w w') (hb:Below B w w') (hE:∀ k,wv.ownBlock=some k→w'.heap[k]?=w.heap[k]?):NSw B N M nt gh P A' wv F l W w':=by
 obtain ⟨lv,h1,h2⟩:=h.n
 obtain ⟨hc,h3,h4⟩:=h.h
 exact ⟨hM,h.f.same hE,⟨lv,hN nt _ _ _ h1 (by decide) (by decide) (by decide) (by decide),h2.keep (fun k cs e=>hN k cs _ _ e (by decide) (by decide) (by decide) (by decide)) ⟨hb,fun k cs fz e=>hN k cs _ fz e (by decide) (by decide) (by decide) (by decide)⟩⟩,⟨hc,hN gh _ _ _ h3 (by decide) (by decide) (by decide) (by decide),h4⟩,h.b,nT h.bw hb.size⟩
theorem NdK.one6 {w:World} {g:Nat} {a0 a1 a2 a3 a4 a5 b0 b1 b2 b3 b4 b5:Value} (hg:w.heap[g]?=some (.cells #[a0,a1,a2,a3,a4,a5] 77 (0,0))) {k:Nat} {cs:Array Value} {t:TypeId} {fz:Nat×Nat} (e:w.heap[k]?=some (Obj.cells cs t fz)) (ht:t≠77):((((((w.setCell ⟨g,0,none⟩ b0).setCell ⟨g,1,none⟩ b1).setCell ⟨g,2,none⟩ b2).setCell ⟨g,3,none⟩ b3).setCell ⟨g,4,none⟩ b4).setCell ⟨g,5,none⟩ b5).heap[k]?=some (Obj.cells cs t fz):=by
 refine (oth6 ?_).trans e
 intro e3
 subst e3
 rw [hg] at e
 simp only [oI,cI] at e
 exact ht e.2.1.symm
theorem NSw.wr6 (h:NSw B N M nt gh P A wv F l W w) {g:Nat} {a0 a1 a2 a3 a4 a5 b0 b1 b2 b3 b4 b5:Value} (hg:w.heap[g]?=some (.cells #[a0,a1,a2,a3,a4,a5] 77 (0,0))) (hB:B≤g):NSw B N M nt gh P A wv F l W ((((((w.setCell ⟨g,0,none⟩ b0).setCell ⟨g,1,none⟩ b1).setCell ⟨g,2,none⟩ b2).setCell ⟨g,3,none⟩ b3).setCell ⟨g,4,none⟩ b4).setCell ⟨g,5,none⟩ b5):=by
 obtain ⟨lv,h1,h2⟩:=h.n
 obtain ⟨hc,h3,h4⟩:=h.h
 have hb:Below B w ((((((w.setCell ⟨g,0,none⟩ b0).setCell ⟨g,1,none⟩ b1).setCell ⟨g,2,none⟩ b2).setCell ⟨g,3,none⟩ b3).setCell ⟨g,4,none⟩ b4).setCell ⟨g,5,none⟩ b5):=bel6 (Below.refl _ _) hB
 exact ⟨h.m.wr6 hg hB,h.f.same fun k hk=>oth6 ((h.m.El k hk).ne hg (by unfold DTy;decide)),⟨lv,NdK.one6 hg h1 (by decide),h2.keep (fun k cs e=>NdK.one6 hg e (by decide)) ⟨hb,fun k cs fz e=>NdK.one6 hg e (by decide)⟩⟩,⟨hc,NdK.one6 hg h3 (by decide),h4⟩,h.b,nT h.bw hb.size⟩
theorem NsF.wr6 {w0:World} (h:NsF B w0 w) {g:Nat} {b0 b1 b2 b3 b4 b5:Value} (hn:w0.heap.size≤g) (hB:B≤g):NsF B w0 ((((((w.setCell ⟨g,0,none⟩ b0).setCell ⟨g,1,none⟩ b1).setCell ⟨g,2,none⟩ b2).setCell ⟨g,3,none⟩ b3).setCell ⟨g,4,none⟩ b4).setCell ⟨g,5,none⟩ b5):=⟨bel6 h.1 hB,fun k cs t fz e n1 n2 n3 n4 n5=>(oth6 (by have:=(lO e);omega)).trans (h.2 k cs t fz e n1 n2 n3 n4 n5)⟩
end
theorem NSw.call0 {B N M nt gh i n cp:Nat} {P:Nat→NdP} {A:Nat→NdS} {wv:Value} {F:List Int} {l:List LR} {W w:World} {k lg at_:Int} {va:Option Addr} {vn1:Nat} {e1 tl1 tr1 bl1:Int} {sl1:Bool} {val1:List Nat} {x:NdS} (h:NSw B N M nt gh P A wv F l W w) (hM:i<M) (hM6:M≤64) (hf:fv F=0) (he1:¬ e1=20) (hdo:∀ ww,FT B w ww→DoT B N (P i) W k lg at_ va n cp (A i) x e1 tl1 sl1 tr1 bl1 vn1 val1 ww) :
  Calls Tryz.prog 49 #[.pointer (some ⟨nt,0,none⟩),.int .i64 (i:Int),.agg #[.int .i64 k,.int .i64 lg,.int .i64 at_,.slice va n cp]] w fun e w'=>(∃ sa1 sc1,e=.returned (.tuple #[.agg #[.int .i64 e1,.int .i64 tl1,.bool sl1,.int .i64 tr1,.int .i64 bl1,.slice sa1 vn1 sc1],.bool true])∧BK B w' sa1 vn1 sc1 val1)∧∃ wv',NSw B N M nt gh P (upS A i x) wv' F.tail l W w'∧NsF B w w':=by
 have lt:∀ {k:Nat} {o:Obj} {ww:World},ww.heap[k]?=some o→k<ww.heap.size:=fun e=>(lO e)
 have HBX:=hide (aCy w (.cells #[.int .i64 k,.int .i64 lg,.int .i64 at_,.slice va n cp] 70) (.cells #[.int .i64 0,.int .i64 0,.bool false,.int .i64 0,.int .i64 0,.slice none 0 0] 77))
 have HR2:Hid (((w.alloc (.cells #[.int .i64 k,.int .i64 lg,.int .i64 at_,.slice va n cp] 70)).alloc (.cells #[.int .i64 0,.int .i64 0,.bool false,.int .i64 0,.int .i64 0,.slice none 0 0] 77)).heap[w.heap.size]?=some (.cells #[.int .i64 k,.int .i64 lg,.int .i64 at_,.slice va n cp] 70 (0,0))):=aAf [Obj.cells #[.int .i64 k,.int .i64 lg,.int .i64 at_,.slice va n cp] 70,Obj.cells #[.int .i64 0,.int .i64 0,.bool false,.int .i64 0,.int .i64 0,.slice none 0 0] 77] w 0 _ rfl
 have HA2:Hid (((w.alloc (.cells #[.int .i64 k,.int .i64 lg,.int .i64 at_,.slice va n cp] 70)).alloc (.cells #[.int .i64 0,.int .i64 0,.bool false,.int .i64 0,.int .i64 0,.slice none 0 0] 77)).heap[w.heap.size+1]?=some (.cells #[.int .i64 0,.int .i64 0,.bool false,.int .i64 0,.int .i64 0,.slice none 0 0] 77 (0,0))):=aAf [Obj.cells #[.int .i64 k,.int .i64 lg,.int .i64 at_,.slice va n cp] 70,Obj.cells #[.int .i64 0,.int .i64 0,.bool false,.int .i64 0,.int .i64 0,.slice none 0 0] 77] w 1 _ rfl
 have HS2:=hide (h.later HBX.out)
 have HBW:=hide h.bw
 have HX:=hide hM
 have hfa:=HS2.out.fate
 rw [hf] at hfa
 have HFT:=hide hfa
 have HNT:Hid (nt<w.heap.size):=by
  obtain ⟨lv,h1,_⟩:=h.n
  exact lt h1
 obtain ⟨lv,hn,_⟩:=HS2.out.n
 have HHS:=hide (has_yes hn hM)
 have c0:((w.alloc (.cells #[.int .i64 k,.int .i64 lg,.int .i64 at_,.slice va n cp] 70)).alloc (.cells #[.int .i64 0,.int .i64 0,.bool false,.int .i64 0,.int .i64 0,.slice none 0 0] 77)).cell? ⟨nt,0,none⟩=some (.slice (some ⟨gh,0,none⟩) M M):=aAa hn
 have xx:(i:Int)<(M:Int):=by omega
 have xx0:(0:Int)≤(i:Int):=by omega
 have xx1:¬ (i:Int)<0:=by omega
 have HE1:=hide he1
 have HDO:=hide hdo
 clear he1 hdo
 clear h hf hfa hn hM
 go_enter Tryz.func49,Tryz.ntmps49
 go_wp2_with fail
 refine HHS.out.mono ?_
 rintro e w2' ⟨rfl,rfl⟩
 generalize ((w.alloc (.cells #[.int .i64 k,.int .i64 lg,.int .i64 at_,.slice va n cp] 70)).alloc (.cells #[.int .i64 0,.int .i64 0,.bool false,.int .i64 0,.int .i64 0,.slice none 0 0] 77))=w2 at *
 generalize hn0:w.heap.size=n0 at *
 generalize hn1:n0+1=n1 at *
 have HN1:Hid (n0<n1):=by show n0<n1;omega
 go_wp2_with fail
 refine HFT.out.mono ?_
 rintro e w3 ⟨rfl,wv',h3,hf3,hk3⟩
 have HR3:Hid (w3.heap[n0]?=_):=(hk3 n0 (by have:=HNT.out;omega)).trans HR2.out
 have HA3:Hid (w3.heap[n1]?=_):=(hk3 n1 (by have:=HNT.out;have:=HN1.out;omega)).trans HA2.out
 have HS3:=hide h3
 have HF3:Hid (NsF B w w3):=(NsF.of (w':=w2) (by rw [hn0];exact HBX.out) (by rw [hn0];exact HBW.out)).trans hf3
 have HBC:Hid (B≤n1):=by show B≤n1;have:=HBW.out;have:=HN1.out;omega
 have HNW:Hid (n0≤n1):=by show n0≤n1;have:=HN1.out;omega
 clear h3 hf3 hk3 HFT HHS c0
 have HD4:=hide (by
  obtain ⟨hc,g1,g2⟩:=HS3.out.h
  exact host_do (w:=w3) HS3.out.m HS3.out.bw HX.out g1 (g2 i HX.out) HE1.out (fun k hk=>(HS3.out.m.El k hk).lt) (fun ww hw=>HDO.out ww (HF3.out.trans (NsF.of hw HS3.out.bw)).ft))
 have r40:w3.cell? ⟨n0,0,none⟩=some (.int .i64 k):=aAa HR3.out
 have r41:w3.cell? ⟨n0,1,none⟩=some (.int .i64 lg):=aAa HR3.out
 have r42:w3.cell? ⟨n0,2,none⟩=some (.int .i64 at_):=aAa HR3.out
 have r43:w3.cell? ⟨n0,3,none⟩=some (.slice va n cp):=aAa HR3.out
 go_wp2_with fail
 refine HD4.out.mono ?_
 rintro e w4 ⟨⟨sa1,sc1,rfl,hk4⟩,hM4,hN4,hb4,hE4⟩
 have HS4:=hide (HS3.out.did hM4 hN4 hb4 hE4)
 have HF4:=hide (HF3.out.trans (NsF.nd hN4 hb4))
 have HR4:Hid (w4.heap[n0]?=_):=hN4 n0 _ _ _ HR3.out (by decide) (by decide) (by decide) (by decide)
 have HA4:Hid (w4.heap[n1]?=_):=hN4 n1 _ _ _ HA3.out (by decide) (by decide) (by decide) (by decide)
 have HK4:=hide hk4
 clear hk4 hM4 hN4 hb4 hE4 HD4 r40 r41 r42 r43
 have z0:w4.cell? ⟨n1,0,none⟩=some (.int .i64 0):=aAa HA4.out
 have zf0:w4.frozen? ⟨n1,0,none⟩=false:=aAb HA4.out
 have z1:w4.cell? ⟨n1,1,none⟩=some (.int .i64 0):=aAa HA4.out
 have zf1:w4.frozen? ⟨n1,1,none⟩=false:=aAb HA4.out
 have z2:w4.cell? ⟨n1,2,none⟩=some (.bool false):=aAa HA4.out
 have zf2:w4.frozen? ⟨n1,2,none⟩=false:=aAb HA4.out
 have z3:w4.cell? ⟨n1,3,none⟩=some (.int .i64 0):=aAa HA4.out
 have zf3:w4.frozen? ⟨n1,3,none⟩=false:=aAb HA4.out
 have z4:w4.cell? ⟨n1,4,none⟩=some (.int .i64 0):=aAa HA4.out
 have zf4:w4.frozen? ⟨n1,4,none⟩=false:=aAb HA4.out
 have z5:w4.cell? ⟨n1,5,none⟩=some (.slice none 0 0):=aAa HA4.out
 have zf5:w4.frozen? ⟨n1,5,none⟩=false:=aAb HA4.out
 go_wp2
 (try simp only [Exit.inBlock,Exit.then])
 refine bodyPost_ret (aD6 rfl _ _ n1 _ rfl (set6 HA4.out) rfl) rfl ?_
 exact ⟨⟨sa1,sc1,rfl,HK4.out.ft (ft6 HA4.out (by decide) HBC.out)⟩,wv',HS4.out.wr6 HA4.out HBC.out,HF4.out.wr6 (by rw [hn0];exact HNW.out) HBC.out⟩
def StK (g:Nat) (w w':World):Prop:=∀ (k:Nat) (cs:Array Value) (t:TypeId) (fz:Nat×Nat),w.heap[k]?=some (Obj.cells cs t fz)→NT t→k≠g→w'.heap[k]?=some (Obj.cells cs t fz)
theorem StK.trans {g:Nat} {a b c:World} (h:StK g a b) (k:StK g b c):StK g a c:=fun i cs t fz e n1 n2=>k i cs t fz (h i cs t fz e n1 n2) n1 n2
theorem host_start {B n M:Nat} {P:Nat→NdP} {A:Nat→NdS} {E:Nat→Prop} {W w:World} {p gh i:Nat} {hc:Array Value} (h:MNE B n M P A E W p (DS.new n) w) (hB:B≤w.heap.size) (hW:Below B W w) (h3:3≤n) (h4:n≤4096) (hh:w.heap[gh]?=some (.cells hc 53 (0,0))) (hgB:B≤gh) (hc0:hc[i*2]?=some (.pointer (some ⟨p,0,none⟩))) (hc1:i*2+1<hc.size) :
  Calls Tryz.prog 18 #[.pointer (some ⟨gh,i*2,none⟩)] w fun e w'=>∃ x:NdP,e=.returned (.int .i64 0)∧MND B n (M+1) (upS P M x) (upS A M ⟨0,[],fun _=>(0,0,false)⟩) E W w'∧w'.heap[gh]?=some (.cells (hc.setIfInBounds (i*2+1) (.pointer (some ⟨x.nd,0,none⟩))) 53 (0,0))∧Below B w w'∧StK gh w w':=by
 have lt:∀ {k:Nat} {o:Obj} {ww:World},ww.heap[k]?=some o→k<ww.heap.size:=fun e=>(lO e)
 have HC1:=hide (h.call (s':=(DS.new n).restart) (fun S hd=>@restart_any ⟨S⟩ B p (DS.new n) w hd hB))
 have HB:=hide hB
 have HW:=hide hW
 have H3:=hide h3
 have H4:=hide h4
 have HH:=hide hh
 have HG:=hide hgB
 have HC0:=hide hc0
 have HCS:=hide hc1
 have c0:w.cell? ⟨gh,i*2,none⟩=some (.pointer (some ⟨p,0,none⟩)):=(aAa hh).trans hc0
 clear h hB hW h3 h4 hh hgB hc0 hc1
 go_enter Tryz.func18,Tryz.ntmps18
 go_wp2_with fail
 refine HC1.out.mono ?_
 rintro e w1 ⟨rfl,h1,hb1,hs1⟩
 have HM1:Hid (MNE B n M P A E W p (DS.new n) w1):=h1
 have HH1:Hid (w1.heap[gh]?=_):=hs1 _ _ _ _ HH.out (by decide)
 have HB1:Hid (Below B w w1):=hb1
 have HS1:Hid (StK gh w w1):=fun k cs t fz e ht _=>hs1 k cs t fz e ht
 have hB1:B≤w1.heap.size:=nT HB.out hb1.size
 have HC2:=hide (HM1.out.call (s':=(DS.new n).arm 0 0 0 0) (fun S hd=>@arm_any ⟨S⟩ B p (DS.new n) 0 0 0 0 w1 hd hB1 (by decide) (by decide)))
 have c1:w1.cell? ⟨gh,i*2,none⟩=some (.pointer (some ⟨p,0,none⟩)):=(aAa HH1.out).trans HC0.out
 clear h1 hb1 hs1 hB1 HC1 c0 HM1
 go_wp2_with fail
 refine HC2.out.mono ?_
 rintro e w2 ⟨rfl,h2,hb2,hs2⟩
 have HM2:Hid (MNE B n M P A E W p (DS.new n) w2):=h2
 have HH2:Hid (w2.heap[gh]?=_):=hs2 _ _ _ _ HH1.out (by decide)
 have HB2:Hid (Below B w w2):=HB1.out.trans hb2
 have HS2:Hid (StK gh w w2):=HS1.out.trans fun k cs t fz e ht _=>hs2 k cs t fz e ht
 have HC3:=hide (HM2.out.open (nT HB.out HB2.out.size) (HW.out.trans HB2.out) H3.out H4.out)
 have c2:w2.cell? ⟨gh,i*2,none⟩=some (.pointer (some ⟨p,0,none⟩)):=(aAa HH2.out).trans HC0.out
 clear h2 hb2 hs2 HC2 c1 HM2 HH1 HB1 HS1
 go_wp2_with fail
 refine HC3.out.mono ?_
 rintro e w3 ⟨x,rfl,_,h3,hb3,hs3⟩
 have HM3:=hide h3
 have HH3:Hid (w3.heap[gh]?=_):=hs3 _ _ _ _ HH2.out (by decide)
 have HB3:Hid (Below B w w3):=HB2.out.trans hb3
 have HS3:Hid (StK gh w w3):=HS2.out.trans fun k cs t fz e ht _=>hs3 k cs t fz e ht
 have c3:w3.cell? ⟨gh,i*2+1,none⟩=some (hc[i*2+1]'HCS.out):=(aAa HH3.out).trans (Array.getElem?_eq_getElem _)
 have f3:w3.frozen? ⟨gh,i*2+1,none⟩=false:=aAb HH3.out
 clear h3 hb3 hs3 HC3 c2 HH2 HB2 HS2
 generalize hc[i*2+1]'HCS.out=old at *
 go_wp2
 go_ret
 refine ⟨x,rfl,HM3.out.wrO HH3.out HG.out (by unfold DTy;decide) (by decide) (by decide) (by decide) (by decide),heap_setCell_same _ _ _ _ _ _ HH3.out,HB3.out.setCell (p:=⟨gh,i*2+1,none⟩) HG.out _,fun k cs t fz e n1 n2=>(heap_setCell_other _ _ _ _ n2).trans (HS3.out k cs t fz e n1 n2)⟩
def nd0:Nat→NdS:=fun _=>⟨0,[],fun _=>(0,0,false)⟩
theorem nd0_up (M:Nat):upS nd0 M ⟨0,[],fun _=>(0,0,false)⟩=nd0:=by
 funext j
 unfold upS nd0
 split<;>rfl
structure NWI (B n j M nt gh:Nat) (P:Nat→NdP) (hc:Array Value) (W w wx:World):Prop where
 m:MND B n j P nd0 (fun _=>False) W wx
 h:wx.heap[gh]?=some (.cells hc 53 (0,0))
 z:hc.size=M*2
 c:∀ q,q<j→hc[q*2+1]?=some (.pointer (some ⟨(P q).nd,0,none⟩))
 n:NTM wx nt gh M (.slice none 0 0) (.slice none 0 0)
 b:Below B w wx
 s:∀ (k:Nat) (cs:Array Value) (t:TypeId) (fz:Nat×Nat),w.heap[k]?=some (Obj.cells cs t fz)→NT t→wx.heap[k]?=some (Obj.cells cs t fz)
theorem MNE.wrH {B N M:Nat} {P:Nat→NdP} {A:Nat→NdS} {E:Nat→Prop} {W w:World} {p g o:Nat} {s:DS} {u:Value} {cs:Array Value} (h:MNE B N M P A E W p s w) (hg:w.heap[g]?=some (.cells cs 53 (0,0))) (hB:B≤g):MNE B N M P A E W p s (w.setCell ⟨g,o,none⟩ u):=by
 obtain ⟨F,⟨⟨k1,hE⟩,k2⟩,hD⟩:=h
 have h0:¬ DTy 53:=by unfold DTy;decide
 have oth:∀ k,k≠g→(w.setCell ⟨g,o,none⟩ u).heap[k]?=w.heap[k]?:=fun k hk=>heap_setCell_other _ _ _ _ hk
 have ne:∀ {k:Nat} {cs':Array Value} {t':TypeId} {fz:Nat×Nat},w.heap[k]?=some (Obj.cells cs' t' fz)→53≠t'→k≠g:=by
  intro k cs' t' fz e ht e3
  subst e3
  rw [hg] at e
  simp only [oI,cI] at e
  exact ht e.2.1
 refine ⟨F,⟨⟨fun i hi=>?_,fun k hk=>⟨(hE k hk).1.same (oth k ((hE k hk).1.ne hg h0)),(hE k hk).2⟩⟩,k2⟩,?_⟩
 ·obtain ⟨⟨d1,⟨c1,d2⟩,⟨c2,d3⟩,⟨c3,d4⟩⟩,⟨_,c5,d5,_⟩,_⟩:=k1 i hi
  exact (k1 i hi).keep (fun k hk=>oth k ((d1 k hk).ne hg h0)) (fun k cs fz e=>(oth k (ne e (by decide))).trans e) (oth _ (ne d2 (by decide))) (oth _ (ne d3 (by decide))) (oth _ (ne d4 (by decide))) ((Below.refl _ _).setCell (p:=⟨g,o,none⟩) hB u) (oth _ (ne d5 (by decide)))
 ·letI:Gd:=⟨fun k=>E k∨∃ j,j<M∧F j k⟩
  refine hD.other hg (by decide) (by decide) (by decide) (by decide) (by decide) (fun hk=>?_)
  rcases hk with hk | ⟨i,hi,hk⟩
  ·exact (hE g hk).1.ne hg h0 rfl
  ·exact ((k1 i hi).1.1 g hk).ne hg h0 rfl
theorem info_host:(Tryz.prog.info? 53).map (fun i=>(i.zero,i.size,i.bytes))=some (some (.agg #[.pointer none,.pointer none]),2,16):=by kernel_rfl
theorem net_new {B n M:Nat} {W w:World} (hB:B≤w.heap.size) (hW:Below B W w) (hM1:1≤M) (hM5:M≤5) (h3:3≤n) (h4:n≤4096) :
  Calls Tryz.prog 6 #[.int .i64 (M:Int),.int .i64 (n:Int)] w fun e w'=>∃ nt gh P,e=.returned (.tuple #[.pointer (some ⟨nt,0,none⟩),.int .i64 0])∧NSw B n M nt gh P nd0 (.slice none 0 0) [] [] W w'∧NsF B w w':=by
 obtain ⟨i0,hi,hz0,hz1,hz2⟩:=info_parts info_host
 have lt:∀ {k:Nat} {o:Obj} {ww:World},ww.heap[k]?=some o→k<ww.heap.size:=fun e=>(lO e)
 have HB:=hide hB
 have HW:=hide hW
 have H3:=hide h3
 have H4:=hide h4
 have d1:decide ((M:Int)<1)=false:=decide_eq_false (by omega)
 have d2:decide ((5:Int)<(M:Int))=false:=decide_eq_false (by omega)
 have d3:decide ((n:Int)<3)=false:=decide_eq_false (by omega)
 have d4:decide ((4096:Int)<(n:Int))=false:=decide_eq_false (by omega)
 clear hB hW h3 h4
 go_enter Tryz.func6,Tryz.ntmps6
 go_wp2_with (refine wpList_make_full w rfl _ _ 45 rfl w.heap.size 53 i0 (.agg #[.pointer none,.pointer none]) 2 Tryz.underlying45 hi hz0 hz1 .i64 .i64 M M M rfl rfl rfl rfl (by rw [hz2];omega) (by unfold maxLen;omega) (nR _) ?_;intro w1 ho1 hg1;have HO1:=hide (aF8 ho1);have HG1:=hide ((Below.refl w.heap.size w).grown hg1 (nR _) (fun k hk=>by cases hk));clear ho1 hg1)
 have HN2:Hid (NTM (w1.alloc (.cells #[.slice (some ⟨w.heap.size,0,none⟩) M M,.slice none 0 0,.slice none 0 0] 47)) w1.heap.size w.heap.size M (.slice none 0 0) (.slice none 0 0)):=heap_alloc_new w1 _
 have HBX:=hide (aAc w1 (.cells #[.slice (some ⟨w.heap.size,0,none⟩) M M,.slice none 0 0,.slice none 0 0] 47))
 have HH2:=hide ((HBX.out.block _ (lt HO1.out.1)).trans HO1.out.1)
 have HSZ:Hid ((madeCells (Value.agg #[Value.pointer none,Value.pointer none]).cells (M*2)).toList.toArray.size=M*2):=by show _=_;simp [size_madeCells]
 have HB2:Hid (Below w.heap.size w (w1.alloc (.cells #[.slice (some ⟨w.heap.size,0,none⟩) M M,.slice none 0 0,.slice none 0 0] 47))):=HG1.out.trans (HBX.out.mono HG1.out.size)
 have HNT:Hid (w.heap.size<w1.heap.size):=lt HO1.out.1
 clear HO1 HG1 HBX
 generalize (madeCells (Value.agg #[Value.pointer none,Value.pointer none]).cells (M*2)).toList.toArray=hc0 at *
 generalize w1.alloc (.cells #[.slice (some ⟨w.heap.size,0,none⟩) M M,.slice none 0 0,.slice none 0 0] 47)=w2 at *
 generalize w1.heap.size=nt at *
 generalize hgh:w.heap.size=gh at *
 go_loopw [34] (fun i wx=>∃ j:Nat,j≤M∧i=.int .i64 j∧∃ P hc,NWI B n j M nt gh P hc W w wx) (fun i _=>M-(intOf i).toNat)
 case atStart=>exact ⟨0,by omega,rfl,fun _=>⟨0,0,0,0,0,0⟩,hc0,⟨MND.nil _ _ _ _ _ _,HH2.out,HSZ.out,fun q hq=>absurd hq (by omega),HN2.out,HB2.out.mono HB.out,fun k cs t fz e _=>(HB2.out.block k (by rw [←hgh];exact lt e)).trans e⟩⟩
 case round =>
  obtain ⟨j,hj,rfl,P,hc,hI⟩:=hrel
  have HI:=hide hI
  clear hI HN2 HH2 HSZ HB2
  have c0:wr.cell? ⟨nt,0,none⟩=some (.slice (some ⟨gh,0,none⟩) M M):=aAa HI.out.n
  by_cases hjn:j<M
  ·have i1:(j:Int)<(M:Int):=by omega
   have i2:(0:Int)≤(j:Int):=by omega
   have i3:(j:Int)<1000:=by omega
   have hBr:B≤wr.heap.size:=nT (by rw [hgh];exact HB.out) HI.out.b.size
   have HDK:=hide (HI.out.m.disk hBr (n:=n) (by have:=H3.out;omega) H4.out)
   clear hBr
   go_wp2_with fail
   refine HDK.out.mono ?_
   rintro e w3 ⟨p,rfl,h3,hb3⟩
   have HM3:=hide h3
   have HH3:Hid (w3.heap[gh]?=_):=(hb3.block gh (lt HI.out.h)).trans HI.out.h
   have HN3:Hid (w3.heap[nt]?=_):=(hb3.block nt (lt HI.out.n)).trans HI.out.n
   have HB3:Hid (Below B w w3):=HI.out.b.trans (hb3.mono (nT (by rw [hgh];exact HB.out) HI.out.b.size))
   have HS3:Hid (∀ (k:Nat) (cs:Array Value) (t:TypeId) (fz:Nat×Nat),w.heap[k]?=some (Obj.cells cs t fz)→NT t→w3.heap[k]?=some (Obj.cells cs t fz)):=fun k cs t fz e ht=>(hb3.block k (lt (HI.out.s k cs t fz e ht))).trans (HI.out.s k cs t fz e ht)
   have hz9:hc.size=M*2:=HI.out.z
   have d0:w3.cell? ⟨nt,0,none⟩=some (.slice (some ⟨gh,0,none⟩) M M):=aAa HN3.out
   have d1:w3.cell? ⟨gh,j*2,none⟩=some (hc[j*2]'(by omega)):=(aAa HH3.out).trans (Array.getElem?_eq_getElem _)
   have f1:w3.frozen? ⟨gh,j*2,none⟩=false:=aAb HH3.out
   generalize hc[j*2]'(by omega)=old at d1
   have HGB:Hid (B≤gh):=HB.out
   have HM4:=hide (HM3.out.wrH (o:=j*2) (u:=.pointer (some ⟨p,0,none⟩)) HH3.out HGB.out)
   have HH4:=hide (heap_setCell_same w3 gh (j*2) hc 53 (.pointer (some ⟨p,0,none⟩)) HH3.out)
   have HN4:Hid ((w3.setCell ⟨gh,j*2,none⟩ (.pointer (some ⟨p,0,none⟩))).heap[nt]?=_):=(heap_setCell_other _ _ _ _ (show nt≠gh by have:=HNT.out;omega)).trans HN3.out
   have HB4:Hid (Below B w (w3.setCell ⟨gh,j*2,none⟩ (.pointer (some ⟨p,0,none⟩)))):=HB3.out.setCell (p:=⟨gh,j*2,none⟩) HGB.out _
   have HS4:Hid (∀ (k:Nat) (cs:Array Value) (t:TypeId) (fz:Nat×Nat),w.heap[k]?=some (Obj.cells cs t fz)→NT t→(w3.setCell ⟨gh,j*2,none⟩ (.pointer (some ⟨p,0,none⟩))).heap[k]?=some (Obj.cells cs t fz)):=fun k cs t fz e ht=>(heap_setCell_other _ _ _ _ (show k≠gh by have:=lt e;omega)).trans (HS3.out k cs t fz e ht)
   have HZ:=hide hz9
   clear h3 hb3 hz9 HDK c0 HH3 HN3 HB3 HS3 HM3
   go_upto_region 11 with fail
   clear d0 d1 f1
   generalize w3.setCell ⟨gh,j*2,none⟩ (.pointer (some ⟨p,0,none⟩))=w4 at *
   have d0:w4.cell? ⟨nt,0,none⟩=some (.slice (some ⟨gh,0,none⟩) M M):=aAa HN4.out
   have HST:=hide (host_start (i:=j) HM4.out (nT (by rw [hgh];exact HB.out) HB4.out.size) (HW.out.trans HB4.out) H3.out H4.out HH4.out HGB.out (Array.getElem?_setIfInBounds_self_of_lt (by have:=HZ.out;omega)) (by rw [Array.size_setIfInBounds];have:=HZ.out;omega))
   go_wp2_with fail
   refine HST.out.mono ?_
   rintro e w5 ⟨x,rfl,h5,hh5,hb5,hs5⟩
   have HX:Hid (∃ P hc,NWI B n (j+1) M nt gh P hc W w w5):=by
    rw [nd0_up] at h5
    refine ⟨upS P j x,_,⟨h5,hh5,by simp only [Array.size_setIfInBounds];exact HZ.out,fun q hq=>?_,hs5 _ _ _ _ HN4.out (by decide) (by have:=HNT.out;omega),HB4.out.trans hb5,fun k cs t fz e ht=>hs5 k cs t fz (HS4.out k cs t fz e ht) ht (by have:=lt e;omega)⟩⟩
    by_cases e:q=j
    ·subst e
     rw [aB3]
     exact Array.getElem?_setIfInBounds_self_of_lt (by rw [Array.size_setIfInBounds];have:=HZ.out;omega)
    ·rw [aBi _ _ e,Array.getElem?_setIfInBounds_ne (by omega),Array.getElem?_setIfInBounds_ne (by omega)]
     exact HI.out.c q (by omega)
   clear h5 hh5 hb5 hs5 HST
   go_wp2_with fail
   go_roundw
   case rel=>exact ⟨j+1,by omega,by go_num,HX.out⟩
   case measure=>simp [intOf];omega
  ·have i1:¬ (j:Int)<(M:Int):=by omega
   have hjM:j=M:=by omega
   subst hjM
   go_wp2
   go_ret2
   refine ⟨nt,rfl,⟨gh,P,⟨HI.out.m.less (fun k hk=>?_),WV.nil _ _,⟨_,HI.out.n,LTV.nil _ _⟩,⟨hc,HI.out.h,HI.out.c⟩,by have:=HNT.out;have:=HB.out;omega,nT (by rw [hgh];exact HB.out) HI.out.b.size⟩⟩,HI.out.b,fun k cs t fz e n1 _ _ _ _=>HI.out.s k cs t fz e n1⟩
   have hk:(none:Option Nat)=some k:=hk
   cases hk
structure AsF (B gb:Nat) (w w':World):Prop where
 bel:Below B w w'
 stay:∀ (k:Nat) (cs:Array Value) (t:TypeId) (fz:Nat×Nat),w.heap[k]?=some (Obj.cells cs t fz)→NT t→t≠185→t≠132→(t≠117∧t≠137)→(t≠47∧t≠72)→k≠gb→w'.heap[k]?=some (Obj.cells cs t fz)
theorem AsF.trans {B gb:Nat} {a b c:World} (h:AsF B gb a b) (k:AsF B gb b c):AsF B gb a c:=⟨h.1.trans k.1,fun i cs t fz e n1 n2 n3 n4 n5 n6=>k.2 i cs t fz (h.2 i cs t fz e n1 n2 n3 n4 n5 n6) n1 n2 n3 n4 n5 n6⟩
theorem AsF.ns {B gb:Nat} {w w':World} (h:NsF B w w'):AsF B gb w w':=⟨h.1,fun i cs t fz e n1 n2 n3 n4 n5 _=>h.2 i cs t fz e n1 n2 n3 n4 n5⟩
theorem AsF.ft {B gb:Nat} {w w':World} {cs:Array Value} {fz:Nat×Nat} (h:AsF B gb w w') (hg:w.heap[gb]?=some (.cells cs 62 fz)):FT B w w':=⟨h.1,fun k cs' fz' e=>h.2 k cs' _ fz' e (by decide) (by decide) (by decide) (by decide) (by decide) (aAr e hg (by decide))⟩
def ANR (B:Nat) (w:World) (cs:Array Value) (n:Nat) (ae tl bl:Int) (vn:Nat) (val:List Nat):Prop:=∀ i,i<n→∃ sa sc,cs[i*6]?=some (.int .i64 ae)∧cs[i*6+1]?=some (.int .i64 tl)∧cs[i*6+2]?=some (.bool false)∧cs[i*6+3]?=some (.int .i64 0)∧cs[i*6+4]?=some (.int .i64 bl)∧cs[i*6+5]?=some (.slice sa vn sc)∧BK B w sa vn sc val
def asx (X A:Nat→NdS) (j:Nat):Nat→NdS:=fun i=>if i<j then X i else A i
theorem asx_at (X A:Nat→NdS) (j:Nat):asx X A j j=A j:=if_neg (Nat.lt_irrefl j)
theorem asx_up (X A:Nat→NdS) (j:Nat):upS (asx X A j) j (X j)=asx X A (j+1):=by
 funext i
 unfold upS asx
 by_cases h:i=j
 ·subst h
  rw [if_pos rfl,if_pos (Nat.lt_succ_self i)]
 ·rw [if_neg h]
  by_cases h2:i<j
  ·rw [if_pos h2,if_pos (by omega)]
  ·rw [if_neg h2,if_neg (by omega)]
theorem asx_zero (X A:Nat→NdS):asx X A 0=A:=by
 funext i
 exact if_neg (Nat.not_lt_zero i)
structure ASI (B N M nt gh gb g j v:Nat) (P:Nat→NdP) (A X:Nat→NdS) (l:List LR) (who pr ae tl bl:Int) (vn:Nat) (val:List Nat) (W w0 wx:World):Prop where
 s:∃ wv,NSw B N M nt gh P (asx X A j) wv [] l W wx
 b:wx.heap[gb]?=some (.cells #[.pointer (some ⟨nt,0,none⟩),.int .i64 (v:Int),.int .i64 who,.int .i64 (if j=0 then pr else max pr tl)] 62 (0,0))
 r:∃ cs,wx.heap[g]?=some (.cells cs 77 (0,0))∧cs.size=M*6∧ANR B wx cs j ae tl bl vn val
 f:AsF B gb w0 wx
theorem NSw.set1 {B N M nt gh:Nat} {P:Nat→NdP} {A:Nat→NdS} {wv:Value} {F:List Int} {l:List LR} {W w:World} (h:NSw B N M nt gh P A wv F l W w) {g o:Nat} {u:Value} {cs:Array Value} {t:TypeId} (hg:w.heap[g]?=some (.cells cs t (0,0))) (hB:B≤g) (h0:¬ DTy t) (h1:t≠5) (h2:t≠185) (h3:t≠132) (h4:t≠117∧t≠137) (h5:t≠47∧t≠72∧t≠53):NSw B N M nt gh P A wv F l W (w.setCell ⟨g,o,none⟩ u):=by
 obtain ⟨lv,k1,k2⟩:=h.n
 obtain ⟨hc,k3,k4⟩:=h.h
 have hb:Below B w (w.setCell ⟨g,o,none⟩ u):=(Below.refl _ _).setCell (p:=⟨g,o,none⟩) hB u
 have st:∀ {k:Nat} {cs':Array Value} {t':TypeId} {fz:Nat×Nat},w.heap[k]?=some (Obj.cells cs' t' fz)→t'≠t→(w.setCell ⟨g,o,none⟩ u).heap[k]?=some (Obj.cells cs' t' fz):=fun e ht=>(heap_setCell_other _ _ _ _ (aAr e hg ht)).trans e
 exact ⟨h.m.wrO hg hB h0 h1 h2 h3 h4,h.f.same fun k hk=>heap_setCell_other _ _ _ _ ((h.m.El k hk).ne hg h0),⟨lv,st k1 (Ne.symm h5.1),k2.keep (fun k cs e=>st e (Ne.symm h5.2.1)) ⟨hb,fun k cs fz e=>st e (Ne.symm h1)⟩⟩,⟨hc,st k3 (Ne.symm h5.2.2),k4⟩,h.b,nT h.bw hb.size⟩
section
variable {w w0:World} {g o k B:Nat} {cs:Array Value} {b0 b1 b2 b3 b4 b5:Value} {t:TypeId}
theorem set6o (h:w.heap[g]?=some (.cells cs t (0,0))):((((((w.setCell ⟨g,o,none⟩ b0).setCell ⟨g,o+1,none⟩ b1).setCell ⟨g,o+2,none⟩ b2).setCell ⟨g,o+3,none⟩ b3).setCell ⟨g,o+4,none⟩ b4).setCell ⟨g,o+5,none⟩ b5).heap[g]?=some (.cells ((((((cs.setIfInBounds o b0).setIfInBounds (o+1) b1).setIfInBounds (o+2) b2).setIfInBounds (o+3) b3).setIfInBounds (o+4) b4).setIfInBounds (o+5) b5) t (0,0)):=heap_setCell_same _ _ _ _ _ _ (heap_setCell_same _ _ _ _ _ _ (heap_setCell_same _ _ _ _ _ _ (heap_setCell_same _ _ _ _ _ _ (heap_setCell_same _ _ _ _ _ _ (heap_setCell_same _ _ _ _ _ _ h)))))
theorem bel6o (hb:Below B w0 w) (hg:B≤g):Below B w0 ((((((w.setCell ⟨g,o,none⟩ b0).setCell ⟨g,o+1,none⟩ b1).setCell ⟨g,o+2,none⟩ b2).setCell ⟨g,o+3,none⟩ b3).setCell ⟨g,o+4,none⟩ b4).setCell ⟨g,o+5,none⟩ b5):=(((((hb.setCell (p:=⟨g,o,none⟩) hg _).setCell (p:=⟨g,o+1,none⟩) hg _).setCell (p:=⟨g,o+2,none⟩) hg _).setCell (p:=⟨g,o+3,none⟩) hg _).setCell (p:=⟨g,o+4,none⟩) hg _).setCell (p:=⟨g,o+5,none⟩) hg _
theorem oth6o (hne:k≠g):((((((w.setCell ⟨g,o,none⟩ b0).setCell ⟨g,o+1,none⟩ b1).setCell ⟨g,o+2,none⟩ b2).setCell ⟨g,o+3,none⟩ b3).setCell ⟨g,o+4,none⟩ b4).setCell ⟨g,o+5,none⟩ b5).heap[k]?=w.heap[k]?:=by
 rw [heap_setCell_other _ _ _ _ hne,heap_setCell_other _ _ _ _ hne,heap_setCell_other _ _ _ _ hne,heap_setCell_other _ _ _ _ hne,heap_setCell_other _ _ _ _ hne,heap_setCell_other _ _ _ _ hne]
theorem ft6o (h:w.heap[g]?=some (.cells cs t (0,0))) (ht:t≠5) (hB:B≤g):FT B w ((((((w.setCell ⟨g,o,none⟩ b0).setCell ⟨g,o+1,none⟩ b1).setCell ⟨g,o+2,none⟩ b2).setCell ⟨g,o+3,none⟩ b3).setCell ⟨g,o+4,none⟩ b4).setCell ⟨g,o+5,none⟩ b5):=⟨bel6o (Below.refl _ _) hB,fun k cs' fz e=>(oth6o (aAr e h (Ne.symm ht))).trans e⟩
theorem at6o (hk:k<o∨o+6≤k):((((((cs.setIfInBounds o b0).setIfInBounds (o+1) b1).setIfInBounds (o+2) b2).setIfInBounds (o+3) b3).setIfInBounds (o+4) b4).setIfInBounds (o+5) b5)[k]?=cs[k]?:=by
 rw [Array.getElem?_setIfInBounds_ne (by omega),Array.getElem?_setIfInBounds_ne (by omega),Array.getElem?_setIfInBounds_ne (by omega),Array.getElem?_setIfInBounds_ne (by omega),Array.getElem?_setIfInBounds_ne (by omega),Array.getElem?_setIfInBounds_ne (by omega)]
theorem at6o0 (hk:o+6≤cs.size):((((((cs.setIfInBounds o b0).setIfInBounds (o+1) b1).setIfInBounds (o+2) b2).setIfInBounds (o+3) b3).setIfInBounds (o+4) b4).setIfInBounds (o+5) b5)[o]?=some b0:=by
 rw [Array.getElem?_setIfInBounds_ne (by omega),Array.getElem?_setIfInBounds_ne (by omega),Array.getElem?_setIfInBounds_ne (by omega),Array.getElem?_setIfInBounds_ne (by omega),Array.getElem?_setIfInBounds_ne (by omega),Array.getElem?_setIfInBounds_self_of_lt (by omega)]
theorem at6o1 (hk:o+6≤cs.size):((((((cs.setIfInBounds o b0).setIfInBounds (o+1) b1).setIfInBounds (o+2) b2).setIfInBounds (o+3) b3).setIfInBounds (o+4) b4).setIfInBounds (o+5) b5)[o+1]?=some b1:=by
 rw [Array.getElem?_setIfInBounds_ne (by omega),Array.getElem?_setIfInBounds_ne (by omega),Array.getElem?_setIfInBounds_ne (by omega),Array.getElem?_setIfInBounds_ne (by omega),Array.getElem?_setIfInBounds_self_of_lt (by simp only [Array.size_setIfInBounds];omega)]
theorem at6o2 (hk:o+6≤cs.size):((((((cs.setIfInBounds o b0).setIfInBounds (o+1) b1).setIfInBounds (o+2) b2).setIfInBounds (o+3) b3).setIfInBounds (o+4) b4).setIfInBounds (o+5) b5)[o+2]?=some b2:=by
 rw [Array.getElem?_setIfInBounds_ne (by omega),Array.getElem?_setIfInBounds_ne (by omega),Array.getElem?_setIfInBounds_ne (by omega),Array.getElem?_setIfInBounds_self_of_lt (by simp only [Array.size_setIfInBounds];omega)]
theorem at6o3 (hk:o+6≤cs.size):((((((cs.setIfInBounds o b0).setIfInBounds (o+1) b1).setIfInBounds (o+2) b2).setIfInBounds (o+3) b3).setIfInBounds (o+4) b4).setIfInBounds (o+5) b5)[o+3]?=some b3:=by
 rw [Array.getElem?_setIfInBounds_ne (by omega),Array.getElem?_setIfInBounds_ne (by omega),Array.getElem?_setIfInBounds_self_of_lt (by simp only [Array.size_setIfInBounds];omega)]
theorem at6o4 (hk:o+6≤cs.size):((((((cs.setIfInBounds o b0).setIfInBounds (o+1) b1).setIfInBounds (o+2) b2).setIfInBounds (o+3) b3).setIfInBounds (o+4) b4).setIfInBounds (o+5) b5)[o+4]?=some b4:=by
 rw [Array.getElem?_setIfInBounds_ne (by omega),Array.getElem?_setIfInBounds_self_of_lt (by simp only [Array.size_setIfInBounds];omega)]
theorem at6o5 (hk:o+6≤cs.size):((((((cs.setIfInBounds o b0).setIfInBounds (o+1) b1).setIfInBounds (o+2) b2).setIfInBounds (o+3) b3).setIfInBounds (o+4) b4).setIfInBounds (o+5) b5)[o+5]?=some b5:=by
 rw [Array.getElem?_setIfInBounds_self_of_lt (by simp only [Array.size_setIfInBounds];omega)]
end
theorem NSw.set6A {B N M nt gh:Nat} {P:Nat→NdP} {A:Nat→NdS} {wv:Value} {F:List Int} {l:List LR} {W w:World} (h:NSw B N M nt gh P A wv F l W w) {g o:Nat} {b0 b1 b2 b3 b4 b5:Value} {cs:Array Value} (hg:w.heap[g]?=some (.cells cs 77 (0,0))) (hB:B≤g):NSw B N M nt gh P A wv F l W ((((((w.setCell ⟨g,o,none⟩ b0).setCell ⟨g,o+1,none⟩ b1).setCell ⟨g,o+2,none⟩ b2).setCell ⟨g,o+3,none⟩ b3).setCell ⟨g,o+4,none⟩ b4).setCell ⟨g,o+5,none⟩ b5):=by
 have d:¬ DTy 77:=by unfold DTy;decide
 have s1:=heap_setCell_same w g o _ _ b0 hg
 have s2:=heap_setCell_same _ g (o+1) _ _ b1 s1
 have s3:=heap_setCell_same _ g (o+2) _ _ b2 s2
 have s4:=heap_setCell_same _ g (o+3) _ _ b3 s3
 have s5:=heap_setCell_same _ g (o+4) _ _ b4 s4
 exact (((((h.set1 hg hB d (by decide) (by decide) (by decide) (by decide) (by decide)).set1 s1 hB d (by decide) (by decide) (by decide) (by decide) (by decide)).set1 s2 hB d (by decide) (by decide) (by decide) (by decide) (by decide)).set1 s3 hB d (by decide) (by decide) (by decide) (by decide) (by decide)).set1 s4 hB d (by decide) (by decide) (by decide) (by decide) (by decide)).set1 s5 hB d (by decide) (by decide) (by decide) (by decide) (by decide)
structure ASJ (B N M nt gh gb g j n2 v:Nat) (P:Nat→NdP) (A X:Nat→NdS) (l:List LR) (who pq ae tl bl:Int) (vn:Nat) (sa:Option Addr) (sc:Nat) (val:List Nat) (cs:Array Value) (wv:Value) (W w0 wr wx:World):Prop where
 s:NSw B N M nt gh P (asx X A (j+1)) wv [] l W wx
 c:wx.heap[n2]?=some (.cells #[.int .i64 ae,.int .i64 tl,.bool false,.int .i64 0,.int .i64 bl,.slice sa vn sc] 77 (0,0))
 b:wx.heap[gb]?=some (.cells #[.pointer (some ⟨nt,0,none⟩),.int .i64 (v:Int),.int .i64 who,.int .i64 pq] 62 (0,0))
 d:wx.heap[g]?=some (.cells cs 77 (0,0))
 k:BK B wx sa vn sc val
 t:FT B wr wx
 f:AsF B gb w0 wx
 g1:g<n2∧gb<n2∧w0.heap.size≤n2
 g2:B≤n2
theorem info_ans6:(Tryz.prog.info? 77).map (fun i=>(i.zero,i.size,i.bytes))=some (some (.agg #[.int .i64 0,.int .i64 0,.bool false,.int .i64 0,.int .i64 0,.slice none 0 0]),6,64):=by kernel_rfl
theorem nodes_any {w:World} {nt gh M:Nat} {wv lv:Value} (h:NTM w nt gh M wv lv):Calls Tryz.prog 34 #[.pointer (some ⟨nt,0,none⟩)] w fun e w'=>e=.returned (.int .i64 (M:Int))∧w'=w:=by
 have c0:w.cell? ⟨nt,0,none⟩=some (.slice (some ⟨gh,0,none⟩) M M):=aAa h
 go_enter Tryz.func34,Tryz.ntmps34
 go_wp2
 go_ret
 exact ⟨rfl,rfl⟩
theorem made_all {w:World} {B g n sz:Nat} {e:TypeId} {xs:List Value} (h:w.ownsRow B e sz (.slice (some ⟨g,0,none⟩) n n) n xs):∃ cs,w.heap[g]?=some (.cells cs e (0,0))∧cs.size=n*sz∧B≤g:=by
 rcases h.2 with ⟨e,_⟩ | ⟨g',cap,cur,e,h1,h2,h3,h4,h5,h6⟩
 ·cases e
 ·simp only [Value.slice.injEq,oI,Addr.mk.injEq,and_true,true_and] at e
  obtain ⟨rfl,rfl⟩:=e
  exact ⟨cur,h2,h5,h1⟩
theorem ask_any {B N M nt gh gb v b n cp vn:Nat} {P:Nat→NdP} {A X:Nat→NdS} {wv:Value} {l:List LR} {W w:World} {who pr kind ae tl bl:Int} {va:Option Addr} {val:List Nat} (h:NSw B N M nt gh P A wv [] l W w) (hM1:1≤M) (hM5:M≤5) (hb:w.heap[gb]?=some (.cells #[.pointer (some ⟨nt,0,none⟩),.int .i64 (v:Int),.int .i64 who,.int .i64 pr] 62 (0,0))) (hgB:B≤gb) (he:¬ ae=20)
  (hdo:∀ i,i<M→∀ ww,FT B w ww→DoT B N (P i) W kind (v:Int) (b:Int) va n cp (A i) (X i) ae tl false 0 bl vn val ww) :
  Calls Tryz.prog 37 #[.pointer (some ⟨gb,0,none⟩),.int .i64 kind,.int .i64 (b:Int),.slice va n cp] w fun e w'=>∃ g,e=.returned (.slice (some ⟨g,0,none⟩) M M)∧w.heap.size≤g∧ASI B N M nt gh gb g M v P A X l who pr ae tl bl vn val W w w':=by
 obtain ⟨i0,hi,hz0,hz1,hz2⟩:=info_parts info_ans6
 have lt:∀ {k:Nat} {o:Obj} {ww:World},ww.heap[k]?=some o→k<ww.heap.size:=fun e=>(lO e)
 have HND:=hide (by
  obtain ⟨lv,h1,_⟩:=h.n
  exact nodes_any h1)
 have HS:=hide h
 have HB:=hide hb
 have HGB:=hide hgB
 have HDO:=hide hdo
 have HE:=hide he
 have c0:w.cell? ⟨gb,0,none⟩=some (.pointer (some ⟨nt,0,none⟩)):=aAa hb
 clear h hb hgB hdo he
 go_enter Tryz.func37,Tryz.ntmps37
 go_wp2_with fail
 refine HND.out.mono ?_
 rintro e w0' ⟨rfl,hw⟩
 have hw:=hw.symm
 subst hw
 clear HND c0
 go_wp2_with (refine wpList_make_full w rfl _ _ 94 rfl w.heap.size 77 i0 (.agg #[.int .i64 0,.int .i64 0,.bool false,.int .i64 0,.int .i64 0,.slice none 0 0]) 6 Tryz.underlying94 hi hz0 hz1 .i64 .i64 M M M rfl rfl rfl rfl (by rw [hz2];omega) (by unfold maxLen;omega) (nR _) ?_;intro w1 ho1 hg1;have HO1:=hide (made_all ho1);have HG1:=hide ((Below.refl w.heap.size w).grown hg1 (nR _) (fun k hk=>by cases hk));clear ho1 hg1)
 generalize hg0:w.heap.size=g at *
 go_loopw [21] (fun i wx=>∃ j:Nat,j≤M∧i=.int .i64 j∧ASI B N M nt gh gb g j v P A X l who pr ae tl bl vn val W w wx) (fun i _=>M-(intOf i).toNat)
 case atStart =>
  have hb1:Below w.heap.size w w1:=by rw [hg0];exact HG1.out
  obtain ⟨cs,k1,k2,_⟩:=HO1.out
  refine ⟨0,by omega,rfl,⟨wv,by rw [asx_zero];exact HS.out.later hb1⟩,(HG1.out.block gb (by rw [←hg0];exact lt HB.out)).trans HB.out,⟨cs,k1,k2,fun i hi=>absurd hi (by omega)⟩,AsF.ns (NsF.of hb1 HS.out.bw)⟩
 case round =>
  obtain ⟨j,hj,rfl,hI⟩:=hrel
  have HI:=hide hI
  clear hI HO1 HG1
  by_cases hjn:j<M
  ·have i1:(j:Int)<(M:Int):=by omega
   have i2:(0:Int)≤(j:Int):=by omega
   have i3:(j:Int)<1000:=by omega
   obtain ⟨pq,HPQ⟩:∃ pq,Hid (pq=(if j=0 then pr else max pr tl)):=⟨_,rfl⟩
   have hbb:=HI.out.b
   rw [←HPQ.out] at hbb
   have HBB:=hide hbb
   obtain ⟨wv1,hs1⟩:=HI.out.s
   have HS1:=hide hs1
   obtain ⟨cs,hr1,hr2,hr3⟩:=HI.out.r
   have HR1:=hide hr1
   have HR2:=hide hr2
   have HR3:=hide hr3
   have HF1:=hide HI.out.f
   have HJN:=hide hjn
   have HGS:Hid (g<wr.heap.size):=lt hr1
   clear hbb hs1 hr1 hr2 hr3 HI
   go_upto_region 5 with fail
   go_cut [11,12,21] from 21 to 58 (fun p q i wx=>i=.int .i64 (j:Int)∧∃ n2 sa sc wv2,p=.pointer (some ⟨n2,0,none⟩)∧q=.bool true∧ASJ B N M nt gh gb g j n2 v P A X l who pq ae tl bl vn sa sc val cs wv2 W w wr wx)
   case first =>
    have hbd:Below wr.heap.size wr wr.drew:=(Below.refl _ _).drew
    have HFD:Hid (AsF B gb w wr.drew):=HF1.out.trans (AsF.ns (NsF.of hbd HS1.out.bw))
    have HTD:Hid (FT B wr wr.drew):=(NsF.of hbd HS1.out.bw).ft
    have HFT:Hid (FT B w wr):=HF1.out.ft HB.out
    have HSD:=hide (HS1.out.later hbd)
    have HCA:=hide ((show NSw B N M nt gh P (asx X A j) wv1 [] l W wr.drew from HSD.out).call0 (i:=j) (k:=kind) (lg:=(v:Int)) (at_:=(b:Int)) (va:=va) (n:=n) (cp:=cp) (x:=X j) HJN.out (by omega) rfl HE.out (fun ww hw=>by rw [asx_at];exact HDO.out j HJN.out ww ((HFT.out.trans HTD.out).trans hw)))
    have HX1:Hid ((fun wx=>wx.cell? ⟨gb,0,none⟩=some (.pointer (some ⟨nt,0,none⟩))∧wx.cell? ⟨gb,1,none⟩=some (.int .i64 (v:Int))) wr.drew):=⟨aAa (show wr.drew.heap[gb]?=_ from HBB.out),aAa (show wr.drew.heap[gb]?=_ from HBB.out)⟩
    clear hbd
    refine wp_region_noPanic ?_
    refine wp_region_held_drew (S:=fun wx=>wx.cell? ⟨gb,0,none⟩=some (.pointer (some ⟨nt,0,none⟩))∧wx.cell? ⟨gb,1,none⟩=some (.int .i64 (v:Int))) (by kernel_rfl) HX1.out (fun hHeld=>?_)
    refine wpAnyH_tk 0 25 ?_
    refine wpAnyH_tk 1 26 ?_
    refine wpAnyH_tk 2 27 ?_
    refine wpAnyH_tk 3 28 ?_
    refine wpAnyH_tk 4 29 ?_
    refine wpAnyH_tk 5 30 ?_
    refine wpAnyH_tk 6 31 ?_
    refine wpAnyH_tk 7 32 ?_
    refine wpAnyH_tk 8 33 ?_
    refine wpAnyH_tk 9 34 ?_
    refine wpAnyH_tk 10 35 ?_
    refine wpAnyH_tk 11 36 ?_
    refine wpAnyH_tk 12 37 ?_
    refine aAp (i:=13) (j:=17) (by kernel_rfl) (by kernel_rfl) (by kernel_rfl) ?ba ?bb
    case ba =>
     intro o ho K hK
     simp only [List.getElem?_toArray,List.getElem?_cons_succ,List.getElem?_cons_zero,oI] at ho
     subst ho
     go_simp
     refine HCA.out.mono ?_
     rintro e w3 ⟨⟨sa,sc,rfl,hk3⟩,wv2,hs3,hf3⟩
     rw [asx_up] at hs3
     have HS3:=hide hs3
     have HK3:=hide hk3
     have HB3:Hid (w3.heap[gb]?=_):=hf3.2 gb _ _ _ (show wr.drew.heap[gb]?=_ from HBB.out) (by decide) (by decide) (by decide) (by decide) (by decide)
     have HD3:Hid (w3.heap[g]?=_):=hf3.2 g _ _ _ (show wr.drew.heap[g]?=_ from HR1.out) (by decide) (by decide) (by decide) (by decide) (by decide)
     have HF3:Hid (AsF B gb w w3):=HFD.out.trans (AsF.ns hf3)
     have HT3:Hid (FT B wr w3):=HTD.out.trans hf3.ft
     have HX3:Hid ((fun wx=>wx.cell? ⟨gb,0,none⟩=some (.pointer (some ⟨nt,0,none⟩))∧wx.cell? ⟨gb,1,none⟩=some (.int .i64 (v:Int))) w3):=⟨aAa HB3.out,aAa HB3.out⟩
     clear hk3 hs3 hf3 hHeld HCA
     refine hK.out _ _ HX3.out (fun hHeld=>?_)
     clear hK K
     try simp only [Act.put,siT,scZ,scS]
     refine wpAnyH_tk 14 24 ?_
     refine wpAnyH_tk 15 39 ?_
     refine wpAnyH_tk 16 40 ?_
     refine wpAnyH_cm 17 ?_;intro K hK
     go_simp
     have hb4:=aAc w3 (.cells #[.int .i64 0,.int .i64 0,.bool false,.int .i64 0,.int .i64 0,.slice none 0 0] 77)
     have HC5:Hid ((w3.alloc (.cells #[.int .i64 0,.int .i64 0,.bool false,.int .i64 0,.int .i64 0,.slice none 0 0] 77)).heap[w3.heap.size]?=some (.cells #[.int .i64 0,.int .i64 0,.bool false,.int .i64 0,.int .i64 0,.slice none 0 0] 77 (0,0))):=heap_alloc_new w3 _
     have HS5:=hide (HS3.out.later hb4)
     have HB5:Hid ((w3.alloc (.cells #[.int .i64 0,.int .i64 0,.bool false,.int .i64 0,.int .i64 0,.slice none 0 0] 77)).heap[gb]?=_):=(hb4.block gb (lt HB3.out)).trans HB3.out
     have HD5:Hid ((w3.alloc (.cells #[.int .i64 0,.int .i64 0,.bool false,.int .i64 0,.int .i64 0,.slice none 0 0] 77)).heap[g]?=_):=(hb4.block g (lt HD3.out)).trans HD3.out
     have HK5:=hide (HK3.out.later hb4 HS3.out.bw)
     have HF5:Hid (AsF B gb w (w3.alloc (.cells #[.int .i64 0,.int .i64 0,.bool false,.int .i64 0,.int .i64 0,.slice none 0 0] 77))):=HF3.out.trans (AsF.ns (NsF.of hb4 HS3.out.bw))
     have HT5:Hid (FT B wr (w3.alloc (.cells #[.int .i64 0,.int .i64 0,.bool false,.int .i64 0,.int .i64 0,.slice none 0 0] 77))):=HT3.out.trans (NsF.of hb4 HS3.out.bw).ft
     have HGN:Hid (g<w3.heap.size∧gb<w3.heap.size∧w.heap.size≤w3.heap.size):=⟨lt HD3.out,lt HB3.out,HF3.out.1.size⟩
     have HBC:Hid (B≤w3.heap.size):=HS3.out.bw
     have HX5:Hid ((fun wx=>wx.cell? ⟨gb,0,none⟩=some (.pointer (some ⟨nt,0,none⟩))∧wx.cell? ⟨gb,1,none⟩=some (.int .i64 (v:Int))) (w3.alloc (.cells #[.int .i64 0,.int .i64 0,.bool false,.int .i64 0,.int .i64 0,.slice none 0 0] 77))):=⟨aAa HB5.out,aAa HB5.out⟩
     clear hb4 hHeld HS3 HB3 HD3 HK3 HF3 HT3
     generalize w3.alloc (.cells #[.int .i64 0,.int .i64 0,.bool false,.int .i64 0,.int .i64 0,.slice none 0 0] 77)=w5 at *
     generalize w3.heap.size=n2 at *
     refine hK.out _ _ HX5.out (fun hHeld=>?_)
     clear hK K
     try simp only [Act.put,siT,scZ,scS]
     have z0:w5.cell? ⟨n2,0,none⟩=some (.int .i64 0):=aAa HC5.out
     have zf0:w5.frozen? ⟨n2,0,none⟩=false:=aAb HC5.out
     have z1:w5.cell? ⟨n2,1,none⟩=some (.int .i64 0):=aAa HC5.out
     have zf1:w5.frozen? ⟨n2,1,none⟩=false:=aAb HC5.out
     have z2:w5.cell? ⟨n2,2,none⟩=some (.bool false):=aAa HC5.out
     have zf2:w5.frozen? ⟨n2,2,none⟩=false:=aAb HC5.out
     have z3:w5.cell? ⟨n2,3,none⟩=some (.int .i64 0):=aAa HC5.out
     have zf3:w5.frozen? ⟨n2,3,none⟩=false:=aAb HC5.out
     have z4:w5.cell? ⟨n2,4,none⟩=some (.int .i64 0):=aAa HC5.out
     have zf4:w5.frozen? ⟨n2,4,none⟩=false:=aAb HC5.out
     have z5:w5.cell? ⟨n2,5,none⟩=some (.slice none 0 0):=aAa HC5.out
     have zf5:w5.frozen? ⟨n2,5,none⟩=false:=aAb HC5.out
     refine wpAnyH_cm 18 ?_;intro K hK
     go_simp
     have HS6:=hide (HS5.out.wr6 (b0:=.int .i64 ae) (b1:=.int .i64 tl) (b2:=.bool false) (b3:=.int .i64 0) (b4:=.int .i64 bl) (b5:=.slice sa vn sc) HC5.out HBC.out)
     have HC6:Hid (((((((w5.setCell ⟨n2,0,none⟩ (.int .i64 ae)).setCell ⟨n2,1,none⟩ (.int .i64 tl)).setCell ⟨n2,2,none⟩ (.bool false)).setCell ⟨n2,3,none⟩ (.int .i64 0)).setCell ⟨n2,4,none⟩ (.int .i64 bl)).setCell ⟨n2,5,none⟩ (.slice sa vn sc)).heap[n2]?=some (.cells #[.int .i64 ae,.int .i64 tl,.bool false,.int .i64 0,.int .i64 bl,.slice sa vn sc] 77 (0,0))):=set6 HC5.out
     have HB6:Hid (((((((w5.setCell ⟨n2,0,none⟩ (.int .i64 ae)).setCell ⟨n2,1,none⟩ (.int .i64 tl)).setCell ⟨n2,2,none⟩ (.bool false)).setCell ⟨n2,3,none⟩ (.int .i64 0)).setCell ⟨n2,4,none⟩ (.int .i64 bl)).setCell ⟨n2,5,none⟩ (.slice sa vn sc)).heap[gb]?=_):=(oth6 (by have:=HGN.out;omega)).trans HB5.out
     have HD6:Hid (((((((w5.setCell ⟨n2,0,none⟩ (.int .i64 ae)).setCell ⟨n2,1,none⟩ (.int .i64 tl)).setCell ⟨n2,2,none⟩ (.bool false)).setCell ⟨n2,3,none⟩ (.int .i64 0)).setCell ⟨n2,4,none⟩ (.int .i64 bl)).setCell ⟨n2,5,none⟩ (.slice sa vn sc)).heap[g]?=_):=(oth6 (by have:=HGN.out;omega)).trans HD5.out
     have HK6:Hid (BK B ((((((w5.setCell ⟨n2,0,none⟩ (.int .i64 ae)).setCell ⟨n2,1,none⟩ (.int .i64 tl)).setCell ⟨n2,2,none⟩ (.bool false)).setCell ⟨n2,3,none⟩ (.int .i64 0)).setCell ⟨n2,4,none⟩ (.int .i64 bl)).setCell ⟨n2,5,none⟩ (.slice sa vn sc)) sa vn sc val):=HK5.out.ft (ft6 HC5.out (by decide) HBC.out)
     have HT6:Hid (FT B wr ((((((w5.setCell ⟨n2,0,none⟩ (.int .i64 ae)).setCell ⟨n2,1,none⟩ (.int .i64 tl)).setCell ⟨n2,2,none⟩ (.bool false)).setCell ⟨n2,3,none⟩ (.int .i64 0)).setCell ⟨n2,4,none⟩ (.int .i64 bl)).setCell ⟨n2,5,none⟩ (.slice sa vn sc))):=HT5.out.trans (ft6 HC5.out (by decide) HBC.out)
     have HF6:Hid (AsF B gb w ((((((w5.setCell ⟨n2,0,none⟩ (.int .i64 ae)).setCell ⟨n2,1,none⟩ (.int .i64 tl)).setCell ⟨n2,2,none⟩ (.bool false)).setCell ⟨n2,3,none⟩ (.int .i64 0)).setCell ⟨n2,4,none⟩ (.int .i64 bl)).setCell ⟨n2,5,none⟩ (.slice sa vn sc))):=⟨bel6 HF5.out.1 HBC.out,fun k cs t fz e m1 m2 m3 m4 m5 m6=>(oth6 (by have:=lt e;have:=HGN.out;omega)).trans (HF5.out.2 k cs t fz e m1 m2 m3 m4 m5 m6)⟩
     have HX6:Hid ((fun wx=>wx.cell? ⟨gb,0,none⟩=some (.pointer (some ⟨nt,0,none⟩))∧wx.cell? ⟨gb,1,none⟩=some (.int .i64 (v:Int))) ((((((w5.setCell ⟨n2,0,none⟩ (.int .i64 ae)).setCell ⟨n2,1,none⟩ (.int .i64 tl)).setCell ⟨n2,2,none⟩ (.bool false)).setCell ⟨n2,3,none⟩ (.int .i64 0)).setCell ⟨n2,4,none⟩ (.int .i64 bl)).setCell ⟨n2,5,none⟩ (.slice sa vn sc))):=⟨aAa HB6.out,aAa HB6.out⟩
     clear hHeld z0 zf0 z1 zf1 z2 zf2 z3 zf3 z4 zf4 z5 zf5
     generalize ((((((w5.setCell ⟨n2,0,none⟩ (.int .i64 ae)).setCell ⟨n2,1,none⟩ (.int .i64 tl)).setCell ⟨n2,2,none⟩ (.bool false)).setCell ⟨n2,3,none⟩ (.int .i64 0)).setCell ⟨n2,4,none⟩ (.int .i64 bl)).setCell ⟨n2,5,none⟩ (.slice sa vn sc))=w6 at *
     refine hK.out _ _ HX6.out (fun hHeld=>?_)
     clear hK K
     try simp only [Act.put,siT,scZ,scS]
     refine wpAnyH_tk 19 12 ?_
     refine wpAnyH_done (by kernel_rfl) ?_ _
     refine NoPanic.normal ?_
     clear hHeld
     go_wp2_with fail
     go_meet
     case rel=>exact ⟨rfl,n2,sa,sc,wv2,rfl,rfl,⟨HS6.out,HC6.out,HB6.out,HD6.out,HK6.out,HT6.out,HF6.out,HGN.out,HBC.out⟩⟩
    case bb =>
     intro o ho K hK
     simp only [List.getElem?_toArray,List.getElem?_cons_succ,List.getElem?_cons_zero,oI] at ho
     subst ho
     go_simp
     have hb3:Below wr.heap.size wr (wr.alloc (.cells #[.int .i64 0,.int .i64 0,.bool false,.int .i64 0,.int .i64 0,.slice none 0 0] 77)).drew:=⟨(aAc wr (.cells #[.int .i64 0,.int .i64 0,.bool false,.int .i64 0,.int .i64 0,.slice none 0 0] 77)).os,(aAc wr (.cells #[.int .i64 0,.int .i64 0,.bool false,.int .i64 0,.int .i64 0,.slice none 0 0] 77)).tape,(aAc wr (.cells #[.int .i64 0,.int .i64 0,.bool false,.int .i64 0,.int .i64 0,.slice none 0 0] 77)).output,(aAc wr (.cells #[.int .i64 0,.int .i64 0,.bool false,.int .i64 0,.int .i64 0,.slice none 0 0] 77)).size,(aAc wr (.cells #[.int .i64 0,.int .i64 0,.bool false,.int .i64 0,.int .i64 0,.slice none 0 0] 77)).block⟩
     have HC3:Hid ((wr.alloc (.cells #[.int .i64 0,.int .i64 0,.bool false,.int .i64 0,.int .i64 0,.slice none 0 0] 77)).drew.heap[wr.heap.size]?=some (.cells #[.int .i64 0,.int .i64 0,.bool false,.int .i64 0,.int .i64 0,.slice none 0 0] 77 (0,0))):=heap_alloc_new wr _
     have HB3:Hid ((wr.alloc (.cells #[.int .i64 0,.int .i64 0,.bool false,.int .i64 0,.int .i64 0,.slice none 0 0] 77)).drew.heap[gb]?=_):=(hb3.block gb (lt HBB.out)).trans HBB.out
     have HD3:Hid ((wr.alloc (.cells #[.int .i64 0,.int .i64 0,.bool false,.int .i64 0,.int .i64 0,.slice none 0 0] 77)).drew.heap[g]?=_):=(hb3.block g (lt HR1.out)).trans HR1.out
     have HF3:Hid (AsF B gb w (wr.alloc (.cells #[.int .i64 0,.int .i64 0,.bool false,.int .i64 0,.int .i64 0,.slice none 0 0] 77)).drew):=HF1.out.trans (AsF.ns (NsF.of hb3 HS1.out.bw))
     have HT3:Hid (FT B wr (wr.alloc (.cells #[.int .i64 0,.int .i64 0,.bool false,.int .i64 0,.int .i64 0,.slice none 0 0] 77)).drew):=(NsF.of hb3 HS1.out.bw).ft
     have HGN:Hid (g<wr.heap.size∧gb<wr.heap.size∧w.heap.size≤wr.heap.size):=⟨lt HR1.out,lt HBB.out,HF1.out.1.size⟩
     have HBC:Hid (B≤wr.heap.size):=HS1.out.bw
     have HS3:=hide (HS1.out.later hb3)
     have HCB:=hide ((show NSw B N M nt gh P (asx X A j) wv1 [] l W (wr.alloc (.cells #[.int .i64 0,.int .i64 0,.bool false,.int .i64 0,.int .i64 0,.slice none 0 0] 77)).drew from HS3.out).call0 (i:=j) (k:=kind) (lg:=(v:Int)) (at_:=(b:Int)) (va:=va) (n:=n) (cp:=cp) (x:=X j) HJN.out (by omega) rfl HE.out (fun ww hw=>by rw [asx_at];exact HDO.out j HJN.out ww ((HFT.out.trans HT3.out).trans hw)))
     have HX3:Hid ((fun wx=>wx.cell? ⟨gb,0,none⟩=some (.pointer (some ⟨nt,0,none⟩))∧wx.cell? ⟨gb,1,none⟩=some (.int .i64 (v:Int))) (wr.alloc (.cells #[.int .i64 0,.int .i64 0,.bool false,.int .i64 0,.int .i64 0,.slice none 0 0] 77)).drew):=⟨aAa HB3.out,aAa HB3.out⟩
     clear hb3 hHeld HCA
     generalize (wr.alloc (.cells #[.int .i64 0,.int .i64 0,.bool false,.int .i64 0,.int .i64 0,.slice none 0 0] 77)).drew=x2 at *
     generalize wr.heap.size=n2 at *
     refine hK.out _ _ HX3.out (fun hHeld=>?_)
     clear hK K
     try simp only [Act.put,siT,scZ,scS]
     refine wpAnyH_cm 13 ?_;intro K hK
     go_simp
     refine HCB.out.mono ?_
     rintro e w5 ⟨⟨sa,sc,rfl,hk3⟩,wv2,hs3,hf3⟩
     rw [asx_up] at hs3
     have HS5:=hide hs3
     have HK5:=hide hk3
     have HB5:Hid (w5.heap[gb]?=_):=hf3.2 gb _ _ _ HB3.out (by decide) (by decide) (by decide) (by decide) (by decide)
     have HD5:Hid (w5.heap[g]?=_):=hf3.2 g _ _ _ HD3.out (by decide) (by decide) (by decide) (by decide) (by decide)
     have HC5:Hid (w5.heap[n2]?=_):=hf3.2 n2 _ _ _ HC3.out (by decide) (by decide) (by decide) (by decide) (by decide)
     have HF5:Hid (AsF B gb w w5):=HF3.out.trans (AsF.ns hf3)
     have HT5:Hid (FT B wr w5):=HT3.out.trans hf3.ft
     have HX5:Hid ((fun wx=>wx.cell? ⟨gb,0,none⟩=some (.pointer (some ⟨nt,0,none⟩))∧wx.cell? ⟨gb,1,none⟩=some (.int .i64 (v:Int))) w5):=⟨aAa HB5.out,aAa HB5.out⟩
     clear hk3 hs3 hf3 hHeld HCB HS3 HB3 HD3 HC3 HF3 HT3
     refine hK.out _ _ HX5.out (fun hHeld=>?_)
     clear hK K
     try simp only [Act.put,siT,scZ,scS]
     refine wpAnyH_tk 14 24 ?_
     refine wpAnyH_tk 15 39 ?_
     refine wpAnyH_tk 16 40 ?_
     have z0:w5.cell? ⟨n2,0,none⟩=some (.int .i64 0):=aAa HC5.out
     have zf0:w5.frozen? ⟨n2,0,none⟩=false:=aAb HC5.out
     have z1:w5.cell? ⟨n2,1,none⟩=some (.int .i64 0):=aAa HC5.out
     have zf1:w5.frozen? ⟨n2,1,none⟩=false:=aAb HC5.out
     have z2:w5.cell? ⟨n2,2,none⟩=some (.bool false):=aAa HC5.out
     have zf2:w5.frozen? ⟨n2,2,none⟩=false:=aAb HC5.out
     have z3:w5.cell? ⟨n2,3,none⟩=some (.int .i64 0):=aAa HC5.out
     have zf3:w5.frozen? ⟨n2,3,none⟩=false:=aAb HC5.out
     have z4:w5.cell? ⟨n2,4,none⟩=some (.int .i64 0):=aAa HC5.out
     have zf4:w5.frozen? ⟨n2,4,none⟩=false:=aAb HC5.out
     have z5:w5.cell? ⟨n2,5,none⟩=some (.slice none 0 0):=aAa HC5.out
     have zf5:w5.frozen? ⟨n2,5,none⟩=false:=aAb HC5.out
     refine wpAnyH_cm 18 ?_;intro K hK
     go_simp
     have HS6:=hide (HS5.out.wr6 (b0:=.int .i64 ae) (b1:=.int .i64 tl) (b2:=.bool false) (b3:=.int .i64 0) (b4:=.int .i64 bl) (b5:=.slice sa vn sc) HC5.out HBC.out)
     have HC6:Hid (((((((w5.setCell ⟨n2,0,none⟩ (.int .i64 ae)).setCell ⟨n2,1,none⟩ (.int .i64 tl)).setCell ⟨n2,2,none⟩ (.bool false)).setCell ⟨n2,3,none⟩ (.int .i64 0)).setCell ⟨n2,4,none⟩ (.int .i64 bl)).setCell ⟨n2,5,none⟩ (.slice sa vn sc)).heap[n2]?=some (.cells #[.int .i64 ae,.int .i64 tl,.bool false,.int .i64 0,.int .i64 bl,.slice sa vn sc] 77 (0,0))):=set6 HC5.out
     have HB6:Hid (((((((w5.setCell ⟨n2,0,none⟩ (.int .i64 ae)).setCell ⟨n2,1,none⟩ (.int .i64 tl)).setCell ⟨n2,2,none⟩ (.bool false)).setCell ⟨n2,3,none⟩ (.int .i64 0)).setCell ⟨n2,4,none⟩ (.int .i64 bl)).setCell ⟨n2,5,none⟩ (.slice sa vn sc)).heap[gb]?=_):=(oth6 (by have:=HGN.out;omega)).trans HB5.out
     have HD6:Hid (((((((w5.setCell ⟨n2,0,none⟩ (.int .i64 ae)).setCell ⟨n2,1,none⟩ (.int .i64 tl)).setCell ⟨n2,2,none⟩ (.bool false)).setCell ⟨n2,3,none⟩ (.int .i64 0)).setCell ⟨n2,4,none⟩ (.int .i64 bl)).setCell ⟨n2,5,none⟩ (.slice sa vn sc)).heap[g]?=_):=(oth6 (by have:=HGN.out;omega)).trans HD5.out
     have HK6:Hid (BK B ((((((w5.setCell ⟨n2,0,none⟩ (.int .i64 ae)).setCell ⟨n2,1,none⟩ (.int .i64 tl)).setCell ⟨n2,2,none⟩ (.bool false)).setCell ⟨n2,3,none⟩ (.int .i64 0)).setCell ⟨n2,4,none⟩ (.int .i64 bl)).setCell ⟨n2,5,none⟩ (.slice sa vn sc)) sa vn sc val):=HK5.out.ft (ft6 HC5.out (by decide) HBC.out)
     have HT6:Hid (FT B wr ((((((w5.setCell ⟨n2,0,none⟩ (.int .i64 ae)).setCell ⟨n2,1,none⟩ (.int .i64 tl)).setCell ⟨n2,2,none⟩ (.bool false)).setCell ⟨n2,3,none⟩ (.int .i64 0)).setCell ⟨n2,4,none⟩ (.int .i64 bl)).setCell ⟨n2,5,none⟩ (.slice sa vn sc))):=HT5.out.trans (ft6 HC5.out (by decide) HBC.out)
     have HF6:Hid (AsF B gb w ((((((w5.setCell ⟨n2,0,none⟩ (.int .i64 ae)).setCell ⟨n2,1,none⟩ (.int .i64 tl)).setCell ⟨n2,2,none⟩ (.bool false)).setCell ⟨n2,3,none⟩ (.int .i64 0)).setCell ⟨n2,4,none⟩ (.int .i64 bl)).setCell ⟨n2,5,none⟩ (.slice sa vn sc))):=⟨bel6 HF5.out.1 HBC.out,fun k cs t fz e m1 m2 m3 m4 m5 m6=>(oth6 (by have:=lt e;have:=HGN.out;omega)).trans (HF5.out.2 k cs t fz e m1 m2 m3 m4 m5 m6)⟩
     have HX6:Hid ((fun wx=>wx.cell? ⟨gb,0,none⟩=some (.pointer (some ⟨nt,0,none⟩))∧wx.cell? ⟨gb,1,none⟩=some (.int .i64 (v:Int))) ((((((w5.setCell ⟨n2,0,none⟩ (.int .i64 ae)).setCell ⟨n2,1,none⟩ (.int .i64 tl)).setCell ⟨n2,2,none⟩ (.bool false)).setCell ⟨n2,3,none⟩ (.int .i64 0)).setCell ⟨n2,4,none⟩ (.int .i64 bl)).setCell ⟨n2,5,none⟩ (.slice sa vn sc))):=⟨aAa HB6.out,aAa HB6.out⟩
     clear hHeld z0 zf0 z1 zf1 z2 zf2 z3 zf3 z4 zf4 z5 zf5
     generalize ((((((w5.setCell ⟨n2,0,none⟩ (.int .i64 ae)).setCell ⟨n2,1,none⟩ (.int .i64 tl)).setCell ⟨n2,2,none⟩ (.bool false)).setCell ⟨n2,3,none⟩ (.int .i64 0)).setCell ⟨n2,4,none⟩ (.int .i64 bl)).setCell ⟨n2,5,none⟩ (.slice sa vn sc))=w6 at *
     refine hK.out _ _ HX6.out (fun hHeld=>?_)
     clear hK K
     try simp only [Act.put,siT,scZ,scS]
     refine wpAnyH_tk 19 12 ?_
     refine wpAnyH_done (by kernel_rfl) ?_ _
     refine NoPanic.normal ?_
     clear hHeld
     go_wp2_with fail
     go_meet
     case rel=>exact ⟨rfl,n2,sa,sc,wv2,rfl,rfl,⟨HS6.out,HC6.out,HB6.out,HD6.out,HK6.out,HT6.out,HF6.out,HGN.out,HBC.out⟩⟩
   case rest =>
    obtain ⟨rfl,n2,sa,sc,wv2,rfl,rfl,hJ⟩:=hcut
    have HJ:=hide hJ
    clear hJ
    go_upto_region 8 with fail
    have HCD:Hid (wc.drew.heap[n2]?=_):=HJ.out.c
    have HBD:Hid (wc.drew.heap[gb]?=_):=HJ.out.b
    have HX8:Hid ((fun wx=>wx.cell? ⟨n2,1,none⟩=some (.int .i64 tl)) wc.drew):=aAa HCD.out
    refine wp_region_noPanic ?_
    refine wp_region_held_drew (S:=fun wx=>wx.cell? ⟨n2,1,none⟩=some (.int .i64 tl)) (by kernel_rfl) HX8.out (fun hHeld=>?_)
    refine wpAnyH_tk 0 44 ?_
    refine wpAnyH_tk 1 45 ?_
    refine wpAnyH_tk 2 46 ?_
    refine wpAnyH_tk 3 47 ?_
    refine wpAnyH_tk 5 49 ?_
    refine wpAnyH_tk 6 50 ?_
    have q0:wc.drew.cell? ⟨gb,3,none⟩=some (.int .i64 pq):=aAa HBD.out
    have qf:wc.drew.frozen? ⟨gb,3,none⟩=false:=aAb HBD.out
    refine wpAnyH_cm 4 ?_;intro K hK
    go_simp
    refine hK.out _ _ HX8.out (fun hHeld=>?_)
    clear hK K
    try simp only [Act.put,siT,scZ,scS]
    refine wpAnyH_tk 7 51 ?_
    refine wpAnyH_tk 8 52 ?_
    refine wpAnyH_tk 9 53 ?_
    refine wpAnyH_cm 10 ?_;intro K hK
    go_simp
    have HX9:Hid ((fun wx=>wx.cell? ⟨n2,1,none⟩=some (.int .i64 tl)) (wc.drew.setCell ⟨gb,3,none⟩ (.int .i64 (max pq tl)))):=aAa ((heap_setCell_other _ _ _ _ (show n2≠gb by have:=HJ.out.g1;omega)).trans HCD.out)
    refine hK.out _ _ HX9.out (fun hHeld=>?_)
    clear hK K
    try simp only [Act.put,siT,scZ,scS]
    refine wpAnyH_done (by kernel_rfl) ?_ _
    refine NoPanic.normal ?_
    clear hHeld
    generalize hz:(wc.setCell ⟨gb,3,none⟩ (.int .i64 (max pq tl))).drew=wz at *
    have hbz:Below B wc (wc.setCell ⟨gb,3,none⟩ (.int .i64 (max pq tl))):=(Below.refl _ _).setCell (p:=⟨gb,3,none⟩) HGB.out _
    have hbz2:Below (wc.setCell ⟨gb,3,none⟩ (.int .i64 (max pq tl))).heap.size (wc.setCell ⟨gb,3,none⟩ (.int .i64 (max pq tl))) wz:=by rw [←hz];exact (Below.refl _ _).drew
    have hhz:wz.heap=(wc.setCell ⟨gb,3,none⟩ (.int .i64 (max pq tl))).heap:=by rw [←hz];rfl
    have HSZ:Hid (NSw B N M nt gh P (asx X A (j+1)) wv2 [] l W wz):=(HJ.out.s.set1 (o:=3) (u:=.int .i64 (max pq tl)) HJ.out.b HGB.out (by unfold DTy;decide) (by decide) (by decide) (by decide) (by decide) (by decide)).later hbz2
    have HBZ:Hid (wz.heap[gb]?=some (.cells #[.pointer (some ⟨nt,0,none⟩),.int .i64 (v:Int),.int .i64 who,.int .i64 (max pq tl)] 62 (0,0))):=by show wz.heap[gb]?=_;rw [hhz];exact heap_setCell_same _ _ _ _ _ _ HJ.out.b
    have HCZ:Hid (wz.heap[n2]?=some (.cells #[.int .i64 ae,.int .i64 tl,.bool false,.int .i64 0,.int .i64 bl,.slice sa vn sc] 77 (0,0))):=by show wz.heap[n2]?=_;rw [hhz];exact (heap_setCell_other _ _ _ _ (show n2≠gb by have:=HJ.out.g1;omega)).trans HJ.out.c
    have HNG:Hid (g≠gb):=aAr HJ.out.d HJ.out.b (by decide)
    have HDZ:Hid (wz.heap[g]?=some (.cells cs 77 (0,0))):=by show wz.heap[g]?=_;rw [hhz];exact (heap_setCell_other _ _ _ _ HNG.out).trans HJ.out.d
    have HBLZ:Hid (Below B wc wz):=hbz.trans (hbz2.mono (nT HJ.out.s.bw hbz.size))
    have HFTZ:Hid (FT B wc wz):=⟨HBLZ.out,fun k cs' fz e=>by rw [hhz];exact (heap_setCell_other _ _ _ _ (aAr e HJ.out.b (by decide))).trans e⟩
    have HFZ:Hid (AsF B gb w wz):=HJ.out.f.trans ⟨HBLZ.out,fun k cs' t fz e _ _ _ _ _ n6=>by rw [hhz];exact (heap_setCell_other _ _ _ _ n6).trans e⟩
    have HKZ:=hide (HJ.out.k.ft HFTZ.out)
    have HTZ:=hide (HJ.out.t.trans HFTZ.out)
    clear hz hbz hbz2 hhz HX8 HCD HBD
    have hcs:cs.size=M*6:=HR2.out
    have hj6:j*6+6≤cs.size:=by have:=HJN.out;omega
    have v0:wz.cell? ⟨n2,0,none⟩=some (.int .i64 ae):=aAa HCZ.out
    have v1:wz.cell? ⟨n2,1,none⟩=some (.int .i64 tl):=aAa HCZ.out
    have v2:wz.cell? ⟨n2,2,none⟩=some (.bool false):=aAa HCZ.out
    have v3:wz.cell? ⟨n2,3,none⟩=some (.int .i64 0):=aAa HCZ.out
    have v4:wz.cell? ⟨n2,4,none⟩=some (.int .i64 bl):=aAa HCZ.out
    have v5:wz.cell? ⟨n2,5,none⟩=some (.slice sa vn sc):=aAa HCZ.out
    have e0:wz.cell? ⟨g,j*6,none⟩=some (cs[j*6]'(by omega)):=(aAa HDZ.out).trans (Array.getElem?_eq_getElem _)
    have ef0:wz.frozen? ⟨g,j*6,none⟩=false:=aAb HDZ.out
    have e1:wz.cell? ⟨g,j*6+1,none⟩=some (cs[j*6+1]'(by omega)):=(aAa HDZ.out).trans (Array.getElem?_eq_getElem _)
    have ef1:wz.frozen? ⟨g,j*6+1,none⟩=false:=aAb HDZ.out
    have e2:wz.cell? ⟨g,j*6+2,none⟩=some (cs[j*6+2]'(by omega)):=(aAa HDZ.out).trans (Array.getElem?_eq_getElem _)
    have ef2:wz.frozen? ⟨g,j*6+2,none⟩=false:=aAb HDZ.out
    have e3:wz.cell? ⟨g,j*6+3,none⟩=some (cs[j*6+3]'(by omega)):=(aAa HDZ.out).trans (Array.getElem?_eq_getElem _)
    have ef3:wz.frozen? ⟨g,j*6+3,none⟩=false:=aAb HDZ.out
    have e4:wz.cell? ⟨g,j*6+4,none⟩=some (cs[j*6+4]'(by omega)):=(aAa HDZ.out).trans (Array.getElem?_eq_getElem _)
    have ef4:wz.frozen? ⟨g,j*6+4,none⟩=false:=aAb HDZ.out
    have e5:wz.cell? ⟨g,j*6+5,none⟩=some (cs[j*6+5]'(by omega)):=(aAa HDZ.out).trans (Array.getElem?_eq_getElem _)
    have ef5:wz.frozen? ⟨g,j*6+5,none⟩=false:=aAb HDZ.out
    generalize cs[j*6]'(by omega)=k0 at e0
    generalize cs[j*6+1]'(by omega)=k1 at e1
    generalize cs[j*6+2]'(by omega)=k2 at e2
    generalize cs[j*6+3]'(by omega)=k3 at e3
    generalize cs[j*6+4]'(by omega)=k4 at e4
    generalize cs[j*6+5]'(by omega)=k5 at e5
    have HGC:Hid (B≤g):=by show B≤g;rw [←hg0];exact HS.out.bw
    have HFIN:Hid (ASI B N M nt gh gb g (j+1) v P A X l who pr ae tl bl vn val W w (((((((wz.setCell ⟨g,j*6,none⟩ (.int .i64 ae)).setCell ⟨g,j*6+1,none⟩ (.int .i64 tl)).setCell ⟨g,j*6+2,none⟩ (.bool false)).setCell ⟨g,j*6+3,none⟩ (.int .i64 0)).setCell ⟨g,j*6+4,none⟩ (.int .i64 bl)).setCell ⟨g,j*6+5,none⟩ (.slice sa vn sc)))):=by
     have pmax:max pq tl=(if j+1=0 then pr else max pr tl):=by
      rw [if_neg (show ¬ j+1=0 by omega),HPQ.out]
      by_cases h0:j=0
      ·rw [if_pos h0]
      ·rw [if_neg h0,Int.max_assoc,Int.max_self]
     refine ⟨⟨wv2,HSZ.out.set6A HDZ.out HGC.out⟩,?_,⟨_,set6o HDZ.out,by simp only [Array.size_setIfInBounds];exact hcs,fun i hi=>?_⟩,⟨bel6o HFZ.out.1 HGC.out,fun k cs' t fz e m1 m2 m3 m4 m5 m6=>(oth6o (by have:=lt e;omega)).trans (HFZ.out.2 k cs' t fz e m1 m2 m3 m4 m5 m6)⟩⟩
     ·rw [←pmax]
      exact (oth6o (Ne.symm HNG.out)).trans HBZ.out
     ·have hft:FT B wz (((((((wz.setCell ⟨g,j*6,none⟩ (.int .i64 ae)).setCell ⟨g,j*6+1,none⟩ (.int .i64 tl)).setCell ⟨g,j*6+2,none⟩ (.bool false)).setCell ⟨g,j*6+3,none⟩ (.int .i64 0)).setCell ⟨g,j*6+4,none⟩ (.int .i64 bl)).setCell ⟨g,j*6+5,none⟩ (.slice sa vn sc))):=ft6o HDZ.out (by decide) HGC.out
      by_cases hij:i=j
      ·subst hij
       exact ⟨sa,sc,at6o0 hj6,at6o1 hj6,at6o2 hj6,at6o3 hj6,at6o4 hj6,at6o5 hj6,HKZ.out.ft hft⟩
      ·obtain ⟨sa',sc',h1,h2,h3,h4,h5,h6,h7⟩:=HR3.out i (by omega)
       refine ⟨sa',sc',?_,?_,?_,?_,?_,?_,(h7.ft HTZ.out).ft hft⟩<;>rw [at6o (by omega)]<;>assumption
    go_wp2_with fail
    go_roundw
    case rel=>exact ⟨j+1,by omega,by go_num,HFIN.out⟩
    case measure=>simp [intOf];omega
  ·have i1:¬ (j:Int)<(M:Int):=by omega
   have hjM:j=M:=by omega
   subst hjM
   go_wp2
   go_ret
   exact ⟨g,rfl,nR _,HI.out⟩
theorem NSw.srt {B N M nt gh i:Nat} {P:Nat→NdP} {A:Nat→NdS} {wv:Value} {F:List Int} {l:List LR} {W w:World} (h:NSw B N M nt gh P A wv F l W w) (hi:i<M):Srt (A i).l:=by
 obtain ⟨F,⟨h1,_⟩,_⟩:=h.m
 exact @NX.srt ⟨fun _=>False⟩ _ _ _ _ _ _ _ _ _ _ _ _ _ ((h1 i hi).nx (fun _=>False) (fun k hk=>False.elim hk))
def MN (B N nt gh:Nat) (P:Nat→NdP) (l:List LR) (R:Nat→Rec) (mm:Nat) (W w:World):Prop:=∃ A wv,NSw B N 3 nt gh P A wv [] l W w∧∀ i,i<3→RL (A i).l R∧(A i).m≤mm
section
variable {B N nt gh gb v b mm:Nat} {P:Nat→NdP} {l:List LR} {R:Nat→Rec} {W w w':World} {who pr:Int}
theorem MN.later (h:MN B N nt gh P l R mm W w) (hb:Below w.heap.size w w'):MN B N nt gh P l R mm W w':=by
 obtain ⟨A,wv,h1,h2⟩:=h
 exact ⟨A,wv,h1.later hb,h2⟩
theorem MN.bw (h:MN B N nt gh P l R mm W w):B≤w.heap.size:=by
 obtain ⟨A,wv,h1,h2⟩:=h
 exact h1.bw
def AkT (B N nt gh gb v:Nat) (P:Nat→NdP) (l:List LR) (R':Nat→Rec) (mm:Nat) (who pr ae tl bl:Int) (vn:Nat) (val:List Nat) (W w:World) (e:Ending) (w':World):Prop:=∃ g cs,e=.returned (.slice (some ⟨g,0,none⟩) 3 3)∧w'.heap[g]?=some (.cells cs 77 (0,0))∧cs.size=18∧ANR B w' cs 3 ae tl bl vn val∧w'.heap[gb]?=some (.cells #[.pointer (some ⟨nt,0,none⟩),.int .i64 (v:Int),.int .i64 who,.int .i64 (max pr tl)] 62 (0,0))∧MN B N nt gh P l R' mm W w'∧AsF B gb w w'
theorem AkT.of {A X:Nat→NdS} {R':Nat→Rec} {mm':Nat} {ae tl bl:Int} {vn:Nat} {val:List Nat} {e:Ending} (h:∃ g,e=.returned (.slice (some ⟨g,0,none⟩) 3 3)∧w.heap.size≤g∧ASI B N 3 nt gh gb g 3 v P A X l who pr ae tl bl vn val W w w') (hX:∀ i,i<3→RL (X i).l R'∧(X i).m≤mm'):AkT B N nt gh gb v P l R' mm' who pr ae tl bl vn val W w e w':=by
 obtain ⟨g,rfl,_,⟨wv,h1⟩,h2,⟨cs,h3,h4,h5⟩,h6⟩:=h
 exact ⟨g,cs,rfl,h3,h4,h5,h2,⟨_,wv,h1,fun i hi=>by
  have e:asx X A 3 i=X i:=if_pos hi
  rw [e]
  exact hX i hi⟩,h6⟩
theorem MN.askp (h:MN B N nt gh P l R mm W w) (hb:w.heap[gb]?=some (.cells #[.pointer (some ⟨nt,0,none⟩),.int .i64 (v:Int),.int .i64 who,.int .i64 pr] 62 (0,0))) (hgB:B≤gb) (hv:v≤16) (hb1:1≤b) (hb2:b<9223372036854775808) (hlt:(R v).1<b) (hm:mm≤87) (hN:mm+30≤N) :
  Calls Tryz.prog 37 #[.pointer (some ⟨gb,0,none⟩),.int .i64 7,.int .i64 (b:Int),.slice none 0 0] w fun e w'=>AkT B N nt gh gb v P l (upR R v (b,(R v).2.1,(R v).2.2)) (mm+1) who pr 0 (b:Int) ((R v).2.1:Int) (vnR (R v)) (vlR (R v)) W w e w':=by
 obtain ⟨A,wv,h1,h2⟩:=h
 refine (ask_any (X:=fun i=>⟨(A i).m+1,lP (A i).l R v b,(A i).L⟩) h1 (by decide) (by decide) hb hgB (by decide) (fun i hi ww hw=>dt_prep (h2 i hi).1 hv hb1 hb2 hlt (by have:=(h2 i hi).2;omega) (by have:=(h2 i hi).2;omega) (by decide))).mono ?_
 intro e w' hp
 refine AkT.of hp fun i hi=>⟨(h2 i hi).1.prep (h1.srt hi) hv hb1 hb2 hlt,?_⟩
 show (A i).m+1≤mm+1
 have:=(h2 i hi).2
 omega
theorem MN.askl (h:MN B N nt gh P l R mm W w) (hb:w.heap[gb]?=some (.cells #[.pointer (some ⟨nt,0,none⟩),.int .i64 (v:Int),.int .i64 who,.int .i64 pr] 62 (0,0))) (hgB:B≤gb) (hv:v≤16) (hb1:1≤b) (hb2:b<9223372036854775808) (hlt:b≤(R v).1) :
  Calls Tryz.prog 37 #[.pointer (some ⟨gb,0,none⟩),.int .i64 7,.int .i64 (b:Int),.slice none 0 0] w fun e w'=>AkT B N nt gh gb v P l R mm who pr 41 ((R v).1:Int) ((R v).2.1:Int) (vnR (R v)) (vlR (R v)) W w e w':=by
 obtain ⟨A,wv,h1,h2⟩:=h
 refine (ask_any (X:=A) h1 (by decide) (by decide) hb hgB (by decide) (fun i hi ww hw=>dt_prepl (h2 i hi).1 hv hb1 hb2 hlt (by decide))).mono ?_
 intro e w' hp
 exact AkT.of hp h2
theorem MN.aska {n cp:Nat} {va:Option Addr} {val:List Nat} (h:MN B N nt gh P l R mm W w) (hb:w.heap[gb]?=some (.cells #[.pointer (some ⟨nt,0,none⟩),.int .i64 (v:Int),.int .i64 who,.int .i64 pr] 62 (0,0))) (hgB:B≤gb) (hv:v≤16) (hb1:1≤b) (hb2:b<9223372036854775808) (hlt:(R v).1≤b) (hm:mm≤87) (hN:mm+30≤N) (hk:BK B w va n cp val) (hn:n≤1800) :
  Calls Tryz.prog 37 #[.pointer (some ⟨gb,0,none⟩),.int .i64 8,.int .i64 (b:Int),.slice va n cp] w fun e w'=>AkT B N nt gh gb v P l (upR R v (b,b,val)) (mm+2) who pr 0 (b:Int) 0 0 [] W w e w':=by
 obtain ⟨A,wv,h1,h2⟩:=h
 refine (ask_any (X:=fun i=>⟨(A i).m+2,lAcc (A i).l v b val,(A i).L⟩) h1 (by decide) (by decide) hb hgB (by decide) (fun i hi ww hw=>dt_acc (h2 i hi).1 hv hb1 hb2 hlt (by have:=(h2 i hi).2;omega) (by have:=(h2 i hi).2;omega) hn (hk.ft hw))).mono ?_
 intro e w' hp
 refine AkT.of hp fun i hi=>⟨(h2 i hi).1.acc (h1.srt hi) hv hb1 hb2 (by have:=hk.1.hlen;omega),?_⟩
 show (A i).m+2≤mm+2
 have:=(h2 i hi).2
 omega
end
theorem major_3 {w:World} {nt gh:Nat} {wv lv:Value} (h:NTM w nt gh 3 wv lv):Calls Tryz.prog 35 #[.pointer (some ⟨nt,0,none⟩)] w fun e w'=>e=.returned (.int .i64 2)∧w'=w:=by
 have c0:w.cell? ⟨nt,0,none⟩=some (.slice (some ⟨gh,0,none⟩) 3 3):=aAa h
 go_enter Tryz.func35,Tryz.ntmps35
 go_wp2
 go_ret
 exact ⟨rfl,rfl⟩
def bal (p who:Nat):Nat:=4*(p / 4+1)+who+1
theorem bal_lt (p who:Nat):p<bal p who:=by unfold bal;omega
theorem ballot_any {w:World} {gb nt p who:Nat} {v:Int} (hb:w.heap[gb]?=some (.cells #[.pointer (some ⟨nt,0,none⟩),.int .i64 v,.int .i64 (who:Int),.int .i64 (p:Int)] 62 (0,0))) (hp:p<1152921504606846976) (hw:who≤3):Calls Tryz.prog 36 #[.pointer (some ⟨gb,0,none⟩)] w fun e w'=>e=.returned (.int .i64 (bal p who:Int))∧Below w.heap.size w w':=by
 have c2:w.cell? ⟨gb,2,none⟩=some (.int .i64 (who:Int)):=aAa hb
 have c3:w.cell? ⟨gb,3,none⟩=some (.int .i64 (p:Int)):=aAa hb
 obtain ⟨q,hq⟩:∃ q,q=p / 4:=⟨_,rfl⟩
 have h1:(p:Int).tdiv 4=(q:Int):=by rw [hq,Int.tdiv_eq_ediv_of_nonneg (by omega)];omega
 have h2:IntKind.i64.wrap ((q:Int)+1)=(q:Int)+1:=wrap_small _ (by omega) (by omega)
 have h3:IntKind.i64.wrap (4*((q:Int)+1))=4*((q:Int)+1):=wrap_small _ (by omega) (by omega)
 have h4:IntKind.i64.wrap (4*((q:Int)+1)+(who:Int))=4*((q:Int)+1)+(who:Int):=wrap_small _ (by omega) (by omega)
 have h5:IntKind.i64.wrap (4*((q:Int)+1)+(who:Int)+1)=(bal p who:Int):=by rw [wrap_small _ (by omega) (by omega)];unfold bal;omega
 have h6:IntKind.i64.wrap (q:Int)=(q:Int):=wrap_small _ (by omega) (by omega)
 clear hb hp hw hq
 go_enter Tryz.func36,Tryz.ntmps36
 go_upto_region 1 with fail
 have HX1:Hid ((fun wx=>wx.cell? ⟨gb,2,none⟩=some (.int .i64 (who:Int))∧wx.cell? ⟨gb,3,none⟩=some (.int .i64 (p:Int))) w.drew):=⟨c2,c3⟩
 refine wp_region_noPanic ?_
 refine wp_region_held_drew (S:=fun wx=>wx.cell? ⟨gb,2,none⟩=some (.int .i64 (who:Int))∧wx.cell? ⟨gb,3,none⟩=some (.int .i64 (p:Int))) (by kernel_rfl) HX1.out (fun hHeld=>?_)
 refine wpAnyH_tk 0 3 ?_
 refine wpAnyH_tk 1 4 ?_
 refine wpAnyH_tk 2 5 ?_
 refine wpAnyH_tk 3 6 ?_
 refine wpAnyH_tk 4 7 ?_
 refine wpAnyH_tk 5 8 ?_
 refine wpAnyH_tk 6 9 ?_
 refine wpAnyH_tk 7 10 ?_
 refine wpAnyH_tk 8 11 ?_
 refine wpAnyH_tk 9 12 ?_
 refine wpAnyH_tk 10 13 ?_
 refine wpAnyH_tk 11 14 ?_
 refine wpAnyH_tk 12 15 ?_
 refine wpAnyH_tk 13 2 ?_
 refine wpAnyH_done (by kernel_rfl) ?_ _
 refine NoPanic.normal ?_
 clear hHeld
 go_wp2
 go_ret
 exact ⟨rfl,(Below.refl _ _).drew⟩
end Go.Proofs.YtfkaeefpigoapaaGreat
