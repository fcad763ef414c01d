import Derived.Test.YtdfjjhlhnfindaaGreatZ46
set_option maxRecDepth 100000
set_option maxHeartbeats 16000000
set_option linter.unusedVariables false
namespace Go.Proofs.YtdfjjhlhnfindaaGreat
open Go.RowKit
def fv:List Int->Int
 | []=>0
 | z::_=>fat (z % 8).toNat
def WV (B:Nat) (w:World) (wv:Value) (F:List Int):Prop:=∃ a c,wv=.slice a F.length c/\F.length<=c/\c<=9223372036854775807/\(c≠0->∃ g o cs,a=some ⟨g,o,none⟩/\B<=g/\w.heap[g]?=some (.cells cs 3 (0,0))/\o+c<=cs.size/\∀ j z,F[j]?=some z->cs[o+j]?=some (.int .i64 z))
theorem WV.same {B:Nat} {w w':World} {wv:Value} {F:List Int} (h:WV B w wv F) (hs:∀ k,wv.ownBlock=some k->w'.heap[k]?=w.heap[k]?):WV B w' wv F:=by
 obtain ⟨a,c,rfl,h1,h2,h3⟩:=h
 refine ⟨a,c,rfl,h1,h2,fun hc=>?_⟩
 obtain ⟨g,o,cs,rfl,hgB,h4,h5,h6⟩:=h3 hc
 exact ⟨g,o,cs,rfl,hgB,(hs g rfl).trans h4,h5,h6⟩
theorem WV.nil (B:Nat) (w:World):WV B w (.slice none 0 0) []:=⟨none,0,rfl,nR _,by omega,fun h=>absurd rfl h⟩
def tln (g o n c:Nat):Value:=.slice (some ⟨g,if c=1 then o else o+1,none⟩) n (c-1)
theorem fate_cons {w:World} {nt gh M g o c v n:Nat} {z:Int} {lv:Value} (h:NTM w nt gh M (.slice (some ⟨g,o,none⟩) (n+1) c) lv) (hc:n+1<=c) (hcm:c<=9223372036854775807) (hz:w.cell? ⟨g,o,none⟩=some (.int .i64 z)) (hv:v<=7) (hb:bits BinOp.and IntKind.i64 z 7=(v:Int)) :
  Calls Tryz.prog 10 #[.pointer (some ⟨nt,0,none⟩)] w fun e w'=>e=.returned (.int .i64 (fat v))/\w'=w.setCell ⟨nt,1,none⟩ (tln g o n c):=by
 have c1:w.cell? ⟨nt,1,none⟩=some (.slice (some ⟨g,o,none⟩) (n+1) c):=aAa h
 have f1:w.frozen? ⟨nt,1,none⟩=false:=aAb h
 have i1:(n:Int)+1<=(c:Int):=by omega
 have i2:(c:Int)<=9223372036854775807:=by omega
 have i7:(0:Int)<(n:Int)+1:=by omega
 have i8:¬ (n:Int)+1=0:=by omega
 have i9:(1:Int)<=(n:Int)+1:=by omega
 have HFT:=hide (fun ww=>fateOf_any (z:=z) hv hb ww)
 clear h hb
 by_cases q:c=1
 ·have q2:n=0:=by omega
  subst q q2
  go_enter Tryz.func10,Tryz.ntmps10
  go_wp2_with fail
  refine (HFT.out _).mono ?_
  rintro e w2 ⟨rfl,rfl⟩
  go_wp2
  go_ret
  exact ⟨rfl,rfl⟩
 ·have i3:¬ (c:Int)=1:=by omega
  have i4:¬ c=1:=q
  have i5:¬ (1:Int)=(c:Int):=by omega
  have i6:¬ 1=c:=by omega
  go_enter Tryz.func10,Tryz.ntmps10
  go_wp2_with fail
  refine (HFT.out _).mono ?_
  rintro e w2 ⟨rfl,rfl⟩
  go_wp2
  go_ret
  refine ⟨rfl,?_⟩
  unfold tln
  rw [if_neg q]
  try rfl
def FtT (B nt gh M:Nat) (wv lv:Value) (F:List Int) (w w':World):Prop:=∃ wv',NTM w' nt gh M wv' lv/\WV B w' wv' F/\(∀ k,wv'.ownBlock=some k->wv.ownBlock=some k)/\(∀ k,k≠nt->w'.heap[k]?=w.heap[k]?)/\Below B w w'
theorem fate_any {B:Nat} {w:World} {nt gh M:Nat} {wv lv:Value} {F:List Int} (h:NTM w nt gh M wv lv) (hw:WV B w wv F) (hB:B<=nt) :
  Calls Tryz.prog 10 #[.pointer (some ⟨nt,0,none⟩)] w fun e w'=>e=.returned (.int .i64 (fv F))/\FtT B nt gh M wv lv F.tail w w':=by
 obtain ⟨a,c,rfl,h1,h2,h3⟩:=hw
 cases F with
 | nil =>
  refine (fate_none h).mono ?_
  rintro e w' ⟨rfl,rfl⟩
  exact ⟨rfl,_,h,⟨a,c,rfl,h1,h2,h3⟩,fun k e=>e,fun k _=>rfl,Below.refl _ _⟩
 | cons z F' =>
  have hl:(z::F').length=F'.length+1:=rfl
  rw [hl] at h h1
  obtain ⟨g,o,cs,rfl,hgB,h4,h5,h6⟩:=h3 (by omega)
  obtain ⟨v,hv,hb,hm⟩:=and7 z
  have hz:w.cell? ⟨g,o,none⟩=some (.int .i64 z):=(aAa h4).trans (h6 0 z rfl)
  refine (fate_cons h h1 h2 hz hv hb).mono ?_
  rintro e w' ⟨rfl,rfl⟩
  have hvv:v=(z % 8).toNat:=by omega
  have hgn:g≠nt:=fun e=>by
   subst e
   have h9:w.heap[g]?=_:=h
   rw [h4] at h9
   simp only [oI,cI] at h9
   exact absurd h9.2.1 (by decide)
  refine ⟨by rw [hvv];rfl,tln g o F'.length c,heap_setCell_same _ _ _ _ _ _ h,⟨_,c-1,rfl,by show F'.length<=c-1;omega,by omega,fun hc=>?_⟩,fun k e=>e,fun k hk=>heap_setCell_other _ _ _ _ hk,(Below.refl _ _).setCell (p:=⟨nt,1,none⟩) hB _⟩
  refine ⟨g,o+1,cs,by rw [if_neg (by omega)],hgB,(heap_setCell_other _ _ _ _ hgn).trans h4,by omega,fun j z' hj=>?_⟩
  rw [show o+1+j=o+(j+1) by omega]
  exact h6 (j+1) z' hj
structure NsF (B:Nat) (w w':World):Prop where
 bel:Below B w w'
 stay:∀ (k:Nat) (cs:Array Value) (t:TypeId) (fz:Nat×Nat),w.heap[k]?=some (Obj.cells cs t fz)->NT t->t≠183->t≠130->(t≠115/\t≠135)->(t≠45/\t≠70)->w'.heap[k]?=some (Obj.cells cs t fz)
theorem NsF.trans {B:Nat} {a b c:World} (h:NsF B a b) (k:NsF B b c):NsF B a c:=⟨h.1.trans k.1,fun i cs t fz e n1 n2 n3 n4 n5=>k.2 i cs t fz (h.2 i cs t fz e n1 n2 n3 n4 n5) n1 n2 n3 n4 n5⟩
theorem NsF.of {B:Nat} {w w':World} (h:Below w.heap.size w w') (hB:B<=w.heap.size):NsF B w w':=⟨h.mono hB,fun i cs t fz e _ _ _ _ _=>(h.block i (lO e)).trans e⟩
theorem NsF.nd {B:Nat} {w w':World} (h:NdK w w') (hb:Below B w w'):NsF B w w':=⟨hb,fun i cs t fz e n1 n2 n3 n4 _=>h i cs t fz e n1 n2 n3 n4⟩
theorem NsF.ft {B:Nat} {w w':World} (h:NsF B w w'):FT B w w':=⟨h.1,fun k cs fz e=>h.2 k cs _ fz e (by decide) (by decide) (by decide) (by decide) (by decide)⟩
structure NSw (B N M nt gh:Nat) (P:Nat->NdP) (A:Nat->NdS) (wv:Value) (F:List Int) (l:List LR) (W w:World):Prop where
 m:MND B N M P A (fun k=>wv.ownBlock=some k) W w
 f:WV B w wv F
 n:∃ lv,NTM w nt gh M wv lv/\LTV B w lv l
 h:∃ hc,w.heap[gh]?=some (.cells hc 51 (0,0))/\∀ j,j<M->hc[j*2+1]?=some (.pointer (some ⟨(P j).nd,0,none⟩))
 b:B<=nt
 bw:B<=w.heap.size
theorem LTV.keep {B:Nat} {w w':World} {lv:Value} {l:List LR} (h:LTV B w lv l) (hk:∀ (k:Nat) (cs:Array Value),w.heap[k]?=some (Obj.cells cs 70 (0,0))->w'.heap[k]?=some (Obj.cells cs 70 (0,0))) (hf:FT B w w'):LTV B w' lv l:=by
 obtain ⟨vs,q1,q2,q3⟩:=h
 refine ⟨vs,q1,aAl q2 fun k cs _ e=>hk k cs e,fun i x v e1 e2=>?_⟩
 obtain ⟨a,c,e3,e4⟩:=q3 i x v e1 e2
 exact ⟨a,c,e3,e4.ft hf⟩
theorem LTV.nil (B:Nat) (w:World):LTV B w (.slice none 0 0) []:=⟨[],rfl,World.ownsRow_nil w _ _ _,fun i x v e _=>by simp at e⟩
theorem MND.El {B N M:Nat} {P:Nat->NdP} {A:Nat->NdS} {E:Nat->Prop} {W w:World} (h:MND B N M P A E W w):∀ k,E k->FBk w k:=by
 obtain ⟨F,⟨_,hE⟩,_⟩:=h
 exact fun k hk=>(hE k hk).1
section
variable {B N M nt gh:Nat} {P:Nat->NdP} {A:Nat->NdS} {wv:Value} {F:List Int} {l:List LR} {W w w':World}
theorem NSw.later (h:NSw B N M nt gh P A wv F l W w) (hb:Below w.heap.size w w'):NSw B N M nt gh P A wv F l W w':=by
 obtain ⟨lv,h1,h2⟩:=h.n
 obtain ⟨hc,h3,h4⟩:=h.h
 have blk:∀ {k:Nat} {o:Obj},w.heap[k]?=some o->w'.heap[k]?=some o:=fun e=>(hb.block _ (lO e)).trans e
 exact ⟨h.m.later hb h.bw,h.f.same fun k hk=>hb.block k (h.m.El k hk).lt,⟨lv,h1.later hb,h2.keep (fun k cs e=>blk e) ⟨hb.mono h.bw,fun k cs fz e=>blk e⟩⟩,⟨hc,blk h3,h4⟩,h.b,nT h.bw hb.size⟩
theorem NSw.fate (h:NSw B N M nt gh P A wv F l W w) :
  Calls Tryz.prog 10 #[.pointer (some ⟨nt,0,none⟩)] w fun e w'=>e=.returned (.int .i64 (fv F))/\∃ wv',NSw B N M nt gh P A wv' F.tail l W w'/\NsF B w w'/\∀ k,k≠nt->w'.heap[k]?=w.heap[k]?:=by
 obtain ⟨lv,h1,h2⟩:=h.n
 obtain ⟨hc,h3,h4⟩:=h.h
 refine (fate_any h1 h.f h.b).mono ?_
 rintro e w' ⟨rfl,wv',k1,k2,k3,k4,k5⟩
 have ne:∀ {k:Nat} {cs:Array Value} {t:TypeId} {fz:Nat×Nat},w.heap[k]?=some (Obj.cells cs t fz)->t≠45->k≠nt:=by
  intro k cs t fz e ht e3
  subst e3
  have h9:w.heap[k]?=_:=h1
  rw [h9] at e
  simp only [oI,cI] at e
  exact ht e.2.1.symm
 have st:∀ {k:Nat} {cs:Array Value} {t:TypeId} {fz:Nat×Nat},w.heap[k]?=some (Obj.cells cs t fz)->t≠45->w'.heap[k]?=some (Obj.cells cs t fz):=fun e ht=>(k4 _ (ne e ht)).trans e
 have hf:FT B w w':=⟨k5,fun k cs fz e=>st e (by decide)⟩
 have hm:=h.m.oth (fun k=>k=nt) (fun k hk=>by
  subst hk
  exact ⟨_,_,_,h1,by unfold DTy;decide,by decide,by decide,by decide,by decide,by decide⟩) (fun k _ hk=>k4 k hk) k5
 exact ⟨rfl,wv',⟨hm.less k3,k2,⟨lv,k1,h2.keep (fun k cs e=>st e (by decide)) hf⟩,⟨hc,st h3 (by decide),h4⟩,h.b,nT h.bw k5.size⟩,⟨k5,fun k cs t fz e _ _ _ _ n5=>st e n5.1⟩,k4⟩
end
section
variable {B N M nt gh:Nat} {P:Nat->NdP} {A A':Nat->NdS} {wv:Value} {F:List Int} {l:List LR} {W w w':World}
theorem NSw.did (h:NSw B N M nt gh P A wv F l W w) (hM:MND B N M P A' (fun k=>wv.ownBlock=some k) W w') (hN:NdK w w') (hb:Below B w w') (hE:∀ k,wv.ownBlock=some k->w'.heap[k]?=w.heap[k]?):NSw B N M nt gh P A' wv F l W w':=by
 obtain ⟨lv,h1,h2⟩:=h.n
 obtain ⟨hc,h3,h4⟩:=h.h
 exact ⟨hM,h.f.same hE,⟨lv,hN nt _ _ _ h1 (by decide) (by decide) (by decide) (by decide),h2.keep (fun k cs e=>hN k cs _ _ e (by decide) (by decide) (by decide) (by decide)) ⟨hb,fun k cs fz e=>hN k cs _ fz e (by decide) (by decide) (by decide) (by decide)⟩⟩,⟨hc,hN gh _ _ _ h3 (by decide) (by decide) (by decide) (by decide),h4⟩,h.b,nT h.bw hb.size⟩
theorem NdK.one6 {w:World} {g:Nat} {a0 a1 a2 a3 a4 a5 b0 b1 b2 b3 b4 b5:Value} (hg:w.heap[g]?=some (.cells #[a0,a1,a2,a3,a4,a5] 75 (0,0))) {k:Nat} {cs:Array Value} {t:TypeId} {fz:Nat×Nat} (e:w.heap[k]?=some (Obj.cells cs t fz)) (ht:t≠75):((((((w.setCell ⟨g,0,none⟩ b0).setCell ⟨g,1,none⟩ b1).setCell ⟨g,2,none⟩ b2).setCell ⟨g,3,none⟩ b3).setCell ⟨g,4,none⟩ b4).setCell ⟨g,5,none⟩ b5).heap[k]?=some (Obj.cells cs t fz):=by
 refine (oth6 ?_).trans e
 intro e3
 subst e3
 rw [hg] at e
 simp only [oI,cI] at e
 exact ht e.2.1.symm
theorem NSw.wr6 (h:NSw B N M nt gh P A wv F l W w) {g:Nat} {a0 a1 a2 a3 a4 a5 b0 b1 b2 b3 b4 b5:Value} (hg:w.heap[g]?=some (.cells #[a0,a1,a2,a3,a4,a5] 75 (0,0))) (hB:B<=g):NSw B N M nt gh P A wv F l W ((((((w.setCell ⟨g,0,none⟩ b0).setCell ⟨g,1,none⟩ b1).setCell ⟨g,2,none⟩ b2).setCell ⟨g,3,none⟩ b3).setCell ⟨g,4,none⟩ b4).setCell ⟨g,5,none⟩ b5):=by
 obtain ⟨lv,h1,h2⟩:=h.n
 obtain ⟨hc,h3,h4⟩:=h.h
 have hb:Below B w ((((((w.setCell ⟨g,0,none⟩ b0).setCell ⟨g,1,none⟩ b1).setCell ⟨g,2,none⟩ b2).setCell ⟨g,3,none⟩ b3).setCell ⟨g,4,none⟩ b4).setCell ⟨g,5,none⟩ b5):=bel6 (Below.refl _ _) hB
 exact ⟨h.m.wr6 hg hB,h.f.same fun k hk=>oth6 ((h.m.El k hk).ne hg (by unfold DTy;decide)),⟨lv,NdK.one6 hg h1 (by decide),h2.keep (fun k cs e=>NdK.one6 hg e (by decide)) ⟨hb,fun k cs fz e=>NdK.one6 hg e (by decide)⟩⟩,⟨hc,NdK.one6 hg h3 (by decide),h4⟩,h.b,nT h.bw hb.size⟩
theorem NsF.wr6 {w0:World} (h:NsF B w0 w) {g:Nat} {b0 b1 b2 b3 b4 b5:Value} (hn:w0.heap.size<=g) (hB:B<=g):NsF B w0 ((((((w.setCell ⟨g,0,none⟩ b0).setCell ⟨g,1,none⟩ b1).setCell ⟨g,2,none⟩ b2).setCell ⟨g,3,none⟩ b3).setCell ⟨g,4,none⟩ b4).setCell ⟨g,5,none⟩ b5):=⟨bel6 h.1 hB,fun k cs t fz e n1 n2 n3 n4 n5=>(oth6 (by have:=(lO e);omega)).trans (h.2 k cs t fz e n1 n2 n3 n4 n5)⟩
end
theorem NSw.call0 {B N M nt gh i n cp:Nat} {P:Nat->NdP} {A:Nat->NdS} {wv:Value} {F:List Int} {l:List LR} {W w:World} {k lg at_:Int} {va:Option Addr} {vn1:Nat} {e1 tl1 tr1 bl1:Int} {sl1:Bool} {val1:List Nat} {x:NdS} (h:NSw B N M nt gh P A wv F l W w) (hM:i<M) (hM6:M<=64) (hf:fv F=0) (he1:¬ e1=20) (hdo:∀ ww,FT B w ww->DoT B N (P i) W k lg at_ va n cp (A i) x e1 tl1 sl1 tr1 bl1 vn1 val1 ww) :
  Calls Tryz.prog 48 #[.pointer (some ⟨nt,0,none⟩),.int .i64 (i:Int),.agg #[.int .i64 k,.int .i64 lg,.int .i64 at_,.slice va n cp]] w fun e w'=>(∃ sa1 sc1,e=.returned (.tuple #[.agg #[.int .i64 e1,.int .i64 tl1,.bool sl1,.int .i64 tr1,.int .i64 bl1,.slice sa1 vn1 sc1],.bool true])/\BK B w' sa1 vn1 sc1 val1)/\∃ wv',NSw B N M nt gh P (upS A i x) wv' F.tail l W w'/\NsF B w w':=by
 have lt:∀ {k:Nat} {o:Obj} {ww:World},ww.heap[k]?=some o->k<ww.heap.size:=fun e=>(lO e)
 have HBX:=hide (aBz w (.cells #[.int .i64 k,.int .i64 lg,.int .i64 at_,.slice va n cp] 68) (.cells #[.int .i64 0,.int .i64 0,.bool false,.int .i64 0,.int .i64 0,.slice none 0 0] 75))
 have HR2:Hid (((w.alloc (.cells #[.int .i64 k,.int .i64 lg,.int .i64 at_,.slice va n cp] 68)).alloc (.cells #[.int .i64 0,.int .i64 0,.bool false,.int .i64 0,.int .i64 0,.slice none 0 0] 75)).heap[w.heap.size]?=some (.cells #[.int .i64 k,.int .i64 lg,.int .i64 at_,.slice va n cp] 68 (0,0))):=aAf [Obj.cells #[.int .i64 k,.int .i64 lg,.int .i64 at_,.slice va n cp] 68,Obj.cells #[.int .i64 0,.int .i64 0,.bool false,.int .i64 0,.int .i64 0,.slice none 0 0] 75] w 0 _ rfl
 have HA2:Hid (((w.alloc (.cells #[.int .i64 k,.int .i64 lg,.int .i64 at_,.slice va n cp] 68)).alloc (.cells #[.int .i64 0,.int .i64 0,.bool false,.int .i64 0,.int .i64 0,.slice none 0 0] 75)).heap[w.heap.size+1]?=some (.cells #[.int .i64 0,.int .i64 0,.bool false,.int .i64 0,.int .i64 0,.slice none 0 0] 75 (0,0))):=aAf [Obj.cells #[.int .i64 k,.int .i64 lg,.int .i64 at_,.slice va n cp] 68,Obj.cells #[.int .i64 0,.int .i64 0,.bool false,.int .i64 0,.int .i64 0,.slice none 0 0] 75] w 1 _ rfl
 have HS2:=hide (h.later HBX.out)
 have HBW:=hide h.bw
 have HX:=hide hM
 have hfa:=HS2.out.fate
 rw [hf] at hfa
 have HFT:=hide hfa
 have HNT:Hid (nt<w.heap.size):=by
  obtain ⟨lv,h1,_⟩:=h.n
  exact lt h1
 obtain ⟨lv,hn,_⟩:=HS2.out.n
 have HHS:=hide (has_yes hn hM)
 have c0:((w.alloc (.cells #[.int .i64 k,.int .i64 lg,.int .i64 at_,.slice va n cp] 68)).alloc (.cells #[.int .i64 0,.int .i64 0,.bool false,.int .i64 0,.int .i64 0,.slice none 0 0] 75)).cell? ⟨nt,0,none⟩=some (.slice (some ⟨gh,0,none⟩) M M):=aAa hn
 have xx:(i:Int)<(M:Int):=by omega
 have xx0:(0:Int)<=(i:Int):=by omega
 have xx1:¬ (i:Int)<0:=by omega
 have HE1:=hide he1
 have HDO:=hide hdo
 clear he1 hdo
 clear h hf hfa hn hM
 go_enter Tryz.func48,Tryz.ntmps48
 go_wp2_with fail
 refine HHS.out.mono ?_
 rintro e w2' ⟨rfl,rfl⟩
 generalize ((w.alloc (.cells #[.int .i64 k,.int .i64 lg,.int .i64 at_,.slice va n cp] 68)).alloc (.cells #[.int .i64 0,.int .i64 0,.bool false,.int .i64 0,.int .i64 0,.slice none 0 0] 75))=w2 at *
 generalize hn0:w.heap.size=n0 at *
 generalize hn1:n0+1=n1 at *
 have HN1:Hid (n0<n1):=by show n0<n1;omega
 go_wp2_with fail
 refine HFT.out.mono ?_
 rintro e w3 ⟨rfl,wv',h3,hf3,hk3⟩
 have HR3:Hid (w3.heap[n0]?=_):=(hk3 n0 (by have:=HNT.out;omega)).trans HR2.out
 have HA3:Hid (w3.heap[n1]?=_):=(hk3 n1 (by have:=HNT.out;have:=HN1.out;omega)).trans HA2.out
 have HS3:=hide h3
 have HF3:Hid (NsF B w w3):=(NsF.of (w':=w2) (by rw [hn0];exact HBX.out) (by rw [hn0];exact HBW.out)).trans hf3
 have HBC:Hid (B<=n1):=by show B<=n1;have:=HBW.out;have:=HN1.out;omega
 have HNW:Hid (n0<=n1):=by show n0<=n1;have:=HN1.out;omega
 clear h3 hf3 hk3 HFT HHS c0
 have HD4:=hide (by
  obtain ⟨hc,g1,g2⟩:=HS3.out.h
  exact host_do (w:=w3) HS3.out.m HS3.out.bw HX.out g1 (g2 i HX.out) HE1.out (fun k hk=>(HS3.out.m.El k hk).lt) (fun ww hw=>HDO.out ww (HF3.out.trans (NsF.of hw HS3.out.bw)).ft))
 have r40:w3.cell? ⟨n0,0,none⟩=some (.int .i64 k):=aAa HR3.out
 have r41:w3.cell? ⟨n0,1,none⟩=some (.int .i64 lg):=aAa HR3.out
 have r42:w3.cell? ⟨n0,2,none⟩=some (.int .i64 at_):=aAa HR3.out
 have r43:w3.cell? ⟨n0,3,none⟩=some (.slice va n cp):=aAa HR3.out
 go_wp2_with fail
 refine HD4.out.mono ?_
 rintro e w4 ⟨⟨sa1,sc1,rfl,hk4⟩,hM4,hN4,hb4,hE4⟩
 have HS4:=hide (HS3.out.did hM4 hN4 hb4 hE4)
 have HF4:=hide (HF3.out.trans (NsF.nd hN4 hb4))
 have HR4:Hid (w4.heap[n0]?=_):=hN4 n0 _ _ _ HR3.out (by decide) (by decide) (by decide) (by decide)
 have HA4:Hid (w4.heap[n1]?=_):=hN4 n1 _ _ _ HA3.out (by decide) (by decide) (by decide) (by decide)
 have HK4:=hide hk4
 clear hk4 hM4 hN4 hb4 hE4 HD4 r40 r41 r42 r43
 have z0:w4.cell? ⟨n1,0,none⟩=some (.int .i64 0):=aAa HA4.out
 have zf0:w4.frozen? ⟨n1,0,none⟩=false:=aAb HA4.out
 have z1:w4.cell? ⟨n1,1,none⟩=some (.int .i64 0):=aAa HA4.out
 have zf1:w4.frozen? ⟨n1,1,none⟩=false:=aAb HA4.out
 have z2:w4.cell? ⟨n1,2,none⟩=some (.bool false):=aAa HA4.out
 have zf2:w4.frozen? ⟨n1,2,none⟩=false:=aAb HA4.out
 have z3:w4.cell? ⟨n1,3,none⟩=some (.int .i64 0):=aAa HA4.out
 have zf3:w4.frozen? ⟨n1,3,none⟩=false:=aAb HA4.out
 have z4:w4.cell? ⟨n1,4,none⟩=some (.int .i64 0):=aAa HA4.out
 have zf4:w4.frozen? ⟨n1,4,none⟩=false:=aAb HA4.out
 have z5:w4.cell? ⟨n1,5,none⟩=some (.slice none 0 0):=aAa HA4.out
 have zf5:w4.frozen? ⟨n1,5,none⟩=false:=aAb HA4.out
 go_wp2
 (try simp only [Exit.inBlock,Exit.then])
 refine bodyPost_ret (aCc rfl _ _ n1 _ rfl (set6 HA4.out) rfl) rfl ?_
 exact ⟨⟨sa1,sc1,rfl,HK4.out.ft (ft6 HA4.out (by decide) HBC.out)⟩,wv',HS4.out.wr6 HA4.out HBC.out,HF4.out.wr6 (by rw [hn0];exact HNW.out) HBC.out⟩
theorem NSw.call1 {B N M nt gh i n cp:Nat} {P:Nat->NdP} {A:Nat->NdS} {wv:Value} {F:List Int} {l:List LR} {W w:World} {k lg at_:Int} {va:Option Addr}  (h:NSw B N M nt gh P A wv F l W w) (hM:i<M) (hM6:M<=64) (hf:fv F=1)  :
  Calls Tryz.prog 48 #[.pointer (some ⟨nt,0,none⟩),.int .i64 (i:Int),.agg #[.int .i64 k,.int .i64 lg,.int .i64 at_,.slice va n cp]] w fun e w'=>e=.returned (.tuple #[.agg #[.int .i64 0,.int .i64 0,.bool false,.int .i64 0,.int .i64 0,.slice none 0 0],.bool false])/\∃ wv',NSw B N M nt gh P A wv' F.tail l W w'/\NsF B w w':=by
 have lt:∀ {k:Nat} {o:Obj} {ww:World},ww.heap[k]?=some o->k<ww.heap.size:=fun e=>(lO e)
 have HBX:=hide (aBz w (.cells #[.int .i64 k,.int .i64 lg,.int .i64 at_,.slice va n cp] 68) (.cells #[.int .i64 0,.int .i64 0,.bool false,.int .i64 0,.int .i64 0,.slice none 0 0] 75))
 have HR2:Hid (((w.alloc (.cells #[.int .i64 k,.int .i64 lg,.int .i64 at_,.slice va n cp] 68)).alloc (.cells #[.int .i64 0,.int .i64 0,.bool false,.int .i64 0,.int .i64 0,.slice none 0 0] 75)).heap[w.heap.size]?=some (.cells #[.int .i64 k,.int .i64 lg,.int .i64 at_,.slice va n cp] 68 (0,0))):=aAf [Obj.cells #[.int .i64 k,.int .i64 lg,.int .i64 at_,.slice va n cp] 68,Obj.cells #[.int .i64 0,.int .i64 0,.bool false,.int .i64 0,.int .i64 0,.slice none 0 0] 75] w 0 _ rfl
 have HA2:Hid (((w.alloc (.cells #[.int .i64 k,.int .i64 lg,.int .i64 at_,.slice va n cp] 68)).alloc (.cells #[.int .i64 0,.int .i64 0,.bool false,.int .i64 0,.int .i64 0,.slice none 0 0] 75)).heap[w.heap.size+1]?=some (.cells #[.int .i64 0,.int .i64 0,.bool false,.int .i64 0,.int .i64 0,.slice none 0 0] 75 (0,0))):=aAf [Obj.cells #[.int .i64 k,.int .i64 lg,.int .i64 at_,.slice va n cp] 68,Obj.cells #[.int .i64 0,.int .i64 0,.bool false,.int .i64 0,.int .i64 0,.slice none 0 0] 75] w 1 _ rfl
 have HS2:=hide (h.later HBX.out)
 have HBW:=hide h.bw
 have HX:=hide hM
 have hfa:=HS2.out.fate
 rw [hf] at hfa
 have HFT:=hide hfa
 have HNT:Hid (nt<w.heap.size):=by
  obtain ⟨lv,h1,_⟩:=h.n
  exact lt h1
 obtain ⟨lv,hn,_⟩:=HS2.out.n
 have HHS:=hide (has_yes hn hM)
 have c0:((w.alloc (.cells #[.int .i64 k,.int .i64 lg,.int .i64 at_,.slice va n cp] 68)).alloc (.cells #[.int .i64 0,.int .i64 0,.bool false,.int .i64 0,.int .i64 0,.slice none 0 0] 75)).cell? ⟨nt,0,none⟩=some (.slice (some ⟨gh,0,none⟩) M M):=aAa hn
 have xx:(i:Int)<(M:Int):=by omega
 have xx0:(0:Int)<=(i:Int):=by omega
 have xx1:¬ (i:Int)<0:=by omega
 clear h hf hfa hn hM
 go_enter Tryz.func48,Tryz.ntmps48
 go_wp2_with fail
 refine HHS.out.mono ?_
 rintro e w2' ⟨rfl,rfl⟩
 generalize ((w.alloc (.cells #[.int .i64 k,.int .i64 lg,.int .i64 at_,.slice va n cp] 68)).alloc (.cells #[.int .i64 0,.int .i64 0,.bool false,.int .i64 0,.int .i64 0,.slice none 0 0] 75))=w2 at *
 generalize hn0:w.heap.size=n0 at *
 generalize hn1:n0+1=n1 at *
 have HN1:Hid (n0<n1):=by show n0<n1;omega
 go_wp2_with fail
 refine HFT.out.mono ?_
 rintro e w3 ⟨rfl,wv',h3,hf3,hk3⟩
 have HR3:Hid (w3.heap[n0]?=_):=(hk3 n0 (by have:=HNT.out;omega)).trans HR2.out
 have HA3:Hid (w3.heap[n1]?=_):=(hk3 n1 (by have:=HNT.out;have:=HN1.out;omega)).trans HA2.out
 have HS3:=hide h3
 have HF3:Hid (NsF B w w3):=(NsF.of (w':=w2) (by rw [hn0];exact HBX.out) (by rw [hn0];exact HBW.out)).trans hf3
 have HBC:Hid (B<=n1):=by show B<=n1;have:=HBW.out;have:=HN1.out;omega
 have HNW:Hid (n0<=n1):=by show n0<=n1;have:=HN1.out;omega
 clear h3 hf3 hk3 HFT HHS c0
 have z0:w3.cell? ⟨n1,0,none⟩=some (.int .i64 0):=aAa HA3.out
 have zf0:w3.frozen? ⟨n1,0,none⟩=false:=aAb HA3.out
 have z1:w3.cell? ⟨n1,1,none⟩=some (.int .i64 0):=aAa HA3.out
 have zf1:w3.frozen? ⟨n1,1,none⟩=false:=aAb HA3.out
 have z2:w3.cell? ⟨n1,2,none⟩=some (.bool false):=aAa HA3.out
 have zf2:w3.frozen? ⟨n1,2,none⟩=false:=aAb HA3.out
 have z3:w3.cell? ⟨n1,3,none⟩=some (.int .i64 0):=aAa HA3.out
 have zf3:w3.frozen? ⟨n1,3,none⟩=false:=aAb HA3.out
 have z4:w3.cell? ⟨n1,4,none⟩=some (.int .i64 0):=aAa HA3.out
 have zf4:w3.frozen? ⟨n1,4,none⟩=false:=aAb HA3.out
 have z5:w3.cell? ⟨n1,5,none⟩=some (.slice none 0 0):=aAa HA3.out
 have zf5:w3.frozen? ⟨n1,5,none⟩=false:=aAb HA3.out
 go_wp2
 (try simp only [Exit.inBlock,Exit.then])
 refine bodyPost_ret (aCc rfl _ _ n1 _ rfl (set6 HA3.out) rfl) rfl ?_
 exact ⟨rfl,wv',HS3.out.wr6 HA3.out HBC.out,HF3.out.wr6 (by rw [hn0];exact HNW.out) HBC.out⟩
theorem NSw.call2 {B N M nt gh i n cp:Nat} {P:Nat->NdP} {A:Nat->NdS} {wv:Value} {F:List Int} {l:List LR} {W w:World} {k lg at_:Int} {va:Option Addr} {vn1:Nat} {e1 tl1 tr1 bl1:Int} {sl1:Bool} {val1:List Nat} {x:NdS} (h:NSw B N M nt gh P A wv F l W w) (hM:i<M) (hM6:M<=64) (hf:fv F=2) (he1:¬ e1=20) (hdo:∀ ww,FT B w ww->DoT B N (P i) W k lg at_ va n cp (A i) x e1 tl1 sl1 tr1 bl1 vn1 val1 ww) :
  Calls Tryz.prog 48 #[.pointer (some ⟨nt,0,none⟩),.int .i64 (i:Int),.agg #[.int .i64 k,.int .i64 lg,.int .i64 at_,.slice va n cp]] w fun e w'=>e=.returned (.tuple #[.agg #[.int .i64 0,.int .i64 0,.bool false,.int .i64 0,.int .i64 0,.slice none 0 0],.bool false])/\∃ wv',NSw B N M nt gh P (upS A i x) wv' F.tail l W w'/\NsF B w w':=by
 have lt:∀ {k:Nat} {o:Obj} {ww:World},ww.heap[k]?=some o->k<ww.heap.size:=fun e=>(lO e)
 have HBX:=hide (aBz w (.cells #[.int .i64 k,.int .i64 lg,.int .i64 at_,.slice va n cp] 68) (.cells #[.int .i64 0,.int .i64 0,.bool false,.int .i64 0,.int .i64 0,.slice none 0 0] 75))
 have HR2:Hid (((w.alloc (.cells #[.int .i64 k,.int .i64 lg,.int .i64 at_,.slice va n cp] 68)).alloc (.cells #[.int .i64 0,.int .i64 0,.bool false,.int .i64 0,.int .i64 0,.slice none 0 0] 75)).heap[w.heap.size]?=some (.cells #[.int .i64 k,.int .i64 lg,.int .i64 at_,.slice va n cp] 68 (0,0))):=aAf [Obj.cells #[.int .i64 k,.int .i64 lg,.int .i64 at_,.slice va n cp] 68,Obj.cells #[.int .i64 0,.int .i64 0,.bool false,.int .i64 0,.int .i64 0,.slice none 0 0] 75] w 0 _ rfl
 have HA2:Hid (((w.alloc (.cells #[.int .i64 k,.int .i64 lg,.int .i64 at_,.slice va n cp] 68)).alloc (.cells #[.int .i64 0,.int .i64 0,.bool false,.int .i64 0,.int .i64 0,.slice none 0 0] 75)).heap[w.heap.size+1]?=some (.cells #[.int .i64 0,.int .i64 0,.bool false,.int .i64 0,.int .i64 0,.slice none 0 0] 75 (0,0))):=aAf [Obj.cells #[.int .i64 k,.int .i64 lg,.int .i64 at_,.slice va n cp] 68,Obj.cells #[.int .i64 0,.int .i64 0,.bool false,.int .i64 0,.int .i64 0,.slice none 0 0] 75] w 1 _ rfl
 have HS2:=hide (h.later HBX.out)
 have HBW:=hide h.bw
 have HX:=hide hM
 have hfa:=HS2.out.fate
 rw [hf] at hfa
 have HFT:=hide hfa
 have HNT:Hid (nt<w.heap.size):=by
  obtain ⟨lv,h1,_⟩:=h.n
  exact lt h1
 obtain ⟨lv,hn,_⟩:=HS2.out.n
 have HHS:=hide (has_yes hn hM)
 have c0:((w.alloc (.cells #[.int .i64 k,.int .i64 lg,.int .i64 at_,.slice va n cp] 68)).alloc (.cells #[.int .i64 0,.int .i64 0,.bool false,.int .i64 0,.int .i64 0,.slice none 0 0] 75)).cell? ⟨nt,0,none⟩=some (.slice (some ⟨gh,0,none⟩) M M):=aAa hn
 have xx:(i:Int)<(M:Int):=by omega
 have xx0:(0:Int)<=(i:Int):=by omega
 have xx1:¬ (i:Int)<0:=by omega
 have HE1:=hide he1
 have HDO:=hide hdo
 clear he1 hdo
 clear h hf hfa hn hM
 go_enter Tryz.func48,Tryz.ntmps48
 go_wp2_with fail
 refine HHS.out.mono ?_
 rintro e w2' ⟨rfl,rfl⟩
 generalize ((w.alloc (.cells #[.int .i64 k,.int .i64 lg,.int .i64 at_,.slice va n cp] 68)).alloc (.cells #[.int .i64 0,.int .i64 0,.bool false,.int .i64 0,.int .i64 0,.slice none 0 0] 75))=w2 at *
 generalize hn0:w.heap.size=n0 at *
 generalize hn1:n0+1=n1 at *
 have HN1:Hid (n0<n1):=by show n0<n1;omega
 go_wp2_with fail
 refine HFT.out.mono ?_
 rintro e w3 ⟨rfl,wv',h3,hf3,hk3⟩
 have HR3:Hid (w3.heap[n0]?=_):=(hk3 n0 (by have:=HNT.out;omega)).trans HR2.out
 have HA3:Hid (w3.heap[n1]?=_):=(hk3 n1 (by have:=HNT.out;have:=HN1.out;omega)).trans HA2.out
 have HS3:=hide h3
 have HF3:Hid (NsF B w w3):=(NsF.of (w':=w2) (by rw [hn0];exact HBX.out) (by rw [hn0];exact HBW.out)).trans hf3
 have HBC:Hid (B<=n1):=by show B<=n1;have:=HBW.out;have:=HN1.out;omega
 have HNW:Hid (n0<=n1):=by show n0<=n1;have:=HN1.out;omega
 clear h3 hf3 hk3 HFT HHS c0
 have HD4:=hide (by
  obtain ⟨hc,g1,g2⟩:=HS3.out.h
  exact host_do (w:=w3) HS3.out.m HS3.out.bw HX.out g1 (g2 i HX.out) HE1.out (fun k hk=>(HS3.out.m.El k hk).lt) (fun ww hw=>HDO.out ww (HF3.out.trans (NsF.of hw HS3.out.bw)).ft))
 have r40:w3.cell? ⟨n0,0,none⟩=some (.int .i64 k):=aAa HR3.out
 have r41:w3.cell? ⟨n0,1,none⟩=some (.int .i64 lg):=aAa HR3.out
 have r42:w3.cell? ⟨n0,2,none⟩=some (.int .i64 at_):=aAa HR3.out
 have r43:w3.cell? ⟨n0,3,none⟩=some (.slice va n cp):=aAa HR3.out
 go_wp2_with fail
 refine HD4.out.mono ?_
 rintro e w4 ⟨⟨sa1,sc1,rfl,hk4⟩,hM4,hN4,hb4,hE4⟩
 have HS4:=hide (HS3.out.did hM4 hN4 hb4 hE4)
 have HF4:=hide (HF3.out.trans (NsF.nd hN4 hb4))
 have HR4:Hid (w4.heap[n0]?=_):=hN4 n0 _ _ _ HR3.out (by decide) (by decide) (by decide) (by decide)
 have HA4:Hid (w4.heap[n1]?=_):=hN4 n1 _ _ _ HA3.out (by decide) (by decide) (by decide) (by decide)
 have HK4:=hide hk4
 clear hk4 hM4 hN4 hb4 hE4 HD4 r40 r41 r42 r43
 have z0:w4.cell? ⟨n1,0,none⟩=some (.int .i64 0):=aAa HA4.out
 have zf0:w4.frozen? ⟨n1,0,none⟩=false:=aAb HA4.out
 have z1:w4.cell? ⟨n1,1,none⟩=some (.int .i64 0):=aAa HA4.out
 have zf1:w4.frozen? ⟨n1,1,none⟩=false:=aAb HA4.out
 have z2:w4.cell? ⟨n1,2,none⟩=some (.bool false):=aAa HA4.out
 have zf2:w4.frozen? ⟨n1,2,none⟩=false:=aAb HA4.out
 have z3:w4.cell? ⟨n1,3,none⟩=some (.int .i64 0):=aAa HA4.out
 have zf3:w4.frozen? ⟨n1,3,none⟩=false:=aAb HA4.out
 have z4:w4.cell? ⟨n1,4,none⟩=some (.int .i64 0):=aAa HA4.out
 have zf4:w4.frozen? ⟨n1,4,none⟩=false:=aAb HA4.out
 have z5:w4.cell? ⟨n1,5,none⟩=some (.slice none 0 0):=aAa HA4.out
 have zf5:w4.frozen? ⟨n1,5,none⟩=false:=aAb HA4.out
 go_wp2
 (try simp only [Exit.inBlock,Exit.then])
 refine bodyPost_ret (aCc rfl _ _ n1 _ rfl (set6 HA4.out) rfl) rfl ?_
 exact ⟨rfl,wv',HS4.out.wr6 HA4.out HBC.out,HF4.out.wr6 (by rw [hn0];exact HNW.out) HBC.out⟩
def StK (g:Nat) (w w':World):Prop:=∀ (k:Nat) (cs:Array Value) (t:TypeId) (fz:Nat×Nat),w.heap[k]?=some (Obj.cells cs t fz)->NT t->k≠g->w'.heap[k]?=some (Obj.cells cs t fz)
theorem StK.trans {g:Nat} {a b c:World} (h:StK g a b) (k:StK g b c):StK g a c:=fun i cs t fz e n1 n2=>k i cs t fz (h i cs t fz e n1 n2) n1 n2
theorem host_start {B n M:Nat} {P:Nat->NdP} {A:Nat->NdS} {E:Nat->Prop} {W w:World} {p gh i:Nat} {hc:Array Value} (h:MNE B n M P A E W p (DS.new n) w) (hB:B<=w.heap.size) (hW:Below B W w) (h3:3<=n) (h4:n<=4096) (hh:w.heap[gh]?=some (.cells hc 51 (0,0))) (hgB:B<=gh) (hc0:hc[i*2]?=some (.pointer (some ⟨p,0,none⟩))) (hc1:i*2+1<hc.size) :
  Calls Tryz.prog 17 #[.pointer (some ⟨gh,i*2,none⟩)] w fun e w'=>∃ x:NdP,e=.returned (.int .i64 0)/\MND B n (M+1) (upS P M x) (upS A M ⟨0,[],fun _=>(0,0,false)⟩) E W w'/\w'.heap[gh]?=some (.cells (hc.setIfInBounds (i*2+1) (.pointer (some ⟨x.nd,0,none⟩))) 51 (0,0))/\Below B w w'/\StK gh w w':=by
 have lt:∀ {k:Nat} {o:Obj} {ww:World},ww.heap[k]?=some o->k<ww.heap.size:=fun e=>(lO e)
 have HC1:=hide (h.call (s':=(DS.new n).restart) (fun S hd=>@restart_any ⟨S⟩ B p (DS.new n) w hd hB))
 have HB:=hide hB
 have HW:=hide hW
 have H3:=hide h3
 have H4:=hide h4
 have HH:=hide hh
 have HG:=hide hgB
 have HC0:=hide hc0
 have HCS:=hide hc1
 have c0:w.cell? ⟨gh,i*2,none⟩=some (.pointer (some ⟨p,0,none⟩)):=(aAa hh).trans hc0
 clear h hB hW h3 h4 hh hgB hc0 hc1
 go_enter Tryz.func17,Tryz.ntmps17
 go_wp2_with fail
 refine HC1.out.mono ?_
 rintro e w1 ⟨rfl,h1,hb1,hs1⟩
 have HM1:Hid (MNE B n M P A E W p (DS.new n) w1):=h1
 have HH1:Hid (w1.heap[gh]?=_):=hs1 _ _ _ _ HH.out (by decide)
 have HB1:Hid (Below B w w1):=hb1
 have HS1:Hid (StK gh w w1):=fun k cs t fz e ht _=>hs1 k cs t fz e ht
 have hB1:B<=w1.heap.size:=nT HB.out hb1.size
 have HC2:=hide (HM1.out.call (s':=(DS.new n).arm 0 0 0 0) (fun S hd=>@arm_any ⟨S⟩ B p (DS.new n) 0 0 0 0 w1 hd hB1 (by decide) (by decide)))
 have c1:w1.cell? ⟨gh,i*2,none⟩=some (.pointer (some ⟨p,0,none⟩)):=(aAa HH1.out).trans HC0.out
 clear h1 hb1 hs1 hB1 HC1 c0 HM1
 go_wp2_with fail
 refine HC2.out.mono ?_
 rintro e w2 ⟨rfl,h2,hb2,hs2⟩
 have HM2:Hid (MNE B n M P A E W p (DS.new n) w2):=h2
 have HH2:Hid (w2.heap[gh]?=_):=hs2 _ _ _ _ HH1.out (by decide)
 have HB2:Hid (Below B w w2):=HB1.out.trans hb2
 have HS2:Hid (StK gh w w2):=HS1.out.trans fun k cs t fz e ht _=>hs2 k cs t fz e ht
 have HC3:=hide (HM2.out.open (nT HB.out HB2.out.size) (HW.out.trans HB2.out) H3.out H4.out)
 have c2:w2.cell? ⟨gh,i*2,none⟩=some (.pointer (some ⟨p,0,none⟩)):=(aAa HH2.out).trans HC0.out
 clear h2 hb2 hs2 HC2 c1 HM2 HH1 HB1 HS1
 go_wp2_with fail
 refine HC3.out.mono ?_
 rintro e w3 ⟨x,rfl,_,h3,hb3,hs3⟩
 have HM3:=hide h3
 have HH3:Hid (w3.heap[gh]?=_):=hs3 _ _ _ _ HH2.out (by decide)
 have HB3:Hid (Below B w w3):=HB2.out.trans hb3
 have HS3:Hid (StK gh w w3):=HS2.out.trans fun k cs t fz e ht _=>hs3 k cs t fz e ht
 have c3:w3.cell? ⟨gh,i*2+1,none⟩=some (hc[i*2+1]'HCS.out):=(aAa HH3.out).trans (Array.getElem?_eq_getElem _)
 have f3:w3.frozen? ⟨gh,i*2+1,none⟩=false:=aAb HH3.out
 clear h3 hb3 hs3 HC3 c2 HH2 HB2 HS2
 generalize hc[i*2+1]'HCS.out=old at *
 go_wp2
 go_ret
 refine ⟨x,rfl,HM3.out.wrO HH3.out HG.out (by unfold DTy;decide) (by decide) (by decide) (by decide) (by decide),heap_setCell_same _ _ _ _ _ _ HH3.out,HB3.out.setCell (p:=⟨gh,i*2+1,none⟩) HG.out _,fun k cs t fz e n1 n2=>(heap_setCell_other _ _ _ _ n2).trans (HS3.out k cs t fz e n1 n2)⟩
def nd0:Nat->NdS:=fun _=>⟨0,[],fun _=>(0,0,false)⟩
theorem nd0_up (M:Nat):upS nd0 M ⟨0,[],fun _=>(0,0,false)⟩=nd0:=by
 funext j
 unfold upS nd0
 split<;>rfl
structure NWI (B n j M nt gh:Nat) (P:Nat->NdP) (hc:Array Value) (W w wx:World):Prop where
 m:MND B n j P nd0 (fun _=>False) W wx
 h:wx.heap[gh]?=some (.cells hc 51 (0,0))
 z:hc.size=M*2
 c:∀ q,q<j->hc[q*2+1]?=some (.pointer (some ⟨(P q).nd,0,none⟩))
 n:NTM wx nt gh M (.slice none 0 0) (.slice none 0 0)
 b:Below B w wx
 s:∀ (k:Nat) (cs:Array Value) (t:TypeId) (fz:Nat×Nat),w.heap[k]?=some (Obj.cells cs t fz)->NT t->wx.heap[k]?=some (Obj.cells cs t fz)
theorem MNE.wrH {B N M:Nat} {P:Nat->NdP} {A:Nat->NdS} {E:Nat->Prop} {W w:World} {p g o:Nat} {s:DS} {u:Value} {cs:Array Value} (h:MNE B N M P A E W p s w) (hg:w.heap[g]?=some (.cells cs 51 (0,0))) (hB:B<=g):MNE B N M P A E W p s (w.setCell ⟨g,o,none⟩ u):=by
 obtain ⟨F,⟨⟨k1,hE⟩,k2⟩,hD⟩:=h
 have h0:¬ DTy 51:=by unfold DTy;decide
 have oth:∀ k,k≠g->(w.setCell ⟨g,o,none⟩ u).heap[k]?=w.heap[k]?:=fun k hk=>heap_setCell_other _ _ _ _ hk
 have ne:∀ {k:Nat} {cs':Array Value} {t':TypeId} {fz:Nat×Nat},w.heap[k]?=some (Obj.cells cs' t' fz)->51≠t'->k≠g:=by
  intro k cs' t' fz e ht e3
  subst e3
  rw [hg] at e
  simp only [oI,cI] at e
  exact ht e.2.1
 refine ⟨F,⟨⟨fun i hi=>?_,fun k hk=>⟨(hE k hk).1.same (oth k ((hE k hk).1.ne hg h0)),(hE k hk).2⟩⟩,k2⟩,?_⟩
 ·obtain ⟨⟨d1,⟨c1,d2⟩,⟨c2,d3⟩,⟨c3,d4⟩⟩,⟨_,c5,d5,_⟩,_⟩:=k1 i hi
  exact (k1 i hi).keep (fun k hk=>oth k ((d1 k hk).ne hg h0)) (fun k cs fz e=>(oth k (ne e (by decide))).trans e) (oth _ (ne d2 (by decide))) (oth _ (ne d3 (by decide))) (oth _ (ne d4 (by decide))) ((Below.refl _ _).setCell (p:=⟨g,o,none⟩) hB u) (oth _ (ne d5 (by decide)))
 ·letI:Gd:=⟨fun k=>E k\/∃ j,j<M/\F j k⟩
  refine hD.other hg (by decide) (by decide) (by decide) (by decide) (by decide) (fun hk=>?_)
  rcases hk with hk | ⟨i,hi,hk⟩
  ·exact (hE g hk).1.ne hg h0 rfl
  ·exact ((k1 i hi).1.1 g hk).ne hg h0 rfl
theorem info_host:(Tryz.prog.info? 51).map (fun i=>(i.zero,i.size,i.bytes))=some (some (.agg #[.pointer none,.pointer none]),2,16):=by kernel_rfl
theorem net_new {B n M:Nat} {W w:World} (hB:B<=w.heap.size) (hW:Below B W w) (hM1:1<=M) (hM5:M<=5) (h3:3<=n) (h4:n<=4096) :
  Calls Tryz.prog 5 #[.int .i64 (M:Int),.int .i64 (n:Int)] w fun e w'=>∃ nt gh P,e=.returned (.tuple #[.pointer (some ⟨nt,0,none⟩),.int .i64 0])/\NSw B n M nt gh P nd0 (.slice none 0 0) [] [] W w'/\NsF B w w':=by
 obtain ⟨i0,hi,hz0,hz1,hz2⟩:=info_parts info_host
 have lt:∀ {k:Nat} {o:Obj} {ww:World},ww.heap[k]?=some o->k<ww.heap.size:=fun e=>(lO e)
 have HB:=hide hB
 have HW:=hide hW
 have H3:=hide h3
 have H4:=hide h4
 have d1:decide ((M:Int)<1)=false:=decide_eq_false (by omega)
 have d2:decide ((5:Int)<(M:Int))=false:=decide_eq_false (by omega)
 have d3:decide ((n:Int)<3)=false:=decide_eq_false (by omega)
 have d4:decide ((4096:Int)<(n:Int))=false:=decide_eq_false (by omega)
 clear hB hW h3 h4
 go_enter Tryz.func5,Tryz.ntmps5
 go_wp2_with (refine wpList_make_full w rfl _ _ 43 rfl w.heap.size 51 i0 (.agg #[.pointer none,.pointer none]) 2 Tryz.underlying43 hi hz0 hz1 .i64 .i64 M M M rfl rfl rfl rfl (by rw [hz2];omega) (by unfold maxLen;omega) (nR _) ?_;intro w1 ho1 hg1;have HO1:=hide (aGi ho1);have HG1:=hide ((Below.refl w.heap.size w).grown hg1 (nR _) (fun k hk=>by cases hk));clear ho1 hg1)
 have HN2:Hid (NTM (w1.alloc (.cells #[.slice (some ⟨w.heap.size,0,none⟩) M M,.slice none 0 0,.slice none 0 0] 45)) w1.heap.size w.heap.size M (.slice none 0 0) (.slice none 0 0)):=heap_alloc_new w1 _
 have HBX:=hide (aAc w1 (.cells #[.slice (some ⟨w.heap.size,0,none⟩) M M,.slice none 0 0,.slice none 0 0] 45))
 have HH2:=hide ((HBX.out.block _ (lt HO1.out.1)).trans HO1.out.1)
 have HSZ:Hid ((madeCells (Value.agg #[Value.pointer none,Value.pointer none]).cells (M*2)).toList.toArray.size=M*2):=by show _=_;simp [size_madeCells]
 have HB2:Hid (Below w.heap.size w (w1.alloc (.cells #[.slice (some ⟨w.heap.size,0,none⟩) M M,.slice none 0 0,.slice none 0 0] 45))):=HG1.out.trans (HBX.out.mono HG1.out.size)
 have HNT:Hid (w.heap.size<w1.heap.size):=lt HO1.out.1
 clear HO1 HG1 HBX
 generalize (madeCells (Value.agg #[Value.pointer none,Value.pointer none]).cells (M*2)).toList.toArray=hc0 at *
 generalize w1.alloc (.cells #[.slice (some ⟨w.heap.size,0,none⟩) M M,.slice none 0 0,.slice none 0 0] 45)=w2 at *
 generalize w1.heap.size=nt at *
 generalize hgh:w.heap.size=gh at *
 go_loopw [34] (fun i wx=>∃ j:Nat,j<=M/\i=.int .i64 j/\∃ P hc,NWI B n j M nt gh P hc W w wx) (fun i _=>M-(intOf i).toNat)
 case atStart=>exact ⟨0,by omega,rfl,fun _=>⟨0,0,0,0,0,0⟩,hc0,⟨MND.nil _ _ _ _ _ _,HH2.out,HSZ.out,fun q hq=>absurd hq (by omega),HN2.out,HB2.out.mono HB.out,fun k cs t fz e _=>(HB2.out.block k (by rw [<-hgh];exact lt e)).trans e⟩⟩
 case round =>
  obtain ⟨j,hj,rfl,P,hc,hI⟩:=hrel
  have HI:=hide hI
  clear hI HN2 HH2 HSZ HB2
  have c0:wr.cell? ⟨nt,0,none⟩=some (.slice (some ⟨gh,0,none⟩) M M):=aAa HI.out.n
  by_cases hjn:j<M
  ·have i1:(j:Int)<(M:Int):=by omega
   have i2:(0:Int)<=(j:Int):=by omega
   have i3:(j:Int)<1000:=by omega
   have hBr:B<=wr.heap.size:=nT (by rw [hgh];exact HB.out) HI.out.b.size
   have HDK:=hide (HI.out.m.disk hBr (n:=n) (by have:=H3.out;omega) H4.out)
   clear hBr
   go_wp2_with fail
   refine HDK.out.mono ?_
   rintro e w3 ⟨p,rfl,h3,hb3⟩
   have HM3:=hide h3
   have HH3:Hid (w3.heap[gh]?=_):=(hb3.block gh (lt HI.out.h)).trans HI.out.h
   have HN3:Hid (w3.heap[nt]?=_):=(hb3.block nt (lt HI.out.n)).trans HI.out.n
   have HB3:Hid (Below B w w3):=HI.out.b.trans (hb3.mono (nT (by rw [hgh];exact HB.out) HI.out.b.size))
   have HS3:Hid (∀ (k:Nat) (cs:Array Value) (t:TypeId) (fz:Nat×Nat),w.heap[k]?=some (Obj.cells cs t fz)->NT t->w3.heap[k]?=some (Obj.cells cs t fz)):=fun k cs t fz e ht=>(hb3.block k (lt (HI.out.s k cs t fz e ht))).trans (HI.out.s k cs t fz e ht)
   have hz9:hc.size=M*2:=HI.out.z
   have d0:w3.cell? ⟨nt,0,none⟩=some (.slice (some ⟨gh,0,none⟩) M M):=aAa HN3.out
   have d1:w3.cell? ⟨gh,j*2,none⟩=some (hc[j*2]'(by omega)):=(aAa HH3.out).trans (Array.getElem?_eq_getElem _)
   have f1:w3.frozen? ⟨gh,j*2,none⟩=false:=aAb HH3.out
   generalize hc[j*2]'(by omega)=old at d1
   have HGB:Hid (B<=gh):=HB.out
   have HM4:=hide (HM3.out.wrH (o:=j*2) (u:=.pointer (some ⟨p,0,none⟩)) HH3.out HGB.out)
   have HH4:=hide (heap_setCell_same w3 gh (j*2) hc 51 (.pointer (some ⟨p,0,none⟩)) HH3.out)
   have HN4:Hid ((w3.setCell ⟨gh,j*2,none⟩ (.pointer (some ⟨p,0,none⟩))).heap[nt]?=_):=(heap_setCell_other _ _ _ _ (show nt≠gh by have:=HNT.out;omega)).trans HN3.out
   have HB4:Hid (Below B w (w3.setCell ⟨gh,j*2,none⟩ (.pointer (some ⟨p,0,none⟩)))):=HB3.out.setCell (p:=⟨gh,j*2,none⟩) HGB.out _
   have HS4:Hid (∀ (k:Nat) (cs:Array Value) (t:TypeId) (fz:Nat×Nat),w.heap[k]?=some (Obj.cells cs t fz)->NT t->(w3.setCell ⟨gh,j*2,none⟩ (.pointer (some ⟨p,0,none⟩))).heap[k]?=some (Obj.cells cs t fz)):=fun k cs t fz e ht=>(heap_setCell_other _ _ _ _ (show k≠gh by have:=lt e;omega)).trans (HS3.out k cs t fz e ht)
   have HZ:=hide hz9
   clear h3 hb3 hz9 HDK c0 HH3 HN3 HB3 HS3 HM3
   go_upto_region 11 with fail
   clear d0 d1 f1
   generalize w3.setCell ⟨gh,j*2,none⟩ (.pointer (some ⟨p,0,none⟩))=w4 at *
   have d0:w4.cell? ⟨nt,0,none⟩=some (.slice (some ⟨gh,0,none⟩) M M):=aAa HN4.out
   have HST:=hide (host_start (i:=j) HM4.out (nT (by rw [hgh];exact HB.out) HB4.out.size) (HW.out.trans HB4.out) H3.out H4.out HH4.out HGB.out (Array.getElem?_setIfInBounds_self_of_lt (by have:=HZ.out;omega)) (by rw [Array.size_setIfInBounds];have:=HZ.out;omega))
   go_wp2_with fail
   refine HST.out.mono ?_
   rintro e w5 ⟨x,rfl,h5,hh5,hb5,hs5⟩
   have HX:Hid (∃ P hc,NWI B n (j+1) M nt gh P hc W w w5):=by
    rw [nd0_up] at h5
    refine ⟨upS P j x,_,⟨h5,hh5,by simp only [Array.size_setIfInBounds];exact HZ.out,fun q hq=>?_,hs5 _ _ _ _ HN4.out (by decide) (by have:=HNT.out;omega),HB4.out.trans hb5,fun k cs t fz e ht=>hs5 k cs t fz (HS4.out k cs t fz e ht) ht (by have:=lt e;omega)⟩⟩
    by_cases e:q=j
    ·subst e
     rw [aB5]
     exact Array.getElem?_setIfInBounds_self_of_lt (by rw [Array.size_setIfInBounds];have:=HZ.out;omega)
    ·rw [aBj _ _ e,Array.getElem?_setIfInBounds_ne (by omega),Array.getElem?_setIfInBounds_ne (by omega)]
     exact HI.out.c q (by omega)
   clear h5 hh5 hb5 hs5 HST
   go_wp2_with fail
   go_roundw
   case rel=>exact ⟨j+1,by omega,by go_num,HX.out⟩
   case measure=>simp [intOf];omega
  ·have i1:¬ (j:Int)<(M:Int):=by omega
   have hjM:j=M:=by omega
   subst hjM
   go_wp2
   go_ret2
   refine ⟨nt,rfl,⟨gh,P,⟨HI.out.m.less (fun k hk=>?_),WV.nil _ _,⟨_,HI.out.n,LTV.nil _ _⟩,⟨hc,HI.out.h,HI.out.c⟩,by have:=HNT.out;have:=HB.out;omega,nT (by rw [hgh];exact HB.out) HI.out.b.size⟩⟩,HI.out.b,fun k cs t fz e n1 _ _ _ _=>HI.out.s k cs t fz e n1⟩
   have hk:(none:Option Nat)=some k:=hk
   cases hk
structure AsF (B gb:Nat) (w w':World):Prop where
 bel:Below B w w'
 stay:∀ (k:Nat) (cs:Array Value) (t:TypeId) (fz:Nat×Nat),w.heap[k]?=some (Obj.cells cs t fz)->NT t->t≠183->t≠130->(t≠115/\t≠135)->(t≠45/\t≠70)->k≠gb->w'.heap[k]?=some (Obj.cells cs t fz)
theorem AsF.trans {B gb:Nat} {a b c:World} (h:AsF B gb a b) (k:AsF B gb b c):AsF B gb a c:=⟨h.1.trans k.1,fun i cs t fz e n1 n2 n3 n4 n5 n6=>k.2 i cs t fz (h.2 i cs t fz e n1 n2 n3 n4 n5 n6) n1 n2 n3 n4 n5 n6⟩
theorem AsF.ns {B gb:Nat} {w w':World} (h:NsF B w w'):AsF B gb w w':=⟨h.1,fun i cs t fz e n1 n2 n3 n4 n5 _=>h.2 i cs t fz e n1 n2 n3 n4 n5⟩
theorem AsF.ft {B gb:Nat} {w w':World} {cs:Array Value} {fz:Nat×Nat} (h:AsF B gb w w') (hg:w.heap[gb]?=some (.cells cs 60 fz)):FT B w w':=⟨h.1,fun k cs' fz' e=>h.2 k cs' _ fz' e (by decide) (by decide) (by decide) (by decide) (by decide) (aAr e hg (by decide))⟩
theorem NSw.set1 {B N M nt gh:Nat} {P:Nat->NdP} {A:Nat->NdS} {wv:Value} {F:List Int} {l:List LR} {W w:World} (h:NSw B N M nt gh P A wv F l W w) {g o:Nat} {u:Value} {cs:Array Value} {t:TypeId} (hg:w.heap[g]?=some (.cells cs t (0,0))) (hB:B<=g) (h0:¬ DTy t) (h1:t≠5) (h2:t≠183) (h3:t≠130) (h4:t≠115/\t≠135) (h5:t≠45/\t≠70/\t≠51):NSw B N M nt gh P A wv F l W (w.setCell ⟨g,o,none⟩ u):=by
 obtain ⟨lv,k1,k2⟩:=h.n
 obtain ⟨hc,k3,k4⟩:=h.h
 have hb:Below B w (w.setCell ⟨g,o,none⟩ u):=(Below.refl _ _).setCell (p:=⟨g,o,none⟩) hB u
 have st:∀ {k:Nat} {cs':Array Value} {t':TypeId} {fz:Nat×Nat},w.heap[k]?=some (Obj.cells cs' t' fz)->t'≠t->(w.setCell ⟨g,o,none⟩ u).heap[k]?=some (Obj.cells cs' t' fz):=fun e ht=>(heap_setCell_other _ _ _ _ (aAr e hg ht)).trans e
 exact ⟨h.m.wrO hg hB h0 h1 h2 h3 h4,h.f.same fun k hk=>heap_setCell_other _ _ _ _ ((h.m.El k hk).ne hg h0),⟨lv,st k1 (Ne.symm h5.1),k2.keep (fun k cs e=>st e (Ne.symm h5.2.1)) ⟨hb,fun k cs fz e=>st e (Ne.symm h1)⟩⟩,⟨hc,st k3 (Ne.symm h5.2.2),k4⟩,h.b,nT h.bw hb.size⟩
section
variable {w w0:World} {g o k B:Nat} {cs:Array Value} {b0 b1 b2 b3 b4 b5:Value} {t:TypeId}
theorem set6o (h:w.heap[g]?=some (.cells cs t (0,0))):((((((w.setCell ⟨g,o,none⟩ b0).setCell ⟨g,o+1,none⟩ b1).setCell ⟨g,o+2,none⟩ b2).setCell ⟨g,o+3,none⟩ b3).setCell ⟨g,o+4,none⟩ b4).setCell ⟨g,o+5,none⟩ b5).heap[g]?=some (.cells ((((((cs.setIfInBounds o b0).setIfInBounds (o+1) b1).setIfInBounds (o+2) b2).setIfInBounds (o+3) b3).setIfInBounds (o+4) b4).setIfInBounds (o+5) b5) t (0,0)):=heap_setCell_same _ _ _ _ _ _ (heap_setCell_same _ _ _ _ _ _ (heap_setCell_same _ _ _ _ _ _ (heap_setCell_same _ _ _ _ _ _ (heap_setCell_same _ _ _ _ _ _ (heap_setCell_same _ _ _ _ _ _ h)))))
theorem bel6o (hb:Below B w0 w) (hg:B<=g):Below B w0 ((((((w.setCell ⟨g,o,none⟩ b0).setCell ⟨g,o+1,none⟩ b1).setCell ⟨g,o+2,none⟩ b2).setCell ⟨g,o+3,none⟩ b3).setCell ⟨g,o+4,none⟩ b4).setCell ⟨g,o+5,none⟩ b5):=(((((hb.setCell (p:=⟨g,o,none⟩) hg _).setCell (p:=⟨g,o+1,none⟩) hg _).setCell (p:=⟨g,o+2,none⟩) hg _).setCell (p:=⟨g,o+3,none⟩) hg _).setCell (p:=⟨g,o+4,none⟩) hg _).setCell (p:=⟨g,o+5,none⟩) hg _
theorem oth6o (hne:k≠g):((((((w.setCell ⟨g,o,none⟩ b0).setCell ⟨g,o+1,none⟩ b1).setCell ⟨g,o+2,none⟩ b2).setCell ⟨g,o+3,none⟩ b3).setCell ⟨g,o+4,none⟩ b4).setCell ⟨g,o+5,none⟩ b5).heap[k]?=w.heap[k]?:=by
 rw [heap_setCell_other _ _ _ _ hne,heap_setCell_other _ _ _ _ hne,heap_setCell_other _ _ _ _ hne,heap_setCell_other _ _ _ _ hne,heap_setCell_other _ _ _ _ hne,heap_setCell_other _ _ _ _ hne]
theorem ft6o (h:w.heap[g]?=some (.cells cs t (0,0))) (ht:t≠5) (hB:B<=g):FT B w ((((((w.setCell ⟨g,o,none⟩ b0).setCell ⟨g,o+1,none⟩ b1).setCell ⟨g,o+2,none⟩ b2).setCell ⟨g,o+3,none⟩ b3).setCell ⟨g,o+4,none⟩ b4).setCell ⟨g,o+5,none⟩ b5):=⟨bel6o (Below.refl _ _) hB,fun k cs' fz e=>(oth6o (aAr e h (Ne.symm ht))).trans e⟩
theorem at6o (hk:k<o\/o+6<=k):((((((cs.setIfInBounds o b0).setIfInBounds (o+1) b1).setIfInBounds (o+2) b2).setIfInBounds (o+3) b3).setIfInBounds (o+4) b4).setIfInBounds (o+5) b5)[k]?=cs[k]?:=by
 rw [Array.getElem?_setIfInBounds_ne (by omega),Array.getElem?_setIfInBounds_ne (by omega),Array.getElem?_setIfInBounds_ne (by omega),Array.getElem?_setIfInBounds_ne (by omega),Array.getElem?_setIfInBounds_ne (by omega),Array.getElem?_setIfInBounds_ne (by omega)]
theorem at6o0 (hk:o+6<=cs.size):((((((cs.setIfInBounds o b0).setIfInBounds (o+1) b1).setIfInBounds (o+2) b2).setIfInBounds (o+3) b3).setIfInBounds (o+4) b4).setIfInBounds (o+5) b5)[o]?=some b0:=by
 rw [Array.getElem?_setIfInBounds_ne (by omega),Array.getElem?_setIfInBounds_ne (by omega),Array.getElem?_setIfInBounds_ne (by omega),Array.getElem?_setIfInBounds_ne (by omega),Array.getElem?_setIfInBounds_ne (by omega),Array.getElem?_setIfInBounds_self_of_lt (by omega)]
theorem at6o1 (hk:o+6<=cs.size):((((((cs.setIfInBounds o b0).setIfInBounds (o+1) b1).setIfInBounds (o+2) b2).setIfInBounds (o+3) b3).setIfInBounds (o+4) b4).setIfInBounds (o+5) b5)[o+1]?=some b1:=by
 rw [Array.getElem?_setIfInBounds_ne (by omega),Array.getElem?_setIfInBounds_ne (by omega),Array.getElem?_setIfInBounds_ne (by omega),Array.getElem?_setIfInBounds_ne (by omega),Array.getElem?_setIfInBounds_self_of_lt (by simp only [Array.size_setIfInBounds];omega)]
theorem at6o2 (hk:o+6<=cs.size):((((((cs.setIfInBounds o b0).setIfInBounds (o+1) b1).setIfInBounds (o+2) b2).setIfInBounds (o+3) b3).setIfInBounds (o+4) b4).setIfInBounds (o+5) b5)[o+2]?=some b2:=by
 rw [Array.getElem?_setIfInBounds_ne (by omega),Array.getElem?_setIfInBounds_ne (by omega),Array.getElem?_setIfInBounds_ne (by omega),Array.getElem?_setIfInBounds_self_of_lt (by simp only [Array.size_setIfInBounds];omega)]
theorem at6o3 (hk:o+6<=cs.size):((((((cs.setIfInBounds o b0).setIfInBounds (o+1) b1).setIfInBounds (o+2) b2).setIfInBounds (o+3) b3).setIfInBounds (o+4) b4).setIfInBounds (o+5) b5)[o+3]?=some b3:=by
 rw [Array.getElem?_setIfInBounds_ne (by omega),Array.getElem?_setIfInBounds_ne (by omega),Array.getElem?_setIfInBounds_self_of_lt (by simp only [Array.size_setIfInBounds];omega)]
theorem at6o4 (hk:o+6<=cs.size):((((((cs.setIfInBounds o b0).setIfInBounds (o+1) b1).setIfInBounds (o+2) b2).setIfInBounds (o+3) b3).setIfInBounds (o+4) b4).setIfInBounds (o+5) b5)[o+4]?=some b4:=by
 rw [Array.getElem?_setIfInBounds_ne (by omega),Array.getElem?_setIfInBounds_self_of_lt (by simp only [Array.size_setIfInBounds];omega)]
theorem at6o5 (hk:o+6<=cs.size):((((((cs.setIfInBounds o b0).setIfInBounds (o+1) b1).setIfInBounds (o+2) b2).setIfInBounds (o+3) b3).setIfInBounds (o+4) b4).setIfInBounds (o+5) b5)[o+5]?=some b5:=by
 rw [Array.getElem?_setIfInBounds_self_of_lt (by simp only [Array.size_setIfInBounds];omega)]
end
theorem NSw.set6A {B N M nt gh:Nat} {P:Nat->NdP} {A:Nat->NdS} {wv:Value} {F:List Int} {l:List LR} {W w:World} (h:NSw B N M nt gh P A wv F l W w) {g o:Nat} {b0 b1 b2 b3 b4 b5:Value} {cs:Array Value} (hg:w.heap[g]?=some (.cells cs 75 (0,0))) (hB:B<=g):NSw B N M nt gh P A wv F l W ((((((w.setCell ⟨g,o,none⟩ b0).setCell ⟨g,o+1,none⟩ b1).setCell ⟨g,o+2,none⟩ b2).setCell ⟨g,o+3,none⟩ b3).setCell ⟨g,o+4,none⟩ b4).setCell ⟨g,o+5,none⟩ b5):=by
 have d:¬ DTy 75:=by unfold DTy;decide
 have s1:=heap_setCell_same w g o _ _ b0 hg
 have s2:=heap_setCell_same _ g (o+1) _ _ b1 s1
 have s3:=heap_setCell_same _ g (o+2) _ _ b2 s2
 have s4:=heap_setCell_same _ g (o+3) _ _ b3 s3
 have s5:=heap_setCell_same _ g (o+4) _ _ b4 s4
 exact (((((h.set1 hg hB d (by decide) (by decide) (by decide) (by decide) (by decide)).set1 s1 hB d (by decide) (by decide) (by decide) (by decide) (by decide)).set1 s2 hB d (by decide) (by decide) (by decide) (by decide) (by decide)).set1 s3 hB d (by decide) (by decide) (by decide) (by decide) (by decide)).set1 s4 hB d (by decide) (by decide) (by decide) (by decide) (by decide)).set1 s5 hB d (by decide) (by decide) (by decide) (by decide) (by decide)
theorem info_ans6:(Tryz.prog.info? 75).map (fun i=>(i.zero,i.size,i.bytes))=some (some (.agg #[.int .i64 0,.int .i64 0,.bool false,.int .i64 0,.int .i64 0,.slice none 0 0]),6,64):=by kernel_rfl
theorem nodes_any {w:World} {nt gh M:Nat} {wv lv:Value} (h:NTM w nt gh M wv lv):Calls Tryz.prog 33 #[.pointer (some ⟨nt,0,none⟩)] w fun e w'=>e=.returned (.int .i64 (M:Int))/\w'=w:=by
 have c0:w.cell? ⟨nt,0,none⟩=some (.slice (some ⟨gh,0,none⟩) M M):=aAa h
 go_enter Tryz.func33,Tryz.ntmps33
 go_wp2
 go_ret
 exact ⟨rfl,rfl⟩
theorem made_all {w:World} {B g n sz:Nat} {e:TypeId} {xs:List Value} (h:w.ownsRow B e sz (.slice (some ⟨g,0,none⟩) n n) n xs):∃ cs,w.heap[g]?=some (.cells cs e (0,0))/\cs.size=n*sz/\B<=g:=by
 rcases h.2 with ⟨e,_⟩ | ⟨g',cap,cur,e,h1,h2,h3,h4,h5,h6⟩
 ·cases e
 ·simp only [Value.slice.injEq,oI,Addr.mk.injEq,and_true,true_and] at e
  obtain ⟨rfl,rfl⟩:=e
  exact ⟨cur,h2,h5,h1⟩
theorem NSw.srt {B N M nt gh i:Nat} {P:Nat->NdP} {A:Nat->NdS} {wv:Value} {F:List Int} {l:List LR} {W w:World} (h:NSw B N M nt gh P A wv F l W w) (hi:i<M):Srt (A i).l:=by
 obtain ⟨F,⟨h1,_⟩,_⟩:=h.m
 exact @NX.srt ⟨fun _=>False⟩ _ _ _ _ _ _ _ _ _ _ _ _ _ ((h1 i hi).nx (fun _=>False) (fun k hk=>False.elim hk))
section
variable {B N nt gh gb v b mm:Nat} {P:Nat->NdP} {l:List LR} {R:Nat->Rec} {W w w':World} {who pr:Int}
end
theorem major_3 {w:World} {nt gh:Nat} {wv lv:Value} (h:NTM w nt gh 3 wv lv):Calls Tryz.prog 34 #[.pointer (some ⟨nt,0,none⟩)] w fun e w'=>e=.returned (.int .i64 2)/\w'=w:=by
 have c0:w.cell? ⟨nt,0,none⟩=some (.slice (some ⟨gh,0,none⟩) 3 3):=aAa h
 go_enter Tryz.func34,Tryz.ntmps34
 go_wp2
 go_ret
 exact ⟨rfl,rfl⟩
def bal (p who:Nat):Nat:=4*(p / 4+1)+who+1
theorem bal_lt (p who:Nat):p<bal p who:=by unfold bal;omega
theorem ballot_any {w:World} {gb nt p who:Nat} {v:Int} (hb:w.heap[gb]?=some (.cells #[.pointer (some ⟨nt,0,none⟩),.int .i64 v,.int .i64 (who:Int),.int .i64 (p:Int)] 60 (0,0))) (hp:p<1152921504606846976) (hw:who<=3):Calls Tryz.prog 35 #[.pointer (some ⟨gb,0,none⟩)] w fun e w'=>e=.returned (.int .i64 (bal p who:Int))/\Below w.heap.size w w':=by
 have c2:w.cell? ⟨gb,2,none⟩=some (.int .i64 (who:Int)):=aAa hb
 have c3:w.cell? ⟨gb,3,none⟩=some (.int .i64 (p:Int)):=aAa hb
 obtain ⟨q,hq⟩:∃ q,q=p / 4:=⟨_,rfl⟩
 have h1:(p:Int).tdiv 4=(q:Int):=by rw [hq,Int.tdiv_eq_ediv_of_nonneg (by omega)];omega
 have h2:IntKind.i64.wrap ((q:Int)+1)=(q:Int)+1:=wrap_small _ (by omega) (by omega)
 have h3:IntKind.i64.wrap (4*((q:Int)+1))=4*((q:Int)+1):=wrap_small _ (by omega) (by omega)
 have h4:IntKind.i64.wrap (4*((q:Int)+1)+(who:Int))=4*((q:Int)+1)+(who:Int):=wrap_small _ (by omega) (by omega)
 have h5:IntKind.i64.wrap (4*((q:Int)+1)+(who:Int)+1)=(bal p who:Int):=by rw [wrap_small _ (by omega) (by omega)];unfold bal;omega
 have h6:IntKind.i64.wrap (q:Int)=(q:Int):=wrap_small _ (by omega) (by omega)
 clear hb hp hw hq
 go_enter Tryz.func35,Tryz.ntmps35
 go_upto_region 1 with fail
 have HX1:Hid ((fun wx=>wx.cell? ⟨gb,2,none⟩=some (.int .i64 (who:Int))/\wx.cell? ⟨gb,3,none⟩=some (.int .i64 (p:Int))) w.drew):=⟨c2,c3⟩
 refine wp_region_noPanic ?_
 refine wp_region_held_drew (S:=fun wx=>wx.cell? ⟨gb,2,none⟩=some (.int .i64 (who:Int))/\wx.cell? ⟨gb,3,none⟩=some (.int .i64 (p:Int))) (by kernel_rfl) HX1.out (fun hHeld=>?_)
 refine wpAnyH_tk 0 3 ?_
 refine wpAnyH_tk 1 4 ?_
 refine wpAnyH_tk 2 5 ?_
 refine wpAnyH_tk 3 6 ?_
 refine wpAnyH_tk 4 7 ?_
 refine wpAnyH_tk 5 8 ?_
 refine wpAnyH_tk 6 9 ?_
 refine wpAnyH_tk 7 10 ?_
 refine wpAnyH_tk 8 11 ?_
 refine wpAnyH_tk 9 12 ?_
 refine wpAnyH_tk 10 13 ?_
 refine wpAnyH_tk 11 14 ?_
 refine wpAnyH_tk 12 15 ?_
 refine wpAnyH_tk 13 2 ?_
 refine wpAnyH_done (by kernel_rfl) ?_ _
 refine NoPanic.normal ?_
 clear hHeld
 go_wp2
 go_ret
 exact ⟨rfl,(Below.refl _ _).drew⟩
structure An where
 e:Int
 tl:Nat
 bl:Nat
 val:List Nat
def rK (k:Bool) (b:Nat) (val:List Nat) (r:Rec):Rec:=if k=true then (if r.1<=b then (b,b,val) else r) else (if r.1<b then (b,r.2.1,r.2.2) else r)
def aK (k:Bool) (b:Nat) (r:Rec):An:=if k=true then (if r.1<=b then ⟨0,b,0,[]⟩ else ⟨41,r.1,0,[]⟩) else (if r.1<b then ⟨0,b,r.2.1,vlR r⟩ else ⟨41,r.1,r.2.1,vlR r⟩)
def aN:An:=⟨40,0,0,[]⟩
def cst (k:Bool):Nat:=if k=true then 4 else 1
def cs1 (k:Bool):Nat:=if k=true then 2 else 1
theorem cs1_le (k:Bool):cs1 k<=cst k:=by cases k<;>decide
structure Mt where
 F:List Int
 R:Nat->Rec
 l:List LR
 m:Nat->Nat
def kd (k:Bool):Int:=if k=true then 8 else 7
def stp (v:Nat) (k:Bool) (b:Nat) (val:List Nat) (i:Nat) (s:Mt):An×Mt :=
 if fv s.F=0 then (aK k b (s.R i),⟨s.F.tail,upS s.R i (rK k b val (s.R i)),s.l,upS s.m i (s.m i+cs1 k)⟩)
 else if fv s.F=1 then (aN,⟨s.F.tail,s.R,s.l,upS s.m i (s.m i+0)⟩)
 else if fv s.F=2 then (aN,⟨s.F.tail,upS s.R i (rK k b val (s.R i)),s.l,upS s.m i (s.m i+cs1 k)⟩)
 else if fv s.F=3 then (aN,⟨s.F.tail,s.R,s.l++[⟨i,kd k,(v:Int),(b:Int),val⟩],upS s.m i (s.m i+0)⟩)
 else (aK k b (rK k b val (s.R i)),⟨s.F.tail,upS s.R i (rK k b val (rK k b val (s.R i))),s.l,upS s.m i (s.m i+cst k)⟩)
def akS (v:Nat) (k:Bool) (b:Nat) (val:List Nat) (s:Mt):Nat->Mt
 | 0=>s
 | j+1=>(stp v k b val j (akS v k b val s j)).2
def akA (v:Nat) (k:Bool) (b:Nat) (val:List Nat) (s:Mt) (j:Nat):An:=(stp v k b val j (akS v k b val s j)).1
def prj (a:Nat->An) (p:Nat):Nat->Nat
 | 0=>p
 | j+1=>max (prj a p j) (a j).tl
def mis (a:Nat->An):Nat->Nat
 | 0=>0
 | j+1=>mis a j+(if (a j).e=0 then 0 else 1)
def bst (a:Nat->An) (ov:List Nat):Nat->Nat×List Nat
 | 0=>(0,ov)
 | j+1=>if (a j).e=0/\(bst a ov j).1<(a j).bl then ((a j).bl,(a j).val) else bst a ov j
def rnd (v who:Nat) (ov:List Nat) (s:Mt) (p:Nat):Option (Option (List Nat))×Mt×Nat :=
 if 2<=mis (akA v false (bal p who) [] s) 3 then (none,akS v false (bal p who) [] s 3,prj (akA v false (bal p who) [] s) p 3)
 else if (bst (akA v false (bal p who) [] s) ov 3).1=0/\ov.length=0 then (some none,akS v false (bal p who) [] s 3,prj (akA v false (bal p who) [] s) p 3)
 else if 2<=mis (akA v true (bal p who) (bst (akA v false (bal p who) [] s) ov 3).2 (akS v false (bal p who) [] s 3)) 3 then (none,akS v true (bal p who) (bst (akA v false (bal p who) [] s) ov 3).2 (akS v false (bal p who) [] s 3) 3,prj (akA v true (bal p who) (bst (akA v false (bal p who) [] s) ov 3).2 (akS v false (bal p who) [] s 3)) (prj (akA v false (bal p who) [] s) p 3) 3)
 else (some (some (bst (akA v false (bal p who) [] s) ov 3).2),akS v true (bal p who) (bst (akA v false (bal p who) [] s) ov 3).2 (akS v false (bal p who) [] s 3) 3,p)
def dec (v who:Nat) (ov:List Nat):Nat->Mt->Nat->Option (Option (List Nat))×Mt
 | 0,s,_=>(none,s)
 | g+1,s,p=>if (rnd v who ov s p).1=none then dec v who ov g (rnd v who ov s p).2.1 (rnd v who ov s p).2.2 else ((rnd v who ov s p).1,(rnd v who ov s p).2.1)
class WF where
 ok:List Int->Prop
 tl:∀ F,ok F->ok F.tail
structure MtOk [WF] (K m:Nat) (s:Mt):Prop where
 r:∀ i,i<3->(s.R i).1<=K/\(s.R i).2.2.length<=1800
 f:s.l.length+s.F.length<=64
 m:∀ i,i<3->s.m i<=m
 k:WF.ok s.F
theorem rK_le {k:Bool} {b K:Nat} {val:List Nat} {r:Rec} (h:r.1<=K/\r.2.2.length<=1800) (hb:b<=K) (hv:val.length<=1800):(rK k b val r).1<=K/\(rK k b val r).2.2.length<=1800:=by
 unfold rK
 split<;>split<;>first | exact ⟨hb,hv⟩ | exact ⟨hb,h.2⟩ | exact h
theorem aK_le {k:Bool} {b K:Nat} {r:Rec} (h:r.1<=K/\r.2.2.length<=1800) (hb:b<=K):(aK k b r).tl<=K/\(aK k b r).val.length<=1800:=by
 have h9:(vlR r).length<=1800:=by unfold vlR;split;exact Nat.zero_le _;exact h.2
 unfold aK
 split<;>split<;>first | exact ⟨hb,Nat.zero_le _⟩ | exact ⟨h.1,Nat.zero_le _⟩ | exact ⟨hb,h9⟩ | exact ⟨h.1,h9⟩
theorem aN_le (K:Nat):aN.tl<=K/\aN.val.length<=1800:=⟨Nat.zero_le _,Nat.zero_le _⟩
theorem tail_len (F:List Int):F.tail.length<=F.length:=by cases F<;>simp
theorem upS_le {f:Nat->Rec} {i K:Nat} {x:Rec} (h:∀ i,i<3->(f i).1<=K/\(f i).2.2.length<=1800) (hx:x.1<=K/\x.2.2.length<=1800):∀ j,j<3->(upS f i x j).1<=K/\(upS f i x j).2.2.length<=1800:=by
 intro j hj
 unfold upS
 split
 ·exact hx
 ·exact h j hj
theorem stp_ok {v b i K:Nat} {k:Bool} {val:List Nat} {s:Mt} (hi:i<3) (h:∀ i,i<3->(s.R i).1<=K/\(s.R i).2.2.length<=1800) (hf:s.l.length+s.F.length<=64) (hb:b<=K) (hv:val.length<=1800) :
  ((∀ i,i<3->((stp v k b val i s).2.R i).1<=K/\((stp v k b val i s).2.R i).2.2.length<=1800)->True)/\(∀ j,j<3->((stp v k b val i s).2.R j).1<=K/\((stp v k b val i s).2.R j).2.2.length<=1800)/\(stp v k b val i s).2.l.length+(stp v k b val i s).2.F.length<=64/\((stp v k b val i s).1.tl<=K/\(stp v k b val i s).1.val.length<=1800)/\(stp v k b val i s).2.F=s.F.tail:=by
 have h1:=tail_len s.F
 have h2:=rK_le (k:=k) (val:=val) (h i hi) hb hv
 have h3:=rK_le (k:=k) (val:=val) h2 hb hv
 have h4:fv s.F≠0->s.F.tail.length+1=s.F.length:=by
  intro h9
  cases hF:s.F with
  | nil=>rw [hF] at h9;exact absurd rfl h9
  | cons z F=>simp
 refine ⟨fun _=>trivial,?_⟩
 unfold stp
 split
 ·exact ⟨upS_le h h2,by show s.l.length+s.F.tail.length<=64;omega,aK_le (h i hi) hb,rfl⟩
 split
 ·exact ⟨h,by show s.l.length+s.F.tail.length<=64;omega,aN_le _,rfl⟩
 split
 ·exact ⟨upS_le h h2,by show s.l.length+s.F.tail.length<=64;omega,aN_le _,rfl⟩
 split
 ·rename_i h5 _ _ _
  have h6:=h4 h5
  exact ⟨h,by show (s.l++[_]).length+s.F.tail.length<=64;rw [lA,List.length_singleton];omega,aN_le _,rfl⟩
 ·exact ⟨upS_le h h3,by show s.l.length+s.F.tail.length<=64;omega,aK_le h2 hb,rfl⟩
theorem stp_m (v:Nat) (k:Bool) (b:Nat) (val:List Nat) (i:Nat) (s:Mt):∃ c,c<=cst k/\(s.F=[]->c=cs1 k)/\(stp v k b val i s).2.m=upS s.m i (s.m i+c):=by
 have h1:=cs1_le k
 have h2:∀ {x:Int},fv s.F=x->x≠0->¬ s.F=[]:=fun h9 h8 h7=>by rw [h7] at h9;exact h8 h9.symm
 unfold stp
 split
 ·exact ⟨_,h1,fun _=>rfl,rfl⟩
 split
 ·exact ⟨0,Nat.zero_le _,fun h=>absurd h (h2 (by assumption) (by decide)),rfl⟩
 split
 ·exact ⟨_,h1,fun _=>rfl,rfl⟩
 split
 ·exact ⟨0,Nat.zero_le _,fun h=>absurd h (h2 (by assumption) (by decide)),rfl⟩
 ·rename_i h9 _ _ _
  exact ⟨_,nR _,fun h=>absurd (by rw [h];rfl) h9,rfl⟩
theorem akS_m {v b:Nat} {k:Bool} {val:List Nat} {s:Mt}:∀ j i,(akS v k b val s j).m i<=s.m i+cst k/\(j<=i->(akS v k b val s j).m i=s.m i)
 | 0,i=>⟨Nat.le_add_right _ _,fun _=>rfl⟩
 | j+1,i=>by
  obtain ⟨c,h1,_,h2⟩:=stp_m v k b val j (akS v k b val s j)
  have h:(akS v k b val s (j+1)).m=upS (akS v k b val s j).m j ((akS v k b val s j).m j+c):=h2
  obtain ⟨k1,k2⟩:=akS_m (v:=v) (b:=b) (k:=k) (val:=val) (s:=s) j i
  rw [h]
  unfold upS
  by_cases e:i=j
  ·subst e
   rw [if_pos rfl,k2 (nR _)]
   exact ⟨by omega,fun h=>absurd h (by omega)⟩
  ·rw [if_neg e]
   exact ⟨k1,fun h=>k2 (by omega)⟩
theorem akS_ok {v b K:Nat} {k:Bool} {val:List Nat} {s:Mt} (h:∀ i,i<3->(s.R i).1<=K/\(s.R i).2.2.length<=1800) (hf:s.l.length+s.F.length<=64) (hb:b<=K) (hv:val.length<=1800):∀ j,j<=3->(∀ i,i<3->((akS v k b val s j).R i).1<=K/\((akS v k b val s j).R i).2.2.length<=1800)/\(akS v k b val s j).l.length+(akS v k b val s j).F.length<=64
 | 0,_=>⟨h,hf⟩
 | j+1,hj=>by
  obtain ⟨h1,h2⟩:=akS_ok h hf hb hv j (by omega)
  obtain ⟨_,h3,h4,_⟩:=stp_ok (v:=v) (k:=k) (val:=val) (i:=j) (by omega) h1 h2 hb hv
  exact ⟨h3,h4⟩
theorem akA_ok {v b K:Nat} {k:Bool} {val:List Nat} {s:Mt} (h:∀ i,i<3->(s.R i).1<=K/\(s.R i).2.2.length<=1800) (hf:s.l.length+s.F.length<=64) (hb:b<=K) (hv:val.length<=1800) (j:Nat) (hj:j<3):(akA v k b val s j).tl<=K/\(akA v k b val s j).val.length<=1800:=by
 obtain ⟨h1,h2⟩:=akS_ok (v:=v) (k:=k) h hf hb hv j (by omega)
 obtain ⟨_,_,_,h5,_⟩:=stp_ok (v:=v) (k:=k) (val:=val) (i:=j) hj h1 h2 hb hv
 exact h5
theorem prj_le {a:Nat->An} {p K:Nat} (hp:p<=K):∀ j,(∀ i,i<j->(a i).tl<=K)->prj a p j<=K
 | 0,_=>hp
 | j+1,h=>Nat.max_le.2 ⟨prj_le hp j fun i hi=>h i (by omega),h j (by omega)⟩
theorem bst_le {a:Nat->An} {ov:List Nat} (ho:ov.length<=1800):∀ j,(∀ i,i<j->(a i).val.length<=1800)->(bst a ov j).2.length<=1800
 | 0,_=>ho
 | j+1,h=>by
  unfold bst
  split
  ·exact h j (by omega)
  ·exact bst_le ho j fun i hi=>h i (by omega)
theorem bal_le {p who K:Nat} (hp:p<=K) (hw:who<=3):bal p who<=K+8:=by unfold bal;omega
theorem akS_wf [WF] {v b:Nat} {k:Bool} {val:List Nat} {s:Mt} (h:WF.ok s.F):∀ j,WF.ok (akS v k b val s j).F
 | 0=>h
 | j+1=>by
  have h9:(akS v k b val s (j+1)).F=(akS v k b val s j).F.tail:=by
   show (stp v k b val j (akS v k b val s j)).2.F=_
   unfold stp
   split
   ·rfl
   split
   ·rfl
   split
   ·rfl
   split<;>rfl
  rw [h9]
  exact WF.tl _ (akS_wf h j)
theorem MtOk.ask [WF] {K m v b:Nat} {k:Bool} {val:List Nat} {s:Mt} (h:MtOk K m s) (hb:b<=K+8) (hv:val.length<=1800):MtOk (K+8) (m+cst k) (akS v k b val s 3):=by
 obtain ⟨h1,h2⟩:=akS_ok (v:=v) (k:=k) (val:=val) (fun i hi=>⟨by have:=(h.r i hi).1;omega,(h.r i hi).2⟩) h.f hb hv 3 (by omega)
 exact ⟨h1,h2,fun i hi=>by have h3:=(akS_m (v:=v) (k:=k) (b:=b) (val:=val) (s:=s) 3 i).1;have:=h.m i hi;omega,akS_wf h.k 3⟩
theorem rK_rK (k:Bool) (b:Nat) (val:List Nat) (r:Rec):rK k b val (rK k b val r)=rK k b val r:=by
 unfold rK
 cases k with
 | true =>
  simp only [if_true]
  by_cases c:r.1<=b
  ·rw [if_pos c,if_pos (nR _)]
  ·rw [if_neg c,if_neg c]
 | false =>
  simp only [Bool.false_eq_true,if_false]
  by_cases c:r.1<b
  ·rw [if_pos c,if_neg (Nat.lt_irrefl _)]
  ·rw [if_neg c,if_neg c]
section
variable {B N v b n cp:Nat} {P:NdP} {a:NdS} {W ww:World} {va:Option Addr} {R:Nat->Rec} {val:List Nat}
theorem dt_accl (hR:RL a.l R) (hv:v<=16) (hb1:1<=b) (hb2:b<9223372036854775808) (hlt:b<(R v).1) (hn:n<=1800):DoT B N P W 8 (v:Int) (b:Int) va n cp a a 41 ((R v).1:Int) false 0 0 0 [] ww:=by
 intro S hx hr
 letI:Gd:=⟨S⟩
 refine nx_reg8 (v:=v) (b:=b) hx hr hv hn fun w9 c u r q1 q2 q3 hb9=>?_
 refine (aHv r hR hn hv hb1 hb2 hlt).mono ?_
 rintro e w' ⟨rfl,c',u',k2,k3,k4,k5,k6,k7⟩
 exact ⟨⟨none,0,rfl,BK.nil _ _⟩,⟨c',u',k2,by omega,by omega,by omega⟩,k7⟩
theorem vlR_len (r:Rec):(vlR r).length=vnR r:=by
 unfold vlR vnR
 split<;>rfl
theorem dtK (k:Bool) (hR:RL a.l R) (hs:Srt a.l) (hv:v<=16) (hb1:1<=b) (hb2:b<9223372036854775808) (hN:a.m+30<=N) (hm:a.m<=87) (hn:n<=1800) (hvl:val.length<=1800):∃ (x:NdS) (R':Nat->Rec),RL x.l R'/\Srt x.l/\R' v=rK k b val (R v)/\x.m<=a.m+(if k=true then 2 else 1)/\(k=false->rK false b val (R v)=R v->x=a)/\∀ ww,BK B ww va n cp val->DoT B N P W (kd k) (v:Int) (b:Int) va n cp a x (aK k b (R v)).e ((aK k b (R v)).tl:Int) false 0 ((aK k b (R v)).bl:Int) (aK k b (R v)).val.length (aK k b (R v)).val ww:=by
 cases k with
 | false =>
  by_cases c:(R v).1<b
  ·refine ⟨⟨a.m+1,lP a.l R v b,a.L⟩,_,hR.prep hs hv hb1 hb2 c,aB6 hs,?_,nR _,fun _ h=>?_,fun ww hk=>?_⟩
   ·have e1:rK false b val (R v)=(b,(R v).2.1,(R v).2.2):=by unfold rK;rw [if_neg (by decide),if_pos c]
    rw [e1]
    exact if_pos rfl
   ·unfold rK at h
    rw [if_neg (by decide),if_pos c] at h
    have h1:b=(R v).1:=congrArg Prod.fst h
    omega
   ·have e1:aK false b (R v)=⟨0,b,(R v).2.1,vlR (R v)⟩:=by unfold aK;rw [if_neg (by decide),if_pos c]
    rw [e1]
    show DoT B N P W (kd false) (v:Int) (b:Int) va n cp a _ 0 (b:Int) false 0 ((R v).2.1:Int) (vlR (R v)).length (vlR (R v)) ww
    rw [vlR_len]
    exact dt_prep hR hv hb1 hb2 c hN hm hn
  ·refine ⟨a,R,hR,hs,?_,by omega,fun _ _=>rfl,fun ww hk=>?_⟩
   ·unfold rK
    rw [if_neg (by decide),if_neg c]
   ·have e1:aK false b (R v)=⟨41,(R v).1,(R v).2.1,vlR (R v)⟩:=by unfold aK;rw [if_neg (by decide),if_neg c]
    rw [e1]
    show DoT B N P W (kd false) (v:Int) (b:Int) va n cp a _ 41 ((R v).1:Int) false 0 ((R v).2.1:Int) (vlR (R v)).length (vlR (R v)) ww
    rw [vlR_len]
    exact dt_prepl hR hv hb1 hb2 (by omega) hn
 | true =>
  by_cases c:(R v).1<=b
  ·refine ⟨⟨a.m+2,lAcc a.l v b val,a.L⟩,_,hR.acc hs hv hb1 hb2 hvl,aB6 (aB6 hs),?_,nR _,(fun h=>nomatch h),fun ww hk=>?_⟩
   ·have e1:rK true b val (R v)=(b,b,val):=by unfold rK;rw [if_pos rfl,if_pos c]
    rw [e1]
    exact if_pos rfl
   ·have e1:aK true b (R v)=⟨0,b,0,[]⟩:=by unfold aK;rw [if_pos rfl,if_pos c]
    rw [e1]
    exact dt_acc hR hv hb1 hb2 c hN hm hn hk
  ·refine ⟨a,R,hR,hs,?_,by omega,(fun h=>nomatch h),fun ww hk=>?_⟩
   ·unfold rK
    rw [if_pos rfl,if_neg c]
   ·have e1:aK true b (R v)=⟨41,(R v).1,0,[]⟩:=by unfold aK;rw [if_pos rfl,if_neg c]
    rw [e1]
    exact dt_accl hR hv hb1 hb2 (by omega) hn
end
theorem aK_e (k:Bool) (b:Nat) (r:Rec):¬ (aK k b r).e=20:=by
 unfold aK
 split<;>split<;>(first | exact fun h=>absurd (show (0:Int)=20 from h) (by decide) | exact fun h=>absurd (show (41:Int)=20 from h) (by decide))
theorem fv_cases (F:List Int):fv F=0\/fv F=1\/fv F=2\/fv F=3\/fv F=4:=by
 cases F with
 | nil=>exact Or.inl rfl
 | cons z F =>
  show fat _=0\/fat _=1\/fat _=2\/fat _=3\/fat _=4
  unfold fat
  repeat' split
  all_goals decide
def HN (B N nt gh v:Nat) (P:Nat->NdP) (s:Mt) (W w:World):Prop:=∃ A wv,NSw B N 3 nt gh P A wv s.F s.l W w/\∀ i,i<3->(∃ R,RL (A i).l R/\R v=s.R i)/\(A i).m<=s.m i
section
variable {B N nt gh v b i n cp:Nat} {P:Nat->NdP} {s:Mt} {W w w':World} {k:Bool} {va:Option Addr} {val:List Nat}
theorem HN.later (h:HN B N nt gh v P s W w) (hb:Below w.heap.size w w'):HN B N nt gh v P s W w':=by
 obtain ⟨A,wv,h1,h2⟩:=h
 exact ⟨A,wv,h1.later hb,h2⟩
theorem HN.bw (h:HN B N nt gh v P s W w):B<=w.heap.size:=by
 obtain ⟨A,wv,h1,h2⟩:=h
 exact h1.bw
theorem aEz {α:Type} (f:Nat->α) (i:Nat) (x:α):upS f i x i=x:=if_pos rfl
theorem upT_ne {α:Type} (f:Nat->α) {i j:Nat} (x:α) (h:j≠i):upS f i x j=f j:=if_neg h
theorem nodes_up {A:Nat->NdS} {R:Nat->Rec} {m:Nat->Nat} {x:NdS} {r:Rec} {c:Nat} (h:∀ i,i<3->(∃ R',RL (A i).l R'/\R' v=R i)/\(A i).m<=m i) (hx:∃ R',RL x.l R'/\R' v=r) (hm:x.m<=m i+c):∀ j,j<3->(∃ R',RL (upS A i x j).l R'/\R' v=upS R i r j)/\(upS A i x j).m<=upS m i (m i+c) j:=by
 intro j hj
 by_cases e:j=i
 ·subst e
  rw [aEz,aEz,aEz]
  exact ⟨hx,hm⟩
 ·rw [upT_ne _ _ e,upT_ne _ _ e,upT_ne _ _ e]
  exact h j hj
theorem nodes_m {A:Nat->NdS} {R:Nat->Rec} {m:Nat->Nat} {c:Nat} (h:∀ i,i<3->(∃ R',RL (A i).l R'/\R' v=R i)/\(A i).m<=m i):∀ j,j<3->(∃ R',RL (A j).l R'/\R' v=R j)/\(A j).m<=upS m i (m i+c) j:=by
 intro j hj
 refine ⟨(h j hj).1,?_⟩
 have h1:=(h j hj).2
 by_cases e:j=i
 ·subst e
  rw [aEz]
  omega
 ·rw [upT_ne _ _ e]
  exact h1
def CaT (B N nt gh v:Nat) (P:Nat->NdP) (a:An) (s:Mt) (W w:World) (e:Ending) (w':World):Prop:=(∃ (tk:Bool) (ae:Int) (sa:Option Addr) (sc:Nat),e=.returned (.tuple #[.agg #[.int .i64 ae,.int .i64 (a.tl:Int),.bool false,.int .i64 0,.int .i64 (a.bl:Int),.slice sa a.val.length sc],.bool tk])/\BK B w' sa a.val.length sc a.val/\((tk=true/\ae=a.e)\/(tk=false/\ae=0/\a.e=40)))/\HN B N nt gh v P s W w'/\NsF B w w'
theorem CaT.none {s':Mt} {e:Ending} (he:e=.returned (.tuple #[.agg #[.int .i64 0,.int .i64 0,.bool false,.int .i64 0,.int .i64 0,.slice none 0 0],.bool false])) (h:HN B N nt gh v P s' W w') (hf:NsF B w w'):CaT B N nt gh v P aN s' W w e w':=⟨⟨false,0,Option.none,0,he,BK.nil _ _,Or.inr ⟨rfl,rfl,rfl⟩⟩,h,hf⟩
class WC [WF]:Prop where
 call:∀ {B N nt gh v b i n cp:Nat} {P:Nat->NdP} {s:Mt} {W w:World} {k:Bool} {va:Option Addr} {val:List Nat},HN B N nt gh v P s W w->WF.ok s.F->(fv s.F=3\/fv s.F=4)->i<3->v<=16->1<=b->b<9223372036854775808->BK B w va n cp val->n<=1800->s.m i<=83->s.m i+34<=N->s.l.length+s.F.length<=64->Calls Tryz.prog 48 #[.pointer (some ⟨nt,0,none⟩),.int .i64 (i:Int),.agg #[.int .i64 (kd k),.int .i64 (v:Int),.int .i64 (b:Int),.slice va n cp]] w fun e w'=>CaT B N nt gh v P (stp v k b val i s).1 (stp v k b val i s).2 W w e w'
theorem HN.call [WF] [WC] (h:HN B N nt gh v P s W w) (hwf:WF.ok s.F) (hi:i<3) (hv:v<=16) (hb1:1<=b) (hb2:b<9223372036854775808) (hk:BK B w va n cp val) (hn:n<=1800) (hm:s.m i<=83) (hN:s.m i+34<=N) (hl:s.l.length+s.F.length<=64) :
  Calls Tryz.prog 48 #[.pointer (some ⟨nt,0,none⟩),.int .i64 (i:Int),.agg #[.int .i64 (kd k),.int .i64 (v:Int),.int .i64 (b:Int),.slice va n cp]] w fun e w'=>CaT B N nt gh v P (stp v k b val i s).1 (stp v k b val i s).2 W w e w':=by
 by_cases hx34:fv s.F=3\/fv s.F=4
 ·exact WC.call h hwf hx34 hi hv hb1 hb2 hk hn hm hN hl
 obtain ⟨A,wv,h1,h2⟩:=h
 obtain ⟨⟨R,hR,hRv⟩,hAm⟩:=h2 i hi
 have hvl:val.length<=1800:=by have:=hk.1.hlen;omega
 obtain ⟨x,R1,x1,x2,x3,x4,x5,x6⟩:=dtK (B:=B) (N:=N) (P:=P i) (W:=W) (n:=n) (cp:=cp) (va:=va) (val:=val) k hR (h1.srt hi) hv hb1 hb2 (by omega) (by omega) hn hvl
 have c4:(if k=true then 2 else 1)=cs1 k:=rfl
 rw [hRv] at x3 x5 x6
 unfold stp
 rcases fv_cases s.F with f | f | f | f | f
 ·rw [if_pos f]
  refine (h1.call0 (x:=x) (k:=kd k) (lg:=(v:Int)) (at_:=(b:Int)) (va:=va) (n:=n) (cp:=cp) hi (by decide) f (aK_e _ _ _) (fun ww hw=>x6 ww (hk.ft hw))).mono ?_
  rintro e w' ⟨⟨sa,sc,rfl,q1⟩,wv',q2,q3⟩
  exact ⟨⟨true,_,sa,sc,rfl,q1,Or.inl ⟨rfl,rfl⟩⟩,⟨_,wv',q2,nodes_up h2 ⟨R1,x1,x3⟩ (by omega)⟩,q3⟩
 ·rw [if_neg (by rw [f];decide),if_pos f]
  refine (h1.call1 (k:=kd k) (lg:=(v:Int)) (at_:=(b:Int)) (va:=va) (n:=n) (cp:=cp) hi (by decide) f).mono ?_
  rintro e w' ⟨he,wv',q2,q3⟩
  exact CaT.none he ⟨_,wv',q2,nodes_m h2⟩ q3
 ·rw [if_neg (by rw [f];decide),if_neg (by rw [f];decide),if_pos f]
  refine (h1.call2 (x:=x) (k:=kd k) (lg:=(v:Int)) (at_:=(b:Int)) (va:=va) (n:=n) (cp:=cp) hi (by decide) f (aK_e _ _ _) (fun ww hw=>x6 ww (hk.ft hw))).mono ?_
  rintro e w' ⟨he,wv',q2,q3⟩
  exact CaT.none he ⟨_,wv',q2,nodes_up h2 ⟨R1,x1,x3⟩ (by omega)⟩ q3
 ·exact absurd (Or.inl f) hx34
 ·exact absurd (Or.inr f) hx34
end
end Go.Proofs.YtdfjjhlhnfindaaGreat
