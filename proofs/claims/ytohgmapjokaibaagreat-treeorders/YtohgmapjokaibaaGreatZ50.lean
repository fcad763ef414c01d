import Derived.Test.YtohgmapjokaibaaGreatZ49
import Derived.Test.YtohgmapjokaibaaGreatZ48
set_option maxRecDepth 100000
set_option maxHeartbeats 16000000
set_option linter.unusedVariables false
namespace Go.Proofs.YtohgmapjokaibaaGreat
open Go.RowKit
def KX [Gd] (B p q g N c u:Nat) (l:List It) (W w:World):Prop:=∃ last s t now left,TI B p q g N c u last l s t now left W w
section
variable [Gd] {B p q g N c u:Nat} {l:List It} {W w w':World}
theorem KX.later (h:KX B p q g N c u l W w) (hb:Below w.heap.size w w'):KX B p q g N c u l W w':=by
 obtain ⟨last,s,t,now,left,h⟩:=h
 exact ⟨last,s,t,now,left,h.later hb⟩
theorem KX.bw (h:KX B p q g N c u l W w):B≤w.heap.size:=by
 obtain ⟨last,s,t,now,left,h⟩:=h
 exact h.tm.bw
theorem KX.be (h:KX B p q g N c u l W w):Below B W w:=by
 obtain ⟨last,s,t,now,left,h⟩:=h
 exact h.be
theorem KX.srt (h:KX B p q g N c u l W w):Srt l:=by
 obtain ⟨last,s,t,now,left,h⟩:=h
 exact h.tr.srt
theorem KX.blk (h:KX B p q g N c u l W w):∃ cs,w.heap[g]?=some (.cells cs 60 (0,0)):=by
 obtain ⟨last,s,t,now,left,h⟩:=h
 obtain ⟨cs,h1,_⟩:=h.tm.tv
 exact ⟨cs,h1⟩
theorem KX.Len (h:KX B p q g N c u l W w):Calls Tryz.prog 11 #[.pointer (some ⟨g,0,none⟩)] w fun e w'=>e=.returned (.int .i64 (l.length:Int))∧w'=w:=by
 obtain ⟨last,s,t,now,left,h⟩:=h
 have:=Len_any h.tm
 rwa [h.tr.keys] at this
end
def ByK (w w':World):Prop:=∀ (k:Nat) (cs:Array Value) (fz:Nat×Nat),w.heap[k]?=some (Obj.cells cs 5 fz)→w'.heap[k]?=some (Obj.cells cs 5 fz)
theorem ST.fp [Gd] {B p q:Nat} {s:DS} {t:PS} {w:World} (h:ST B p q s t w):∃ F:Nat→Prop,(∀ k,F k→FBk w k)∧(∀ k,Gd.s k→¬ F k)∧∀ (w':World) (S':Nat→Prop),(∀ k,F k→w'.heap[k]?=w.heap[k]?)→ByK w w'→(∀ k,S' k→FBk w' k∧¬ F k)→@ST ⟨S'⟩ B p q s t w':=by
 obtain ⟨⟨gb,vo,kv,ov,wv,⟨dp,dg,dw,dk,db,do_,da,dpB,dgB,dok,dG⟩⟩,gs,⟨vq,vs,vqB,vgB,vok,vG⟩⟩:=h
 refine ⟨fun k=>k=p∨k=gb∨vo.ownBlock=some k∨(∃ i,i<s.n∧(ov i).ownBlock=some k)∨k=q∨k=gs,?_,?_,?_⟩
 ·intro k hk
  rcases hk with rfl | rfl | hk | ⟨i,hi,hk⟩ | rfl | rfl
  ·exact ⟨_,_,dp,by unfold DTy;decide⟩
  ·exact ⟨_,_,dg,by unfold DTy;decide⟩
  ·obtain ⟨_,cur,hc⟩:=aAq dw hk
   exact ⟨_,_,hc,by unfold DTy;decide⟩
  ·obtain ⟨_,cur,hc⟩:=aAq (do_ i hi) hk
   exact ⟨_,_,hc,by unfold DTy;decide⟩
  ·exact ⟨_,_,vq,by unfold DTy;decide⟩
  ·exact ⟨_,_,vs,by unfold DTy;decide⟩
 ·intro k hs hk
  obtain ⟨_,a1,a2,a3,a4⟩:=dG k hs
  obtain ⟨a5,a6⟩:=vG k hs
  rcases hk with e | e | e | ⟨i,hi,e⟩ | e | e
  ·exact a1 e
  ·exact a2 e
  ·exact a3 e
  ·exact a4 i hi e
  ·exact a5 e
  ·exact a6 e
 ·intro w' S' hF hB hS
  letI:Gd:=⟨S'⟩
  refine ⟨⟨gb,vo,kv,ov,wv,?_⟩,gs,?_⟩
  ·exact ⟨(hF p (Or.inl rfl)).trans dp,(hF gb (Or.inr (Or.inl rfl))).trans dg,aAj dw fun k cs hk e=>(hF k (Or.inr (Or.inr (Or.inl hk)))).trans e,fun i hi=>aAj (dk i hi) fun k cs _ e=>hB k cs _ e,fun i hi=>aAj (db i hi) fun k cs _ e=>hB k cs _ e,
    fun i hi=>aAj (do_ i hi) fun k cs hk e=>(hF k (Or.inr (Or.inr (Or.inr (Or.inl ⟨i,hi,hk⟩))))).trans e,da,dpB,dgB,dok,fun k hk=>⟨(hS k hk).1,fun e=>(hS k hk).2 (Or.inl e),fun e=>(hS k hk).2 (Or.inr (Or.inl e)),fun e=>(hS k hk).2 (Or.inr (Or.inr (Or.inl e))),fun i hi e=>(hS k hk).2 (Or.inr (Or.inr (Or.inr (Or.inl ⟨i,hi,e⟩))))⟩⟩
  ·exact ⟨(hF q (Or.inr (Or.inr (Or.inr (Or.inr (Or.inl rfl)))))).trans vq,(hF gs (Or.inr (Or.inr (Or.inr (Or.inr (Or.inr rfl)))))).trans vs,vqB,vgB,vok,fun k hk=>⟨fun e=>(hS k hk).2 (Or.inr (Or.inr (Or.inr (Or.inr (Or.inl e))))),fun e=>(hS k hk).2 (Or.inr (Or.inr (Or.inr (Or.inr (Or.inr e)))))⟩⟩
theorem KX.fp [Gd] {B p q g N c u:Nat} {l:List It} {W w:World} (h:KX B p q g N c u l W w):∃ F:Nat→Prop,(∀ k,F k→FBk w k)∧(∀ k,Gd.s k→¬ F k)∧∀ (w':World) (S':Nat→Prop),(∀ k,F k→w'.heap[k]?=w.heap[k]?)→ByK w w'→w'.heap[g]?=w.heap[g]?→Below B w w'→(∀ k,S' k→FBk w' k∧¬ F k)→@KX ⟨S'⟩ B p q g N c u l W w':=by
 obtain ⟨last,s,t,now,left,⟨⟨m1,m2,m3,⟨cg,k1,k2⟩,m5,m6,m7,m8,m9,m10⟩,t1,t2,t3,t4,t5,t6,t7,t8⟩⟩:=h
 obtain ⟨F,h1,h2,h3⟩:=m1.fp
 refine ⟨F,h1,h2,fun w' S' hF hB hg hb hS=>⟨last,s,t,now,left,?_⟩⟩
 have h4:=h3 w' S' hF hB hS
 letI:Gd:=⟨S'⟩
 exact ⟨⟨h4,nT m2 hb.size,m3,⟨cg,hg.trans k1,k2⟩,m5,m6,m7,m8,m9,m10⟩,t1,t2,t3,t4,t5,t6,t7,t8.trans hb⟩
structure KS where
 p:Nat
 q:Nat
 g:Nat
 c:Nat
 u:Nat
 l:List It
def KXc (B N:Nat) (x:KS) (W:World) (F:Nat→Prop) (w:World):Prop :=
 ((∀ k,F k→FBk w k)∧∃ cs,w.heap[x.g]?=some (.cells cs 60 (0,0))) ∧
 ∀ (w':World) (S':Nat→Prop),(∀ k,F k→w'.heap[k]?=w.heap[k]?)→ByK w w'→w'.heap[x.g]?=w.heap[x.g]?→Below B w w'→(∀ k,S' k→FBk w' k∧¬ F k)→@KX ⟨S'⟩ B x.p x.q x.g N x.c x.u x.l W w'
section
variable {B N:Nat} {x y:KS} {W w w':World} {F:Nat→Prop}
theorem KXc.keep (h:KXc B N x W F w) (hF:∀ k,F k→w'.heap[k]?=w.heap[k]?) (hB:ByK w w') (hg:w'.heap[x.g]?=w.heap[x.g]?) (hb:Below B w w'):KXc B N x W F w':=by
 obtain ⟨⟨h1,c1,h2⟩,h5⟩:=h
 refine ⟨⟨fun k hk=>(h1 k hk).same (hF k hk),c1,hg.trans h2⟩,fun w2 S' a1 a2 a3 a6 a7=>?_⟩
 exact h5 w2 S' (fun k hk=>(a1 k hk).trans (hF k hk)) (fun k cs fz e=>a2 k cs fz (hB k cs fz e)) (a3.trans hg) (hb.trans a6) a7
theorem KXc.kx (h:KXc B N x W F w) (S':Nat→Prop) (hS:∀ k,S' k→FBk w k∧¬ F k):@KX ⟨S'⟩ B x.p x.q x.g N x.c x.u x.l W w :=
 h.2 w S' (fun _ _=>rfl) (fun _ _ _ e=>e) rfl (Below.refl _ _) hS
theorem KX.cc [Gd] (h:KX B x.p x.q x.g N x.c x.u x.l W w):∃ F:Nat→Prop,KXc B N x W F w∧∀ k,Gd.s k→¬ F k:=by
 obtain ⟨F,k1,k2,k3⟩:=h.fp
 obtain ⟨cg,hg⟩:=h.blk
 exact ⟨F,⟨⟨k1,cg,hg⟩,k3⟩,k2⟩
def TWO (B N:Nat) (x y:KS) (W w:World):Prop:=∃ F G:Nat→Prop,KXc B N x W F w∧KXc B N y W G w∧(∀ k,F k→¬ G k)∧x.g≠y.g
theorem TWO.swap (h:TWO B N x y W w):TWO B N y x W w:=by
 obtain ⟨F,G,h1,h2,h3,h4⟩:=h
 exact ⟨G,F,h2,h1,fun k a b=>h3 k b a,fun e=>h4 e.symm⟩
theorem TWO.kx (h:TWO B N x y W w):@KX ⟨fun _=>False⟩ B x.p x.q x.g N x.c x.u x.l W w:=by
 obtain ⟨F,G,h1,_⟩:=h
 exact h1.kx _ fun k hk=>hk.elim
theorem TWO.srt (h:TWO B N x y W w):Srt x.l:=by
 letI:Gd:=⟨fun _=>False⟩
 exact h.kx.srt
theorem TWO.be (h:TWO B N x y W w):Below B W w:=by
 letI:Gd:=⟨fun _=>False⟩
 exact h.kx.be
theorem TWO.bw (h:TWO B N x y W w):B≤w.heap.size:=by
 letI:Gd:=⟨fun _=>False⟩
 exact h.kx.bw
theorem TWO.later (h:TWO B N x y W w) (hb:Below w.heap.size w w'):TWO B N x y W w':=by
 have hB:=h.bw
 obtain ⟨F,G,h1,h2,h3,h4⟩:=h
 have blk:∀ {k:Nat} {o:Obj},w.heap[k]?=some o→w'.heap[k]?=w.heap[k]?:=fun e=>hb.block _ (lO e)
 have k1:=h1
 have k2:=h2
 obtain ⟨⟨a1,c1,a2⟩,_⟩:=k1
 obtain ⟨⟨b1,c2,b2⟩,_⟩:=k2
 exact ⟨F,G,h1.keep (fun k hk=>hb.block k (a1 k hk).lt) (fun k cs fz e=>(blk e).trans e) (blk a2) (hb.mono hB),h2.keep (fun k hk=>hb.block k (b1 k hk).lt) (fun k cs fz e=>(blk e).trans e) (blk b2) (hb.mono hB),h3,h4⟩
theorem TWO.call (h:TWO B N x y W w) {K:Nat} {args:Array Value} {Q:Ending→World→Prop} {x':KS} (hg:x'.g=x.g)
  (hc:∀ S:Nat→Prop,@KX ⟨S⟩ B x.p x.q x.g N x.c x.u x.l W w→Calls Tryz.prog K args w fun e w'=>Q e w'∧@KX ⟨S⟩ B x'.p x'.q x'.g N x'.c x'.u x'.l W w'∧@ChF ⟨S⟩ B x.g w w') :
  Calls Tryz.prog K args w fun e w'=>Q e w'∧TWO B N x' y W w':=by
 obtain ⟨F,G,h1,h2,h3,h4⟩:=h
 have k2:=h2
 obtain ⟨⟨b1,c2,b2⟩,_⟩:=k2
 refine (hc G (h1.kx G fun k hk=>⟨b1 k hk,fun q=>h3 k q hk⟩)).mono ?_
 rintro e w' ⟨hq,hx,hf⟩
 letI:Gd:=⟨G⟩
 obtain ⟨F',k1,k2⟩:=hx.cc
 refine ⟨hq,F',G,k1,?_,fun k a b=>k2 k b a,by rw [hg];exact h4⟩
 refine h2.keep (fun k hk=>hf.gd k hk (b1 k hk)) (fun k cs fz e=>?_) ?_ hf.bel
 ·have k1:=h1
  obtain ⟨⟨_,c1,a2⟩,_⟩:=k1
  refine hf.stay k cs _ fz e (by decide) ?_
  intro q
  subst q
  rw [a2] at e
  simp only [oI,cI] at e
  exact absurd e.2.1 (by decide)
 ·rw [b2]
  exact hf.stay _ _ _ _ b2 (by decide) (fun q=>h4 q.symm)
end
section
variable [Gd] {B p q g N c u:Nat} {l:List It} {W w w':World}
theorem KX.put7 (h:KX B p q g N c u l W w) (hu:u+20≤N) (hu2:u≤3000) (hl:l.length≤50) (it:It) (hit:ItOk it) {ka va:Option Addr} {kn kc vn vc:Nat} (hkn:it.1.length=kn) (hvn:it.2.length=vn) (hk:BK B w ka kn kc it.1) (hv:BK B w va vn vc it.2) :
  Calls Tryz.prog 5 #[.pointer (some ⟨g,0,none⟩),.slice ka kn kc,.slice va vn vc] w fun e w'=>e=.returned (.int .i64 0)∧KX B p q g N c (u+7) (putL l it) W w'∧ChF B g w w':=by
 obtain ⟨last,s,t,now,left,h⟩:=h
 have hd:=h.tr.depth50 (by omega)
 have h8:=h.mu
 have h9:=h.cu
 have h7:=aHl l it
 refine (Put_ok trivial h.tm h.tr (by omega) it hit hkn hvn hk hv (by omega) (by omega) (by omega)).mono ?_
 rintro e w' ⟨rfl,s',t',now',L,k1,k2,k3,k4,k5⟩
 have h5:=k1.m
 have h6:=k1.cnt
 refine ⟨rfl,⟨last,s',t',now',_,k2,k3,?_,by rw [k1.n];exact h.sn,by omega,by omega,by rw [k1.num];exact h.nm,h.f3.gw k1,h.be.trans k5.1⟩,k5⟩
 rw [h7];split<;>omega
theorem KX.del7 (h:KX B p q g N c u l W w) (hu:u+20≤N) (hu2:u≤3000) (hl:l.length≤50) (k:List Nat) {ka:Option Addr} {kn kc:Nat} (hkn:k.length=kn) (hk0:0<kn) (hk6:kn≤64) (hk:BK B w ka kn kc k) :
  Calls Tryz.prog 7 #[.pointer (some ⟨g,0,none⟩),.slice ka kn kc] w fun e w'=>e=.returned (.tuple #[.bool (hasI l k),.int .i64 0])∧KX B p q g N c (u+7) (delL l k) W w'∧ChF B g w w':=by
 obtain ⟨last,s,t,now,left,h⟩:=h
 have hd:=h.tr.depth50 (by omega)
 have h8:=h.mu
 have h9:=h.cu
 have h7:(delL l k).length≤l.length:=List.length_filter_le _ _
 refine (Delete_ok trivial h.tm h.tr (by omega) k hkn hk0 hk6 hk (by omega) (by omega) (by omega)).mono ?_
 rintro e w' ⟨rfl,s',t',now',left',L,k1,k2,k3,k4,k5⟩
 have h5:=k1.m
 have h6:=k1.cnt
 exact ⟨rfl,⟨last,s',t',now',left',k2,k3,by omega,by rw [k1.n];exact h.sn,by omega,by omega,by rw [k1.num];exact h.nm,h.f3.gw k1,h.be.trans k5.1⟩,k5⟩
theorem KX.cmt (h:KX B p q g N c u l W w) (hN:2≤N) (hc:c<900) :
  Calls Tryz.prog 6 #[.pointer (some ⟨g,0,none⟩)] w fun e w'=>e=.returned (.int .i64 0)∧KX B p q g N (c+1) u l W w'∧ChF B g w w':=by
 obtain ⟨last,s,t,now,left,h⟩:=h
 refine (Commit_ok h.tm h.tr (SnV.nil w) (by rw [h.sn];exact hN) (by rw [h.nm];omega)).mono ?_
 rintro e w' ⟨rfl,s',t',k1,k2,k3⟩
 have k1:Cmt s t now.pgs now.root.toNat s' t':=k1
 have h9:=k1.more
 have h8:=h.cu
 exact ⟨rfl,⟨now,s',t',now,_,k2,h.tr.cmt k1 h.tm.hd (fun i _ hi=>hi),h.ln,by rw [k1.n];exact h.sn,by rw [k1.m];exact Nat.zero_le _,by omega,by rw [k1.num,h.nm],h.f3.cmt k1,h.be.trans k3.1⟩,k3⟩
theorem KX.up (h:KX B p q g N c u l W w) {u':Nat} (hu:u≤u'):KX B p q g N c u' l W w:=by
 obtain ⟨last,s,t,now,left,h⟩:=h
 exact ⟨last,s,t,now,left,h.more hu⟩
theorem KX.putk (h:KX B p q g N c u l W w) (hu:u+20≤N) (hu2:u≤3000) (hl:l.length≤50) (k:List Nat) {ka:Option Addr} {kn kc:Nat} (hb:∀ c∈k,c<256) (hkn:k.length=kn) (hk6:kn≤64) (hk:BK B w ka kn kc k) :
  Calls Tryz.prog 5 #[.pointer (some ⟨g,0,none⟩),.slice ka kn kc,.slice ka kn kc] w fun e w'=>(∃ r:Int,e=.returned (.int .i64 r))∧KX B p q g N c (u+7) (putK l k) W w'∧ChF B g w w':=by
 by_cases c0:k=[]
 ·have hk0:kn=0:=by rw [←hkn,c0];rfl
  have hB:=h.bw
  obtain ⟨cg,hg⟩:=h.blk
  have h0:=h
  obtain ⟨last,s,t,now,left,h⟩:=h
  refine (Put_arg h.tm ka ka kn kc kn kc (Or.inl hk0)).mono ?_
  rintro e w' ⟨rfl,hb⟩
  refine ⟨⟨_,rfl⟩,?_,hb.mono hB,fun k cs t fz e _ _=>(hb.block k (lO e)).trans e,GdK.of hb⟩
  unfold putK
  rw [if_pos c0]
  exact (h0.later hb).up (by omega)
 ·refine (h.put7 hu hu2 hl (k,k) ⟨c0,by show k.length≤64;omega,by show k.length≤1800;omega,hb,hb⟩ hkn hkn hk hk).mono ?_
  rintro e w' ⟨rfl,h1,h2⟩
  refine ⟨⟨_,rfl⟩,?_,h2⟩
  unfold putK
  rw [if_neg c0]
  exact h1
end
theorem open_b [Gd] {B n:Nat} (w:World) (hB:B≤w.heap.size) (hg0:∀ k,Gd.s k→FBk w k) (h3:3≤n) (h4:n≤4096) :
  Calls Tryz.prog 4 #[.int .i64 (n:Int)] w fun e w'=>∃ p g,e=.returned (.tuple #[.pointer (some ⟨p,0,none⟩),.pointer (some ⟨g,0,none⟩)])∧w.heap.size≤g∧OpT B p g n w'∧Fp B w w':=by
 obtain ⟨s0,hs0⟩:∃ s,s=DS.new n:=⟨_,rfl⟩
 have hf:=new_facts n s0 hs0
 have HNW:=hide (new_any B n w (by omega) (by omega) hB hg0)
 rw [←hs0] at HNW
 have HL0:Hid (lastH (rdH (pad (s0.show 0)) s0.n) (rdH (pad (s0.show 1)) s0.n)=some (0,0)):=by
  show _=_
  rw [hf.2.2.2.2.2.1,hf.2.2.2.2.2.2,aHk]
  exact aGu
 have HF:=hide hf
 have HBB:=hide hB
 clear hs0 hf hB
 go_enter Tryz.func4,Tryz.ntmps4
 go_wp2_with fail
 refine HNW.out.mono ?_
 rintro e w1 ⟨p,rfl,hD,hb1⟩
 have HB1:=hide hb1
 have HOP:=hide (Open_none (num:=0) hD (nT HBB.out hb1.size) HF.out.1 HF.out.2.1 (by rw [HF.out.2.2.1];decide) (by rw [HF.out.2.2.2.1];exact h3) (by rw [HF.out.2.2.2.1];exact h4) HL0.out (by decide))
 clear hD hb1 HNW
 go_wp2_with fail
 refine HOP.out.mono ?_
 rintro e w2 ⟨q,g,st0,rfl,hgB,hM,r0,r1,r2,r3,hF⟩
 have HM:=hide hM
 have HO:Hid (OpT B p g n w2):=⟨q,s0,_,st0,hM,Or.inl ⟨r0,r1,r2,rfl,r3⟩,r1,HF.out.2.2.2.1,HF.out.2.2.2.2.1,by show cntF (newSt s0.n)=_;rw [aFv s0.n (by rw [HF.out.2.2.2.1];omega),HF.out.2.2.2.1],rfl,HF.out.2.2.2.2.2.1,HF.out.2.2.2.2.2.2⟩
 have HB2:Hid (Fp B w w2):=(Fp.of HB1.out HBB.out).trans hF
 have HGB:Hid (w.heap.size≤g):=nT HB1.out.size hgB
 clear hM hgB r0 r1 r2 r3 hF HOP HM
 go_wp2
 go_ret2
 exact ⟨p,g,rfl,HGB.out,HO.out,HB2.out⟩
def ONE (B N:Nat) (x:KS) (W w:World):Prop:=∃ F:Nat→Prop,KXc B N x W F w
theorem one_open {n:Nat} (W:World) (h3:3≤n) (h4:n≤4096) :
  Calls Tryz.prog 4 #[.int .i64 (n:Int)] W fun e w'=>∃ (pv:Value) (x:KS),e=.returned (.tuple #[pv,.pointer (some ⟨x.g,0,none⟩)])∧ONE W.heap.size n x W w'∧x.c=0∧x.u=0∧x.l=[]:=by
 letI:Gd:=⟨fun _=>False⟩
 refine (open_b W (nR _) (fun k (hk:False)=>hk.elim) h3 h4).mono ?_
 rintro e w' ⟨p,g,rfl,_,hO,hf⟩
 obtain ⟨q,s,t,st0,left,hT,_⟩:=hO.ti (by omega) hf.bel
 obtain ⟨F,k1,_⟩:=KX.cc (x:=⟨p,q,g,0,0,[]⟩) ⟨st0,s,t,st0,left,hT⟩
 exact ⟨_,⟨p,q,g,0,0,[]⟩,rfl,⟨F,k1⟩,rfl,rfl,rfl⟩
theorem two_open {n:Nat} {x:KS} {B:Nat} {W w:World} (h:ONE B n x W w) (h3:3≤n) (h4:n≤4096) :
  Calls Tryz.prog 4 #[.int .i64 (n:Int)] w fun e w'=>∃ (pv:Value) (y:KS),e=.returned (.tuple #[pv,.pointer (some ⟨y.g,0,none⟩)])∧TWO B n x y W w'∧y.c=0∧y.u=0∧y.l=[]:=by
 obtain ⟨F,h1⟩:=h
 have h0:=h1.kx (fun _=>False) (fun k hk=>hk.elim)
 have hB:B≤w.heap.size:=@KX.bw ⟨fun _=>False⟩ _ _ _ _ _ _ _ _ _ _ h0
 have hbe:Below B W w:=@KX.be ⟨fun _=>False⟩ _ _ _ _ _ _ _ _ _ _ h0
 have k1:=h1
 obtain ⟨⟨a1,c1,a2⟩,_⟩:=k1
 letI:Gd:=⟨F⟩
 refine (open_b w hB (fun k hk=>a1 k hk) h3 h4).mono ?_
 rintro e w' ⟨p,g,rfl,hgB,hO,hf⟩
 obtain ⟨q,s,t,st0,left,hT,_⟩:=hO.ti (by omega) (hbe.trans hf.bel)
 obtain ⟨G,k1,k2⟩:=KX.cc (x:=⟨p,q,g,0,0,[]⟩) ⟨st0,s,t,st0,left,hT⟩
 have hlt:x.g<w.heap.size:=(lO a2)
 refine ⟨_,⟨p,q,g,0,0,[]⟩,rfl,⟨F,G,?_,k1,fun k hk=>k2 k hk,by show x.g≠g;omega⟩,rfl,rfl,rfl⟩
 refine h1.keep (fun k hk=>hf.gd k hk (a1 k hk)) (fun k cs fz e=>hf.stay k cs _ fz e (by decide) (by decide) (by decide) (by decide) (by decide) (by decide)) ?_ hf.bel
 rw [a2]
 exact hf.stay _ _ _ _ a2 (by decide) (by decide) (by decide) (by decide) (by decide) (by decide)
def TOI (B:Nat) (tf:Nat→List Nat) (n j k g0 g1:Nat) (W w:World):Prop:=∃ x y,TWO B 900 x y W w∧(x.g=g0∧y.g=g1)∧ORD tf n j x.l y.l∧(x.u≤7*j∧y.u≤7*j)∧x.c≤k∧y.c≤k
def TOJ (B:Nat) (tf:Nat→List Nat) (n j k g0 g1:Nat) (W w:World):Prop:=∃ x y l,TWO B 900 x y W w∧(x.g=g0∧y.g=g1)∧(ORD tf n j l y.l∧Srt l∧x.l=putK l (tf j))∧(x.u≤7*(j+1)∧y.u≤7*j)∧x.c≤k∧y.c≤k
def TOD (B j g0 g1:Nat) (l:List It) (W w:World):Prop:=∃ x y,TWO B 900 x y W w∧(x.g=g0∧y.g=g1)∧(x.l=l∧y.l=l∧l.length≤50)∧x.u≤350+7*j∧y.u≤350+7*j
def TOE (B j g0 g1:Nat) (l:List It) (k:List Nat) (W w:World):Prop:=∃ x y,TWO B 900 x y W w∧(x.g=g0∧y.g=g1)∧(x.l=delL l k∧y.l=l∧l.length≤50)∧x.u≤350+7*(j+1)∧y.u≤350+7*j
section
variable {B n j k g0 g1:Nat} {tf:Nat→List Nat} {l:List It} {W w w':World}
theorem TOI.later (h:TOI B tf n j k g0 g1 W w) (hb:Below w.heap.size w w'):TOI B tf n j k g0 g1 W w':=by
 obtain ⟨x,y,h1,h2⟩:=h
 exact ⟨x,y,h1.later hb,h2⟩
theorem TOI.be (h:TOI B tf n j k g0 g1 W w):Below B W w:=by
 obtain ⟨x,y,h1,h2⟩:=h
 exact h1.be
theorem TOJ.be (h:TOJ B tf n j k g0 g1 W w):Below B W w:=by
 obtain ⟨x,y,l,h1,h2⟩:=h
 exact h1.be
theorem TOD.be (h:TOD B j g0 g1 l W w):Below B W w:=by
 obtain ⟨x,y,h1,h2⟩:=h
 exact h1.be
theorem TOD.bw (h:TOD B j g0 g1 l W w):B≤w.heap.size:=by
 obtain ⟨x,y,h1,h2⟩:=h
 exact h1.bw
theorem TOE.be {q:List Nat} (h:TOE B j g0 g1 l q W w):Below B W w:=by
 obtain ⟨x,y,h1,h2⟩:=h
 exact h1.be
theorem TOD.later (h:TOD B j g0 g1 l W w) (hb:Below w.heap.size w w'):TOD B j g0 g1 l W w':=by
 obtain ⟨x,y,h1,h2⟩:=h
 exact ⟨x,y,h1.later hb,h2⟩
theorem TOI.more (h:TOI B tf n j k g0 g1 W w) {k':Nat} (hk:k≤k'):TOI B tf n j k' g0 g1 W w:=by
 obtain ⟨x,y,h1,h2,h3,h4,h5,h6⟩:=h
 exact ⟨x,y,h1,h2,h3,h4,nT h5 hk,nT h6 hk⟩
theorem TOD.skip (h:TOD B j g0 g1 l W w):TOD B (j+1) g0 g1 l W w:=by
 obtain ⟨x,y,h1,h2,h3,h4,h5⟩:=h
 exact ⟨x,y,h1,h2,h3,by omega,by omega⟩
theorem TOI.put (h:TOI B tf n j k g0 g1 W w) (hj:j<n) (hn:n≤50) {ka:Option Addr} {kn kc:Nat} (hb:∀ c∈tf j,c<256) (hkn:(tf j).length=kn) (hk6:kn≤64) (hk:BK B w ka kn kc (tf j)) :
  Calls Tryz.prog 5 #[.pointer (some ⟨g0,0,none⟩),.slice ka kn kc,.slice ka kn kc] w fun e w'=>(∃ r:Int,e=.returned (.int .i64 r))∧TOJ B tf n j k g0 g1 W w':=by
 obtain ⟨x,y,h1,⟨rfl,rfl⟩,h3,⟨h4,h5⟩,h6,h7⟩:=h
 have hs:=h1.srt
 have hl:=h3.la
 refine (h1.call (x':={ x with u:=x.u+7,l:=putK x.l (tf j) }) rfl (Q:=fun e _=>∃ r:Int,e=.returned (.int .i64 r)) (fun S hx=>?_)).mono ?_
 ·letI:Gd:=⟨S⟩
  exact hx.putk (by omega) (by omega) (by omega) (tf j) hb hkn hk6 hk
 ·rintro e w' ⟨he,h⟩
  exact ⟨he,_,y,x.l,h,⟨rfl,rfl⟩,⟨h3,hs,rfl⟩,⟨by show x.u+7≤_;omega,h5⟩,h6,h7⟩
theorem TOJ.put (h:TOJ B tf n j k g0 g1 W w) (hj:j<n) (hn:n≤50) {ka:Option Addr} {kn kc:Nat} (hb:∀ c∈tf (n-1-j),c<256) (hkn:(tf (n-1-j)).length=kn) (hk6:kn≤64) (hk:BK B w ka kn kc (tf (n-1-j))) :
  Calls Tryz.prog 5 #[.pointer (some ⟨g1,0,none⟩),.slice ka kn kc,.slice ka kn kc] w fun e w'=>(∃ r:Int,e=.returned (.int .i64 r))∧TOI B tf n (j+1) k g0 g1 W w':=by
 obtain ⟨x,y,l,h1,⟨rfl,rfl⟩,⟨h3,h8,h9⟩,⟨h4,h5⟩,h6,h7⟩:=h
 have hs:=h1.swap.srt
 have hl:=h3.lb
 refine (h1.swap.call (x':={ y with u:=y.u+7,l:=putK y.l (tf (n-1-j)) }) rfl (Q:=fun e _=>∃ r:Int,e=.returned (.int .i64 r)) (fun S hx=>?_)).mono ?_
 ·letI:Gd:=⟨S⟩
  exact hx.putk (by omega) (by omega) (by omega) _ hb hkn hk6 hk
 ·rintro e w' ⟨he,h⟩
  refine ⟨he,x,_,h.swap,⟨rfl,rfl⟩,?_,⟨h4,by show y.u+7≤_;omega⟩,h6,h7⟩
  rw [h9]
  exact h3.next h8 hs hj
theorem TOI.cmt0 (h:TOI B tf n j k g0 g1 W w) (hk:k<900) :
  Calls Tryz.prog 6 #[.pointer (some ⟨g0,0,none⟩)] w fun e w'=>e=.returned (.int .i64 0)∧TOI B tf n j (k+1) g0 g1 W w':=by
 obtain ⟨x,y,h1,⟨rfl,rfl⟩,h3,h4,h6,h7⟩:=h
 refine (h1.call (x':={ x with c:=x.c+1 }) rfl (Q:=fun e _=>e=.returned (.int .i64 0)) (fun S hx=>?_)).mono ?_
 ·letI:Gd:=⟨S⟩
  exact hx.cmt (by decide) (by omega)
 ·rintro e w' ⟨he,h⟩
  exact ⟨he,_,y,h,⟨rfl,rfl⟩,h3,h4,by show x.c+1≤_;omega,by omega⟩
theorem TOI.cmt1 (h:TOI B tf n j k g0 g1 W w) (hk:k<900) :
  Calls Tryz.prog 6 #[.pointer (some ⟨g1,0,none⟩)] w fun e w'=>e=.returned (.int .i64 0)∧TOI B tf n j (k+1) g0 g1 W w':=by
 obtain ⟨x,y,h1,⟨rfl,rfl⟩,h3,h4,h6,h7⟩:=h
 refine (h1.swap.call (x':={ y with c:=y.c+1 }) rfl (Q:=fun e _=>e=.returned (.int .i64 0)) (fun S hx=>?_)).mono ?_
 ·letI:Gd:=⟨S⟩
  exact hx.cmt (by decide) (by omega)
 ·rintro e w' ⟨he,h⟩
  exact ⟨he,x,_,h.swap,⟨rfl,rfl⟩,h3,h4,by omega,by show y.c+1≤_;omega⟩
theorem TOI.done (h:TOI B tf n n k g0 g1 W w) (hn:n≤50):∃ l,TOD B 0 g0 g1 l W w:=by
 obtain ⟨x,y,h1,h2,h3,⟨h4,h5⟩,_⟩:=h
 have e:=h3.same h1.srt h1.swap.srt
 have:=h3.lb
 exact ⟨y.l,x,y,h1,h2,⟨e,rfl,by omega⟩,by omega,by omega⟩
theorem TOD.del (h:TOD B j g0 g1 l W w) (hj:j<50) (q:List Nat) {ka:Option Addr} {kn kc:Nat} (hkn:q.length=kn) (hk0:0<kn) (hk6:kn≤64) (hk:BK B w ka kn kc q) :
  Calls Tryz.prog 7 #[.pointer (some ⟨g0,0,none⟩),.slice ka kn kc] w fun e w'=>e=.returned (.tuple #[.bool (hasI l q),.int .i64 0])∧TOE B j g0 g1 l q W w':=by
 obtain ⟨x,y,h1,⟨rfl,rfl⟩,⟨rfl,h3,h9⟩,h4,h5⟩:=h
 refine (h1.call (x':={ x with u:=x.u+7,l:=delL x.l q }) rfl (Q:=fun e _=>e=.returned (.tuple #[.bool (hasI x.l q),.int .i64 0])) (fun S hx=>?_)).mono ?_
 ·letI:Gd:=⟨S⟩
  exact hx.del7 (by omega) (by omega) h9 q hkn hk0 hk6 hk
 ·rintro e w' ⟨he,h⟩
  exact ⟨he,_,y,h,⟨rfl,rfl⟩,⟨rfl,h3,h9⟩,by show x.u+7≤_;omega,h5⟩
theorem TOE.del {q:List Nat} (h:TOE B j g0 g1 l q W w) (hj:j<50) {ka:Option Addr} {kn kc:Nat} (hkn:q.length=kn) (hk0:0<kn) (hk6:kn≤64) (hk:BK B w ka kn kc q) :
  Calls Tryz.prog 7 #[.pointer (some ⟨g1,0,none⟩),.slice ka kn kc] w fun e w'=>e=.returned (.tuple #[.bool (hasI l q),.int .i64 0])∧TOD B (j+1) g0 g1 (delL l q) W w':=by
 obtain ⟨x,y,h1,⟨rfl,rfl⟩,⟨h8,rfl,h9⟩,h4,h5⟩:=h
 have h7:(delL y.l q).length≤y.l.length:=List.length_filter_le _ _
 refine (h1.swap.call (x':={ y with u:=y.u+7,l:=delL y.l q }) rfl (Q:=fun e _=>e=.returned (.tuple #[.bool (hasI y.l q),.int .i64 0])) (fun S hx=>?_)).mono ?_
 ·letI:Gd:=⟨S⟩
  exact hx.del7 (by omega) (by omega) h9 q hkn hk0 hk6 hk
 ·rintro e w' ⟨he,h⟩
  exact ⟨he,x,_,h.swap,⟨rfl,rfl⟩,⟨h8,rfl,by omega⟩,h4,by show y.u+7≤_;omega⟩
theorem TOD.kx0 (h:TOD B j g0 g1 l W w):l.length≤50∧∃ p q c u,@KX ⟨fun _=>False⟩ B p q g0 900 c u l W w:=by
 obtain ⟨x,y,h1,⟨rfl,rfl⟩,⟨rfl,_,h9⟩,_⟩:=h
 exact ⟨h9,_,_,_,_,h1.kx⟩
theorem TOD.kx1 (h:TOD B j g0 g1 l W w):l.length≤50∧∃ p q c u,@KX ⟨fun _=>False⟩ B p q g1 900 c u l W w:=by
 obtain ⟨x,y,h1,⟨rfl,rfl⟩,⟨_,rfl,h9⟩,_⟩:=h
 exact ⟨h9,_,_,_,_,h1.swap.kx⟩
end
section
variable [Gd] {B p q g N c u:Nat} {l:List It} {W w:World}
theorem KX.all (h:KX B p q g N c u l W w) :
  Calls Tryz.prog 8 #[.pointer (some ⟨g,0,none⟩),.slice none 0 0,.slice none 0 0,.int .i64 999] w fun e w'=>∃ fv,e=.returned (.tuple #[fv,.int .i64 0])∧PRW B w.heap.size w' fv l∧Below w.heap.size w w':=by
 obtain ⟨last,s,t,now,left,h⟩:=h
 have hd:=h.dep
 have h7:=h.ln
 have:=Range_ok (most:=999) h.tm h.tr (by omega) (lo:=[]) (hi:=[]) rfl rfl (BK.nil _ _) (BK.nil _ _) (by decide) (by decide) (by decide) (by decide)
 rw [rng_all (by omega)] at this
 exact this
theorem KX.chk (h:KX B p q g N c u l W w):Calls Tryz.prog 12 #[.pointer (some ⟨g,0,none⟩)] w fun e w'=>e=.returned (.int .i64 0)∧Below w.heap.size w w':=by
 obtain ⟨last,s,t,now,left,h⟩:=h
 have hd:=h.dep
 have h7:=h.ln
 exact Check_ok h.tm h.tr (by omega) (by omega)
end
section
variable {B j g0 g1:Nat} {l:List It} {W w:World}
theorem TOD.rng0 (h:TOD B j g0 g1 l W w) :
  Calls Tryz.prog 8 #[.pointer (some ⟨g0,0,none⟩),.slice none 0 0,.slice none 0 0,.int .i64 999] w fun e w'=>∃ fv,e=.returned (.tuple #[fv,.int .i64 0])∧PRW B w.heap.size w' fv l∧Below w.heap.size w w':=by
 obtain ⟨_,p,q,c,u,h1⟩:=h.kx0
 letI:Gd:=⟨fun _=>False⟩
 exact h1.all
theorem TOD.rng1 (h:TOD B j g0 g1 l W w) :
  Calls Tryz.prog 8 #[.pointer (some ⟨g1,0,none⟩),.slice none 0 0,.slice none 0 0,.int .i64 999] w fun e w'=>∃ fv,e=.returned (.tuple #[fv,.int .i64 0])∧PRW B w.heap.size w' fv l∧Below w.heap.size w w':=by
 obtain ⟨_,p,q,c,u,h1⟩:=h.kx1
 letI:Gd:=⟨fun _=>False⟩
 exact h1.all
theorem TOD.len0 (h:TOD B j g0 g1 l W w):Calls Tryz.prog 11 #[.pointer (some ⟨g0,0,none⟩)] w fun e w'=>e=.returned (.int .i64 (l.length:Int))∧w'=w:=by
 obtain ⟨_,p,q,c,u,h1⟩:=h.kx0
 letI:Gd:=⟨fun _=>False⟩
 exact h1.Len
theorem TOD.len1 (h:TOD B j g0 g1 l W w):Calls Tryz.prog 11 #[.pointer (some ⟨g1,0,none⟩)] w fun e w'=>e=.returned (.int .i64 (l.length:Int))∧w'=w:=by
 obtain ⟨_,p,q,c,u,h1⟩:=h.kx1
 letI:Gd:=⟨fun _=>False⟩
 exact h1.Len
theorem TOD.chk0 (h:TOD B j g0 g1 l W w):Calls Tryz.prog 12 #[.pointer (some ⟨g0,0,none⟩)] w fun e w'=>e=.returned (.int .i64 0)∧Below w.heap.size w w':=by
 obtain ⟨_,p,q,c,u,h1⟩:=h.kx0
 letI:Gd:=⟨fun _=>False⟩
 exact h1.chk
theorem TOD.chk1 (h:TOD B j g0 g1 l W w):Calls Tryz.prog 12 #[.pointer (some ⟨g1,0,none⟩)] w fun e w'=>e=.returned (.int .i64 0)∧Below w.heap.size w w':=by
 obtain ⟨_,p,q,c,u,h1⟩:=h.kx1
 letI:Gd:=⟨fun _=>False⟩
 exact h1.chk
theorem TOD.len (h:TOD B j g0 g1 l W w):l.length≤50:=h.kx0.1
end
end Go.Proofs.YtohgmapjokaibaaGreat
