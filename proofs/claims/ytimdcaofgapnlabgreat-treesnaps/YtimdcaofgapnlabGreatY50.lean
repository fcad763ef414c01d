import Derived.Test.YtimdcaofgapnlabGreatY48
import Derived.Test.YtimdcaofgapnlabGreatY49
set_option maxRecDepth 100000
set_option maxHeartbeats 16000000
set_option linter.unusedVariables false
namespace Go.Proofs.YtimdcaofgapnlabGreat
open Go.RowKit
def NF (B:Nat) (w w':World):Prop:=Below B w w'∧∀ (k:Nat) (cs:Array Value) (t:TypeId) (fz:Nat×Nat),w.heap[k]?=some (Obj.cells cs t fz)→NT t→t≠81→t≠92→t≠56→w'.heap[k]?=some (Obj.cells cs t fz)
theorem ChF.nf {B g:Nat} {w w':World} {cg:Array Value} (f:ChF B g w w') (hg:w.heap[g]?=some (.cells cg 81 (0,0))):NF B w w':=⟨f.1,fun k cs t fz e n0 n1 n2 n3=>f.2 k cs t fz e n0 fun q9=>by
 subst q9
 rw [hg] at e
 simp only [oI,cI] at e
 exact n1 e.2.1.symm⟩
theorem SnF.nf {B g n:Nat} {sv:Value} {w w':World} {cg:Array Value} {xs:List Value} (f:SnF B g sv w w') (hg:w.heap[g]?=some (.cells cg 81 (0,0))) (hv:w.ownsRow B 56 1 sv n xs):NF B w w':=⟨f.1,fun k cs t fz e n0 n1 n2 n3=>f.2 k cs t fz e (fun q9=>by
 subst q9
 rw [hg] at e
 simp only [oI,cI] at e
 exact n1 e.2.1.symm) (fun q9=>by
 obtain ⟨_,cur,hc⟩:=aAq hv q9.symm
 rw [hc] at e
 simp only [oI,cI] at e
 exact n3 e.2.1.symm)⟩
theorem ClF.nf {B g nb n:Nat} {sv:Value} {w w':World} {cg cx:Array Value} {xs:List Value} (f:ClF B g nb sv w w') (hg:w.heap[g]?=some (.cells cg 81 (0,0))) (hx:w.heap[nb]?=some (.cells cx 92 (0,0))) (hv:w.ownsRow B 56 1 sv n xs):NF B w w':=⟨f.1,fun k cs t fz e n0 n1 n2 n3=>f.2 k cs t fz e n0 (fun q9=>by
 subst q9
 rw [hg] at e
 simp only [oI,cI] at e
 exact n1 e.2.1.symm) (fun q9=>by
 subst q9
 rw [hx] at e
 simp only [oI,cI] at e
 exact n2 e.2.1.symm) (fun q9=>by
 obtain ⟨_,cur,hc⟩:=aAq hv q9.symm
 rw [hc] at e
 simp only [oI,cI] at e
 exact n3 e.2.1.symm)⟩
theorem NF.of {B:Nat} {w w':World} (h:Below w.heap.size w w') (hB:B≤w.heap.size):NF B w w':=⟨h.mono hB,fun k cs t fz e _ _ _ _=>(h.block k (lO e)).trans e⟩
theorem NF.trans {B:Nat} {a b c:World} (h:NF B a b) (k:NF B b c):NF B a c:=⟨h.1.trans k.1,fun i cs t fz e n0 n1 n2 n3=>k.2 i cs t fz (h.2 i cs t fz e n0 n1 n2 n3) n0 n1 n2 n3⟩
theorem PRW.nf {B:Nat} {w w':World} {v:Value} {F:List It} (h:PRW B B w v F) (f:NF B w w'):PRW B B w' v F :=
 h.stay ⟨f.1,fun k cs fz e=>f.2 k cs _ fz e (by decide) (by decide) (by decide) (by decide)⟩ fun k cs _ e=>f.2 k cs _ _ e (by decide) (by decide) (by decide) (by decide)
def Hds (s:DS) (c:Nat):Prop:=(1≤c→∃ r,r<s.n∧r≠1∧s.show (c % 2)=headB c r)∧(2≤c→∃ r,r<s.n∧r≠1∧s.show ((c+1) % 2)=headB (c-1) r)
theorem Hds.gw {s s':DS} {t t':PS} {L:List Nat} {c:Nat} (h:Hds s c) (g:Gw s t s' t' L) (hd:t.st.getD 0 0=0∧t.st.getD 1 0=0):Hds s' c:=by
 obtain ⟨e0,e1⟩:=g.show01 hd
 have e:∀ i,i<2→s'.show i=s.show i:=fun i hi=>by
  have:i=0∨i=1:=by omega
  rcases this with rfl | rfl
  ·exact e0
  ·exact e1
 refine ⟨fun h1=>?_,fun h2=>?_⟩
 ·obtain ⟨r,a,b,d⟩:=h.1 h1
  exact ⟨r,by rw [g.n];exact a,b,by rw [e _ (by omega)];exact d⟩
 ·obtain ⟨r,a,b,d⟩:=h.2 h2
  exact ⟨r,by rw [g.n];exact a,b,by rw [e _ (by omega)];exact d⟩
theorem Hds.cmt {s s':DS} {t t':PS} {nd:List Nat} {root c:Nat} (h:Hds s c) (k:Cmt s t nd root s' t') (hc:t.num=c) (hr:root<s.n) (hr1:root≠1) (hn:2≤s.n):Hds s' (c+1):=by
 refine ⟨fun _=>⟨root,by rw [k.n];exact hr,hr1,?_⟩,fun h2=>?_⟩
 ·rw [k.sh _ (by omega),hc,if_pos rfl]
 ·obtain ⟨r,a,b,d⟩:=h.1 (by omega)
  refine ⟨r,by rw [k.n];exact a,b,?_⟩
  rw [k.sh _ (by omega),hc,if_neg (by omega),show (c+1+1) % 2=c % 2 by omega]
  exact d
theorem Hds.four {s:DS} (h:Hds s 4) (hn:s.n≤4096):∃ root,root≤4096∧lastH (rdH (pad (s.show 0)) s.n) (rdH (pad (s.show 1)) s.n)=some (4,root):=by
 obtain ⟨r,a,b,d⟩:=h.1 (by omega)
 obtain ⟨r',a',b',d'⟩:=h.2 (by omega)
 have d:s.show 0=headB 4 r:=d
 have d':s.show 1=headB 3 r':=d'
 refine ⟨r,by omega,?_⟩
 rw [d,d',aHr (by omega) a b (by omega) hn,aHr (by omega) a' b' (by omega) hn]
 exact lastH_even (by show ((3:Nat):Int)≤((4:Nat):Int);decide) rfl
theorem Tr.root_ok {s:DS} {t:PS} {st:StT} {l:List It} (h:Tr s t st l) (hd:t.st.getD 0 0=0∧t.st.getD 1 0=0) (hn:3≤s.n):st.root.toNat<s.n∧st.root.toNat≠1:=by
 rcases h with ⟨r1,_⟩ | ⟨h,b,e1,e2,e3,e4,e5,e6,e7,e8,e9⟩
 ·rw [r1]
  exact ⟨by show 0<s.n;omega,by decide⟩
 ·have h2:=e6.held _ (aF6 b)
  rw [e1]
  refine ⟨h2.2,fun q9=>?_⟩
  have q9:BT.id b=1:=q9
  rw [q9] at h2
  omega
theorem Tr.pgn {s:DS} {t:PS} {st:StT} {l:List It} (h:Tr s t st l) (hd:t.st.getD 0 0=0∧t.st.getD 1 0=0):st.pgs.length=64∧PgN s st.pgs:=by
 rcases h with ⟨_,_,_,_,r5⟩ | ⟨h,b,e1,e2,e3,e4,e5,e6,e7,e8,e9⟩
 ·exact ⟨r5.1,fun i _ hi=>by rw [r5.2.2.2 i] at hi;simp at hi⟩
 ·refine ⟨e9.1,fun i _ hi=>?_⟩
  rw [e9.2.2.2 i] at hi
  have h2:=e6.held i (of_decide_eq_true hi)
  refine ⟨?_,h2.2⟩
  apply Classical.byContradiction
  intro q9
  have:i=0∨i=1:=by omega
  rcases this with rfl | rfl<;>omega
theorem jnS_pgn {s:DS}:∀ (sn:List (Nat×List Nat)) (ps:List Nat),ps.length=64→PgN s ps→(∀ x∈sn,x.2.length=64∧PgN s x.2)→PgN s (jnS ps sn)
 | [],ps,_,h,_=>h
 | x::sn,ps,hl,h,hx=>by
  have h1:=hx x List.mem_cons_self
  have hj:(jnP ps x.2).length=64:=by have:=(aEp [x] ps hl (fun y hy=>by rw [List.mem_singleton.1 hy];exact h1.1)).1;exact this
  refine jnS_pgn sn (jnP ps x.2) hj (fun i hi hh=>?_) fun y hy=>hx y (List.mem_cons_of_mem _ hy)
  rw [hs_jn hl h1.1 hi,Bool.or_eq_true] at hh
  rcases hh with q | q
  ·exact h i hi q
  ·exact h1.2 i hi q
abbrev Rc:=Nat×StT×List It×Value
def rcS (rec:List Rc):List (Nat×StT):=rec.map fun r=>(r.1,r.2.1)
theorem rcP (rec:List Rc):snP (rcS rec)=rec.map fun r=>(r.1,r.2.1.pgs):=by simp [snP,rcS]
theorem PRW.lowB {B B1 B2:Nat} {w:World} {v:Value} {F:List It} (h:PRW B B1 w v F) (h2:B2≤B1):PRW B B2 w v F:=by
 obtain ⟨kv,k1,k2,k3⟩:=h
 exact ⟨kv,k1,aFd k2 h2,k3⟩
structure SI [Gd] (B p q g N c u:Nat) (rec:List Rc) (l:List It) (s:DS) (t:PS) (now last:StT) (left:Int) (sv:Value) (W wx:World):Prop where
 tm:TM B p q g s t now last sv left wx
 sn:SnO B wx g sv (rcS rec)
 tr:Tr s t now l
 ln:l.length≤50
 rs:∀ r∈rec,Tr s t r.2.1 r.2.2.1∧r.2.2.1.length≤50∧PRW B B wx r.2.2.2 r.2.2.1
 nd:(rec.map (·.1)).Nodup
 nB:∀ r∈rec,B≤r.1
 nn:s.n=N
 mu:s.m≤u
 cu:N-2≤cntF t.st+u
 nm:t.num=c
 hd:Hds s c
 be:Below B W wx
section
variable [Gd] {B p q g N c u:Nat} {rec:List Rc} {l:List It} {s:DS} {t:PS} {now last:StT} {left:Int} {sv:Value} {W wx wy:World}
theorem SI.later (h:SI B p q g N c u rec l s t now last left sv W wx) (hb:Below wx.heap.size wx wy):SI B p q g N c u rec l s t now last left sv W wy:=⟨h.tm.later hb,h.sn.later hb,h.tr,h.ln,fun r hr=>⟨(h.rs r hr).1,(h.rs r hr).2.1,(h.rs r hr).2.2.nf (NF.of hb h.tm.bw)⟩,h.nd,h.nB,h.nn,h.mu,h.cu,h.nm,h.hd,h.be.trans (hb.mono h.tm.bw)⟩
theorem SI.dep (h:SI B p q g N c u rec l s t now last left sv W wx):0≤now.depth∧now.depth≤4:=h.tr.depth80 (nT h.ln (by decide))
theorem SI.more (h:SI B p q g N c u rec l s t now last left sv W wx) {u':Nat} (hu:u≤u'):SI B p q g N c u' rec l s t now last left sv W wx:=⟨h.tm,h.sn,h.tr,h.ln,h.rs,h.nd,h.nB,h.nn,nT h.mu hu,by have:=h.cu;omega,h.nm,h.hd,h.be⟩
theorem SI.gw (h:SI B p q g N c u rec l s t now last left sv W wx) {s':DS} {t':PS} {now':StT} {left':Int} {L:List Nat} {l':List It} (k1:Gw s t s' t' L) (k2:TM B p q g s' t' now' last sv left' wy) (k3:Tr s' t' now' l') (k4:(L.length:Int)≤2*now.depth+1) (k5:ChF B g wx wy) (hl:l'.length≤50):SI B p q g N c (u+9) rec l' s' t' now' last left' sv W wy:=by
 obtain ⟨cg,hg,_⟩:=h.tm.tv
 have hd:=h.dep
 have h5:=k1.m
 have h6:=k1.cnt
 have h8:=h.mu
 have h9:=h.cu
 exact ⟨k2,h.sn.chf k5 hg,k3,hl,fun r hr=>⟨(h.rs r hr).1.grow k1,(h.rs r hr).2.1,(h.rs r hr).2.2.nf (k5.nf hg)⟩,h.nd,h.nB,by rw [k1.n];exact h.nn,by omega,by omega,by rw [k1.num];exact h.nm,h.hd.gw k1 h.tm.hd,h.be.trans k5.1⟩
theorem SI.Put (hg0:Gd.g=none) (h:SI B p q g N c u rec l s t now last left sv W wx) (hu:u+20≤N) (hu2:u≤3000) (hl:l.length<50) (it:It) (hit:ItOk it) {ka va:Option Addr} {kn kc vn vc:Nat} (hkn:it.1.length=kn) (hvn:it.2.length=vn) (hk:BK B wx ka kn kc it.1) (hv:BK B wx va vn vc it.2) :
  Calls Tryz.prog 8 #[.pointer (some ⟨g,0,none⟩),.slice ka kn kc,.slice va vn vc] wx fun e w'=>e=.returned (.int .i64 0)∧NF B wx w'∧∃ s' t' now' left',SI B p q g N c (u+9) rec (putL l it) s' t' now' last left' sv W w':=by
 obtain ⟨cg,hg,_⟩:=h.tm.tv
 have hd:=h.dep
 have h8:=h.mu
 have h9:=h.cu
 have h7:=h.ln
 refine (Put_ok hg0 h.tm h.tr (by omega) it hit hkn hvn hk hv (by omega) (by omega) (by omega)).mono ?_
 rintro e w' ⟨rfl,s',t',now',L,k1,k2,k3,k4,k5⟩
 exact ⟨rfl,k5.nf hg,s',t',now',_,h.gw k1 k2 k3 k4 k5 (by rw [aFc];split<;>omega)⟩
theorem SI.Delete (hg0:Gd.g=none) (h:SI B p q g N c u rec l s t now last left sv W wx) (hu:u+20≤N) (hu2:u≤3000) (k:List Nat) {ka:Option Addr} {kn kc:Nat} (hkn:k.length=kn) (hk0:0<kn) (hk6:kn≤64) (hk:BK B wx ka kn kc k) :
  Calls Tryz.prog 15 #[.pointer (some ⟨g,0,none⟩),.slice ka kn kc] wx fun e w'=>e=.returned (.tuple #[.bool (hasI l k),.int .i64 0])∧NF B wx w'∧∃ s' t' now' left',SI B p q g N c (u+9) rec (delL l k) s' t' now' last left' sv W w':=by
 obtain ⟨cg,hg,_⟩:=h.tm.tv
 have hd:=h.dep
 have h8:=h.mu
 have h9:=h.cu
 have h7:=h.ln
 refine (Delete_ok hg0 h.tm h.tr (by omega) k hkn hk0 hk6 hk (by omega) (by omega) (by omega)).mono ?_
 rintro e w' ⟨rfl,s',t',now',left',L,k1,k2,k3,k4,k5⟩
 exact ⟨rfl,k5.nf hg,s',t',now',left',h.gw k1 k2 k3 k4 k5 (nT (List.length_filter_le _ _) h7)⟩
theorem SI.sub (h:SI B p q g N c u rec l s t now last left sv W wx):∀ x∈snP (rcS rec),x.2.length=64∧PgN s x.2:=by
 intro x hx
 rw [rcP] at hx
 obtain ⟨r,hr,rfl⟩:=List.mem_map.1 hx
 exact (h.rs r hr).1.pgn h.tm.hd
theorem SI.commit (h:SI B p q g N c u rec l s t now last left sv W wx) (hN:3≤N) (hc:c<900):Calls Tryz.prog 14 #[.pointer (some ⟨g,0,none⟩)] wx fun e w'=>e=.returned (.int .i64 0)∧NF B wx w'∧∃ s' t' left',SI B p q g N (c+1) u rec l s' t' now now left' sv W w':=by
 obtain ⟨cg,hg,_⟩:=h.tm.tv
 have hpn:=h.tr.pgn h.tm.hd
 have hsub:=aEp (snP (rcS rec)) now.pgs hpn.1 (fun x hx=>(h.sub x hx).1)
 refine (aGg h.tm h.tr h.sn.snv (by rw [h.nn];omega) (by rw [h.nm];omega)).mono ?_
 rintro e w' ⟨rfl,s',t',k1,k2,k3⟩
 have h9:=k1.more
 have h8:=h.cu
 have hro:=h.tr.root_ok h.tm.hd (by rw [h.nn];exact hN)
 refine ⟨rfl,k3.nf hg,s',t',_,k2,h.sn.chf k3 hg,h.tr.cmt k1 h.tm.hd hsub.2.1,h.ln,fun r hr=>⟨(h.rs r hr).1.cmt k1 h.tm.hd ?_,(h.rs r hr).2.1,(h.rs r hr).2.2.nf (k3.nf hg)⟩,h.nd,h.nB,by rw [k1.n];exact h.nn,by rw [k1.m];exact Nat.zero_le _,by omega,by rw [k1.num,h.nm],h.hd.cmt k1 h.nm hro.1 hro.2 (by rw [h.nn];omega),h.be.trans k3.1⟩
 have:(r.1,r.2.1.pgs)∈snP (rcS rec):=by rw [rcP];exact List.mem_map_of_mem hr
 exact hsub.2.2 _ this
theorem SI.Snap (h:SI B p q g N c u rec l s t now now left sv W wx) (h4:rec.length<4) (ov:Value) (hov:PRW B B wx ov l):Calls Tryz.prog 23 #[.pointer (some ⟨g,0,none⟩)] wx fun e w'=>∃ nb sv',e=.returned (.tuple #[.pointer (some ⟨nb,0,none⟩),.int .i64 0])∧NF B wx w'∧SI B p q g N c u (rec++[(nb,now,l,ov)]) l s t now now left sv' W w':=by
 obtain ⟨cg,hg,_⟩:=h.tm.tv
 refine (Snap_ok h.tm h.sn (by simpa [rcS] using h4)).mono ?_
 rintro e w' ⟨nb,sv',rfl,k1,k2,k3,k4⟩
 have hnf:=k4.nf hg h.sn.v
 have hlt:∀ r∈rec,r.1<wx.heap.size:=fun r hr=>by
  obtain ⟨cx,e9,_⟩:=h.sn.s (r.1,r.2.1) (by unfold rcS;exact List.mem_map_of_mem hr)
  exact (lO e9)
 have hbw:=h.tm.bw
 refine ⟨nb,sv',rfl,hnf,k2,by simpa [rcS] using k3,h.tr,h.ln,fun r hr=>?_,?_,fun r hr=>?_,h.nn,h.mu,h.cu,h.nm,h.hd,h.be.trans k4.1⟩
 ·rcases List.mem_append.1 hr with q9 | q9
  ·exact ⟨(h.rs r q9).1,(h.rs r q9).2.1,(h.rs r q9).2.2.nf hnf⟩
  ·rw [List.mem_singleton.1 q9]
   exact ⟨h.tr,h.ln,hov.nf hnf⟩
 ·rw [List.map_append,List.nodup_append]
  refine ⟨h.nd,by simp,fun a ha b hb q9=>?_⟩
  obtain ⟨r,hr,rfl⟩:=List.mem_map.1 ha
  have hb:b=nb:=by simpa using hb
  have:=hlt r hr
  omega
 ·rcases List.mem_append.1 hr with q9 | q9
  ·exact h.nB r q9
  ·rw [List.mem_singleton.1 q9]
   show B≤nb
   omega
theorem SI.Range (h:SI B p q g N c u rec l s t now last left sv W wx):Calls Tryz.prog 9 #[.pointer (some ⟨g,0,none⟩),.slice none 0 0,.slice none 0 0,.int .i64 999] wx fun e w'=>∃ fv,e=.returned (.tuple #[fv,.int .i64 0])∧PRW B B w' fv l∧Below wx.heap.size wx w':=by
 have hd:=h.dep
 refine (Range_ok (most:=999) (lo:=[]) (hi:=[]) h.tm h.tr (by omega) rfl rfl (BK.nil _ _) (BK.nil _ _) (by decide) (by decide) (by decide) (by decide)).mono ?_
 rintro e w' ⟨fv,rfl,hp,hb⟩
 have hl:=h.ln
 rw [rngL_take l [] (by decide),frm_nil,List.take_of_length_le (by omega)] at hp
 exact ⟨fv,rfl,hp.lowB h.tm.bw,hb⟩
theorem SI.SnapR (h:SI B p q g N c u rec l s t now last left sv W wx) {r:Rc} (hr:r∈rec):Calls Tryz.prog 24 #[.pointer (some ⟨r.1,0,none⟩),.slice none 0 0,.slice none 0 0,.int .i64 999] wx fun e w'=>∃ fv,e=.returned (.tuple #[fv,.int .i64 0])∧PRW B B w' fv r.2.2.1∧Below wx.heap.size wx w':=by
 obtain ⟨k1,k2,k3⟩:=h.rs r hr
 obtain ⟨cx,e1,e2⟩:=h.sn.s (r.1,r.2.1) (by unfold rcS;exact List.mem_map_of_mem hr)
 have hd:=k1.depth80 (nT k2 (by decide))
 refine (aE4 (most:=999) (lo:=[]) (hi:=[]) h.tm k1 (by omega) e1 e2.c0 e2.c1 e2.c2 rfl rfl (BK.nil _ _) (BK.nil _ _) (by decide) (by decide) (by decide) (by decide)).mono ?_
 rintro e w' ⟨fv,rfl,hp,hb⟩
 rw [rngL_take r.2.2.1 [] (by decide),frm_nil,List.take_of_length_le (by omega)] at hp
 exact ⟨fv,rfl,hp.lowB h.tm.bw,hb⟩
theorem SI.Close (hg0:Gd.g=none) {r:Rc} (h:SI B p q g N 4 u (r::rec) l s t now now left sv W wx) (hN:3≤N) (hN4:N≤4096) (hu:u≤N):Calls Tryz.prog 25 #[.pointer (some ⟨r.1,0,none⟩)] wx fun e w'=>e=.returned (.tuple #[])∧NF B wx w'∧∃ q' t' left' sv',SI B p q' g N 4 N rec l s t' now now left' sv' W w':=by
 obtain ⟨cg,hg,_⟩:=h.tm.tv
 obtain ⟨root,hr1,hr2⟩:=h.hd.four (by rw [h.nn];exact hN4)
 have hpn:=h.tr.pgn h.tm.hd
 have hall:∀ x∈((0,now.pgs)::snP (rcS rec):List (Nat×List Nat)),x.2.length=64∧PgN s x.2:=by
  intro x hx
  rcases List.mem_cons.1 hx with rfl | hx
  ·exact hpn
  ·exact h.sub x (by rw [rcP] at hx ⊢;exact List.mem_cons_of_mem _ hx)
 have hPN:PgN s (jnS (jnP now.pgs now.pgs) (snP (rcS rec))):=jnS_pgn ((0,now.pgs)::snP (rcS rec)) now.pgs hpn.1 hpn.2 hall
 have hsub:=aEp ((0,now.pgs)::snP (rcS rec)) now.pgs hpn.1 (fun x hx=>(hall x hx).1)
 have hsn:SnO B wx g sv ((r.1,r.2.1)::rcS rec):=h.sn
 obtain ⟨cx,e1,e2⟩:=h.sn.s (r.1,r.2.1) List.mem_cons_self
 have hnd:∀ x∈rcS rec,x.1≠r.1:=fun x hx q9=>by
  obtain ⟨y,hy,rfl⟩:=List.mem_map.1 hx
  exact (List.nodup_cons.1 h.nd).1 (by show r.1∈_;rw [←q9];exact List.mem_map_of_mem hy)
 refine (Close_ok hg0 h.tm hsn (h.nB r List.mem_cons_self) hnd hPN (by rw [h.nn];exact hN) (by rw [h.nm];exact hr2) (by rw [h.nm];decide) hr1).mono ?_
 rintro e w' ⟨rfl,q',sv',left',k1,k2,k3⟩
 have hnf:=k3.nf hg e1 h.sn.v
 obtain ⟨a1,a2,a3,_⟩:=aIj (num:=t.num) (root:=root) hPN
 have h8:=h.mu
 refine ⟨rfl,hnf,q',_,left',sv',k1,k2,h.tr.anew hPN hsub.2.1,h.ln,fun x hx=>⟨(h.rs x (List.mem_cons_of_mem _ hx)).1.anew hPN ?_,(h.rs x (List.mem_cons_of_mem _ hx)).2.1,(h.rs x (List.mem_cons_of_mem _ hx)).2.2.nf hnf⟩,(List.nodup_cons.1 h.nd).2,fun x hx=>h.nB x (List.mem_cons_of_mem _ hx),h.nn,by omega,by omega,by rw [a3];exact h.nm,h.hd,h.be.trans k3.1⟩
 exact hsub.2.2 (x.1,x.2.1.pgs) (List.mem_cons_of_mem _ (by rw [rcP];exact List.mem_map_of_mem hx))
end
theorem Snap_many [Gd] {B p q g:Nat} {s:DS} {t:PS} {w:World} {now last:StT} {sv:Value} {left:Int} {sn:List (Nat×StT)} (hM:TM B p q g s t now last sv left w) (hsn:SnO B w g sv sn) (h4:sn.length=4) :
  Calls Tryz.prog 23 #[.pointer (some ⟨g,0,none⟩)] w fun e w'=>e=.returned (.tuple #[.pointer none,.int .i64 2])∧Below w.heap.size w w':=by
 obtain ⟨cs,hg,hT⟩:=hM.tv
 have HDD:=hide (aCg hM.st hM.lf hg hT)
 obtain ⟨a,c,rfl⟩:=aAf hsn.v
 have HG:=hide hg
 have HT:=hide hT
 rw [h4] at HT
 clear hM hsn hg hT
 go_enter Tryz.func23,Tryz.ntmps23
 go_wp2_with fail
 refine HDD.out.mono ?_
 rintro e w1 ⟨rfl,hb1⟩
 have HB1:=hide hb1
 have r0:w1.cell? ⟨g,136,none⟩=some (.slice a 4 c):=(aAa ((hb1.block g (lO HG.out)).trans HG.out)).trans HT.out.s0
 clear hb1
 go_wp2
 go_ret2
 exact ⟨rfl,HB1.out⟩
end Go.Proofs.YtimdcaofgapnlabGreat
