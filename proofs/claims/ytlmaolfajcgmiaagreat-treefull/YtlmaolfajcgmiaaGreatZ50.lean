import Derived.Test.YtlmaolfajcgmiaaGreatZ48
import Derived.Test.YtlmaolfajcgmiaaGreatZ47
set_option maxRecDepth 100000
set_option maxHeartbeats 16000000
set_option linter.unusedVariables false
namespace Go.Proofs.YtlmaolfajcgmiaaGreat
open Go.RowKit
def NF (B:Nat) (w w':World):Prop:=Below B w w'∧∀ (k:Nat) (cs:Array Value) (t:TypeId) (fz:Nat×Nat),w.heap[k]?=some (Obj.cells cs t fz)→NT t→t≠87→t≠91→t≠46→w'.heap[k]?=some (Obj.cells cs t fz)
theorem ChF.nf {B g:Nat} {w w':World} {cg:Array Value} (f:ChF B g w w') (hg:w.heap[g]?=some (.cells cg 87 (0,0))):NF B w w':=⟨f.1,fun k cs t fz e n0 n1 n2 n3=>f.2 k cs t fz e n0 fun q9=>by
 subst q9
 rw [hg] at e
 simp only [oI,cI] at e
 exact n1 e.2.1.symm⟩
theorem SnF.nf {B g n:Nat} {sv:Value} {w w':World} {cg:Array Value} {xs:List Value} (f:SnF B g sv w w') (hg:w.heap[g]?=some (.cells cg 87 (0,0))) (hv:w.ownsRow B 46 1 sv n xs):NF B w w':=⟨f.1,fun k cs t fz e n0 n1 n2 n3=>f.2 k cs t fz e (fun q9=>by
 subst q9
 rw [hg] at e
 simp only [oI,cI] at e
 exact n1 e.2.1.symm) (fun q9=>by
 obtain ⟨_,cur,hc⟩:=aAl hv q9.symm
 rw [hc] at e
 simp only [oI,cI] at e
 exact n3 e.2.1.symm)⟩
theorem ClF.nf {B g nb n:Nat} {sv:Value} {w w':World} {cg cx:Array Value} {xs:List Value} (f:ClF B g nb sv w w') (hg:w.heap[g]?=some (.cells cg 87 (0,0))) (hx:w.heap[nb]?=some (.cells cx 91 (0,0))) (hv:w.ownsRow B 46 1 sv n xs):NF B w w':=⟨f.1,fun k cs t fz e n0 n1 n2 n3=>f.2 k cs t fz e n0 (fun q9=>by
 subst q9
 rw [hg] at e
 simp only [oI,cI] at e
 exact n1 e.2.1.symm) (fun q9=>by
 subst q9
 rw [hx] at e
 simp only [oI,cI] at e
 exact n2 e.2.1.symm) (fun q9=>by
 obtain ⟨_,cur,hc⟩:=aAl hv q9.symm
 rw [hc] at e
 simp only [oI,cI] at e
 exact n3 e.2.1.symm)⟩
theorem NF.of {B:Nat} {w w':World} (h:Below w.heap.size w w') (hB:B≤w.heap.size):NF B w w':=⟨h.mono hB,fun k cs t fz e _ _ _ _=>(h.block k (lO e)).trans e⟩
theorem NF.trans {B:Nat} {a b c:World} (h:NF B a b) (k:NF B b c):NF B a c:=⟨h.1.trans k.1,fun i cs t fz e n0 n1 n2 n3=>k.2 i cs t fz (h.2 i cs t fz e n0 n1 n2 n3) n0 n1 n2 n3⟩
theorem PRW.nf {B:Nat} {w w':World} {v:Value} {F:List It} (h:PRW B B w v F) (f:NF B w w'):PRW B B w' v F :=
 h.stay ⟨f.1,fun k cs fz e=>f.2 k cs _ fz e (by decide) (by decide) (by decide) (by decide)⟩ fun k cs _ e=>f.2 k cs _ _ e (by decide) (by decide) (by decide) (by decide)
def Hds (s:DS) (c:Nat):Prop:=(1≤c→∃ r,r<s.n∧r≠1∧s.show (c % 2)=headB c r)∧(2≤c→∃ r,r<s.n∧r≠1∧s.show ((c+1) % 2)=headB (c-1) r)
theorem Hds.gw {s s':DS} {t t':PS} {L:List Nat} {c:Nat} (h:Hds s c) (g:Gw s t s' t' L) (hd:t.st.getD 0 0=0∧t.st.getD 1 0=0):Hds s' c:=by
 obtain ⟨e0,e1⟩:=g.show01 hd
 have e:∀ i,i<2→s'.show i=s.show i:=fun i hi=>by
  have:i=0∨i=1:=by omega
  rcases this with rfl | rfl
  ·exact e0
  ·exact e1
 refine ⟨fun h1=>?_,fun h2=>?_⟩
 ·obtain ⟨r,a,b,d⟩:=h.1 h1
  exact ⟨r,by rw [g.n];exact a,b,by rw [e _ (by omega)];exact d⟩
 ·obtain ⟨r,a,b,d⟩:=h.2 h2
  exact ⟨r,by rw [g.n];exact a,b,by rw [e _ (by omega)];exact d⟩
theorem Hds.cmt {s s':DS} {t t':PS} {nd:List Nat} {root c:Nat} (h:Hds s c) (k:Cmt s t nd root s' t') (hc:t.num=c) (hr:root<s.n) (hr1:root≠1) (hn:2≤s.n):Hds s' (c+1):=by
 refine ⟨fun _=>⟨root,by rw [k.n];exact hr,hr1,?_⟩,fun h2=>?_⟩
 ·rw [k.sh _ (by omega),hc,if_pos rfl]
 ·obtain ⟨r,a,b,d⟩:=h.1 (by omega)
  refine ⟨r,by rw [k.n];exact a,b,?_⟩
  rw [k.sh _ (by omega),hc,if_neg (by omega),show (c+1+1) % 2=c % 2 by omega]
  exact d
theorem Tr.root_ok {s:DS} {t:PS} {st:StT} {l:List It} (h:Tr s t st l) (hd:t.st.getD 0 0=0∧t.st.getD 1 0=0) (hn:3≤s.n):st.root.toNat<s.n∧st.root.toNat≠1:=by
 rcases h with ⟨r1,_⟩ | ⟨h,b,e1,e2,e3,e4,e5,e6,e7,e8,e9⟩
 ·rw [r1]
  exact ⟨by show 0<s.n;omega,by decide⟩
 ·have h2:=e6.held _ (aFc b)
  rw [e1]
  refine ⟨h2.2,fun q9=>?_⟩
  have q9:BT.id b=1:=q9
  rw [q9] at h2
  omega
theorem Tr.pgn {s:DS} {t:PS} {st:StT} {l:List It} (h:Tr s t st l) (hd:t.st.getD 0 0=0∧t.st.getD 1 0=0):st.pgs.length=64∧PgN s st.pgs:=by
 rcases h with ⟨_,_,_,_,r5⟩ | ⟨h,b,e1,e2,e3,e4,e5,e6,e7,e8,e9⟩
 ·exact ⟨r5.1,fun i _ hi=>by rw [r5.2.2.2 i] at hi;simp at hi⟩
 ·refine ⟨e9.1,fun i _ hi=>?_⟩
  rw [e9.2.2.2 i] at hi
  have h2:=e6.held i (of_decide_eq_true hi)
  refine ⟨?_,h2.2⟩
  apply Classical.byContradiction
  intro q9
  have:i=0∨i=1:=by omega
  rcases this with rfl | rfl<;>omega
abbrev Rc:=Nat×StT×List It×Value
def rcS (rec:List Rc):List (Nat×StT):=rec.map fun r=>(r.1,r.2.1)
theorem rcP (rec:List Rc):snP (rcS rec)=rec.map fun r=>(r.1,r.2.1.pgs):=by simp [snP,rcS]
theorem PRW.lowB {B B1 B2:Nat} {w:World} {v:Value} {F:List It} (h:PRW B B1 w v F) (h2:B2≤B1):PRW B B2 w v F:=by
 obtain ⟨kv,k1,k2,k3⟩:=h
 exact ⟨kv,k1,own_less k2 h2,k3⟩
structure SI [Gd] (B p q g N c u:Nat) (rec:List Rc) (l:List It) (s:DS) (t:PS) (now last:StT) (left:Int) (sv:Value) (W wx:World):Prop where
 tm:TM B p q g s t now last sv left wx
 sn:SnO B wx g sv (rcS rec)
 tr:Tr s t now l
 ln:l.length≤50
 rs:∀ r∈rec,Tr s t r.2.1 r.2.2.1∧r.2.2.1.length≤50∧PRW B B wx r.2.2.2 r.2.2.1
 nd:(rec.map (·.1)).Nodup
 nB:∀ r∈rec,B≤r.1
 nn:s.n=N
 mu:s.m≤u
 cu:N-2≤cntF t.st+u
 nm:t.num=c
 hd:Hds s c
 be:Below B W wx
section
variable [Gd] {B p q g N c u:Nat} {rec:List Rc} {l:List It} {s:DS} {t:PS} {now last:StT} {left:Int} {sv:Value} {W wx wy:World}
theorem SI.later (h:SI B p q g N c u rec l s t now last left sv W wx) (hb:Below wx.heap.size wx wy):SI B p q g N c u rec l s t now last left sv W wy:=⟨h.tm.later hb,h.sn.later hb,h.tr,h.ln,fun r hr=>⟨(h.rs r hr).1,(h.rs r hr).2.1,(h.rs r hr).2.2.nf (NF.of hb h.tm.bw)⟩,h.nd,h.nB,h.nn,h.mu,h.cu,h.nm,h.hd,h.be.trans (hb.mono h.tm.bw)⟩
theorem SI.dep (h:SI B p q g N c u rec l s t now last left sv W wx):0≤now.depth∧now.depth≤4:=h.tr.depth80 (nT h.ln (by decide))
theorem SI.more (h:SI B p q g N c u rec l s t now last left sv W wx) {u':Nat} (hu:u≤u'):SI B p q g N c u' rec l s t now last left sv W wx:=⟨h.tm,h.sn,h.tr,h.ln,h.rs,h.nd,h.nB,h.nn,nT h.mu hu,by have:=h.cu;omega,h.nm,h.hd,h.be⟩
theorem SI.gw (h:SI B p q g N c u rec l s t now last left sv W wx) {s':DS} {t':PS} {now':StT} {left':Int} {L:List Nat} {l':List It} (k1:Gw s t s' t' L) (k2:TM B p q g s' t' now' last sv left' wy) (k3:Tr s' t' now' l') (k4:(L.length:Int)≤2*now.depth+1) (k5:ChF B g wx wy) (hl:l'.length≤50):SI B p q g N c (u+9) rec l' s' t' now' last left' sv W wy:=by
 obtain ⟨cg,hg,_⟩:=h.tm.tv
 have hd:=h.dep
 have h5:=k1.m
 have h6:=k1.cnt
 have h8:=h.mu
 have h9:=h.cu
 exact ⟨k2,h.sn.chf k5 hg,k3,hl,fun r hr=>⟨(h.rs r hr).1.grow k1,(h.rs r hr).2.1,(h.rs r hr).2.2.nf (k5.nf hg)⟩,h.nd,h.nB,by rw [k1.n];exact h.nn,by omega,by omega,by rw [k1.num];exact h.nm,h.hd.gw k1 h.tm.hd,h.be.trans k5.1⟩
theorem SI.Put (hg0:Gd.g=none) (h:SI B p q g N c u rec l s t now last left sv W wx) (hu:u+20≤N) (hu2:u≤3000) (hl:l.length<50) (it:It) (hit:ItOk it) {ka va:Option Addr} {kn kc vn vc:Nat} (hkn:it.1.length=kn) (hvn:it.2.length=vn) (hk:BK B wx ka kn kc it.1) (hv:BK B wx va vn vc it.2) :
  Calls Tryz.prog 11 #[.pointer (some ⟨g,0,none⟩),.slice ka kn kc,.slice va vn vc] wx fun e w'=>e=.returned (.int .i64 0)∧NF B wx w'∧∃ s' t' now' left',SI B p q g N c (u+9) rec (putL l it) s' t' now' last left' sv W w':=by
 obtain ⟨cg,hg,_⟩:=h.tm.tv
 have hd:=h.dep
 have h8:=h.mu
 have h9:=h.cu
 have h7:=h.ln
 refine (Put_ok hg0 h.tm h.tr (by omega) it hit hkn hvn hk hv (by omega) (by omega) (by omega)).mono ?_
 rintro e w' ⟨rfl,s',t',now',L,k1,k2,k3,k4,k5⟩
 exact ⟨rfl,k5.nf hg,s',t',now',_,h.gw k1 k2 k3 k4 k5 (by rw [aDj];split<;>omega)⟩
theorem SI.sub (h:SI B p q g N c u rec l s t now last left sv W wx):∀ x∈snP (rcS rec),x.2.length=64∧PgN s x.2:=by
 intro x hx
 rw [rcP] at hx
 obtain ⟨r,hr,rfl⟩:=List.mem_map.1 hx
 exact (h.rs r hr).1.pgn h.tm.hd
theorem SI.commit (h:SI B p q g N c u rec l s t now last left sv W wx) (hN:3≤N) (hc:c<900):Calls Tryz.prog 16 #[.pointer (some ⟨g,0,none⟩)] wx fun e w'=>e=.returned (.int .i64 0)∧NF B wx w'∧∃ s' t' left',SI B p q g N (c+1) u rec l s' t' now now left' sv W w':=by
 obtain ⟨cg,hg,_⟩:=h.tm.tv
 have hpn:=h.tr.pgn h.tm.hd
 have hsub:=aGv (snP (rcS rec)) now.pgs hpn.1 (fun x hx=>(h.sub x hx).1)
 refine (aDy h.tm h.tr h.sn.snv (by rw [h.nn];omega) (by rw [h.nm];omega)).mono ?_
 rintro e w' ⟨rfl,s',t',k1,k2,k3⟩
 have h9:=k1.more
 have h8:=h.cu
 have hro:=h.tr.root_ok h.tm.hd (by rw [h.nn];exact hN)
 refine ⟨rfl,k3.nf hg,s',t',_,k2,h.sn.chf k3 hg,h.tr.cmt k1 h.tm.hd hsub.2.1,h.ln,fun r hr=>⟨(h.rs r hr).1.cmt k1 h.tm.hd ?_,(h.rs r hr).2.1,(h.rs r hr).2.2.nf (k3.nf hg)⟩,h.nd,h.nB,by rw [k1.n];exact h.nn,by rw [k1.m];exact Nat.zero_le _,by omega,by rw [k1.num,h.nm],h.hd.cmt k1 h.nm hro.1 hro.2 (by rw [h.nn];omega),h.be.trans k3.1⟩
 have:(r.1,r.2.1.pgs)∈snP (rcS rec):=by rw [rcP];exact List.mem_map_of_mem hr
 exact hsub.2.2 _ this
theorem SI.Range (h:SI B p q g N c u rec l s t now last left sv W wx):Calls Tryz.prog 33 #[.pointer (some ⟨g,0,none⟩),.slice none 0 0,.slice none 0 0,.int .i64 999] wx fun e w'=>∃ fv,e=.returned (.tuple #[fv,.int .i64 0])∧PRW B B w' fv l∧Below wx.heap.size wx w':=by
 have hd:=h.dep
 refine (Range_ok (most:=999) (lo:=[]) (hi:=[]) h.tm h.tr (by omega) rfl rfl (BK.nil _ _) (BK.nil _ _) (by decide) (by decide) (by decide) (by decide)).mono ?_
 rintro e w' ⟨fv,rfl,hp,hb⟩
 have hl:=h.ln
 rw [rngL_take l [] (by decide),frm_nil,List.take_of_length_le (by omega)] at hp
 exact ⟨fv,rfl,hp.lowB h.tm.bw,hb⟩
end
end Go.Proofs.YtlmaolfajcgmiaaGreat
