import Derived.Test.YtdfjjhlhnfindaaGreatY40
import Derived.Test.YtdfjjhlhnfindaaGreatY39
set_option maxRecDepth 100000
set_option maxHeartbeats 16000000
set_option linter.unusedVariables false
namespace Go.Proofs.YtdfjjhlhnfindaaGreat
open Go.RowKit
variable {B g n p root:Nat} {L nd:List Nat} {W w':World} {s s':DS} {t t':PS}
def Full3 (t:PS):Prop:=∀ i,2<=i->i<t.st.length->t.st.getD i 0=1\/t.st.getD i 0=2\/t.st.getD i 0=3
theorem Full3.gw (h:Full3 t) (g:Gw s t s' t' L):Full3 t':=by
 intro i h2 hi;by_cases c:i∈L
 ·exact Or.inr (Or.inl (g.new i c).2)
 ·rw [g.old i c];exact h i h2 (by rw [<-g.len];exact hi)
theorem Full3.cmt (h:Full3 t) (c:Cmt s t nd root s' t'):Full3 t':=by
 intro i h2 hi;have hi':i<t.st.length:=by rw [<-c.len];exact hi
 rw [c.st i hi'];by_cases q:t.st.getD i 0=3\/(2<=i/\hsP nd i=false/\t.st.getD i 0=2)
 ·rw [if_pos q];exact Or.inl rfl
 ·rw [if_neg q];exact h i h2 hi'
theorem count_all {l:List Nat} (h0:l.getD 0 0=0) (h1:l.getD 1 0=0) (hl:2<=l.length):(cntF l=l.length-2↔∀ i,2<=i->i<l.length->l.getD i 0=1):=by
 match l,hl with
 | a::b::r,_ =>
  have ha:a=0:=by simpa using h0
  have hb:b=0:=by simpa using h1
  subst ha hb;have hc:cntF (0::0::r)=r.count 1:=by
   unfold cntF;rw [List.count_cons_of_ne (by decide),List.count_cons_of_ne (by decide)]
  rw [hc];have hL:(0::0::r).length-2=r.length:=by simp
  rw [hL];constructor
  ·intro h i h2 hi;have hm:=List.count_eq_length.1 h;obtain ⟨j,rfl⟩:∃ j,i=j+2:=⟨i-2,by omega⟩;have hj:j<r.length:=by simpa using hi
   have:(0::0::r).getD (j+2) 0=r.getD j 0:=rfl;rw [this,List.getD_eq_getElem?_getD,gE hj];exact (hm _ (List.getElem_mem hj)).symm
  ·intro h;refine List.count_eq_length.2 fun x hx=>?_
   obtain ⟨j,hj,rfl⟩:=List.getElem_of_mem hx;have:=h (j+2) (by omega) (by simpa using hj);have e:(0::0::r).getD (j+2) 0=r.getD j 0:=rfl;rw [e,List.getD_eq_getElem?_getD,gE hj] at this;exact this.symm
structure TI [Gd] (B p q g N c:Nat) (u:Nat) (last:StT) (l:List It) (s:DS) (t:PS) (now:StT) (left:Int) (W wx:World):Prop where
 tm:TM B p q g s t now last (.slice none 0 0) left wx
 tr:Tr s t now l
 ln:l.length<=90
 sn:s.n=N
 mu:s.m<=u
 cu:N-2<=cntF t.st+u
 nm:t.num=c
 f3:Full3 t
 be:Below B W wx
section
variable [Gd] {B p q g N c u:Nat} {last:StT} {l:List It} {s:DS} {t:PS} {now:StT} {left:Int} {W wx wy:World}
theorem TI.later (h:TI B p q g N c u last l s t now left W wx) (hb:Below wx.heap.size wx wy):TI B p q g N c u last l s t now left W wy:=⟨h.tm.later hb,h.tr,h.ln,h.sn,h.mu,h.cu,h.nm,h.f3,h.be.trans (hb.mono h.tm.bw)⟩
theorem TI.dep (h:TI B p q g N c u last l s t now left W wx):0<=now.depth/\now.depth<=4:=h.tr.depth80 (nT h.ln (by decide))
theorem TI.put (h:TI B p q g N c u last l s t now left W wx) {it:It} (hl:l.length<90) (hp:PutT B p q g s t now last (.slice none 0 0) l it wx wy):∃ s' t' now' left',TI B p q g N c (u+9) last (putL l it) s' t' now' left' W wy:=by
 obtain ⟨s',t',now',L,k1,k2,k3,k4,k5⟩:=hp;have hd:=h.dep;have h5:=k1.m;have h6:=k1.cnt;have h7:=aHi l it;have h8:=h.mu;have h9:=h.cu;refine ⟨s',t',now',_,k2,k3,?_,by rw [k1.n];exact h.sn,by omega,by omega,by rw [k1.num];exact h.nm,h.f3.gw k1,h.be.trans k5.1⟩;rw [h7];split<;>omega
end
theorem OpT.ti [Gd] (h:OpT B p g n w') (hn:2<=n) (hb:Below B W w'):∃ q s t st0 left,TI B p q g n 0 0 st0 [] s t st0 left W w'/\left=((n-2:Nat):Int):=by
 obtain ⟨q,s,t,st0,hM,hTr,hdp,hsn,hm,hc,hnum,hs0,hs1⟩:=h;have hln:t.st.length=n:=by rw [hM.sn];exact hsn
 refine ⟨q,s,t,st0,_,⟨hM,hTr,by simp,hsn,by omega,by omega,hnum,fun i h2 hi=>?_,hb⟩,by rw [hc]⟩;exact Or.inl ((count_all hM.hd.1 hM.hd.2 (by omega)).1 (by rw [hc,hln]) i h2 hi)
end Go.Proofs.YtdfjjhlhnfindaaGreat
