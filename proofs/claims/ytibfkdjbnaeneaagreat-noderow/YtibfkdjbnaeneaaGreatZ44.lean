import Derived.Test.YtibfkdjbnaeneaaGreatZ42
import Derived.Test.YtibfkdjbnaeneaaGreatZ41
set_option maxRecDepth 100000
set_option maxHeartbeats 16000000
set_option linter.unusedVariables false
namespace Go.Proofs.YtibfkdjbnaeneaaGreat
open Go.RowKit
theorem TM.fe [Gd] {B p q g:Nat} {s:DS} {t:PS} {now last:StT} {sv:Value} {left:Int} {w w':World} (h:TM B p q g s t now last sv left w) (f:FE B w w') (hg0:Gd.g=none):TM B p q g s t now last sv left w':=by
 obtain ⟨cs,h1,h2⟩:=h.tv
 exact ⟨f.st h.st hg0,nT h.bw f.1.size,h.bg,⟨cs,f.nt h1 (by decide),h2⟩,h.lf,h.dn,h.af,h.l1,h.sn,h.hd⟩
theorem FE.ch {B g:Nat} {w w':World} (f:FE B w w'):ChF B g w w':=⟨f.1,fun k cs t fz e nt _=>f.nt e nt⟩
theorem Tr.nil {s:DS} {t:PS} {st:StT} (h:Tr s t st []):st.depth=0∧st.keys=0∧PgS st.pgs []:=by
 rcases h with ⟨_,h2,h3,_,h5⟩ | ⟨h,b,e1,e2,e3,e4,e5,e6,e7,e8,e9⟩
 ·exact ⟨h2,h3,h5⟩
 ·exfalso
  have:1≤(flB h b).length:=by
   cases h with
   | zero=>exact e8
   | succ h =>
    have hw:(flB (h+1) b).length=b.2.1.length+((b.2.2.map (flB h)).map List.length).sum:=aBc _ _ (by rw [List.length_map];exact e7.2.1)
    have e8:1≤b.2.1.length:=e8
    omega
  rw [e4] at this
  simp at this
def Full3 (t:PS):Prop:=∀ i,2≤i→i<t.st.length→t.st.getD i 0=1∨t.st.getD i 0=2∨t.st.getD i 0=3
theorem Full3.gw {s s':DS} {t t':PS} {L:List Nat} (h:Full3 t) (g:Gw s t s' t' L):Full3 t':=by
 intro i h2 hi
 by_cases c:i∈L
 ·exact Or.inr (Or.inl (g.new i c).2)
 ·rw [g.old i c]
  exact h i h2 (by rw [←g.len];exact hi)
theorem Full3.cmt {s s':DS} {t t':PS} {nd:List Nat} {root:Nat} (h:Full3 t) (c:Cmt s t nd root s' t'):Full3 t':=by
 intro i h2 hi
 have hi':i<t.st.length:=by rw [←c.len];exact hi
 rw [c.st i hi']
 by_cases q:t.st.getD i 0=3∨(2≤i∧hsP nd i=false∧t.st.getD i 0=2)
 ·rw [if_pos q];exact Or.inl rfl
 ·rw [if_neg q];exact h i h2 hi'
theorem count_all {l:List Nat} (h0:l.getD 0 0=0) (h1:l.getD 1 0=0) (hl:2≤l.length):(cntF l=l.length-2↔∀ i,2≤i→i<l.length→l.getD i 0=1):=by
 match l,hl with
 | a::b::r,_ =>
  have ha:a=0:=by simpa using h0
  have hb:b=0:=by simpa using h1
  subst ha hb
  have hc:cntF (0::0::r)=r.count 1:=by
   unfold cntF
   rw [List.count_cons_of_ne (by decide),List.count_cons_of_ne (by decide)]
  rw [hc]
  have hL:(0::0::r).length-2=r.length:=by simp
  rw [hL]
  constructor
  ·intro h i h2 hi
   have hm:=List.count_eq_length.1 h
   obtain ⟨j,rfl⟩:∃ j,i=j+2:=⟨i-2,by omega⟩
   have hj:j<r.length:=by simpa using hi
   have:(0::0::r).getD (j+2) 0=r.getD j 0:=rfl
   rw [this,List.getD_eq_getElem?_getD,gE hj]
   exact (hm _ (List.getElem_mem hj)).symm
  ·intro h
   refine List.count_eq_length.2 fun x hx=>?_
   obtain ⟨j,hj,rfl⟩:=List.getElem_of_mem hx
   have:=h (j+2) (by omega) (by simpa using hj)
   have e:(0::0::r).getD (j+2) 0=r.getD j 0:=rfl
   rw [e,List.getD_eq_getElem?_getD,gE hj] at this
   exact this.symm
theorem Cmt.more {s s':DS} {t t':PS} {nd:List Nat} {root:Nat} (c:Cmt s t nd root s' t'):cntF t.st≤cntF t'.st:=by
 refine cnt_mono _ _ c.len.symm fun i hi=>?_
 have hl:=(lL hi)
 have h1:t.st.getD i 0=1:=by rw [List.getD_eq_getElem?_getD,hi];rfl
 have h2:=c.st i hl
 rw [if_neg (by rintro (q | q)<;>omega),h1] at h2
 rw [List.getD_eq_getElem?_getD,gE (by rw [c.len];exact hl)] at h2
 rw [gE (by rw [c.len];exact hl)]
 exact congrArg some h2
theorem Cmt.free {s s':DS} {t t':PS} {nd:List Nat} {root:Nat} (c:Cmt s t nd root s' t') (h:Full3 t) (hn:PgS nd []) (hd:t'.st.getD 0 0=0∧t'.st.getD 1 0=0) (h2:2≤t.st.length) (h4:t.st.length≤4096):cntF t'.st=t.st.length-2:=by
 rw [←c.len]
 refine (count_all hd.1 hd.2 (by rw [c.len];exact h2)).2 fun i hi hl=>?_
 have hi':i<t.st.length:=by rw [←c.len];exact hl
 rw [c.st i hi']
 have hh:hsP nd i=false:=by rw [hn.2.2.2 i];simp
 rcases h i hi hi' with q | q | q
 ·rw [if_neg (by rintro (q9 | q9)<;>omega),q]
 ·rw [if_pos (Or.inr ⟨hi,hh,q⟩)]
 ·rw [if_pos (Or.inl q)]
def KeysIn (l:List It) (a b:Nat) (m:Nat→Nat) (tf:Nat→List Nat):Prop:=∀ x∈l,∃ i,a≤i∧i<b∧0<m i∧x.1=tf i
theorem KeysIn.put {l:List It} {j:Nat} {m:Nat→Nat} {tf:Nat→List Nat} {it:It} (h:KeysIn l 0 j m tf) (hk:it.1=tf j) (hm:0<m j):KeysIn (putL l it) 0 (j+1) m tf:=by
 intro x hx
 rcases aGe hx with q | q
 ·obtain ⟨i,h1,h2,h3,h4⟩:=h x q
  exact ⟨i,h1,by omega,h3,h4⟩
 ·subst q
  exact ⟨j,by omega,by omega,hm,hk⟩
theorem KeysIn.skip {l:List It} {j:Nat} {m:Nat→Nat} {tf:Nat→List Nat} (h:KeysIn l 0 j m tf):KeysIn l 0 (j+1) m tf:=fun x hx=>by
 obtain ⟨i,h1,h2,h3,h4⟩:=h x hx
 exact ⟨i,h1,by omega,h3,h4⟩
theorem KeysIn.none {l:List It} {n:Nat} {m:Nat→Nat} {tf:Nat→List Nat} (h:KeysIn l n n m tf):l=[]:=by
 cases l with
 | nil=>rfl
 | cons x l =>
  obtain ⟨i,h1,h2,_,_⟩:=h x (List.mem_cons_self)
  omega
structure TI [Gd] (B p q g N c:Nat) (u:Nat) (last:StT) (l:List It) (s:DS) (t:PS) (now:StT) (left:Int) (W wx:World):Prop where
 tm:TM B p q g s t now last (.slice none 0 0) left wx
 tr:Tr s t now l
 ln:l.length≤90
 sn:s.n=N
 mu:s.m≤u
 cu:N-2≤cntF t.st+u
 nm:t.num=c
 f3:Full3 t
 be:Below B W wx
section
variable [Gd] {B p q g N c u:Nat} {last:StT} {l:List It} {s:DS} {t:PS} {now:StT} {left:Int} {W wx wy:World}
theorem TI.later (h:TI B p q g N c u last l s t now left W wx) (hb:Below wx.heap.size wx wy):TI B p q g N c u last l s t now left W wy:=⟨h.tm.later hb,h.tr,h.ln,h.sn,h.mu,h.cu,h.nm,h.f3,h.be.trans (hb.mono h.tm.bw)⟩
theorem TI.dep (h:TI B p q g N c u last l s t now left W wx):0≤now.depth∧now.depth≤4:=h.tr.depth80 (nT h.ln (by decide))
theorem TI.more (h:TI B p q g N c u last l s t now left W wx) {u':Nat} (hu:u≤u'):TI B p q g N c u' last l s t now left W wx:=⟨h.tm,h.tr,h.ln,h.sn,nT h.mu hu,by have:=h.cu;omega,h.nm,h.f3,h.be⟩
theorem TI.put (h:TI B p q g N c u last l s t now left W wx) {it:It} (hl:l.length<90) (hp:PutT B p q g s t now last (.slice none 0 0) l it wx wy):∃ s' t' now' left',TI B p q g N c (u+9) last (putL l it) s' t' now' left' W wy:=by
 obtain ⟨s',t',now',L,k1,k2,k3,k4,k5⟩:=hp
 have hd:=h.dep
 have h5:=k1.m
 have h6:=k1.cnt
 have h7:=aEa l it
 have h8:=h.mu
 have h9:=h.cu
 refine ⟨s',t',now',_,k2,k3,?_,by rw [k1.n];exact h.sn,by omega,by omega,by rw [k1.num];exact h.nm,h.f3.gw k1,h.be.trans k5.1⟩
 rw [h7];split<;>omega
theorem TI.commit (h:TI B p q g N c u last l s t now left W wx) (hN:2≤N) (hnm:c<900):Calls Tryz.prog 91 #[.pointer (some ⟨g,0,none⟩)] wx fun e w'=>e=.returned (.int .i64 0)∧∃ s' t',Cmt s t now.pgs now.root.toNat s' t'∧TI B p q g N (c+1) u now l s' t' now (cntF t'.st:Nat) W w'∧s'.m=0:=by
 refine (Commit_ok h.tm h.tr (SnV.nil wx) (by rw [h.sn];exact hN) (by rw [h.nm];omega)).mono ?_
 rintro e w' ⟨rfl,s',t',k1,k2,k3⟩
 have k1:Cmt s t now.pgs now.root.toNat s' t':=k1
 have h9:=k1.more
 have h8:=h.cu
 refine ⟨rfl,s',t',k1,⟨k2,h.tr.cmt k1 h.tm.hd (fun i _ hi=>hi),h.ln,by rw [k1.n];exact h.sn,by rw [k1.m];exact Nat.zero_le _,by omega,by rw [k1.num,h.nm],h.f3.cmt k1,h.be.trans k3.1⟩,k1.m⟩
theorem TI.Put (hg0:Gd.g=none) (h:TI B p q g N c u last l s t now left W wx) (hu:u+20≤N) (hu2:u≤3000) (hl:l.length<90) (it:It) (hit:ItOk it) {ka va:Option Addr} {kn kc vn vc:Nat} (hkn:it.1.length=kn) (hvn:it.2.length=vn) (hk:BK B wx ka kn kc it.1) (hv:BK B wx va vn vc it.2) :
  Calls Tryz.prog 94 #[.pointer (some ⟨g,0,none⟩),.slice ka kn kc,.slice va vn vc] wx fun e w'=>e=.returned (.int .i64 0)∧∃ s' t' now' left',TI B p q g N c (u+9) last (putL l it) s' t' now' left' W w':=by
 have hd:=h.dep
 have h8:=h.mu
 have h9:=h.cu
 have h7:=h.ln
 refine (Put_ok hg0 h.tm h.tr (by omega) it hit hkn hvn hk hv (by omega) (by omega) (by omega)).mono ?_
 rintro e w' ⟨rfl,hp⟩
 exact ⟨rfl,h.put hl hp⟩
end
theorem OpT.ti [Gd] {B p g n:Nat} {W w':World} (h:OpT B p g n w') (hn:2≤n) (hb:Below B W w'):∃ q s t st0 left,TI B p q g n 0 0 st0 [] s t st0 left W w'∧left=((n-2:Nat):Int):=by
 obtain ⟨q,s,t,st0,hM,hTr,hdp,hsn,hm,hc,hnum,hs0,hs1⟩:=h
 have hln:t.st.length=n:=by rw [hM.sn];exact hsn
 refine ⟨q,s,t,st0,_,⟨hM,hTr,by simp,hsn,by omega,by omega,hnum,fun i h2 hi=>?_,hb⟩,by rw [hc]⟩
 exact Or.inl ((count_all hM.hd.1 hM.hd.2 (by omega)).1 (by rw [hc,hln]) i h2 hi)
end Go.Proofs.YtibfkdjbnaeneaaGreat
