import Derived.Test.YtgckjkocmkedfabGreatZ38
import Derived.Deep.RegionLaw
import Derived.Lib.AppendZeros
import Derived.Lib.Overlaps
import Derived.Test.YtgckjkocmkedfabGreatZ46
import Derived.Test.YtgckjkocmkedfabGreatZ50
set_option maxRecDepth 100000
set_option maxHeartbeats 16000000
set_option linter.unusedVariables false
namespace Go.Proofs.YtgckjkocmkedfabGreat
open Go.RowKit
theorem Tr.nil {s:DS} {t:PS} {st:StT} (h:Tr s t st []):st.depth=0∧st.keys=0∧PgS st.pgs []:=by
 rcases h with ⟨_,h2,h3,_,h5⟩ | ⟨h,b,e1,e2,e3,e4,e5,e6,e7,e8,e9⟩
 ·exact ⟨h2,h3,h5⟩
 ·exfalso
  have:1≤(flB h b).length:=by
   cases h with
   | zero=>exact e8
   | succ h =>
    have hw:(flB (h+1) b).length=b.2.1.length+((b.2.2.map (flB h)).map List.length).sum:=aDc _ _ (by rw [List.length_map];exact e7.2.1)
    have e8:1≤b.2.1.length:=e8
    omega
  rw [e4] at this
  simp at this
def Full3 (t:PS):Prop:=∀ i,2≤i→i<t.st.length→t.st.getD i 0=1∨t.st.getD i 0=2∨t.st.getD i 0=3
theorem count_all {l:List Nat} (h0:l.getD 0 0=0) (h1:l.getD 1 0=0) (hl:2≤l.length):(cntF l=l.length-2↔∀ i,2≤i→i<l.length→l.getD i 0=1):=by
 match l,hl with
 | a::b::r,_ =>
  have ha:a=0:=by simpa using h0
  have hb:b=0:=by simpa using h1
  subst ha hb
  have hc:cntF (0::0::r)=r.count 1:=by
   unfold cntF
   rw [List.count_cons_of_ne (by decide),List.count_cons_of_ne (by decide)]
  rw [hc]
  have hL:(0::0::r).length-2=r.length:=by simp
  rw [hL]
  constructor
  ·intro h i h2 hi
   have hm:=List.count_eq_length.1 h
   obtain ⟨j,rfl⟩:∃ j,i=j+2:=⟨i-2,by omega⟩
   have hj:j<r.length:=by simpa using hi
   have:(0::0::r).getD (j+2) 0=r.getD j 0:=rfl
   rw [this,List.getD_eq_getElem?_getD,gE hj]
   exact (hm _ (List.getElem_mem hj)).symm
  ·intro h
   refine List.count_eq_length.2 fun x hx=>?_
   obtain ⟨j,hj,rfl⟩:=List.getElem_of_mem hx
   have:=h (j+2) (by omega) (by simpa using hj)
   have e:(0::0::r).getD (j+2) 0=r.getD j 0:=rfl
   rw [e,List.getD_eq_getElem?_getD,gE hj] at this
   exact this.symm
structure TI [Gd] (B p q g N c:Nat) (u:Nat) (last:StT) (l:List It) (s:DS) (t:PS) (now:StT) (left:Int) (W wx:World):Prop where
 tm:TM B p q g s t now last (.slice none 0 0) left wx
 tr:Tr s t now l
 ln:l.length≤90
 sn:s.n=N
 mu:s.m≤u
 cu:N-2≤cntF t.st+u
 nm:t.num=c
 f3:Full3 t
 be:Below B W wx
section
variable [Gd] {B p q g N c u:Nat} {last:StT} {l:List It} {s:DS} {t:PS} {now:StT} {left:Int} {W wx wy:World}
theorem TI.later (h:TI B p q g N c u last l s t now left W wx) (hb:Below wx.heap.size wx wy):TI B p q g N c u last l s t now left W wy:=⟨h.tm.later hb,h.tr,h.ln,h.sn,h.mu,h.cu,h.nm,h.f3,h.be.trans (hb.mono h.tm.bw)⟩
theorem TI.dep (h:TI B p q g N c u last l s t now left W wx):0≤now.depth∧now.depth≤4:=h.tr.depth80 (nT h.ln (by decide))
end
theorem OpT.ti [Gd] {B p g n:Nat} {W w':World} (h:OpT B p g n w') (hn:2≤n) (hb:Below B W w'):∃ q s t st0 left,TI B p q g n 0 0 st0 [] s t st0 left W w'∧left=((n-2:Nat):Int):=by
 obtain ⟨q,s,t,st0,hM,hTr,hdp,hsn,hm,hc,hnum,hs0,hs1⟩:=h
 have hln:t.st.length=n:=by rw [hM.sn];exact hsn
 refine ⟨q,s,t,st0,_,⟨hM,hTr,by simp,hsn,by omega,by omega,hnum,fun i h2 hi=>?_,hb⟩,by rw [hc]⟩
 exact Or.inl ((count_all hM.hd.1 hM.hd.2 (by omega)).1 (by rw [hc,hln]) i h2 hi)
end Go.Proofs.YtgckjkocmkedfabGreat
