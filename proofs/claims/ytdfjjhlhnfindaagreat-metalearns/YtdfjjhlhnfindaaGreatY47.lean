import Derived.Test.YtdfjjhlhnfindaaGreatY46
set_option maxRecDepth 100000
set_option maxHeartbeats 16000000
set_option linter.unusedVariables false
namespace Go.Proofs.YtdfjjhlhnfindaaGreat
open Go.RowKit Tryz
variable {A:Nat->NdS} {B M N c cp g gh i nt o:Nat} {E:Nat->Prop} {F:List Int} {P:Nat->NdP} {W w w' w0:World} {b0 b1 b2 b3 b4 b5 lv v wv:Value} {va:Option Addr}
section
variable {B N M:Nat} {P:Nat->NdP} {A:Nat->NdS} {E:Nat->Prop} {W w w':World}
theorem MND.oth (h:MND B N M P A E W w) (T:Nat->Prop) (hT:∀ k,T k->∃ cs t fz,w.heap[k]?=some (Obj.cells cs t fz)/\¬ DTy t/\t≠5/\t≠183/\t≠130/\t≠115/\t≠135) (hs:∀ k,k<w.heap.size->¬ T k->w'.heap[k]?=w.heap[k]?) (hb:Below B w w'):MND B N M P A E W w':=by
 obtain ⟨F,⟨k1,hE⟩,k2⟩:=h;have nf:∀ {k:Nat},FBk w k->¬ T k:=fun hf hk=>by
  obtain ⟨cs,t,fz,e,h0,_⟩:=hT _ hk;exact hf.ne e h0 rfl
 have nt:∀ {k:Nat} {cs:Array Value} {t:TypeId} {fz:Nat×Nat},w.heap[k]?=some (Obj.cells cs t fz)->(t=5\/t=183\/t=130\/t=115\/t=135)->w'.heap[k]?=w.heap[k]?:=fun e ht=>by
  refine hs _ (lO e) (fun hk=>?_);obtain ⟨cs,t,fz,e',_,h1,h2,h3,h4,h5⟩:=hT _ hk;rw [e] at e';simp only [oI,cI] at e';rcases ht with q | q | q | q | q
  ·exact h1 (e'.2.1.symm.trans q)
  ·exact h2 (e'.2.1.symm.trans q)
  ·exact h3 (e'.2.1.symm.trans q)
  ·exact h4 (e'.2.1.symm.trans q)
  ·exact h5 (e'.2.1.symm.trans q)
 refine ⟨F,⟨fun i hi=>?_,fun k hk=>⟨(hE k hk).1.same (hs k (hE k hk).1.lt (nf (hE k hk).1)),(hE k hk).2⟩⟩,k2⟩;obtain ⟨⟨d1,⟨c1,d2⟩,⟨c2,d3⟩,⟨c3,d4⟩⟩,⟨_,c5,d5,_⟩,_⟩:=k1 i hi;exact (k1 i hi).keep (fun k hk=>hs k (d1 k hk).lt (nf (d1 k hk))) (fun k cs fz e=>(nt e (Or.inl rfl)).trans e) (nt d2 (by simp)) (nt d3 (by simp)) (nt d4 (by simp)) hb (nt d5 (by simp))
end
structure LR where
 nd:Nat
 k:Int
 lg:Int
 at_:Int
 val:List Nat
def lrC (x:LR) (v:Value):List Value:=[.int .i64 (x.nd:Int),.int .i64 x.k,.int .i64 x.lg,.int .i64 x.at_,v]
def lrF:List LR->List Value->List Value
 | [],_=>[]
 | _,[]=>[]
 | x::l,v::vs=>lrC x v++lrF l vs
theorem aE8:∀ (l:List LR) (vs:List Value) (x:LR) (v:Value),vs.length=l.length->lrF (l++[x]) (vs++[v])=lrF l vs++lrC x v
 | [],[],x,v,_=>by simp [lrF]
 | [],_::_,x,v,h=>by simp at h
 | _::_,[],x,v,h=>by simp at h
 | y::l,u::vs,x,v,h=>by
  show lrC y u++lrF (l++[x]) (vs++[v])=lrC y u++lrF l vs++lrC x v
  rw [aE8 l vs x v (by simpa using h),List.append_assoc]
theorem lrF_len:∀ (l:List LR) (vs:List Value),vs.length=l.length->(lrF l vs).length=l.length*5
 | [],_,_=>rfl
 | _::_,[],h=>by simp at h
 | x::l,v::vs,h=>by
  have ih:=lrF_len l vs (by simpa using h)
  show (lrC x v++lrF l vs).length=_
  rw [lA,ih,List.length_cons]
  show 5+l.length*5=_
  omega
theorem lrF_take:∀ (l:List LR) (vs:List Value) (i:Nat),vs.length=l.length->(lrF l vs).take (i*5)=lrF (l.take i) (vs.take i)
 | [],_,i,_=>by simp [lrF]
 | _::_,[],_,h=>by simp at h
 | x::l,v::vs,0,h=>by simp [lrF]
 | x::l,v::vs,i+1,h=>by
  show (lrC x v++lrF l vs).take ((i+1)*5)=lrC x v++lrF (l.take i) (vs.take i)
  rw [show (i+1)*5=(lrC x v).length+i*5 by show _=5+i*5;omega,List.take_length_add_append,lrF_take l vs i (by simpa using h)]
theorem aHp:∀ (l:List LR) (vs:List Value) (i:Nat),vs.length=l.length->(lrF l vs).drop (i*5)=lrF (l.drop i) (vs.drop i)
 | [],_,i,_=>by simp [lrF]
 | _::_,[],_,h=>by simp at h
 | x::l,v::vs,0,h=>by simp
 | x::l,v::vs,i+1,h=>by
  show (lrC x v++lrF l vs).drop ((i+1)*5)=lrF (l.drop i) (vs.drop i)
  rw [show (i+1)*5=(lrC x v).length+i*5 by show _=5+i*5;omega,List.drop_length_add_append,aHp l vs i (by simpa using h)]
theorem lrF_app:∀ (l1:List LR) (v1:List Value) (l2:List LR) (v2:List Value),v1.length=l1.length->lrF (l1++l2) (v1++v2)=lrF l1 v1++lrF l2 v2
 | [],[],l2,v2,_=>rfl
 | [],_::_,_,_,h=>by simp at h
 | _::_,[],_,_,h=>by simp at h
 | x::l,v::vs,l2,v2,h=>by
  show lrC x v++lrF (l++l2) (vs++v2)=lrC x v++lrF l vs++lrF l2 v2
  rw [lrF_app l vs l2 v2 (by simpa using h),List.append_assoc]
theorem lrF_erase (l:List LR) (vs:List Value) (i:Nat) (h:vs.length=l.length):(lrF l vs).take (i*5)++(lrF l vs).drop ((i+1)*5)=lrF (l.eraseIdx i) (vs.eraseIdx i):=by
 rw [lrF_take _ _ _ h,aHp _ _ _ h,List.eraseIdx_eq_take_drop_succ,List.eraseIdx_eq_take_drop_succ,lrF_app _ _ _ _ (by rw [List.length_take,List.length_take,h])]
theorem lrF_get {l:List LR} {vs:List Value} {x:LR} (h:vs.length=l.length) (e1:l[i]?=some x) (e2:vs[i]?=some v):∀ j,j<5->(lrF l vs)[i*5+j]?=(lrC x v)[j]?:=by
 intro j hj;rw [<-List.getElem?_drop,aHp _ _ _ h];have a1:l.drop i=x::l.drop (i+1):=by
  have:=List.drop_eq_getElem_cons (lL e1);rw [this,(List.getElem?_eq_some_iff.1 e1).2]
 have a2:vs.drop i=v::vs.drop (i+1):=by
  have:=List.drop_eq_getElem_cons (lL e2);rw [this,(List.getElem?_eq_some_iff.1 e2).2]
 rw [a1,a2];show (lrC x v++_)[j]?=_;rw [List.getElem?_append_left (by show j<5;exact hj)]
def LTV (B:Nat) (w:World) (lv:Value) (l:List LR):Prop:=∃ vs:List Value,vs.length=l.length/\w.ownsRow B 70 5 lv l.length (lrF l vs)/\∀ (i:Nat) x v,l[i]?=some x->vs[i]?=some v->∃ a c,v=.slice a x.val.length c/\BK B w a x.val.length c x.val
theorem news5 (w:World) (x y z u v:Value) (t:TypeId):∀ j r,[x,y,z,u,v][j]?=some r->(w.alloc (.cells #[x,y,z,u,v] t)).cell? ((⟨w.heap.size,0,none⟩:Addr).add j)=some r:=by
 intro j r hj;rw [Addr.add_lit,aAa (heap_alloc_new w _)];simpa using hj
theorem delay_ok {n td:Nat} {k lg at_:Int} {val:List Nat} {l:List LR} (h:NTM w nt gh M wv lv) (hB:B<=nt) (hBw:B<=w.heap.size) (hl:LTV B w lv l) (hl6:l.length<64) (hv:BS w va n cp val) (hn:n<=100000) :
  Calls prog 64 #[.pointer (some ⟨nt,0,none⟩),.int .i64 (td:Int),.agg #[.int .i64 k,.int .i64 lg,.int .i64 at_,.slice va n cp]] w fun e w'=>e=.returned (.tuple #[])/\∃ lv',NTM w' nt gh M wv lv'/\LTV B w' lv' (l++[⟨td,k,lg,at_,val⟩])/\Below B w w'/\∀ k,k<w.heap.size->k≠nt->lv.ownBlock≠some k->w'.heap[k]?=w.heap[k]?:=by
 obtain ⟨i0,hi,hz0,hz1,hz2⟩:=info_parts aD0;obtain ⟨vs,q1,q2,q3⟩:=hl;obtain ⟨la,lc,hlv⟩:=aAg q2;subst hlv;have HBX:=zH (aAc w (.cells #[.int .i64 k,.int .i64 lg,.int .i64 at_,.slice va n cp] 68));have HR1:Hid ((w.alloc (.cells #[.int .i64 k,.int .i64 lg,.int .i64 at_,.slice va n cp] 68)).heap[w.heap.size]?=some (.cells #[.int .i64 k,.int .i64 lg,.int .i64 at_,.slice va n cp] 68 (0,0))):=heap_alloc_new w _;have HT1:=zH ((HBX.o.block nt (lO h)).trans h);have HV1:=zH (hv.later HBX.o (nR _));have HQ1:=zH q1;have HO1:=zH (aAh q2 HBX.o);have HQ3:Hid (∀ (i:Nat) x v,l[i]?=some x->vs[i]?=some v->∃ a c,v=.slice a x.val.length c/\BK B (w.alloc (.cells #[.int .i64 k,.int .i64 lg,.int .i64 at_,.slice va n cp] 68)) a x.val.length c x.val):=fun i x v e1 e2=>by
  obtain ⟨a,c,e3,e4⟩:=q3 i x v e1 e2;exact ⟨a,c,e3,e4.later HBX.o hBw⟩
 have HLN:Hid (nt<w.heap.size):=lO h;have HB:=zH hB;have HBW:=zH hBw;have HVL:=zH hv.hlen;have x0:(l.length:Int)<64:=by omega
 have c2:(w.alloc (.cells #[.int .i64 k,.int .i64 lg,.int .i64 at_,.slice va n cp] 68)).cell? ⟨nt,2,none⟩=some (.slice la l.length lc):=aAa HT1.o;clear h hB hBw hv q1 q2 q3;go_enter func64,ntmps64;go_upto_region 2 with fail;generalize w.alloc (.cells #[.int .i64 k,.int .i64 lg,.int .i64 at_,.slice va n cp] 68)=w1 at *
 generalize hn0:w.heap.size=n0 at *
 have hbd:Below w1.heap.size w1 w1.drew:=(Below.refl _ _).drew;have HB1:Hid (B<=w1.heap.size):=by show B<=_;have:=HBX.o.size;have:=HBW.o;omega
 have HOW:=zH (own_req (B:=B) (k:=k) (lg:=lg) (at_:=at_) (HV1.o.later hbd (nR _)) hn HB1.o);have HX1:Hid ((fun wx=>wx.cell? ⟨n0,0,none⟩=some (.int .i64 k)/\wx.cell? ⟨n0,1,none⟩=some (.int .i64 lg)/\wx.cell? ⟨n0,2,none⟩=some (.int .i64 at_)/\wx.cell? ⟨n0,3,none⟩=some (.slice va n cp)) w1.drew):=⟨aAa (show w1.drew.heap[n0]?=_ from HR1.o),aAa (show w1.drew.heap[n0]?=_ from HR1.o),aAa (show w1.drew.heap[n0]?=_ from HR1.o),aAa (show w1.drew.heap[n0]?=_ from HR1.o)⟩;clear c2 hbd;refine wp_region_noPanic ?_;refine wp_region_held_drew (S:=fun wx=>wx.cell? ⟨n0,0,none⟩=some (.int .i64 k)/\wx.cell? ⟨n0,1,none⟩=some (.int .i64 lg)/\wx.cell? ⟨n0,2,none⟩=some (.int .i64 at_)/\wx.cell? ⟨n0,3,none⟩=some (.slice va n cp)) (by kernel_rfl) HX1.o (fun hHeld=>?_);refine kT 0 12 ?_;refine kT 1 13 ?_;refine kT 2 14 ?_;refine kT 3 15 ?_;refine kT 5 17 ?_;refine kT 6 18 ?_;refine aAn (i:=4) (j:=7) (by kernel_rfl) (by kernel_rfl) (by kernel_rfl) ?ba ?bb
 case ba =>
  have c2:w1.drew.cell? ⟨nt,2,none⟩=some (.slice la l.length lc):=aAa (show w1.drew.heap[nt]?=_ from HT1.o);have c2':w1.cell? ⟨nt,2,none⟩=some (.slice la l.length lc):=c2;intro o ho K hK;simp only [List.getElem?_toArray,List.getElem?_cons_succ,List.getElem?_cons_zero,oI] at ho;subst ho;go_simp;clear hHeld;refine hK.out _ _ HX1.o (fun hHeld=>?_);clear hK K
  try simp only [Act.put,siT,scZ,scS]
  clear c2 c2';refine kC 7 ?_;intro K hK;go_simp;refine HOW.o.mono ?_;rintro e w2 ⟨a2,d2,rfl,hk2,hb2⟩;have hb2:Below w1.heap.size w1 w2:=⟨hb2.os,hb2.tape,hb2.output,hb2.size,hb2.block⟩;have HK2:=zH hk2;have HT2:=zH ((hb2.block nt (lO HT1.o)).trans HT1.o);have HR2:=zH ((hb2.block n0 (lO HR1.o)).trans HR1.o);have HO2:=zH (aAh HO1.o hb2);have HQ2:Hid (∀ (i:Nat) x v,l[i]?=some x->vs[i]?=some v->∃ a c,v=.slice a x.val.length c/\BK B w2 a x.val.length c x.val):=fun i x v e1 e2=>by
   obtain ⟨a,c,e3,e4⟩:=HQ3.o i x v e1 e2;exact ⟨a,c,e3,e4.later hb2 HB1.o⟩
  have HB2:Hid (Below n0 w w2):=HBX.o.trans (hb2.mono (by have:=HBX.o.size;omega));have HX2:Hid ((fun wx=>wx.cell? ⟨n0,0,none⟩=some (.int .i64 k)/\wx.cell? ⟨n0,1,none⟩=some (.int .i64 lg)/\wx.cell? ⟨n0,2,none⟩=some (.int .i64 at_)/\wx.cell? ⟨n0,3,none⟩=some (.slice va n cp)) w2):=⟨aAa HR2.o,aAa HR2.o,aAa HR2.o,aAa HR2.o⟩;clear hk2 hb2 hHeld HOW;refine hK.out _ _ HX2.o (fun hHeld=>?_);clear hK K
  try simp only [Act.put,siT,scZ,scS]
  refine kT 8 20 ?_;refine kC 9 ?_;intro K hK;go_simp;have hb3:=aAc w2 (.cells #[.int .i64 (td:Int),.int .i64 k,.int .i64 lg,.int .i64 at_,.slice a2 n d2] 70);have HBL2:Hid (B<=w2.heap.size):=by show B<=_;have:=HB2.o.size;have:=HBW.o;omega
  have HT3:=zH ((hb3.block nt (lO HT2.o)).trans HT2.o);have HR3:=zH ((hb3.block n0 (lO HR2.o)).trans HR2.o);have HO3:=zH (aAh HO2.o hb3);have HK3:=zH (HK2.o.later hb3 HBL2.o);have HQ4:Hid (∀ (i:Nat) x v,l[i]?=some x->vs[i]?=some v->∃ a c,v=.slice a x.val.length c/\BK B (w2.alloc (.cells #[.int .i64 (td:Int),.int .i64 k,.int .i64 lg,.int .i64 at_,.slice a2 n d2] 70)) a x.val.length c x.val):=fun i x v e1 e2=>by
   obtain ⟨a,c,e3,e4⟩:=HQ2.o i x v e1 e2;exact ⟨a,c,e3,e4.later hb3 HBL2.o⟩
  have HB3:Hid (Below n0 w (w2.alloc (.cells #[.int .i64 (td:Int),.int .i64 k,.int .i64 lg,.int .i64 at_,.slice a2 n d2] 70))):=HB2.o.trans (hb3.mono (by have:=HB2.o.size;omega));have HNW:Hid (∀ j r,[.int .i64 (td:Int),.int .i64 k,.int .i64 lg,.int .i64 at_,.slice a2 n d2][j]?=some r->(w2.alloc (.cells #[.int .i64 (td:Int),.int .i64 k,.int .i64 lg,.int .i64 at_,.slice a2 n d2] 70)).cell? ((⟨w2.heap.size,0,none⟩:Addr).add j)=some r):=news5 w2 _ _ _ _ _ _;have HX3:Hid ((fun wx=>wx.cell? ⟨n0,0,none⟩=some (.int .i64 k)/\wx.cell? ⟨n0,1,none⟩=some (.int .i64 lg)/\wx.cell? ⟨n0,2,none⟩=some (.int .i64 at_)/\wx.cell? ⟨n0,3,none⟩=some (.slice va n cp)) (w2.alloc (.cells #[.int .i64 (td:Int),.int .i64 k,.int .i64 lg,.int .i64 at_,.slice a2 n d2] 70))):=⟨aAa HR3.o,aAa HR3.o,aAa HR3.o,aAa HR3.o⟩;clear hb3 hHeld;generalize w2.alloc (.cells #[.int .i64 (td:Int),.int .i64 k,.int .i64 lg,.int .i64 at_,.slice a2 n d2] 70)=w3 at *
  generalize w2.heap.size=n2 at *
  refine hK.out _ _ HX3.o (fun hHeld=>?_);clear hK K
  try simp only [Act.put,siT,scZ,scS]
  refine kC 10 ?_;intro K hK;rw [if_pos (by rfl)];refine aAu (.tmp 16) (.tmp 21) 39 rfl B 70 i0 (.agg #[.int .i64 0,.int .i64 0,.int .i64 0,.int .i64 0,.slice none 0 0]) 5 56 underlying39 hi hz0 hz1 hz2 rfl (by omega) (.slice la l.length lc) l.length _ rfl HO3.o ⟨n2,0,none⟩ 1 1 [.int .i64 (td:Int),.int .i64 k,.int .i64 lg,.int .i64 at_,.slice a2 n d2] rfl rfl HNW.o (by intro u hu;simp at hu;rcases hu with rfl | rfl | rfl | rfl | rfl<;>rfl) (by unfold maxLen;omega) (by omega) (by have:=HB3.o.size;have:=HBW.o;omega) ?_;intro v4 w4 ho4 hg4 hat4;obtain ⟨a4,p4,rfl⟩:=aAg ho4;have hnl:∀ k':Nat,(Value.slice la l.length lc).ownBlock=some k'->∃ cur,w3.heap[k']?=some (.cells cur 70 (0,0)):=fun k' e=>(aAm HO3.o e).2
  have net:some nt≠(Value.slice la l.length lc).ownBlock:=fun e=>by
   obtain ⟨cur,hc⟩:=hnl nt e.symm;rw [HT3.o] at hc;simp only [oI,cI] at hc;exact absurd hc.2.1 (by decide)
  have ner:some n0≠(Value.slice la l.length lc).ownBlock:=fun e=>by
   obtain ⟨cur,hc⟩:=hnl n0 e.symm;rw [HR3.o] at hc;simp only [oI,cI] at hc;exact absurd hc.2.1 (by decide)
  have HT4:=zH ((hg4.block nt (lO HT3.o) net).trans HT3.o);have HR4:=zH ((hg4.block n0 (lO HR3.o) ner).trans HR3.o);have hft:FT B w3 w4:=by
   refine ⟨⟨hg4.os,hg4.tape,hg4.output,hg4.size,fun k' hk'=>hg4.block k' (by have:=HB3.o.size;have:=HBW.o;omega) (fun e=>?_)⟩,fun k' cs fz e=>?_⟩
   ·have:=(aAm HO3.o e.symm).1;omega
   ·rw [hg4.block k' (lO e) (fun e'=>?_),e];obtain ⟨cur,hc⟩:=hnl k' e'.symm;rw [hc] at e;simp only [oI,cI] at e;exact absurd e.2.1 (by decide)
  have HK4:=zH (HK3.o.ft hft);have HQ5:Hid (∀ (i:Nat) x v,l[i]?=some x->vs[i]?=some v->∃ a c,v=.slice a x.val.length c/\BK B w4 a x.val.length c x.val):=fun i x v e1 e2=>by
   obtain ⟨a,c,e3,e4⟩:=HQ4.o i x v e1 e2;exact ⟨a,c,e3,e4.ft hft⟩
  have HO4:=zH ho4;have HG4:=zH hg4;have HFT:=zH hft;have HX4:Hid ((fun wx=>wx.cell? ⟨n0,0,none⟩=some (.int .i64 k)/\wx.cell? ⟨n0,1,none⟩=some (.int .i64 lg)/\wx.cell? ⟨n0,2,none⟩=some (.int .i64 at_)/\wx.cell? ⟨n0,3,none⟩=some (.slice va n cp)) w4):=⟨aAa HR4.o,aAa HR4.o,aAa HR4.o,aAa HR4.o⟩;clear ho4 hg4 hft hnl net ner hHeld;refine hK.out _ _ HX4.o (fun hHeld=>?_);clear hK K
  try simp only [Act.put,siT,scZ,scS]
  refine kT 11 23 ?_;refine kT 12 24 ?_;have y2:w4.cell? ⟨nt,2,none⟩=some (.slice la l.length lc):=aAa HT4.o;have yf2:w4.frozen? ⟨nt,2,none⟩=false:=aAb HT4.o;refine kC 13 ?_;intro K hK;go_simp;have hne:n0≠nt:=by have:=HLN.o;omega
  have HT5:Hid ((w4.setCell ⟨nt,2,none⟩ (.slice a4 (l.length+1) p4)).heap[nt]?=some (.cells #[.slice (some ⟨gh,0,none⟩) M M,wv,.slice a4 (l.length+1) p4] 45 (0,0))):=heap_setCell_same _ _ _ _ _ _ HT4.o;have HR5:=(heap_setCell_other w4 ⟨nt,2,none⟩ n0 (.slice a4 (l.length+1) p4) hne).trans HR4.o;have HX5:Hid ((fun wx=>wx.cell? ⟨n0,0,none⟩=some (.int .i64 k)/\wx.cell? ⟨n0,1,none⟩=some (.int .i64 lg)/\wx.cell? ⟨n0,2,none⟩=some (.int .i64 at_)/\wx.cell? ⟨n0,3,none⟩=some (.slice va n cp)) (w4.setCell ⟨nt,2,none⟩ (.slice a4 (l.length+1) p4))):=⟨aAa HR5,aAa HR5,aAa HR5,aAa HR5⟩;have HF5:Hid (FT B w4 (w4.setCell ⟨nt,2,none⟩ (.slice a4 (l.length+1) p4))):=ft1 HT4.o (by decide) HB.o
  have HO5:Hid ((w4.setCell ⟨nt,2,none⟩ (.slice a4 (l.length+1) p4)).ownsRow B 70 5 (.slice a4 (l.length+1) p4) (l.length+1) (lrF l vs++[.int .i64 (td:Int),.int .i64 k,.int .i64 lg,.int .i64 at_,.slice a2 n d2])):=aAl HO4.o fun k' cs hk' e=>(heap_setCell_other _ _ _ _ (by
   show k'≠nt;intro e';subst e';rw [HT4.o] at e;simp only [oI,cI] at e
   exact absurd e.2.1 (by decide))).trans e
  have HW5:Hid (Below B w (w4.setCell ⟨nt,2,none⟩ (.slice a4 (l.length+1) p4))):=((HB3.o.mono HBW.o).trans HFT.o.1).trans HF5.o.1;have HK5:=zH (HK4.o.ft HF5.o);have HQ6:Hid (∀ (i:Nat) x v,l[i]?=some x->vs[i]?=some v->∃ a c,v=.slice a x.val.length c/\BK B (w4.setCell ⟨nt,2,none⟩ (.slice a4 (l.length+1) p4)) a x.val.length c x.val):=fun i x v e1 e2=>by
   obtain ⟨a,c,e3,e4⟩:=HQ5.o i x v e1 e2;exact ⟨a,c,e3,e4.ft HF5.o⟩
  have HS5:Hid (∀ k',k'<n0->k'≠nt->(Value.slice la l.length lc).ownBlock≠some k'->(w4.setCell ⟨nt,2,none⟩ (.slice a4 (l.length+1) p4)).heap[k']?=w.heap[k']?):=fun k' h1 h2 h3=>((heap_setCell_other _ _ _ _ h2).trans (HG4.o.block k' (by have:=HB3.o.size;omega) (fun e=>h3 e.symm))).trans (HB3.o.block k' h1)
  clear hHeld hne HR5 y2 yf2;generalize (w4.setCell ⟨nt,2,none⟩ (.slice a4 (l.length+1) p4))=w5 at *
  refine hK.out _ _ HX5.o (fun hHeld=>?_);clear hK K
  try simp only [Act.put,siT,scZ,scS]
  refine wpAnyH_done (by kernel_rfl) ?_ _;refine NoPanic.normal ?_;clear hHeld;go_wp2;(try simp only [Exit.inBlock,Exit.then]);refine bodyPost_end (results_none rfl _ _ _) rfl ⟨rfl,_,HT5.o,⟨vs++[.slice a2 n d2],by simp [HQ1.o],?_,?_⟩,HW5.o,fun k' h1 h2 h3=>HS5.o k' h1 h2 h3⟩
  ·have e1:(l++[(⟨td,k,lg,at_,val⟩:LR)]).length=l.length+1:=by simp
   rw [aE8 _ _ _ _ HQ1.o,e1];exact HO5.o
  ·intro i x v e1 e2;by_cases hi':i<l.length
   ·rw [List.getElem?_append_left hi'] at e1;rw [List.getElem?_append_left (by rw [HQ1.o];exact hi')] at e2;exact HQ6.o i x v e1 e2
   ·have hil:i=l.length:=by
     have:=(lL e1);simp at this;omega
    subst hil;rw [List.getElem?_append_right (nR _),Nat.sub_self] at e1;rw [List.getElem?_append_right (by rw [HQ1.o];exact nR _),HQ1.o,Nat.sub_self] at e2;simp only [List.getElem?_cons_zero,oI] at e1 e2;subst e1;subst e2;refine ⟨a2,d2,?_,?_⟩
    ·show Value.slice a2 n d2=Value.slice a2 val.length d2;rw [HVL.o]
    ·show BK B w5 a2 val.length d2 val;rw [HVL.o];exact HK5.o
 case bb =>
  intro o ho K hK;simp only [List.getElem?_toArray,List.getElem?_cons_succ,List.getElem?_cons_zero,oI] at ho;subst ho;go_simp;refine HOW.o.mono ?_;rintro e w2 ⟨a2,d2,rfl,hk2,hb2⟩;have hb2:Below w1.heap.size w1 w2:=⟨hb2.os,hb2.tape,hb2.output,hb2.size,hb2.block⟩;have HK2:=zH hk2;have HT2:=zH ((hb2.block nt (lO HT1.o)).trans HT1.o);have HR2:=zH ((hb2.block n0 (lO HR1.o)).trans HR1.o);have HO2:=zH (aAh HO1.o hb2);have HQ2:Hid (∀ (i:Nat) x v,l[i]?=some x->vs[i]?=some v->∃ a c,v=.slice a x.val.length c/\BK B w2 a x.val.length c x.val):=fun i x v e1 e2=>by
   obtain ⟨a,c,e3,e4⟩:=HQ3.o i x v e1 e2;exact ⟨a,c,e3,e4.later hb2 HB1.o⟩
  have HB2:Hid (Below n0 w w2):=HBX.o.trans (hb2.mono (by have:=HBX.o.size;omega));have HX2:Hid ((fun wx=>wx.cell? ⟨n0,0,none⟩=some (.int .i64 k)/\wx.cell? ⟨n0,1,none⟩=some (.int .i64 lg)/\wx.cell? ⟨n0,2,none⟩=some (.int .i64 at_)/\wx.cell? ⟨n0,3,none⟩=some (.slice va n cp)) w2):=⟨aAa HR2.o,aAa HR2.o,aAa HR2.o,aAa HR2.o⟩;clear hk2 hb2 hHeld HOW;refine hK.out _ _ HX2.o (fun hHeld=>?_);clear hK K
  try simp only [Act.put,siT,scZ,scS]
  refine kT 8 20 ?_;refine aAn (i:=4) (j:=9) (by kernel_rfl) (by kernel_rfl) (by kernel_rfl) ?bba ?bbb
  case bba =>
   have c2:w2.cell? ⟨nt,2,none⟩=some (.slice la l.length lc):=aAa HT2.o;intro o ho K hK;simp only [List.getElem?_toArray,List.getElem?_cons_succ,List.getElem?_cons_zero,oI] at ho;subst ho;go_simp;clear hHeld;refine hK.out _ _ HX2.o (fun hHeld=>?_);clear hK K
   try simp only [Act.put,siT,scZ,scS]
   clear c2;refine kC 9 ?_;intro K hK;go_simp;have hb3:=aAc w2 (.cells #[.int .i64 (td:Int),.int .i64 k,.int .i64 lg,.int .i64 at_,.slice a2 n d2] 70);have HBL2:Hid (B<=w2.heap.size):=by show B<=_;have:=HB2.o.size;have:=HBW.o;omega
   have HT3:=zH ((hb3.block nt (lO HT2.o)).trans HT2.o);have HR3:=zH ((hb3.block n0 (lO HR2.o)).trans HR2.o);have HO3:=zH (aAh HO2.o hb3);have HK3:=zH (HK2.o.later hb3 HBL2.o);have HQ4:Hid (∀ (i:Nat) x v,l[i]?=some x->vs[i]?=some v->∃ a c,v=.slice a x.val.length c/\BK B (w2.alloc (.cells #[.int .i64 (td:Int),.int .i64 k,.int .i64 lg,.int .i64 at_,.slice a2 n d2] 70)) a x.val.length c x.val):=fun i x v e1 e2=>by
    obtain ⟨a,c,e3,e4⟩:=HQ2.o i x v e1 e2;exact ⟨a,c,e3,e4.later hb3 HBL2.o⟩
   have HB3:Hid (Below n0 w (w2.alloc (.cells #[.int .i64 (td:Int),.int .i64 k,.int .i64 lg,.int .i64 at_,.slice a2 n d2] 70))):=HB2.o.trans (hb3.mono (by have:=HB2.o.size;omega));have HNW:Hid (∀ j r,[.int .i64 (td:Int),.int .i64 k,.int .i64 lg,.int .i64 at_,.slice a2 n d2][j]?=some r->(w2.alloc (.cells #[.int .i64 (td:Int),.int .i64 k,.int .i64 lg,.int .i64 at_,.slice a2 n d2] 70)).cell? ((⟨w2.heap.size,0,none⟩:Addr).add j)=some r):=news5 w2 _ _ _ _ _ _;have HX3:Hid ((fun wx=>wx.cell? ⟨n0,0,none⟩=some (.int .i64 k)/\wx.cell? ⟨n0,1,none⟩=some (.int .i64 lg)/\wx.cell? ⟨n0,2,none⟩=some (.int .i64 at_)/\wx.cell? ⟨n0,3,none⟩=some (.slice va n cp)) (w2.alloc (.cells #[.int .i64 (td:Int),.int .i64 k,.int .i64 lg,.int .i64 at_,.slice a2 n d2] 70))):=⟨aAa HR3.o,aAa HR3.o,aAa HR3.o,aAa HR3.o⟩;clear hb3 hHeld;generalize w2.alloc (.cells #[.int .i64 (td:Int),.int .i64 k,.int .i64 lg,.int .i64 at_,.slice a2 n d2] 70)=w3 at *
   generalize w2.heap.size=n2 at *
   refine hK.out _ _ HX3.o (fun hHeld=>?_);clear hK K
   try simp only [Act.put,siT,scZ,scS]
   refine kC 10 ?_;intro K hK;rw [if_pos (by rfl)];refine aAu (.tmp 16) (.tmp 21) 39 rfl B 70 i0 (.agg #[.int .i64 0,.int .i64 0,.int .i64 0,.int .i64 0,.slice none 0 0]) 5 56 underlying39 hi hz0 hz1 hz2 rfl (by omega) (.slice la l.length lc) l.length _ rfl HO3.o ⟨n2,0,none⟩ 1 1 [.int .i64 (td:Int),.int .i64 k,.int .i64 lg,.int .i64 at_,.slice a2 n d2] rfl rfl HNW.o (by intro u hu;simp at hu;rcases hu with rfl | rfl | rfl | rfl | rfl<;>rfl) (by unfold maxLen;omega) (by omega) (by have:=HB3.o.size;have:=HBW.o;omega) ?_;intro v4 w4 ho4 hg4 hat4;obtain ⟨a4,p4,rfl⟩:=aAg ho4;have hnl:∀ k':Nat,(Value.slice la l.length lc).ownBlock=some k'->∃ cur,w3.heap[k']?=some (.cells cur 70 (0,0)):=fun k' e=>(aAm HO3.o e).2
   have net:some nt≠(Value.slice la l.length lc).ownBlock:=fun e=>by
    obtain ⟨cur,hc⟩:=hnl nt e.symm;rw [HT3.o] at hc;simp only [oI,cI] at hc;exact absurd hc.2.1 (by decide)
   have ner:some n0≠(Value.slice la l.length lc).ownBlock:=fun e=>by
    obtain ⟨cur,hc⟩:=hnl n0 e.symm;rw [HR3.o] at hc;simp only [oI,cI] at hc;exact absurd hc.2.1 (by decide)
   have HT4:=zH ((hg4.block nt (lO HT3.o) net).trans HT3.o);have HR4:=zH ((hg4.block n0 (lO HR3.o) ner).trans HR3.o);have hft:FT B w3 w4:=by
    refine ⟨⟨hg4.os,hg4.tape,hg4.output,hg4.size,fun k' hk'=>hg4.block k' (by have:=HB3.o.size;have:=HBW.o;omega) (fun e=>?_)⟩,fun k' cs fz e=>?_⟩
    ·have:=(aAm HO3.o e.symm).1;omega
    ·rw [hg4.block k' (lO e) (fun e'=>?_),e];obtain ⟨cur,hc⟩:=hnl k' e'.symm;rw [hc] at e;simp only [oI,cI] at e;exact absurd e.2.1 (by decide)
   have HK4:=zH (HK3.o.ft hft);have HQ5:Hid (∀ (i:Nat) x v,l[i]?=some x->vs[i]?=some v->∃ a c,v=.slice a x.val.length c/\BK B w4 a x.val.length c x.val):=fun i x v e1 e2=>by
    obtain ⟨a,c,e3,e4⟩:=HQ4.o i x v e1 e2;exact ⟨a,c,e3,e4.ft hft⟩
   have HO4:=zH ho4;have HG4:=zH hg4;have HFT:=zH hft;have HX4:Hid ((fun wx=>wx.cell? ⟨n0,0,none⟩=some (.int .i64 k)/\wx.cell? ⟨n0,1,none⟩=some (.int .i64 lg)/\wx.cell? ⟨n0,2,none⟩=some (.int .i64 at_)/\wx.cell? ⟨n0,3,none⟩=some (.slice va n cp)) w4):=⟨aAa HR4.o,aAa HR4.o,aAa HR4.o,aAa HR4.o⟩;clear ho4 hg4 hft hnl net ner hHeld;refine hK.out _ _ HX4.o (fun hHeld=>?_);clear hK K
   try simp only [Act.put,siT,scZ,scS]
   refine kT 11 23 ?_;refine kT 12 24 ?_;have y2:w4.cell? ⟨nt,2,none⟩=some (.slice la l.length lc):=aAa HT4.o;have yf2:w4.frozen? ⟨nt,2,none⟩=false:=aAb HT4.o;refine kC 13 ?_;intro K hK;go_simp;have hne:n0≠nt:=by have:=HLN.o;omega
   have HT5:Hid ((w4.setCell ⟨nt,2,none⟩ (.slice a4 (l.length+1) p4)).heap[nt]?=some (.cells #[.slice (some ⟨gh,0,none⟩) M M,wv,.slice a4 (l.length+1) p4] 45 (0,0))):=heap_setCell_same _ _ _ _ _ _ HT4.o;have HR5:=(heap_setCell_other w4 ⟨nt,2,none⟩ n0 (.slice a4 (l.length+1) p4) hne).trans HR4.o;have HX5:Hid ((fun wx=>wx.cell? ⟨n0,0,none⟩=some (.int .i64 k)/\wx.cell? ⟨n0,1,none⟩=some (.int .i64 lg)/\wx.cell? ⟨n0,2,none⟩=some (.int .i64 at_)/\wx.cell? ⟨n0,3,none⟩=some (.slice va n cp)) (w4.setCell ⟨nt,2,none⟩ (.slice a4 (l.length+1) p4))):=⟨aAa HR5,aAa HR5,aAa HR5,aAa HR5⟩;have HF5:Hid (FT B w4 (w4.setCell ⟨nt,2,none⟩ (.slice a4 (l.length+1) p4))):=ft1 HT4.o (by decide) HB.o
   have HO5:Hid ((w4.setCell ⟨nt,2,none⟩ (.slice a4 (l.length+1) p4)).ownsRow B 70 5 (.slice a4 (l.length+1) p4) (l.length+1) (lrF l vs++[.int .i64 (td:Int),.int .i64 k,.int .i64 lg,.int .i64 at_,.slice a2 n d2])):=aAl HO4.o fun k' cs hk' e=>(heap_setCell_other _ _ _ _ (by
    show k'≠nt;intro e';subst e';rw [HT4.o] at e;simp only [oI,cI] at e
    exact absurd e.2.1 (by decide))).trans e
   have HW5:Hid (Below B w (w4.setCell ⟨nt,2,none⟩ (.slice a4 (l.length+1) p4))):=((HB3.o.mono HBW.o).trans HFT.o.1).trans HF5.o.1;have HK5:=zH (HK4.o.ft HF5.o);have HQ6:Hid (∀ (i:Nat) x v,l[i]?=some x->vs[i]?=some v->∃ a c,v=.slice a x.val.length c/\BK B (w4.setCell ⟨nt,2,none⟩ (.slice a4 (l.length+1) p4)) a x.val.length c x.val):=fun i x v e1 e2=>by
    obtain ⟨a,c,e3,e4⟩:=HQ5.o i x v e1 e2;exact ⟨a,c,e3,e4.ft HF5.o⟩
   have HS5:Hid (∀ k',k'<n0->k'≠nt->(Value.slice la l.length lc).ownBlock≠some k'->(w4.setCell ⟨nt,2,none⟩ (.slice a4 (l.length+1) p4)).heap[k']?=w.heap[k']?):=fun k' h1 h2 h3=>((heap_setCell_other _ _ _ _ h2).trans (HG4.o.block k' (by have:=HB3.o.size;omega) (fun e=>h3 e.symm))).trans (HB3.o.block k' h1)
   clear hHeld hne HR5 y2 yf2;generalize (w4.setCell ⟨nt,2,none⟩ (.slice a4 (l.length+1) p4))=w5 at *
   refine hK.out _ _ HX5.o (fun hHeld=>?_);clear hK K
   try simp only [Act.put,siT,scZ,scS]
   refine wpAnyH_done (by kernel_rfl) ?_ _;refine NoPanic.normal ?_;clear hHeld;go_wp2;(try simp only [Exit.inBlock,Exit.then]);refine bodyPost_end (results_none rfl _ _ _) rfl ⟨rfl,_,HT5.o,⟨vs++[.slice a2 n d2],by simp [HQ1.o],?_,?_⟩,HW5.o,fun k' h1 h2 h3=>HS5.o k' h1 h2 h3⟩
   ·have e1:(l++[(⟨td,k,lg,at_,val⟩:LR)]).length=l.length+1:=by simp
    rw [aE8 _ _ _ _ HQ1.o,e1];exact HO5.o
   ·intro i x v e1 e2;by_cases hi':i<l.length
    ·rw [List.getElem?_append_left hi'] at e1;rw [List.getElem?_append_left (by rw [HQ1.o];exact hi')] at e2;exact HQ6.o i x v e1 e2
    ·have hil:i=l.length:=by
      have:=(lL e1);simp at this;omega
     subst hil;rw [List.getElem?_append_right (nR _),Nat.sub_self] at e1;rw [List.getElem?_append_right (by rw [HQ1.o];exact nR _),HQ1.o,Nat.sub_self] at e2;simp only [List.getElem?_cons_zero,oI] at e1 e2;subst e1;subst e2;refine ⟨a2,d2,?_,?_⟩
     ·show Value.slice a2 n d2=Value.slice a2 val.length d2;rw [HVL.o]
     ·show BK B w5 a2 val.length d2 val;rw [HVL.o];exact HK5.o
  case bbb =>
   intro o ho K hK;simp only [List.getElem?_toArray,List.getElem?_cons_succ,List.getElem?_cons_zero,oI] at ho;subst ho;go_simp;have hb3:=aAc w2 (.cells #[.int .i64 (td:Int),.int .i64 k,.int .i64 lg,.int .i64 at_,.slice a2 n d2] 70);have HBL2:Hid (B<=w2.heap.size):=by show B<=_;have:=HB2.o.size;have:=HBW.o;omega
   have HT3:=zH ((hb3.block nt (lO HT2.o)).trans HT2.o);have HR3:=zH ((hb3.block n0 (lO HR2.o)).trans HR2.o);have HO3:=zH (aAh HO2.o hb3);have HK3:=zH (HK2.o.later hb3 HBL2.o);have HQ4:Hid (∀ (i:Nat) x v,l[i]?=some x->vs[i]?=some v->∃ a c,v=.slice a x.val.length c/\BK B (w2.alloc (.cells #[.int .i64 (td:Int),.int .i64 k,.int .i64 lg,.int .i64 at_,.slice a2 n d2] 70)) a x.val.length c x.val):=fun i x v e1 e2=>by
    obtain ⟨a,c,e3,e4⟩:=HQ2.o i x v e1 e2;exact ⟨a,c,e3,e4.later hb3 HBL2.o⟩
   have HB3:Hid (Below n0 w (w2.alloc (.cells #[.int .i64 (td:Int),.int .i64 k,.int .i64 lg,.int .i64 at_,.slice a2 n d2] 70))):=HB2.o.trans (hb3.mono (by have:=HB2.o.size;omega));have HNW:Hid (∀ j r,[.int .i64 (td:Int),.int .i64 k,.int .i64 lg,.int .i64 at_,.slice a2 n d2][j]?=some r->(w2.alloc (.cells #[.int .i64 (td:Int),.int .i64 k,.int .i64 lg,.int .i64 at_,.slice a2 n d2] 70)).cell? ((⟨w2.heap.size,0,none⟩:Addr).add j)=some r):=news5 w2 _ _ _ _ _ _;have HX3:Hid ((fun wx=>wx.cell? ⟨n0,0,none⟩=some (.int .i64 k)/\wx.cell? ⟨n0,1,none⟩=some (.int .i64 lg)/\wx.cell? ⟨n0,2,none⟩=some (.int .i64 at_)/\wx.cell? ⟨n0,3,none⟩=some (.slice va n cp)) (w2.alloc (.cells #[.int .i64 (td:Int),.int .i64 k,.int .i64 lg,.int .i64 at_,.slice a2 n d2] 70))):=⟨aAa HR3.o,aAa HR3.o,aAa HR3.o,aAa HR3.o⟩;clear hb3 hHeld;generalize w2.alloc (.cells #[.int .i64 (td:Int),.int .i64 k,.int .i64 lg,.int .i64 at_,.slice a2 n d2] 70)=w3 at *
   generalize w2.heap.size=n2 at *
   refine hK.out _ _ HX3.o (fun hHeld=>?_);clear hK K
   try simp only [Act.put,siT,scZ,scS]
   have c2:w3.cell? ⟨nt,2,none⟩=some (.slice la l.length lc):=aAa HT3.o;refine kC 4 ?_;intro K hK;go_simp;clear hHeld;refine hK.out _ _ HX3.o (fun hHeld=>?_);clear hK K
   try simp only [Act.put,siT,scZ,scS]
   clear c2;refine kC 10 ?_;intro K hK;rw [if_pos (by rfl)];refine aAu (.tmp 16) (.tmp 21) 39 rfl B 70 i0 (.agg #[.int .i64 0,.int .i64 0,.int .i64 0,.int .i64 0,.slice none 0 0]) 5 56 underlying39 hi hz0 hz1 hz2 rfl (by omega) (.slice la l.length lc) l.length _ rfl HO3.o ⟨n2,0,none⟩ 1 1 [.int .i64 (td:Int),.int .i64 k,.int .i64 lg,.int .i64 at_,.slice a2 n d2] rfl rfl HNW.o (by intro u hu;simp at hu;rcases hu with rfl | rfl | rfl | rfl | rfl<;>rfl) (by unfold maxLen;omega) (by omega) (by have:=HB3.o.size;have:=HBW.o;omega) ?_;intro v4 w4 ho4 hg4 hat4;obtain ⟨a4,p4,rfl⟩:=aAg ho4;have hnl:∀ k':Nat,(Value.slice la l.length lc).ownBlock=some k'->∃ cur,w3.heap[k']?=some (.cells cur 70 (0,0)):=fun k' e=>(aAm HO3.o e).2
   have net:some nt≠(Value.slice la l.length lc).ownBlock:=fun e=>by
    obtain ⟨cur,hc⟩:=hnl nt e.symm;rw [HT3.o] at hc;simp only [oI,cI] at hc;exact absurd hc.2.1 (by decide)
   have ner:some n0≠(Value.slice la l.length lc).ownBlock:=fun e=>by
    obtain ⟨cur,hc⟩:=hnl n0 e.symm;rw [HR3.o] at hc;simp only [oI,cI] at hc;exact absurd hc.2.1 (by decide)
   have HT4:=zH ((hg4.block nt (lO HT3.o) net).trans HT3.o);have HR4:=zH ((hg4.block n0 (lO HR3.o) ner).trans HR3.o);have hft:FT B w3 w4:=by
    refine ⟨⟨hg4.os,hg4.tape,hg4.output,hg4.size,fun k' hk'=>hg4.block k' (by have:=HB3.o.size;have:=HBW.o;omega) (fun e=>?_)⟩,fun k' cs fz e=>?_⟩
    ·have:=(aAm HO3.o e.symm).1;omega
    ·rw [hg4.block k' (lO e) (fun e'=>?_),e];obtain ⟨cur,hc⟩:=hnl k' e'.symm;rw [hc] at e;simp only [oI,cI] at e;exact absurd e.2.1 (by decide)
   have HK4:=zH (HK3.o.ft hft);have HQ5:Hid (∀ (i:Nat) x v,l[i]?=some x->vs[i]?=some v->∃ a c,v=.slice a x.val.length c/\BK B w4 a x.val.length c x.val):=fun i x v e1 e2=>by
    obtain ⟨a,c,e3,e4⟩:=HQ4.o i x v e1 e2;exact ⟨a,c,e3,e4.ft hft⟩
   have HO4:=zH ho4;have HG4:=zH hg4;have HFT:=zH hft;have HX4:Hid ((fun wx=>wx.cell? ⟨n0,0,none⟩=some (.int .i64 k)/\wx.cell? ⟨n0,1,none⟩=some (.int .i64 lg)/\wx.cell? ⟨n0,2,none⟩=some (.int .i64 at_)/\wx.cell? ⟨n0,3,none⟩=some (.slice va n cp)) w4):=⟨aAa HR4.o,aAa HR4.o,aAa HR4.o,aAa HR4.o⟩;clear ho4 hg4 hft hnl net ner hHeld;refine hK.out _ _ HX4.o (fun hHeld=>?_);clear hK K
   try simp only [Act.put,siT,scZ,scS]
   refine kT 11 23 ?_;refine kT 12 24 ?_;have y2:w4.cell? ⟨nt,2,none⟩=some (.slice la l.length lc):=aAa HT4.o;have yf2:w4.frozen? ⟨nt,2,none⟩=false:=aAb HT4.o;refine kC 13 ?_;intro K hK;go_simp;have hne:n0≠nt:=by have:=HLN.o;omega
   have HT5:Hid ((w4.setCell ⟨nt,2,none⟩ (.slice a4 (l.length+1) p4)).heap[nt]?=some (.cells #[.slice (some ⟨gh,0,none⟩) M M,wv,.slice a4 (l.length+1) p4] 45 (0,0))):=heap_setCell_same _ _ _ _ _ _ HT4.o;have HR5:=(heap_setCell_other w4 ⟨nt,2,none⟩ n0 (.slice a4 (l.length+1) p4) hne).trans HR4.o;have HX5:Hid ((fun wx=>wx.cell? ⟨n0,0,none⟩=some (.int .i64 k)/\wx.cell? ⟨n0,1,none⟩=some (.int .i64 lg)/\wx.cell? ⟨n0,2,none⟩=some (.int .i64 at_)/\wx.cell? ⟨n0,3,none⟩=some (.slice va n cp)) (w4.setCell ⟨nt,2,none⟩ (.slice a4 (l.length+1) p4))):=⟨aAa HR5,aAa HR5,aAa HR5,aAa HR5⟩;have HF5:Hid (FT B w4 (w4.setCell ⟨nt,2,none⟩ (.slice a4 (l.length+1) p4))):=ft1 HT4.o (by decide) HB.o
   have HO5:Hid ((w4.setCell ⟨nt,2,none⟩ (.slice a4 (l.length+1) p4)).ownsRow B 70 5 (.slice a4 (l.length+1) p4) (l.length+1) (lrF l vs++[.int .i64 (td:Int),.int .i64 k,.int .i64 lg,.int .i64 at_,.slice a2 n d2])):=aAl HO4.o fun k' cs hk' e=>(heap_setCell_other _ _ _ _ (by
    show k'≠nt;intro e';subst e';rw [HT4.o] at e;simp only [oI,cI] at e
    exact absurd e.2.1 (by decide))).trans e
   have HW5:Hid (Below B w (w4.setCell ⟨nt,2,none⟩ (.slice a4 (l.length+1) p4))):=((HB3.o.mono HBW.o).trans HFT.o.1).trans HF5.o.1;have HK5:=zH (HK4.o.ft HF5.o);have HQ6:Hid (∀ (i:Nat) x v,l[i]?=some x->vs[i]?=some v->∃ a c,v=.slice a x.val.length c/\BK B (w4.setCell ⟨nt,2,none⟩ (.slice a4 (l.length+1) p4)) a x.val.length c x.val):=fun i x v e1 e2=>by
    obtain ⟨a,c,e3,e4⟩:=HQ5.o i x v e1 e2;exact ⟨a,c,e3,e4.ft HF5.o⟩
   have HS5:Hid (∀ k',k'<n0->k'≠nt->(Value.slice la l.length lc).ownBlock≠some k'->(w4.setCell ⟨nt,2,none⟩ (.slice a4 (l.length+1) p4)).heap[k']?=w.heap[k']?):=fun k' h1 h2 h3=>((heap_setCell_other _ _ _ _ h2).trans (HG4.o.block k' (by have:=HB3.o.size;omega) (fun e=>h3 e.symm))).trans (HB3.o.block k' h1)
   clear hHeld hne HR5 y2 yf2;generalize (w4.setCell ⟨nt,2,none⟩ (.slice a4 (l.length+1) p4))=w5 at *
   refine hK.out _ _ HX5.o (fun hHeld=>?_);clear hK K
   try simp only [Act.put,siT,scZ,scS]
   refine wpAnyH_done (by kernel_rfl) ?_ _;refine NoPanic.normal ?_;clear hHeld;go_wp2;(try simp only [Exit.inBlock,Exit.then]);refine bodyPost_end (results_none rfl _ _ _) rfl ⟨rfl,_,HT5.o,⟨vs++[.slice a2 n d2],by simp [HQ1.o],?_,?_⟩,HW5.o,fun k' h1 h2 h3=>HS5.o k' h1 h2 h3⟩
   ·have e1:(l++[(⟨td,k,lg,at_,val⟩:LR)]).length=l.length+1:=by simp
    rw [aE8 _ _ _ _ HQ1.o,e1];exact HO5.o
   ·intro i x v e1 e2;by_cases hi':i<l.length
    ·rw [List.getElem?_append_left hi'] at e1;rw [List.getElem?_append_left (by rw [HQ1.o];exact hi')] at e2;exact HQ6.o i x v e1 e2
    ·have hil:i=l.length:=by
      have:=(lL e1);simp at this;omega
     subst hil;rw [List.getElem?_append_right (nR _),Nat.sub_self] at e1;rw [List.getElem?_append_right (by rw [HQ1.o];exact nR _),HQ1.o,Nat.sub_self] at e2;simp only [List.getElem?_cons_zero,oI] at e1 e2;subst e1;subst e2;refine ⟨a2,d2,?_,?_⟩
     ·show Value.slice a2 n d2=Value.slice a2 val.length d2;rw [HVL.o]
     ·show BK B w5 a2 val.length d2 val;rw [HVL.o];exact HK5.o
def fv:List Int->Int
 | []=>0
 | z::_=>fat (z % 8).toNat
def WV (B:Nat) (w:World) (wv:Value) (F:List Int):Prop:=∃ a c,wv=.slice a F.length c/\F.length<=c/\c<=9223372036854775807/\(c≠0->∃ g o cs,a=some ⟨g,o,none⟩/\B<=g/\w.heap[g]?=some (.cells cs 3 (0,0))/\o+c<=cs.size/\∀ j z,F[j]?=some z->cs[o+j]?=some (.int .i64 z))
theorem WV.same (h:WV B w wv F) (hs:∀ k,wv.ownBlock=some k->w'.heap[k]?=w.heap[k]?):WV B w' wv F:=by
 obtain ⟨a,c,rfl,h1,h2,h3⟩:=h;refine ⟨a,c,rfl,h1,h2,fun hc=>?_⟩;obtain ⟨g,o,cs,rfl,hgB,h4,h5,h6⟩:=h3 hc;exact ⟨g,o,cs,rfl,hgB,(hs g rfl).trans h4,h5,h6⟩
theorem WV.nil (B:Nat) (w:World):WV B w (.slice none 0 0) []:=⟨none,0,rfl,nR _,by omega,fun h=>absurd rfl h⟩
def tln (g o n c:Nat):Value:=.slice (some ⟨g,if c=1 then o else o+1,none⟩) n (c-1)
theorem fate_cons {v n:Nat} {z:Int} (h:NTM w nt gh M (.slice (some ⟨g,o,none⟩) (n+1) c) lv) (hc:n+1<=c) (hcm:c<=9223372036854775807) (hz:w.cell? ⟨g,o,none⟩=some (.int .i64 z)) (hv:v<=7) (hb:bits BinOp.and IntKind.i64 z 7=(v:Int)) :
  Calls prog 10 #[.pointer (some ⟨nt,0,none⟩)] w fun e w'=>e=.returned (.int .i64 (fat v))/\w'=w.setCell ⟨nt,1,none⟩ (tln g o n c):=by
 have c1:w.cell? ⟨nt,1,none⟩=some (.slice (some ⟨g,o,none⟩) (n+1) c):=aAa h;have f1:w.frozen? ⟨nt,1,none⟩=false:=aAb h;have i1:(n:Int)+1<=(c:Int):=by omega
 have i2:(c:Int)<=9223372036854775807:=by omega
 have i7:(0:Int)<(n:Int)+1:=by omega
 have i8:¬ (n:Int)+1=0:=by omega
 have i9:(1:Int)<=(n:Int)+1:=by omega
 have HFT:=zH (fun ww=>fateOf_any (z:=z) hv hb ww);clear h hb;by_cases q:c=1
 ·have q2:n=0:=by omega
  subst q q2;go_enter func10,ntmps10;go_wp2_with fail;refine (HFT.o _).mono ?_;rintro e w2 ⟨rfl,rfl⟩;go_wp2;go_ret;exact ⟨rfl,rfl⟩
 ·have i3:¬ (c:Int)=1:=by omega
  have i4:¬ c=1:=q;have i5:¬ (1:Int)=(c:Int):=by omega
  have i6:¬ 1=c:=by omega
  go_enter func10,ntmps10;go_wp2_with fail;refine (HFT.o _).mono ?_;rintro e w2 ⟨rfl,rfl⟩;go_wp2;go_ret;refine ⟨rfl,?_⟩;unfold tln;rw [if_neg q]
  try rfl
def FtT (B nt gh M:Nat) (wv lv:Value) (F:List Int) (w w':World):Prop:=∃ wv',NTM w' nt gh M wv' lv/\WV B w' wv' F/\(∀ k,wv'.ownBlock=some k->wv.ownBlock=some k)/\(∀ k,k≠nt->w'.heap[k]?=w.heap[k]?)/\Below B w w'
theorem fate_any (h:NTM w nt gh M wv lv) (hw:WV B w wv F) (hB:B<=nt) :
  Calls prog 10 #[.pointer (some ⟨nt,0,none⟩)] w fun e w'=>e=.returned (.int .i64 (fv F))/\FtT B nt gh M wv lv F.tail w w':=by
 obtain ⟨a,c,rfl,h1,h2,h3⟩:=hw
 cases F with
 | nil =>
  refine (fate_none h).mono ?_;rintro e w' ⟨rfl,rfl⟩;exact ⟨rfl,_,h,⟨a,c,rfl,h1,h2,h3⟩,fun k e=>e,fun k _=>rfl,Below.refl _ _⟩
 | cons z F' =>
  have hl:(z::F').length=F'.length+1:=rfl;rw [hl] at h h1;obtain ⟨g,o,cs,rfl,hgB,h4,h5,h6⟩:=h3 (by omega);obtain ⟨v,hv,hb,hm⟩:=and7 z;have hz:w.cell? ⟨g,o,none⟩=some (.int .i64 z):=(aAa h4).trans (h6 0 z rfl);refine (fate_cons h h1 h2 hz hv hb).mono ?_;rintro e w' ⟨rfl,rfl⟩;have hvv:v=(z % 8).toNat:=by omega
  have hgn:g≠nt:=fun e=>by
   subst e;have h9:w.heap[g]?=_:=h;rw [h4] at h9;simp only [oI,cI] at h9;exact absurd h9.2.1 (by decide)
  refine ⟨by rw [hvv];rfl,tln g o F'.length c,heap_setCell_same _ _ _ _ _ _ h,⟨_,c-1,rfl,by show F'.length<=c-1;omega,by omega,fun hc=>?_⟩,fun k e=>e,fun k hk=>heap_setCell_other _ _ _ _ hk,(Below.refl _ _).setCell (p:=⟨nt,1,none⟩) hB _⟩;refine ⟨g,o+1,cs,by rw [if_neg (by omega)],hgB,(heap_setCell_other _ _ _ _ hgn).trans h4,by omega,fun j z' hj=>?_⟩;rw [show o+1+j=o+(j+1) by omega];exact h6 (j+1) z' hj
structure NsF (B:Nat) (w w':World):Prop where
 bel:Below B w w'
 stay:∀ (k:Nat) (cs:Array Value) (t:TypeId) (fz:Nat×Nat),w.heap[k]?=some (Obj.cells cs t fz)->NT t->t≠183->t≠130->(t≠115/\t≠135)->(t≠45/\t≠70)->w'.heap[k]?=some (Obj.cells cs t fz)
theorem NsF.trans {a b c:World} (h:NsF B a b) (k:NsF B b c):NsF B a c:=⟨h.1.trans k.1,fun i cs t fz e n1 n2 n3 n4 n5=>k.2 i cs t fz (h.2 i cs t fz e n1 n2 n3 n4 n5) n1 n2 n3 n4 n5⟩
theorem NsF.of (h:Below w.heap.size w w') (hB:B<=w.heap.size):NsF B w w':=⟨h.mono hB,fun i cs t fz e _ _ _ _ _=>(h.block i (lO e)).trans e⟩
theorem NsF.nd (h:NdK w w') (hb:Below B w w'):NsF B w w':=⟨hb,fun i cs t fz e n1 n2 n3 n4 _=>h i cs t fz e n1 n2 n3 n4⟩
theorem NsF.ft (h:NsF B w w'):FT B w w':=⟨h.1,fun k cs fz e=>h.2 k cs _ fz e (by decide) (by decide) (by decide) (by decide) (by decide)⟩
structure NSw (B N M nt gh:Nat) (P:Nat->NdP) (A:Nat->NdS) (wv:Value) (F:List Int) (l:List LR) (W w:World):Prop where
 m:MND B N M P A (fun k=>wv.ownBlock=some k) W w
 f:WV B w wv F
 n:∃ lv,NTM w nt gh M wv lv/\LTV B w lv l
 h:∃ hc,w.heap[gh]?=some (.cells hc 51 (0,0))/\∀ j,j<M->hc[j*2+1]?=some (.pointer (some ⟨(P j).nd,0,none⟩))
 b:B<=nt
 bw:B<=w.heap.size
theorem LTV.keep {l:List LR} (h:LTV B w lv l) (hk:∀ (k:Nat) (cs:Array Value),w.heap[k]?=some (Obj.cells cs 70 (0,0))->w'.heap[k]?=some (Obj.cells cs 70 (0,0))) (hf:FT B w w'):LTV B w' lv l:=by
 obtain ⟨vs,q1,q2,q3⟩:=h;refine ⟨vs,q1,aAl q2 fun k cs _ e=>hk k cs e,fun i x v e1 e2=>?_⟩;obtain ⟨a,c,e3,e4⟩:=q3 i x v e1 e2;exact ⟨a,c,e3,e4.ft hf⟩
theorem LTV.nil (B:Nat) (w:World):LTV B w (.slice none 0 0) []:=⟨[],rfl,World.ownsRow_nil w _ _ _,fun i x v e _=>by simp at e⟩
theorem MND.El (h:MND B N M P A E W w):∀ k,E k->FBk w k:=by
 obtain ⟨F,⟨_,hE⟩,_⟩:=h;exact fun k hk=>(hE k hk).1
section
variable {B N M nt gh:Nat} {P:Nat->NdP} {A:Nat->NdS} {wv:Value} {F:List Int} {l:List LR} {W w w':World}
theorem NSw.later (h:NSw B N M nt gh P A wv F l W w) (hb:Below w.heap.size w w'):NSw B N M nt gh P A wv F l W w':=by
 obtain ⟨lv,h1,h2⟩:=h.n;obtain ⟨hc,h3,h4⟩:=h.h;have blk:∀ {k:Nat} {o:Obj},w.heap[k]?=some o->w'.heap[k]?=some o:=fun e=>(hb.block _ (lO e)).trans e
 exact ⟨h.m.later hb h.bw,h.f.same fun k hk=>hb.block k (h.m.El k hk).lt,⟨lv,h1.later hb,h2.keep (fun k cs e=>blk e) ⟨hb.mono h.bw,fun k cs fz e=>blk e⟩⟩,⟨hc,blk h3,h4⟩,h.b,nT h.bw hb.size⟩
theorem NSw.fate (h:NSw B N M nt gh P A wv F l W w) :
  Calls prog 10 #[.pointer (some ⟨nt,0,none⟩)] w fun e w'=>e=.returned (.int .i64 (fv F))/\∃ wv',NSw B N M nt gh P A wv' F.tail l W w'/\NsF B w w'/\∀ k,k≠nt->w'.heap[k]?=w.heap[k]?:=by
 obtain ⟨lv,h1,h2⟩:=h.n;obtain ⟨hc,h3,h4⟩:=h.h;refine (fate_any h1 h.f h.b).mono ?_;rintro e w' ⟨rfl,wv',k1,k2,k3,k4,k5⟩;have ne:∀ {k:Nat} {cs:Array Value} {t:TypeId} {fz:Nat×Nat},w.heap[k]?=some (Obj.cells cs t fz)->t≠45->k≠nt:=by
  intro k cs t fz e ht e3;subst e3;have h9:w.heap[k]?=_:=h1;rw [h9] at e;simp only [oI,cI] at e;exact ht e.2.1.symm
 have st:∀ {k:Nat} {cs:Array Value} {t:TypeId} {fz:Nat×Nat},w.heap[k]?=some (Obj.cells cs t fz)->t≠45->w'.heap[k]?=some (Obj.cells cs t fz):=fun e ht=>(k4 _ (ne e ht)).trans e
 have hf:FT B w w':=⟨k5,fun k cs fz e=>st e (by decide)⟩
 have hm:=h.m.oth (fun k=>k=nt) (fun k hk=>by
  subst hk
  exact ⟨_,_,_,h1,by unfold DTy;decide,by decide,by decide,by decide,by decide,by decide⟩) (fun k _ hk=>k4 k hk) k5
 exact ⟨rfl,wv',⟨hm.less k3,k2,⟨lv,k1,h2.keep (fun k cs e=>st e (by decide)) hf⟩,⟨hc,st h3 (by decide),h4⟩,h.b,nT h.bw k5.size⟩,⟨k5,fun k cs t fz e _ _ _ _ n5=>st e n5.1⟩,k4⟩
end
section
variable {B N M nt gh:Nat} {P:Nat->NdP} {A A':Nat->NdS} {wv:Value} {F:List Int} {l:List LR} {W w w':World}
theorem NSw.did (h:NSw B N M nt gh P A wv F l W w) (hM:MND B N M P A' (fun k=>wv.ownBlock=some k) W w') (hN:NdK w w') (hb:Below B w w') (hE:∀ k,wv.ownBlock=some k->w'.heap[k]?=w.heap[k]?):NSw B N M nt gh P A' wv F l W w':=by
 obtain ⟨lv,h1,h2⟩:=h.n;obtain ⟨hc,h3,h4⟩:=h.h;exact ⟨hM,h.f.same hE,⟨lv,hN nt _ _ _ h1 (by decide) (by decide) (by decide) (by decide),h2.keep (fun k cs e=>hN k cs _ _ e (by decide) (by decide) (by decide) (by decide)) ⟨hb,fun k cs fz e=>hN k cs _ fz e (by decide) (by decide) (by decide) (by decide)⟩⟩,⟨hc,hN gh _ _ _ h3 (by decide) (by decide) (by decide) (by decide),h4⟩,h.b,nT h.bw hb.size⟩
theorem NdK.one6 {w:World} {a0 a1 a2 a3 a4 a5:Value} (hg:w.heap[g]?=some (.cells #[a0,a1,a2,a3,a4,a5] 75 (0,0))) {k:Nat} {cs:Array Value} {t:TypeId} {fz:Nat×Nat} (e:w.heap[k]?=some (Obj.cells cs t fz)) (ht:t≠75):((((((w.setCell ⟨g,0,none⟩ b0).setCell ⟨g,1,none⟩ b1).setCell ⟨g,2,none⟩ b2).setCell ⟨g,3,none⟩ b3).setCell ⟨g,4,none⟩ b4).setCell ⟨g,5,none⟩ b5).heap[k]?=some (Obj.cells cs t fz):=by
 refine (oth6 ?_).trans e;intro e3;subst e3;rw [hg] at e;simp only [oI,cI] at e;exact ht e.2.1.symm
theorem NSw.wr6 (h:NSw B N M nt gh P A wv F l W w) {g:Nat} {a0 a1 a2 a3 a4 a5 b0 b1 b2 b3 b4 b5:Value} (hg:w.heap[g]?=some (.cells #[a0,a1,a2,a3,a4,a5] 75 (0,0))) (hB:B<=g):NSw B N M nt gh P A wv F l W ((((((w.setCell ⟨g,0,none⟩ b0).setCell ⟨g,1,none⟩ b1).setCell ⟨g,2,none⟩ b2).setCell ⟨g,3,none⟩ b3).setCell ⟨g,4,none⟩ b4).setCell ⟨g,5,none⟩ b5):=by
 obtain ⟨lv,h1,h2⟩:=h.n;obtain ⟨hc,h3,h4⟩:=h.h;have hb:Below B w ((((((w.setCell ⟨g,0,none⟩ b0).setCell ⟨g,1,none⟩ b1).setCell ⟨g,2,none⟩ b2).setCell ⟨g,3,none⟩ b3).setCell ⟨g,4,none⟩ b4).setCell ⟨g,5,none⟩ b5):=bel6 (Below.refl _ _) hB;exact ⟨h.m.wr6 hg hB,h.f.same fun k hk=>oth6 ((h.m.El k hk).ne hg (by unfold DTy;decide)),⟨lv,NdK.one6 hg h1 (by decide),h2.keep (fun k cs e=>NdK.one6 hg e (by decide)) ⟨hb,fun k cs fz e=>NdK.one6 hg e (by decide)⟩⟩,⟨hc,NdK.one6 hg h3 (by decide),h4⟩,h.b,nT h.bw hb.size⟩
theorem NSw.delay (h:NSw B N M nt gh P A wv F l W w) {n cp td:Nat} {k lg at_:Int} {va:Option Addr} {val:List Nat} (hl6:l.length<64) (hv:BS w va n cp val) (hn:n<=100000) :
  Calls prog 64 #[.pointer (some ⟨nt,0,none⟩),.int .i64 (td:Int),.agg #[.int .i64 k,.int .i64 lg,.int .i64 at_,.slice va n cp]] w fun e w'=>e=.returned (.tuple #[])/\NSw B N M nt gh P A wv F (l++[⟨td,k,lg,at_,val⟩]) W w'/\NsF B w w':=by
 obtain ⟨lv,h1,h2⟩:=h.n;obtain ⟨hc,h3,h4⟩:=h.h;refine (delay_ok (td:=td) h1 h.b h.bw h2 hl6 hv hn).mono ?_;rintro e w' ⟨rfl,lv',k1,k2,k3,k4⟩;obtain ⟨vs,q1,q2,q3⟩:=h2;have own:∀ {k:Nat} {cs:Array Value} {t:TypeId} {fz:Nat×Nat},w.heap[k]?=some (Obj.cells cs t fz)->t≠45->t≠70->w'.heap[k]?=some (Obj.cells cs t fz):=by
  intro k cs t fz e n1 n2;refine (k4 k (lO e) (fun e3=>?_) (fun e3=>?_)).trans e
  ·subst e3;have h9:w.heap[k]?=_:=h1;rw [h9] at e;simp only [oI,cI] at e;exact n1 e.2.1.symm
  ·obtain ⟨_,cur,h9⟩:=aAm q2 e3;rw [h9] at e;simp only [oI,cI] at e;exact n2 e.2.1.symm
 have hm:=h.m.oth (fun k=>k=nt\/lv.ownBlock=some k) (fun k hk=>by
  rcases hk with rfl | hk
  ·exact ⟨_,_,_,h1,by unfold DTy;decide,by decide,by decide,by decide,by decide,by decide⟩
  ·obtain ⟨_,cur,h9⟩:=aAm q2 hk
   exact ⟨_,_,_,h9,by unfold DTy;decide,by decide,by decide,by decide,by decide,by decide⟩) (fun k h5 h6=>k4 k h5 (fun e=>h6 (Or.inl e)) (fun e=>h6 (Or.inr e))) k3
 refine ⟨rfl,⟨hm,h.f.same fun k hk=>?_,⟨lv',k1,k2⟩,⟨hc,own h3 (by decide) (by decide),h4⟩,h.b,nT h.bw k3.size⟩,k3,fun k cs t fz e _ _ _ _ n5=>own e n5.1 n5.2⟩;obtain ⟨cs,t,e,ht⟩:=h.m.El k hk;rw [e];refine own e (fun q=>?_) (fun q=>?_)<;>(rw [q] at ht;exact absurd ht (by unfold DTy;decide))
theorem NsF.wr6 (h:NsF B w0 w) {g:Nat} {b0 b1 b2 b3 b4 b5:Value} (hn:w0.heap.size<=g) (hB:B<=g):NsF B w0 ((((((w.setCell ⟨g,0,none⟩ b0).setCell ⟨g,1,none⟩ b1).setCell ⟨g,2,none⟩ b2).setCell ⟨g,3,none⟩ b3).setCell ⟨g,4,none⟩ b4).setCell ⟨g,5,none⟩ b5):=⟨bel6 h.1 hB,fun k cs t fz e n1 n2 n3 n4 n5=>(oth6 (by have:=(lO e);omega)).trans (h.2 k cs t fz e n1 n2 n3 n4 n5)⟩
end
theorem NSw.call0 {n:Nat} {l:List LR} {k lg at_:Int} {vn1:Nat} {e1 tl1 tr1 bl1:Int} {sl1:Bool} {val1:List Nat} {x:NdS} (h:NSw B N M nt gh P A wv F l W w) (hM:i<M) (hM6:M<=64) (hf:fv F=0) (he1:¬ e1=20) (hdo:∀ ww,FT B w ww->DoT B N (P i) W k lg at_ va n cp (A i) x e1 tl1 sl1 tr1 bl1 vn1 val1 ww) :
  Calls prog 48 #[.pointer (some ⟨nt,0,none⟩),.int .i64 (i:Int),.agg #[.int .i64 k,.int .i64 lg,.int .i64 at_,.slice va n cp]] w fun e w'=>(∃ sa1 sc1,e=.returned (.tuple #[.agg #[.int .i64 e1,.int .i64 tl1,.bool sl1,.int .i64 tr1,.int .i64 bl1,.slice sa1 vn1 sc1],.bool true])/\BK B w' sa1 vn1 sc1 val1)/\∃ wv',NSw B N M nt gh P (upS A i x) wv' F.tail l W w'/\NsF B w w':=by
 have HBX:=zH (aBc w (.cells #[.int .i64 k,.int .i64 lg,.int .i64 at_,.slice va n cp] 68) (.cells #[.int .i64 0,.int .i64 0,.bool false,.int .i64 0,.int .i64 0,.slice none 0 0] 75));have HR2:Hid (((w.alloc (.cells #[.int .i64 k,.int .i64 lg,.int .i64 at_,.slice va n cp] 68)).alloc (.cells #[.int .i64 0,.int .i64 0,.bool false,.int .i64 0,.int .i64 0,.slice none 0 0] 75)).heap[w.heap.size]?=some (.cells #[.int .i64 k,.int .i64 lg,.int .i64 at_,.slice va n cp] 68 (0,0))):=aAf [Obj.cells #[.int .i64 k,.int .i64 lg,.int .i64 at_,.slice va n cp] 68,Obj.cells #[.int .i64 0,.int .i64 0,.bool false,.int .i64 0,.int .i64 0,.slice none 0 0] 75] w 0 _ rfl;have HA2:Hid (((w.alloc (.cells #[.int .i64 k,.int .i64 lg,.int .i64 at_,.slice va n cp] 68)).alloc (.cells #[.int .i64 0,.int .i64 0,.bool false,.int .i64 0,.int .i64 0,.slice none 0 0] 75)).heap[w.heap.size+1]?=some (.cells #[.int .i64 0,.int .i64 0,.bool false,.int .i64 0,.int .i64 0,.slice none 0 0] 75 (0,0))):=aAf [Obj.cells #[.int .i64 k,.int .i64 lg,.int .i64 at_,.slice va n cp] 68,Obj.cells #[.int .i64 0,.int .i64 0,.bool false,.int .i64 0,.int .i64 0,.slice none 0 0] 75] w 1 _ rfl;have HS2:=zH (h.later HBX.o);have HBW:=zH h.bw;have HX:=zH hM;have hfa:=HS2.o.fate;rw [hf] at hfa;have HFT:=zH hfa;have HNT:Hid (nt<w.heap.size):=by
  obtain ⟨lv,h1,_⟩:=h.n;exact lO h1
 obtain ⟨lv,hn,_⟩:=HS2.o.n;have HHS:=zH (aFx hn hM);have c0:((w.alloc (.cells #[.int .i64 k,.int .i64 lg,.int .i64 at_,.slice va n cp] 68)).alloc (.cells #[.int .i64 0,.int .i64 0,.bool false,.int .i64 0,.int .i64 0,.slice none 0 0] 75)).cell? ⟨nt,0,none⟩=some (.slice (some ⟨gh,0,none⟩) M M):=aAa hn;have xx:(i:Int)<(M:Int):=by omega
 have xx0:(0:Int)<=(i:Int):=by omega
 have xx1:¬ (i:Int)<0:=by omega
 have HE1:=zH he1;have HDO:=zH hdo;clear he1 hdo;clear h hf hfa hn hM;go_enter func48,ntmps48;go_wp2_with fail;refine HHS.o.mono ?_;rintro e w2' ⟨rfl,rfl⟩;generalize ((w.alloc (.cells #[.int .i64 k,.int .i64 lg,.int .i64 at_,.slice va n cp] 68)).alloc (.cells #[.int .i64 0,.int .i64 0,.bool false,.int .i64 0,.int .i64 0,.slice none 0 0] 75))=w2 at *
 generalize hn0:w.heap.size=n0 at *
 generalize hn1:n0+1=n1 at *
 have HN1:Hid (n0<n1):=by show n0<n1;omega
 go_wp2_with fail;refine HFT.o.mono ?_;rintro e w3 ⟨rfl,wv',h3,hf3,hk3⟩;have HR3:Hid (w3.heap[n0]?=_):=(hk3 n0 (by have:=HNT.o;omega)).trans HR2.o;have HA3:Hid (w3.heap[n1]?=_):=(hk3 n1 (by have:=HNT.o;have:=HN1.o;omega)).trans HA2.o;have HS3:=zH h3;have HF3:Hid (NsF B w w3):=(NsF.of (w':=w2) (by rw [hn0];exact HBX.o) (by rw [hn0];exact HBW.o)).trans hf3;have HBC:Hid (B<=n1):=by show B<=n1;have:=HBW.o;have:=HN1.o;omega
 have HNW:Hid (n0<=n1):=by show n0<=n1;have:=HN1.o;omega
 clear h3 hf3 hk3 HFT HHS c0
 have HD4:=zH (by
  obtain ⟨hc,g1,g2⟩:=HS3.o.h
  exact aFv (w:=w3) HS3.o.m HS3.o.bw HX.o g1 (g2 i HX.o) HE1.o (fun k hk=>(HS3.o.m.El k hk).lt) (fun ww hw=>HDO.o ww (HF3.o.trans (NsF.of hw HS3.o.bw)).ft))
 have r40:w3.cell? ⟨n0,0,none⟩=some (.int .i64 k):=aAa HR3.o;have r41:w3.cell? ⟨n0,1,none⟩=some (.int .i64 lg):=aAa HR3.o;have r42:w3.cell? ⟨n0,2,none⟩=some (.int .i64 at_):=aAa HR3.o;have r43:w3.cell? ⟨n0,3,none⟩=some (.slice va n cp):=aAa HR3.o;go_wp2_with fail;refine HD4.o.mono ?_;rintro e w4 ⟨⟨sa1,sc1,rfl,hk4⟩,hM4,hN4,hb4,hE4⟩;have HS4:=zH (HS3.o.did hM4 hN4 hb4 hE4);have HF4:=zH (HF3.o.trans (NsF.nd hN4 hb4));have HR4:Hid (w4.heap[n0]?=_):=hN4 n0 _ _ _ HR3.o (by decide) (by decide) (by decide) (by decide);have HA4:Hid (w4.heap[n1]?=_):=hN4 n1 _ _ _ HA3.o (by decide) (by decide) (by decide) (by decide);have HK4:=zH hk4;clear hk4 hM4 hN4 hb4 hE4 HD4 r40 r41 r42 r43;have z0:w4.cell? ⟨n1,0,none⟩=some (.int .i64 0):=aAa HA4.o;have zf0:w4.frozen? ⟨n1,0,none⟩=false:=aAb HA4.o;have z1:w4.cell? ⟨n1,1,none⟩=some (.int .i64 0):=aAa HA4.o;have zf1:w4.frozen? ⟨n1,1,none⟩=false:=aAb HA4.o;have z2:w4.cell? ⟨n1,2,none⟩=some (.bool false):=aAa HA4.o;have zf2:w4.frozen? ⟨n1,2,none⟩=false:=aAb HA4.o;have z3:w4.cell? ⟨n1,3,none⟩=some (.int .i64 0):=aAa HA4.o;have zf3:w4.frozen? ⟨n1,3,none⟩=false:=aAb HA4.o;have z4:w4.cell? ⟨n1,4,none⟩=some (.int .i64 0):=aAa HA4.o;have zf4:w4.frozen? ⟨n1,4,none⟩=false:=aAb HA4.o;have z5:w4.cell? ⟨n1,5,none⟩=some (.slice none 0 0):=aAa HA4.o;have zf5:w4.frozen? ⟨n1,5,none⟩=false:=aAb HA4.o;go_wp2;(try simp only [Exit.inBlock,Exit.then]);refine bodyPost_ret (aBn rfl _ _ n1 _ rfl (set6 HA4.o) rfl) rfl ?_;exact ⟨⟨sa1,sc1,rfl,HK4.o.ft (ft6 HA4.o (by decide) HBC.o)⟩,wv',HS4.o.wr6 HA4.o HBC.o,HF4.o.wr6 (by rw [hn0];exact HNW.o) HBC.o⟩
theorem NSw.call1 {n:Nat} {l:List LR} {k lg at_:Int}  (h:NSw B N M nt gh P A wv F l W w) (hM:i<M) (hM6:M<=64) (hf:fv F=1)  :
  Calls prog 48 #[.pointer (some ⟨nt,0,none⟩),.int .i64 (i:Int),.agg #[.int .i64 k,.int .i64 lg,.int .i64 at_,.slice va n cp]] w fun e w'=>e=.returned (.tuple #[.agg #[.int .i64 0,.int .i64 0,.bool false,.int .i64 0,.int .i64 0,.slice none 0 0],.bool false])/\∃ wv',NSw B N M nt gh P A wv' F.tail l W w'/\NsF B w w':=by
 have HBX:=zH (aBc w (.cells #[.int .i64 k,.int .i64 lg,.int .i64 at_,.slice va n cp] 68) (.cells #[.int .i64 0,.int .i64 0,.bool false,.int .i64 0,.int .i64 0,.slice none 0 0] 75));have HR2:Hid (((w.alloc (.cells #[.int .i64 k,.int .i64 lg,.int .i64 at_,.slice va n cp] 68)).alloc (.cells #[.int .i64 0,.int .i64 0,.bool false,.int .i64 0,.int .i64 0,.slice none 0 0] 75)).heap[w.heap.size]?=some (.cells #[.int .i64 k,.int .i64 lg,.int .i64 at_,.slice va n cp] 68 (0,0))):=aAf [Obj.cells #[.int .i64 k,.int .i64 lg,.int .i64 at_,.slice va n cp] 68,Obj.cells #[.int .i64 0,.int .i64 0,.bool false,.int .i64 0,.int .i64 0,.slice none 0 0] 75] w 0 _ rfl;have HA2:Hid (((w.alloc (.cells #[.int .i64 k,.int .i64 lg,.int .i64 at_,.slice va n cp] 68)).alloc (.cells #[.int .i64 0,.int .i64 0,.bool false,.int .i64 0,.int .i64 0,.slice none 0 0] 75)).heap[w.heap.size+1]?=some (.cells #[.int .i64 0,.int .i64 0,.bool false,.int .i64 0,.int .i64 0,.slice none 0 0] 75 (0,0))):=aAf [Obj.cells #[.int .i64 k,.int .i64 lg,.int .i64 at_,.slice va n cp] 68,Obj.cells #[.int .i64 0,.int .i64 0,.bool false,.int .i64 0,.int .i64 0,.slice none 0 0] 75] w 1 _ rfl;have HS2:=zH (h.later HBX.o);have HBW:=zH h.bw;have HX:=zH hM;have hfa:=HS2.o.fate;rw [hf] at hfa;have HFT:=zH hfa;have HNT:Hid (nt<w.heap.size):=by
  obtain ⟨lv,h1,_⟩:=h.n;exact lO h1
 obtain ⟨lv,hn,_⟩:=HS2.o.n;have HHS:=zH (aFx hn hM);have c0:((w.alloc (.cells #[.int .i64 k,.int .i64 lg,.int .i64 at_,.slice va n cp] 68)).alloc (.cells #[.int .i64 0,.int .i64 0,.bool false,.int .i64 0,.int .i64 0,.slice none 0 0] 75)).cell? ⟨nt,0,none⟩=some (.slice (some ⟨gh,0,none⟩) M M):=aAa hn;have xx:(i:Int)<(M:Int):=by omega
 have xx0:(0:Int)<=(i:Int):=by omega
 have xx1:¬ (i:Int)<0:=by omega
 clear h hf hfa hn hM;go_enter func48,ntmps48;go_wp2_with fail;refine HHS.o.mono ?_;rintro e w2' ⟨rfl,rfl⟩;generalize ((w.alloc (.cells #[.int .i64 k,.int .i64 lg,.int .i64 at_,.slice va n cp] 68)).alloc (.cells #[.int .i64 0,.int .i64 0,.bool false,.int .i64 0,.int .i64 0,.slice none 0 0] 75))=w2 at *
 generalize hn0:w.heap.size=n0 at *
 generalize hn1:n0+1=n1 at *
 have HN1:Hid (n0<n1):=by show n0<n1;omega
 go_wp2_with fail;refine HFT.o.mono ?_;rintro e w3 ⟨rfl,wv',h3,hf3,hk3⟩;have HR3:Hid (w3.heap[n0]?=_):=(hk3 n0 (by have:=HNT.o;omega)).trans HR2.o;have HA3:Hid (w3.heap[n1]?=_):=(hk3 n1 (by have:=HNT.o;have:=HN1.o;omega)).trans HA2.o;have HS3:=zH h3;have HF3:Hid (NsF B w w3):=(NsF.of (w':=w2) (by rw [hn0];exact HBX.o) (by rw [hn0];exact HBW.o)).trans hf3;have HBC:Hid (B<=n1):=by show B<=n1;have:=HBW.o;have:=HN1.o;omega
 have HNW:Hid (n0<=n1):=by show n0<=n1;have:=HN1.o;omega
 clear h3 hf3 hk3 HFT HHS c0;have z0:w3.cell? ⟨n1,0,none⟩=some (.int .i64 0):=aAa HA3.o;have zf0:w3.frozen? ⟨n1,0,none⟩=false:=aAb HA3.o;have z1:w3.cell? ⟨n1,1,none⟩=some (.int .i64 0):=aAa HA3.o;have zf1:w3.frozen? ⟨n1,1,none⟩=false:=aAb HA3.o;have z2:w3.cell? ⟨n1,2,none⟩=some (.bool false):=aAa HA3.o;have zf2:w3.frozen? ⟨n1,2,none⟩=false:=aAb HA3.o;have z3:w3.cell? ⟨n1,3,none⟩=some (.int .i64 0):=aAa HA3.o;have zf3:w3.frozen? ⟨n1,3,none⟩=false:=aAb HA3.o;have z4:w3.cell? ⟨n1,4,none⟩=some (.int .i64 0):=aAa HA3.o;have zf4:w3.frozen? ⟨n1,4,none⟩=false:=aAb HA3.o;have z5:w3.cell? ⟨n1,5,none⟩=some (.slice none 0 0):=aAa HA3.o;have zf5:w3.frozen? ⟨n1,5,none⟩=false:=aAb HA3.o;go_wp2;(try simp only [Exit.inBlock,Exit.then]);refine bodyPost_ret (aBn rfl _ _ n1 _ rfl (set6 HA3.o) rfl) rfl ?_;exact ⟨rfl,wv',HS3.o.wr6 HA3.o HBC.o,HF3.o.wr6 (by rw [hn0];exact HNW.o) HBC.o⟩
theorem NSw.call2 {n:Nat} {l:List LR} {k lg at_:Int} {vn1:Nat} {e1 tl1 tr1 bl1:Int} {sl1:Bool} {val1:List Nat} {x:NdS} (h:NSw B N M nt gh P A wv F l W w) (hM:i<M) (hM6:M<=64) (hf:fv F=2) (he1:¬ e1=20) (hdo:∀ ww,FT B w ww->DoT B N (P i) W k lg at_ va n cp (A i) x e1 tl1 sl1 tr1 bl1 vn1 val1 ww) :
  Calls prog 48 #[.pointer (some ⟨nt,0,none⟩),.int .i64 (i:Int),.agg #[.int .i64 k,.int .i64 lg,.int .i64 at_,.slice va n cp]] w fun e w'=>e=.returned (.tuple #[.agg #[.int .i64 0,.int .i64 0,.bool false,.int .i64 0,.int .i64 0,.slice none 0 0],.bool false])/\∃ wv',NSw B N M nt gh P (upS A i x) wv' F.tail l W w'/\NsF B w w':=by
 have HBX:=zH (aBc w (.cells #[.int .i64 k,.int .i64 lg,.int .i64 at_,.slice va n cp] 68) (.cells #[.int .i64 0,.int .i64 0,.bool false,.int .i64 0,.int .i64 0,.slice none 0 0] 75));have HR2:Hid (((w.alloc (.cells #[.int .i64 k,.int .i64 lg,.int .i64 at_,.slice va n cp] 68)).alloc (.cells #[.int .i64 0,.int .i64 0,.bool false,.int .i64 0,.int .i64 0,.slice none 0 0] 75)).heap[w.heap.size]?=some (.cells #[.int .i64 k,.int .i64 lg,.int .i64 at_,.slice va n cp] 68 (0,0))):=aAf [Obj.cells #[.int .i64 k,.int .i64 lg,.int .i64 at_,.slice va n cp] 68,Obj.cells #[.int .i64 0,.int .i64 0,.bool false,.int .i64 0,.int .i64 0,.slice none 0 0] 75] w 0 _ rfl;have HA2:Hid (((w.alloc (.cells #[.int .i64 k,.int .i64 lg,.int .i64 at_,.slice va n cp] 68)).alloc (.cells #[.int .i64 0,.int .i64 0,.bool false,.int .i64 0,.int .i64 0,.slice none 0 0] 75)).heap[w.heap.size+1]?=some (.cells #[.int .i64 0,.int .i64 0,.bool false,.int .i64 0,.int .i64 0,.slice none 0 0] 75 (0,0))):=aAf [Obj.cells #[.int .i64 k,.int .i64 lg,.int .i64 at_,.slice va n cp] 68,Obj.cells #[.int .i64 0,.int .i64 0,.bool false,.int .i64 0,.int .i64 0,.slice none 0 0] 75] w 1 _ rfl;have HS2:=zH (h.later HBX.o);have HBW:=zH h.bw;have HX:=zH hM;have hfa:=HS2.o.fate;rw [hf] at hfa;have HFT:=zH hfa;have HNT:Hid (nt<w.heap.size):=by
  obtain ⟨lv,h1,_⟩:=h.n;exact lO h1
 obtain ⟨lv,hn,_⟩:=HS2.o.n;have HHS:=zH (aFx hn hM);have c0:((w.alloc (.cells #[.int .i64 k,.int .i64 lg,.int .i64 at_,.slice va n cp] 68)).alloc (.cells #[.int .i64 0,.int .i64 0,.bool false,.int .i64 0,.int .i64 0,.slice none 0 0] 75)).cell? ⟨nt,0,none⟩=some (.slice (some ⟨gh,0,none⟩) M M):=aAa hn;have xx:(i:Int)<(M:Int):=by omega
 have xx0:(0:Int)<=(i:Int):=by omega
 have xx1:¬ (i:Int)<0:=by omega
 have HE1:=zH he1;have HDO:=zH hdo;clear he1 hdo;clear h hf hfa hn hM;go_enter func48,ntmps48;go_wp2_with fail;refine HHS.o.mono ?_;rintro e w2' ⟨rfl,rfl⟩;generalize ((w.alloc (.cells #[.int .i64 k,.int .i64 lg,.int .i64 at_,.slice va n cp] 68)).alloc (.cells #[.int .i64 0,.int .i64 0,.bool false,.int .i64 0,.int .i64 0,.slice none 0 0] 75))=w2 at *
 generalize hn0:w.heap.size=n0 at *
 generalize hn1:n0+1=n1 at *
 have HN1:Hid (n0<n1):=by show n0<n1;omega
 go_wp2_with fail;refine HFT.o.mono ?_;rintro e w3 ⟨rfl,wv',h3,hf3,hk3⟩;have HR3:Hid (w3.heap[n0]?=_):=(hk3 n0 (by have:=HNT.o;omega)).trans HR2.o;have HA3:Hid (w3.heap[n1]?=_):=(hk3 n1 (by have:=HNT.o;have:=HN1.o;omega)).trans HA2.o;have HS3:=zH h3;have HF3:Hid (NsF B w w3):=(NsF.of (w':=w2) (by rw [hn0];exact HBX.o) (by rw [hn0];exact HBW.o)).trans hf3;have HBC:Hid (B<=n1):=by show B<=n1;have:=HBW.o;have:=HN1.o;omega
 have HNW:Hid (n0<=n1):=by show n0<=n1;have:=HN1.o;omega
 clear h3 hf3 hk3 HFT HHS c0
 have HD4:=zH (by
  obtain ⟨hc,g1,g2⟩:=HS3.o.h
  exact aFv (w:=w3) HS3.o.m HS3.o.bw HX.o g1 (g2 i HX.o) HE1.o (fun k hk=>(HS3.o.m.El k hk).lt) (fun ww hw=>HDO.o ww (HF3.o.trans (NsF.of hw HS3.o.bw)).ft))
 have r40:w3.cell? ⟨n0,0,none⟩=some (.int .i64 k):=aAa HR3.o;have r41:w3.cell? ⟨n0,1,none⟩=some (.int .i64 lg):=aAa HR3.o;have r42:w3.cell? ⟨n0,2,none⟩=some (.int .i64 at_):=aAa HR3.o;have r43:w3.cell? ⟨n0,3,none⟩=some (.slice va n cp):=aAa HR3.o;go_wp2_with fail;refine HD4.o.mono ?_;rintro e w4 ⟨⟨sa1,sc1,rfl,hk4⟩,hM4,hN4,hb4,hE4⟩;have HS4:=zH (HS3.o.did hM4 hN4 hb4 hE4);have HF4:=zH (HF3.o.trans (NsF.nd hN4 hb4));have HR4:Hid (w4.heap[n0]?=_):=hN4 n0 _ _ _ HR3.o (by decide) (by decide) (by decide) (by decide);have HA4:Hid (w4.heap[n1]?=_):=hN4 n1 _ _ _ HA3.o (by decide) (by decide) (by decide) (by decide);have HK4:=zH hk4;clear hk4 hM4 hN4 hb4 hE4 HD4 r40 r41 r42 r43;have z0:w4.cell? ⟨n1,0,none⟩=some (.int .i64 0):=aAa HA4.o;have zf0:w4.frozen? ⟨n1,0,none⟩=false:=aAb HA4.o;have z1:w4.cell? ⟨n1,1,none⟩=some (.int .i64 0):=aAa HA4.o;have zf1:w4.frozen? ⟨n1,1,none⟩=false:=aAb HA4.o;have z2:w4.cell? ⟨n1,2,none⟩=some (.bool false):=aAa HA4.o;have zf2:w4.frozen? ⟨n1,2,none⟩=false:=aAb HA4.o;have z3:w4.cell? ⟨n1,3,none⟩=some (.int .i64 0):=aAa HA4.o;have zf3:w4.frozen? ⟨n1,3,none⟩=false:=aAb HA4.o;have z4:w4.cell? ⟨n1,4,none⟩=some (.int .i64 0):=aAa HA4.o;have zf4:w4.frozen? ⟨n1,4,none⟩=false:=aAb HA4.o;have z5:w4.cell? ⟨n1,5,none⟩=some (.slice none 0 0):=aAa HA4.o;have zf5:w4.frozen? ⟨n1,5,none⟩=false:=aAb HA4.o;go_wp2;(try simp only [Exit.inBlock,Exit.then]);refine bodyPost_ret (aBn rfl _ _ n1 _ rfl (set6 HA4.o) rfl) rfl ?_;exact ⟨rfl,wv',HS4.o.wr6 HA4.o HBC.o,HF4.o.wr6 (by rw [hn0];exact HNW.o) HBC.o⟩
theorem NSw.call4 {n:Nat} {l:List LR} {k lg at_:Int} {vn1:Nat} {e1 tl1 tr1 bl1:Int} {sl1:Bool} {val1:List Nat} {x:NdS} {vn2:Nat} {e2 tl2 tr2 bl2:Int} {sl2:Bool} {val2:List Nat} {y:NdS} (h:NSw B N M nt gh P A wv F l W w) (hM:i<M) (hM6:M<=64) (hf:fv F=4) (he1:¬ e1=20) (hdo:∀ ww,FT B w ww->DoT B N (P i) W k lg at_ va n cp (A i) x e1 tl1 sl1 tr1 bl1 vn1 val1 ww) (he2:¬ e2=20) (hdo2:∀ ww,FT B w ww->DoT B N (P i) W k lg at_ va n cp x y e2 tl2 sl2 tr2 bl2 vn2 val2 ww) :
  Calls prog 48 #[.pointer (some ⟨nt,0,none⟩),.int .i64 (i:Int),.agg #[.int .i64 k,.int .i64 lg,.int .i64 at_,.slice va n cp]] w fun e w'=>(∃ sa2 sc2,e=.returned (.tuple #[.agg #[.int .i64 e2,.int .i64 tl2,.bool sl2,.int .i64 tr2,.int .i64 bl2,.slice sa2 vn2 sc2],.bool true])/\BK B w' sa2 vn2 sc2 val2)/\∃ wv',NSw B N M nt gh P (upS (upS A i x) i y) wv' F.tail l W w'/\NsF B w w':=by
 have HBX:=zH (aBc w (.cells #[.int .i64 k,.int .i64 lg,.int .i64 at_,.slice va n cp] 68) (.cells #[.int .i64 0,.int .i64 0,.bool false,.int .i64 0,.int .i64 0,.slice none 0 0] 75));have HR2:Hid (((w.alloc (.cells #[.int .i64 k,.int .i64 lg,.int .i64 at_,.slice va n cp] 68)).alloc (.cells #[.int .i64 0,.int .i64 0,.bool false,.int .i64 0,.int .i64 0,.slice none 0 0] 75)).heap[w.heap.size]?=some (.cells #[.int .i64 k,.int .i64 lg,.int .i64 at_,.slice va n cp] 68 (0,0))):=aAf [Obj.cells #[.int .i64 k,.int .i64 lg,.int .i64 at_,.slice va n cp] 68,Obj.cells #[.int .i64 0,.int .i64 0,.bool false,.int .i64 0,.int .i64 0,.slice none 0 0] 75] w 0 _ rfl;have HA2:Hid (((w.alloc (.cells #[.int .i64 k,.int .i64 lg,.int .i64 at_,.slice va n cp] 68)).alloc (.cells #[.int .i64 0,.int .i64 0,.bool false,.int .i64 0,.int .i64 0,.slice none 0 0] 75)).heap[w.heap.size+1]?=some (.cells #[.int .i64 0,.int .i64 0,.bool false,.int .i64 0,.int .i64 0,.slice none 0 0] 75 (0,0))):=aAf [Obj.cells #[.int .i64 k,.int .i64 lg,.int .i64 at_,.slice va n cp] 68,Obj.cells #[.int .i64 0,.int .i64 0,.bool false,.int .i64 0,.int .i64 0,.slice none 0 0] 75] w 1 _ rfl;have HS2:=zH (h.later HBX.o);have HBW:=zH h.bw;have HX:=zH hM;have hfa:=HS2.o.fate;rw [hf] at hfa;have HFT:=zH hfa;have HNT:Hid (nt<w.heap.size):=by
  obtain ⟨lv,h1,_⟩:=h.n;exact lO h1
 obtain ⟨lv,hn,_⟩:=HS2.o.n;have HHS:=zH (aFx hn hM);have c0:((w.alloc (.cells #[.int .i64 k,.int .i64 lg,.int .i64 at_,.slice va n cp] 68)).alloc (.cells #[.int .i64 0,.int .i64 0,.bool false,.int .i64 0,.int .i64 0,.slice none 0 0] 75)).cell? ⟨nt,0,none⟩=some (.slice (some ⟨gh,0,none⟩) M M):=aAa hn;have xx:(i:Int)<(M:Int):=by omega
 have xx0:(0:Int)<=(i:Int):=by omega
 have xx1:¬ (i:Int)<0:=by omega
 have HE1:=zH he1;have HDO:=zH hdo;clear he1 hdo;have HE2:=zH he2
 have HD2O:=zH (fun ww hw=>by
  have h9:=hdo2 ww hw;rw [<-aB2 A i x] at h9
  exact h9)
 clear he2 hdo2;clear h hf hfa hn hM;go_enter func48,ntmps48;go_wp2_with fail;refine HHS.o.mono ?_;rintro e w2' ⟨rfl,rfl⟩;generalize ((w.alloc (.cells #[.int .i64 k,.int .i64 lg,.int .i64 at_,.slice va n cp] 68)).alloc (.cells #[.int .i64 0,.int .i64 0,.bool false,.int .i64 0,.int .i64 0,.slice none 0 0] 75))=w2 at *
 generalize hn0:w.heap.size=n0 at *
 generalize hn1:n0+1=n1 at *
 have HN1:Hid (n0<n1):=by show n0<n1;omega
 go_wp2_with fail;refine HFT.o.mono ?_;rintro e w3 ⟨rfl,wv',h3,hf3,hk3⟩;have HR3:Hid (w3.heap[n0]?=_):=(hk3 n0 (by have:=HNT.o;omega)).trans HR2.o;have HA3:Hid (w3.heap[n1]?=_):=(hk3 n1 (by have:=HNT.o;have:=HN1.o;omega)).trans HA2.o;have HS3:=zH h3;have HF3:Hid (NsF B w w3):=(NsF.of (w':=w2) (by rw [hn0];exact HBX.o) (by rw [hn0];exact HBW.o)).trans hf3;have HBC:Hid (B<=n1):=by show B<=n1;have:=HBW.o;have:=HN1.o;omega
 have HNW:Hid (n0<=n1):=by show n0<=n1;have:=HN1.o;omega
 clear h3 hf3 hk3 HFT HHS c0
 have HD4:=zH (by
  obtain ⟨hc,g1,g2⟩:=HS3.o.h
  exact aFv (w:=w3) HS3.o.m HS3.o.bw HX.o g1 (g2 i HX.o) HE1.o (fun k hk=>(HS3.o.m.El k hk).lt) (fun ww hw=>HDO.o ww (HF3.o.trans (NsF.of hw HS3.o.bw)).ft))
 have r40:w3.cell? ⟨n0,0,none⟩=some (.int .i64 k):=aAa HR3.o;have r41:w3.cell? ⟨n0,1,none⟩=some (.int .i64 lg):=aAa HR3.o;have r42:w3.cell? ⟨n0,2,none⟩=some (.int .i64 at_):=aAa HR3.o;have r43:w3.cell? ⟨n0,3,none⟩=some (.slice va n cp):=aAa HR3.o;go_wp2_with fail;refine HD4.o.mono ?_;rintro e w4 ⟨⟨sa1,sc1,rfl,hk4⟩,hM4,hN4,hb4,hE4⟩;have HS4:=zH (HS3.o.did hM4 hN4 hb4 hE4);have HF4:=zH (HF3.o.trans (NsF.nd hN4 hb4));have HR4:Hid (w4.heap[n0]?=_):=hN4 n0 _ _ _ HR3.o (by decide) (by decide) (by decide) (by decide);have HA4:Hid (w4.heap[n1]?=_):=hN4 n1 _ _ _ HA3.o (by decide) (by decide) (by decide) (by decide);have HK4:=zH hk4;clear hk4 hM4 hN4 hb4 hE4 HD4 r40 r41 r42 r43
 have HD5:=zH (by
  obtain ⟨hc,g1,g2⟩:=HS4.o.h
  exact aFv (w:=w4) HS4.o.m HS4.o.bw HX.o g1 (g2 i HX.o) HE2.o (fun k hk=>(HS4.o.m.El k hk).lt) (fun ww hw=>HD2O.o ww (HF4.o.trans (NsF.of hw HS4.o.bw)).ft))
 have r50:w4.cell? ⟨n0,0,none⟩=some (.int .i64 k):=aAa HR4.o;have r51:w4.cell? ⟨n0,1,none⟩=some (.int .i64 lg):=aAa HR4.o;have r52:w4.cell? ⟨n0,2,none⟩=some (.int .i64 at_):=aAa HR4.o;have r53:w4.cell? ⟨n0,3,none⟩=some (.slice va n cp):=aAa HR4.o;go_wp2_with fail;refine HD5.o.mono ?_;rintro e w5 ⟨⟨sa2,sc2,rfl,hk5⟩,hM5,hN5,hb5,hE5⟩;have HS5:=zH (HS4.o.did hM5 hN5 hb5 hE5);have HF5:=zH (HF4.o.trans (NsF.nd hN5 hb5));have HR5:Hid (w5.heap[n0]?=_):=hN5 n0 _ _ _ HR4.o (by decide) (by decide) (by decide) (by decide);have HA5:Hid (w5.heap[n1]?=_):=hN5 n1 _ _ _ HA4.o (by decide) (by decide) (by decide) (by decide);have HK5:=zH hk5;clear hk5 hM5 hN5 hb5 hE5 HD5 r50 r51 r52 r53;have z0:w5.cell? ⟨n1,0,none⟩=some (.int .i64 0):=aAa HA5.o;have zf0:w5.frozen? ⟨n1,0,none⟩=false:=aAb HA5.o;have z1:w5.cell? ⟨n1,1,none⟩=some (.int .i64 0):=aAa HA5.o;have zf1:w5.frozen? ⟨n1,1,none⟩=false:=aAb HA5.o;have z2:w5.cell? ⟨n1,2,none⟩=some (.bool false):=aAa HA5.o;have zf2:w5.frozen? ⟨n1,2,none⟩=false:=aAb HA5.o;have z3:w5.cell? ⟨n1,3,none⟩=some (.int .i64 0):=aAa HA5.o;have zf3:w5.frozen? ⟨n1,3,none⟩=false:=aAb HA5.o;have z4:w5.cell? ⟨n1,4,none⟩=some (.int .i64 0):=aAa HA5.o;have zf4:w5.frozen? ⟨n1,4,none⟩=false:=aAb HA5.o;have z5:w5.cell? ⟨n1,5,none⟩=some (.slice none 0 0):=aAa HA5.o;have zf5:w5.frozen? ⟨n1,5,none⟩=false:=aAb HA5.o;go_wp2;(try simp only [Exit.inBlock,Exit.then]);refine bodyPost_ret (aBn rfl _ _ n1 _ rfl (set6 HA5.o) rfl) rfl ?_;exact ⟨⟨sa2,sc2,rfl,HK5.o.ft (ft6 HA5.o (by decide) HBC.o)⟩,wv',HS5.o.wr6 HA5.o HBC.o,HF5.o.wr6 (by rw [hn0];exact HNW.o) HBC.o⟩
theorem NSw.call3 {n:Nat} {l:List LR} {k lg at_:Int} {val:List Nat} (h:NSw B N M nt gh P A wv F l W w) (hM:i<M) (hM6:M<=64) (hf:fv F=3) (hl6:l.length<64) (hv:∀ ww,FT B w ww->BS ww va n cp val) (hn1:n<=100000) :
  Calls prog 48 #[.pointer (some ⟨nt,0,none⟩),.int .i64 (i:Int),.agg #[.int .i64 k,.int .i64 lg,.int .i64 at_,.slice va n cp]] w fun e w'=>e=.returned (.tuple #[.agg #[.int .i64 0,.int .i64 0,.bool false,.int .i64 0,.int .i64 0,.slice none 0 0],.bool false])/\∃ wv',NSw B N M nt gh P A wv' F.tail (l++[⟨i,k,lg,at_,val⟩]) W w'/\NsF B w w':=by
 have HBX:=zH (aBc w (.cells #[.int .i64 k,.int .i64 lg,.int .i64 at_,.slice va n cp] 68) (.cells #[.int .i64 0,.int .i64 0,.bool false,.int .i64 0,.int .i64 0,.slice none 0 0] 75));have HR2:Hid (((w.alloc (.cells #[.int .i64 k,.int .i64 lg,.int .i64 at_,.slice va n cp] 68)).alloc (.cells #[.int .i64 0,.int .i64 0,.bool false,.int .i64 0,.int .i64 0,.slice none 0 0] 75)).heap[w.heap.size]?=some (.cells #[.int .i64 k,.int .i64 lg,.int .i64 at_,.slice va n cp] 68 (0,0))):=aAf [Obj.cells #[.int .i64 k,.int .i64 lg,.int .i64 at_,.slice va n cp] 68,Obj.cells #[.int .i64 0,.int .i64 0,.bool false,.int .i64 0,.int .i64 0,.slice none 0 0] 75] w 0 _ rfl;have HA2:Hid (((w.alloc (.cells #[.int .i64 k,.int .i64 lg,.int .i64 at_,.slice va n cp] 68)).alloc (.cells #[.int .i64 0,.int .i64 0,.bool false,.int .i64 0,.int .i64 0,.slice none 0 0] 75)).heap[w.heap.size+1]?=some (.cells #[.int .i64 0,.int .i64 0,.bool false,.int .i64 0,.int .i64 0,.slice none 0 0] 75 (0,0))):=aAf [Obj.cells #[.int .i64 k,.int .i64 lg,.int .i64 at_,.slice va n cp] 68,Obj.cells #[.int .i64 0,.int .i64 0,.bool false,.int .i64 0,.int .i64 0,.slice none 0 0] 75] w 1 _ rfl;have HS2:=zH (h.later HBX.o);have HBW:=zH h.bw;have HX:=zH hM;have hfa:=HS2.o.fate;rw [hf] at hfa;have HFT:=zH hfa;have HNT:Hid (nt<w.heap.size):=by
  obtain ⟨lv,h1,_⟩:=h.n;exact lO h1
 obtain ⟨lv,hn,_⟩:=HS2.o.n;have HHS:=zH (aFx hn hM);have c0:((w.alloc (.cells #[.int .i64 k,.int .i64 lg,.int .i64 at_,.slice va n cp] 68)).alloc (.cells #[.int .i64 0,.int .i64 0,.bool false,.int .i64 0,.int .i64 0,.slice none 0 0] 75)).cell? ⟨nt,0,none⟩=some (.slice (some ⟨gh,0,none⟩) M M):=aAa hn;have xx:(i:Int)<(M:Int):=by omega
 have xx0:(0:Int)<=(i:Int):=by omega
 have xx1:¬ (i:Int)<0:=by omega
 have HL6:=zH hl6;have HV:=zH hv;have HNN:=zH hn1;clear hl6 hv hn1;clear h hf hfa hn hM;go_enter func48,ntmps48;go_wp2_with fail;refine HHS.o.mono ?_;rintro e w2' ⟨rfl,rfl⟩;generalize ((w.alloc (.cells #[.int .i64 k,.int .i64 lg,.int .i64 at_,.slice va n cp] 68)).alloc (.cells #[.int .i64 0,.int .i64 0,.bool false,.int .i64 0,.int .i64 0,.slice none 0 0] 75))=w2 at *
 generalize hn0:w.heap.size=n0 at *
 generalize hn1:n0+1=n1 at *
 have HN1:Hid (n0<n1):=by show n0<n1;omega
 go_wp2_with fail;refine HFT.o.mono ?_;rintro e w3 ⟨rfl,wv',h3,hf3,hk3⟩;have HR3:Hid (w3.heap[n0]?=_):=(hk3 n0 (by have:=HNT.o;omega)).trans HR2.o;have HA3:Hid (w3.heap[n1]?=_):=(hk3 n1 (by have:=HNT.o;have:=HN1.o;omega)).trans HA2.o;have HS3:=zH h3;have HF3:Hid (NsF B w w3):=(NsF.of (w':=w2) (by rw [hn0];exact HBX.o) (by rw [hn0];exact HBW.o)).trans hf3;have HBC:Hid (B<=n1):=by show B<=n1;have:=HBW.o;have:=HN1.o;omega
 have HNW:Hid (n0<=n1):=by show n0<=n1;have:=HN1.o;omega
 clear h3 hf3 hk3 HFT HHS c0;have HDL:=zH (HS3.o.delay (td:=i) (k:=k) (lg:=lg) (at_:=at_) HL6.o (HV.o w3 HF3.o.ft) HNN.o);have r0:w3.cell? ⟨n0,0,none⟩=some (.int .i64 k):=aAa HR3.o;have r1:w3.cell? ⟨n0,1,none⟩=some (.int .i64 lg):=aAa HR3.o;have r2:w3.cell? ⟨n0,2,none⟩=some (.int .i64 at_):=aAa HR3.o;have r3:w3.cell? ⟨n0,3,none⟩=some (.slice va n cp):=aAa HR3.o;go_wp2_with fail;refine HDL.o.mono ?_;rintro e w4 ⟨rfl,h4,hf4⟩;have HS4:=zH h4;have HF4:=zH (HF3.o.trans hf4);have HA4:Hid (w4.heap[n1]?=_):=hf4.2 n1 _ _ _ HA3.o (by decide) (by decide) (by decide) (by decide) (by decide);clear h4 hf4 HDL r0 r1 r2 r3;have z0:w4.cell? ⟨n1,0,none⟩=some (.int .i64 0):=aAa HA4.o;have zf0:w4.frozen? ⟨n1,0,none⟩=false:=aAb HA4.o;have z1:w4.cell? ⟨n1,1,none⟩=some (.int .i64 0):=aAa HA4.o;have zf1:w4.frozen? ⟨n1,1,none⟩=false:=aAb HA4.o;have z2:w4.cell? ⟨n1,2,none⟩=some (.bool false):=aAa HA4.o;have zf2:w4.frozen? ⟨n1,2,none⟩=false:=aAb HA4.o;have z3:w4.cell? ⟨n1,3,none⟩=some (.int .i64 0):=aAa HA4.o;have zf3:w4.frozen? ⟨n1,3,none⟩=false:=aAb HA4.o;have z4:w4.cell? ⟨n1,4,none⟩=some (.int .i64 0):=aAa HA4.o;have zf4:w4.frozen? ⟨n1,4,none⟩=false:=aAb HA4.o;have z5:w4.cell? ⟨n1,5,none⟩=some (.slice none 0 0):=aAa HA4.o;have zf5:w4.frozen? ⟨n1,5,none⟩=false:=aAb HA4.o;go_wp2;(try simp only [Exit.inBlock,Exit.then]);refine bodyPost_ret (aBn rfl _ _ n1 _ rfl (set6 HA4.o) rfl) rfl ?_;exact ⟨rfl,wv',HS4.o.wr6 HA4.o HBC.o,HF4.o.wr6 (by rw [hn0];exact HNW.o) HBC.o⟩
end Go.Proofs.YtdfjjhlhnfindaaGreat
