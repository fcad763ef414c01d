import Derived.Test.YthimmblpmijnlaaGreatZ46
set_option maxRecDepth 100000
set_option maxHeartbeats 16000000
set_option linter.unusedVariables false
namespace Go.Proofs.YthimmblpmijnlaaGreat
open Go.RowKit
theorem info_req:(Tryz.prog.info? 34).map (·.size)=some 4:=by kernel_rfl
theorem own_req {B n c:Nat} {k lg at_:Int} {va:Option Addr} {val:List Nat} {w:World} (hv:BS w va n c val) (hn:n≤100000) (hBw:B≤w.heap.size) :
  Calls Tryz.prog 18 #[.agg #[.int .i64 k,.int .i64 lg,.int .i64 at_,.slice va n c]] w fun e w'=>∃ a d,e=.returned (.agg #[.int .i64 k,.int .i64 lg,.int .i64 at_,.slice a n d])∧BK B w' a n d val∧Below w.heap.size w w':=by
 have lt:∀ {k:Nat} {o:Obj} {ww:World},ww.heap[k]?=some o→k<ww.heap.size:=fun e=>(lO e)
 have HBX:=hide (aAr w (.cells #[.int .i64 k,.int .i64 lg,.int .i64 at_,.slice va n c] 34) (.cells #[.int .i64 0,.int .i64 0,.int .i64 0,.slice none 0 0] 34))
 have HR1:Hid (((w.alloc (.cells #[.int .i64 k,.int .i64 lg,.int .i64 at_,.slice va n c] 34)).alloc (.cells #[.int .i64 0,.int .i64 0,.int .i64 0,.slice none 0 0] 34)).heap[w.heap.size]?=some (.cells #[.int .i64 k,.int .i64 lg,.int .i64 at_,.slice va n c] 34 (0,0))):=aAd [Obj.cells #[.int .i64 k,.int .i64 lg,.int .i64 at_,.slice va n c] 34,Obj.cells #[.int .i64 0,.int .i64 0,.int .i64 0,.slice none 0 0] 34] w 0 _ rfl
 have HA1:Hid (((w.alloc (.cells #[.int .i64 k,.int .i64 lg,.int .i64 at_,.slice va n c] 34)).alloc (.cells #[.int .i64 0,.int .i64 0,.int .i64 0,.slice none 0 0] 34)).heap[w.heap.size+1]?=some (.cells #[.int .i64 0,.int .i64 0,.int .i64 0,.slice none 0 0] 34 (0,0))):=aAd [Obj.cells #[.int .i64 k,.int .i64 lg,.int .i64 at_,.slice va n c] 34,Obj.cells #[.int .i64 0,.int .i64 0,.int .i64 0,.slice none 0 0] 34] w 1 _ rfl
 have HV1:=hide (hv.later HBX.out (nR _))
 have HBY:=hide hv.hbyte
 have HVL:=hide hv.hlen
 have HBn:=hide hBw
 clear hv hBw
 go_enter Tryz.func18,Tryz.ntmps18
 go_upto_region 1 with fail
 generalize ((w.alloc (.cells #[.int .i64 k,.int .i64 lg,.int .i64 at_,.slice va n c] 34)).alloc (.cells #[.int .i64 0,.int .i64 0,.int .i64 0,.slice none 0 0] 34))=w1 at *
 generalize hn0:w.heap.size=n0 at *
 generalize hn1:n0+1=n1 at *
 have HN1:Hid (n0<n1):=by show n0<n1;omega
 have HCL:=hide (aB5 va n c val w1 HV1.out)
 have c3:w1.cell? ⟨n0,3,none⟩=some (.slice va n c):=aAa HR1.out
 go_wp2_with fail
 refine HCL.out.mono ?_
 rintro e w2 ⟨v2,rfl,ho2,hb2⟩
 obtain ⟨a,d,rfl,hk2⟩:=BK.owned (B:=B) ho2 (by rw [HVL.out];omega) HBY.out
 rw [HVL.out] at hk2
 have HK2:=hide hk2
 have HR2:=hide ((hb2.block n0 (lt HR1.out)).trans HR1.out)
 have HA2:=hide ((hb2.block n1 (lt HA1.out)).trans HA1.out)
 have HB2:Hid (Below n0 w w2):=HBX.out.trans (hb2.mono (by have:=HBX.out.size;omega))
 have HR3:Hid ((w2.setCell ⟨n0,3,none⟩ (.slice a n d)).heap[n0]?=some (.cells #[.int .i64 k,.int .i64 lg,.int .i64 at_,.slice a n d] 34 (0,0))):=heap_setCell_same _ _ _ _ _ _ HR2.out
 have HA3:Hid ((w2.setCell ⟨n0,3,none⟩ (.slice a n d)).heap[n1]?=some (.cells #[.int .i64 0,.int .i64 0,.int .i64 0,.slice none 0 0] 34 (0,0))):=(heap_setCell_other _ _ _ _ (by show n1≠n0;have:=HN1.out;omega)).trans HA2.out
 have HK3:=hide (HK2.out.ft (ft1 (B:=B) (o:=3) (b0:=.slice a n d) HR2.out (by decide) HBn.out))
 have HB3:Hid (Below n0 w (w2.setCell ⟨n0,3,none⟩ (.slice a n d))):=HB2.out.setCell (p:=⟨n0,3,none⟩) (nR _) _
 have x3:w2.cell? ⟨n0,3,none⟩=some (.slice va n c):=aAa HR2.out
 have xf3:w2.frozen? ⟨n0,3,none⟩=false:=aAb HR2.out
 rw [HVL.out]
 clear ho2 hb2 hk2 HCL c3
 go_upto_region 2 with fail
 generalize w2.setCell ⟨n0,3,none⟩ (.slice a n d)=w3 at *
 clear x3 xf3
 have y0:w3.cell? ⟨n0,0,none⟩=some (.int .i64 k):=aAa HR3.out
 have y1:w3.cell? ⟨n0,1,none⟩=some (.int .i64 lg):=aAa HR3.out
 have y2:w3.cell? ⟨n0,2,none⟩=some (.int .i64 at_):=aAa HR3.out
 have y3:w3.cell? ⟨n0,3,none⟩=some (.slice a n d):=aAa HR3.out
 have z0:w3.cell? ⟨n1,0,none⟩=some (.int .i64 0):=aAa HA3.out
 have zf0:w3.frozen? ⟨n1,0,none⟩=false:=aAb HA3.out
 have z1:w3.cell? ⟨n1,1,none⟩=some (.int .i64 0):=aAa HA3.out
 have zf1:w3.frozen? ⟨n1,1,none⟩=false:=aAb HA3.out
 have z2:w3.cell? ⟨n1,2,none⟩=some (.int .i64 0):=aAa HA3.out
 have zf2:w3.frozen? ⟨n1,2,none⟩=false:=aAb HA3.out
 have z3:w3.cell? ⟨n1,3,none⟩=some (.slice none 0 0):=aAa HA3.out
 have zf3:w3.frozen? ⟨n1,3,none⟩=false:=aAb HA3.out
 go_wp2
 (try simp only [Exit.inBlock,Exit.then])
 refine bodyPost_ret (results_cell_row Tryz.results18 _ _ n1 _ _ _ _ rfl (set4 HA3.out) Tryz.underlying34 rfl info_req) rfl ?_
 have hBn1:B≤n1:=by have:=HBn.out;have:=HN1.out;omega
 have hn:n0≤n1:=by have:=HN1.out;omega
 refine ⟨a,d,rfl,(((HK3.out.ft (ft1 (o:=0) HA3.out (by decide) hBn1)).ft (ft1 (o:=1) (heap_setCell_same _ _ _ _ _ _ HA3.out) (by decide) hBn1)).ft (ft1 (o:=2) (heap_setCell_same _ _ _ _ _ _ (heap_setCell_same _ _ _ _ _ _ HA3.out)) (by decide) hBn1)).ft (ft1 (o:=3) (heap_setCell_same _ _ _ _ _ _ (heap_setCell_same _ _ _ _ _ _ (heap_setCell_same _ _ _ _ _ _ HA3.out))) (by decide) hBn1),?_⟩
 rw [hn0]
 exact (((HB3.out.setCell (p:=⟨n1,0,none⟩) hn _).setCell (p:=⟨n1,1,none⟩) hn _).setCell (p:=⟨n1,2,none⟩) hn _).setCell (p:=⟨n1,3,none⟩) hn _
section
variable {B N M:Nat} {P:Nat→NdP} {A:Nat→NdS} {E:Nat→Prop} {W w w':World}
theorem MND.oth (h:MND B N M P A E W w) (T:Nat→Prop) (hT:∀ k,T k→∃ cs t fz,w.heap[k]?=some (Obj.cells cs t fz)∧¬ DTy t∧t≠5∧t≠155∧t≠104∧t≠89∧t≠109) (hs:∀ k,k<w.heap.size→¬ T k→w'.heap[k]?=w.heap[k]?) (hb:Below B w w'):MND B N M P A E W w':=by
 obtain ⟨F,⟨k1,hE⟩,k2⟩:=h
 have nf:∀ {k:Nat},FBk w k→¬ T k:=fun hf hk=>by
  obtain ⟨cs,t,fz,e,h0,_⟩:=hT _ hk
  exact hf.ne e h0 rfl
 have nt:∀ {k:Nat} {cs:Array Value} {t:TypeId} {fz:Nat×Nat},w.heap[k]?=some (Obj.cells cs t fz)→(t=5∨t=155∨t=104∨t=89∨t=109)→w'.heap[k]?=w.heap[k]?:=fun e ht=>by
  refine hs _ (lO e) (fun hk=>?_)
  obtain ⟨cs,t,fz,e',_,h1,h2,h3,h4,h5⟩:=hT _ hk
  rw [e] at e'
  simp only [oI,cI] at e'
  rcases ht with q | q | q | q | q
  ·exact h1 (e'.2.1.symm.trans q)
  ·exact h2 (e'.2.1.symm.trans q)
  ·exact h3 (e'.2.1.symm.trans q)
  ·exact h4 (e'.2.1.symm.trans q)
  ·exact h5 (e'.2.1.symm.trans q)
 refine ⟨F,⟨fun i hi=>?_,fun k hk=>⟨(hE k hk).1.same (hs k (hE k hk).1.lt (nf (hE k hk).1)),(hE k hk).2⟩⟩,k2⟩
 obtain ⟨⟨d1,⟨c1,d2⟩,⟨c2,d3⟩,⟨c3,d4⟩⟩,⟨_,c5,d5,_⟩,_⟩:=k1 i hi
 exact (k1 i hi).keep (fun k hk=>hs k (d1 k hk).lt (nf (d1 k hk))) (fun k cs fz e=>(nt e (Or.inl rfl)).trans e) (nt d2 (by simp)) (nt d3 (by simp)) (nt d4 (by simp)) hb (nt d5 (by simp))
end
structure LR where
 nd:Nat
 k:Int
 lg:Int
 at_:Int
 val:List Nat
def lrC (x:LR) (v:Value):List Value:=[.int .i64 (x.nd:Int),.int .i64 x.k,.int .i64 x.lg,.int .i64 x.at_,v]
def lrF:List LR→List Value→List Value
 | [],_=>[]
 | _,[]=>[]
 | x::l,v::vs=>lrC x v++lrF l vs
theorem aEg:∀ (l:List LR) (vs:List Value) (x:LR) (v:Value),vs.length=l.length→lrF (l++[x]) (vs++[v])=lrF l vs++lrC x v
 | [],[],x,v,_=>by simp [lrF]
 | [],_::_,x,v,h=>by simp at h
 | _::_,[],x,v,h=>by simp at h
 | y::l,u::vs,x,v,h=>by
  show lrC y u++lrF (l++[x]) (vs++[v])=lrC y u++lrF l vs++lrC x v
  rw [aEg l vs x v (by simpa using h),List.append_assoc]
theorem lrF_len:∀ (l:List LR) (vs:List Value),vs.length=l.length→(lrF l vs).length=l.length*5
 | [],_,_=>rfl
 | _::_,[],h=>by simp at h
 | x::l,v::vs,h=>by
  have ih:=lrF_len l vs (by simpa using h)
  show (lrC x v++lrF l vs).length=_
  rw [lA,ih,List.length_cons]
  show 5+l.length*5=_
  omega
theorem lrF_take:∀ (l:List LR) (vs:List Value) (i:Nat),vs.length=l.length→(lrF l vs).take (i*5)=lrF (l.take i) (vs.take i)
 | [],_,i,_=>by simp [lrF]
 | _::_,[],_,h=>by simp at h
 | x::l,v::vs,0,h=>by simp [lrF]
 | x::l,v::vs,i+1,h=>by
  show (lrC x v++lrF l vs).take ((i+1)*5)=lrC x v++lrF (l.take i) (vs.take i)
  rw [show (i+1)*5=(lrC x v).length+i*5 by show _=5+i*5;omega,List.take_length_add_append,lrF_take l vs i (by simpa using h)]
theorem aGl:∀ (l:List LR) (vs:List Value) (i:Nat),vs.length=l.length→(lrF l vs).drop (i*5)=lrF (l.drop i) (vs.drop i)
 | [],_,i,_=>by simp [lrF]
 | _::_,[],_,h=>by simp at h
 | x::l,v::vs,0,h=>by simp
 | x::l,v::vs,i+1,h=>by
  show (lrC x v++lrF l vs).drop ((i+1)*5)=lrF (l.drop i) (vs.drop i)
  rw [show (i+1)*5=(lrC x v).length+i*5 by show _=5+i*5;omega,List.drop_length_add_append,aGl l vs i (by simpa using h)]
theorem lrF_app:∀ (l1:List LR) (v1:List Value) (l2:List LR) (v2:List Value),v1.length=l1.length→lrF (l1++l2) (v1++v2)=lrF l1 v1++lrF l2 v2
 | [],[],l2,v2,_=>rfl
 | [],_::_,_,_,h=>by simp at h
 | _::_,[],_,_,h=>by simp at h
 | x::l,v::vs,l2,v2,h=>by
  show lrC x v++lrF (l++l2) (vs++v2)=lrC x v++lrF l vs++lrF l2 v2
  rw [lrF_app l vs l2 v2 (by simpa using h),List.append_assoc]
theorem lrF_erase (l:List LR) (vs:List Value) (i:Nat) (h:vs.length=l.length):(lrF l vs).take (i*5)++(lrF l vs).drop ((i+1)*5)=lrF (l.eraseIdx i) (vs.eraseIdx i):=by
 rw [lrF_take _ _ _ h,aGl _ _ _ h,List.eraseIdx_eq_take_drop_succ,List.eraseIdx_eq_take_drop_succ,lrF_app _ _ _ _ (by rw [List.length_take,List.length_take,h])]
theorem lrF_get {l:List LR} {vs:List Value} {i:Nat} {x:LR} {v:Value} (h:vs.length=l.length) (e1:l[i]?=some x) (e2:vs[i]?=some v):∀ j,j<5→(lrF l vs)[i*5+j]?=(lrC x v)[j]?:=by
 intro j hj
 rw [←List.getElem?_drop,aGl _ _ _ h]
 have a1:l.drop i=x::l.drop (i+1):=by
  have:=List.drop_eq_getElem_cons (lL e1)
  rw [this,(List.getElem?_eq_some_iff.1 e1).2]
 have a2:vs.drop i=v::vs.drop (i+1):=by
  have:=List.drop_eq_getElem_cons (lL e2)
  rw [this,(List.getElem?_eq_some_iff.1 e2).2]
 rw [a1,a2]
 show (lrC x v++_)[j]?=_
 rw [List.getElem?_append_left (by show j<5;exact hj)]
def LTV (B:Nat) (w:World) (lv:Value) (l:List LR):Prop:=∃ vs:List Value,vs.length=l.length∧w.ownsRow B 40 5 lv l.length (lrF l vs)∧∀ (i:Nat) x v,l[i]?=some x→vs[i]?=some v→∃ a c,v=.slice a x.val.length c∧BK B w a x.val.length c x.val
theorem news5 (w:World) (x y z u v:Value) (t:TypeId):∀ j r,[x,y,z,u,v][j]?=some r→(w.alloc (.cells #[x,y,z,u,v] t)).cell? ((⟨w.heap.size,0,none⟩:Addr).add j)=some r:=by
 intro j r hj
 rw [Addr.add_lit,aAa (heap_alloc_new w _)]
 simpa using hj
theorem delay_ok {B nt gh M n cp td:Nat} {k lg at_:Int} {wv lv:Value} {va:Option Addr} {val:List Nat} {l:List LR} {w:World} (h:NTM w nt gh M wv lv) (hB:B≤nt) (hBw:B≤w.heap.size) (hl:LTV B w lv l) (hl6:l.length<64) (hv:BS w va n cp val) (hn:n≤100000) :
  Calls Tryz.prog 17 #[.pointer (some ⟨nt,0,none⟩),.int .i64 (td:Int),.agg #[.int .i64 k,.int .i64 lg,.int .i64 at_,.slice va n cp]] w fun e w'=>e=.returned (.tuple #[])∧∃ lv',NTM w' nt gh M wv lv'∧LTV B w' lv' (l++[⟨td,k,lg,at_,val⟩])∧Below B w w'∧∀ k,k<w.heap.size→k≠nt→lv.ownBlock≠some k→w'.heap[k]?=w.heap[k]?:=by
 obtain ⟨i0,hi,hz0,hz1,hz2⟩:=info_parts aDj
 have lt:∀ {k:Nat} {o:Obj} {ww:World},ww.heap[k]?=some o→k<ww.heap.size:=fun e=>(lO e)
 obtain ⟨vs,q1,q2,q3⟩:=hl
 obtain ⟨la,lc,hlv⟩:=aAg q2
 subst hlv
 have HBX:=hide (aAc w (.cells #[.int .i64 k,.int .i64 lg,.int .i64 at_,.slice va n cp] 34))
 have HR1:Hid ((w.alloc (.cells #[.int .i64 k,.int .i64 lg,.int .i64 at_,.slice va n cp] 34)).heap[w.heap.size]?=some (.cells #[.int .i64 k,.int .i64 lg,.int .i64 at_,.slice va n cp] 34 (0,0))):=heap_alloc_new w _
 have HT1:=hide ((HBX.out.block nt (lt h)).trans h)
 have HV1:=hide (hv.later HBX.out (nR _))
 have HQ1:=hide q1
 have HO1:=hide (aAh q2 HBX.out)
 have HQ3:Hid (∀ (i:Nat) x v,l[i]?=some x→vs[i]?=some v→∃ a c,v=.slice a x.val.length c∧BK B (w.alloc (.cells #[.int .i64 k,.int .i64 lg,.int .i64 at_,.slice va n cp] 34)) a x.val.length c x.val):=fun i x v e1 e2=>by
  obtain ⟨a,c,e3,e4⟩:=q3 i x v e1 e2
  exact ⟨a,c,e3,e4.later HBX.out hBw⟩
 have HLN:Hid (nt<w.heap.size):=lt h
 have HB:=hide hB
 have HBW:=hide hBw
 have HVL:=hide hv.hlen
 have x0:(l.length:Int)<64:=by omega
 have c2:(w.alloc (.cells #[.int .i64 k,.int .i64 lg,.int .i64 at_,.slice va n cp] 34)).cell? ⟨nt,2,none⟩=some (.slice la l.length lc):=aAa HT1.out
 clear h hB hBw hv q1 q2 q3
 go_enter Tryz.func17,Tryz.ntmps17
 go_upto_region 2 with fail
 generalize w.alloc (.cells #[.int .i64 k,.int .i64 lg,.int .i64 at_,.slice va n cp] 34)=w1 at *
 generalize hn0:w.heap.size=n0 at *
 have hbd:Below w1.heap.size w1 w1.drew:=(Below.refl _ _).drew
 have HB1:Hid (B≤w1.heap.size):=by show B≤_;have:=HBX.out.size;have:=HBW.out;omega
 have HOW:=hide (own_req (B:=B) (k:=k) (lg:=lg) (at_:=at_) (HV1.out.later hbd (nR _)) hn HB1.out)
 have HX1:Hid ((fun wx=>wx.cell? ⟨n0,0,none⟩=some (.int .i64 k)∧wx.cell? ⟨n0,1,none⟩=some (.int .i64 lg)∧wx.cell? ⟨n0,2,none⟩=some (.int .i64 at_)∧wx.cell? ⟨n0,3,none⟩=some (.slice va n cp)) w1.drew):=⟨aAa (show w1.drew.heap[n0]?=_ from HR1.out),aAa (show w1.drew.heap[n0]?=_ from HR1.out),aAa (show w1.drew.heap[n0]?=_ from HR1.out),aAa (show w1.drew.heap[n0]?=_ from HR1.out)⟩
 clear c2 hbd
 refine wp_region_noPanic ?_
 refine wp_region_held_drew (S:=fun wx=>wx.cell? ⟨n0,0,none⟩=some (.int .i64 k)∧wx.cell? ⟨n0,1,none⟩=some (.int .i64 lg)∧wx.cell? ⟨n0,2,none⟩=some (.int .i64 at_)∧wx.cell? ⟨n0,3,none⟩=some (.slice va n cp)) (by kernel_rfl) HX1.out (fun hHeld=>?_)
 refine wpAnyH_tk 0 12 ?_
 refine wpAnyH_tk 1 13 ?_
 refine wpAnyH_tk 2 14 ?_
 refine wpAnyH_tk 3 15 ?_
 refine wpAnyH_tk 5 17 ?_
 refine wpAnyH_tk 6 18 ?_
 refine aAo (i:=4) (j:=7) (by kernel_rfl) (by kernel_rfl) (by kernel_rfl) ?ba ?bb
 case ba =>
  have c2:w1.drew.cell? ⟨nt,2,none⟩=some (.slice la l.length lc):=aAa (show w1.drew.heap[nt]?=_ from HT1.out)
  have c2':w1.cell? ⟨nt,2,none⟩=some (.slice la l.length lc):=c2
  intro o ho K hK
  simp only [List.getElem?_toArray,List.getElem?_cons_succ,List.getElem?_cons_zero,oI] at ho
  subst ho
  go_simp
  clear hHeld
  refine hK.out _ _ HX1.out (fun hHeld=>?_)
  clear hK K
  try simp only [Act.put,siT,scZ,scS]
  clear c2 c2'
  refine wpAnyH_cm 7 ?_;intro K hK
  go_simp
  refine HOW.out.mono ?_
  rintro e w2 ⟨a2,d2,rfl,hk2,hb2⟩
  have hb2:Below w1.heap.size w1 w2:=⟨hb2.os,hb2.tape,hb2.output,hb2.size,hb2.block⟩
  have HK2:=hide hk2
  have HT2:=hide ((hb2.block nt (lt HT1.out)).trans HT1.out)
  have HR2:=hide ((hb2.block n0 (lt HR1.out)).trans HR1.out)
  have HO2:=hide (aAh HO1.out hb2)
  have HQ2:Hid (∀ (i:Nat) x v,l[i]?=some x→vs[i]?=some v→∃ a c,v=.slice a x.val.length c∧BK B w2 a x.val.length c x.val):=fun i x v e1 e2=>by
   obtain ⟨a,c,e3,e4⟩:=HQ3.out i x v e1 e2
   exact ⟨a,c,e3,e4.later hb2 HB1.out⟩
  have HB2:Hid (Below n0 w w2):=HBX.out.trans (hb2.mono (by have:=HBX.out.size;omega))
  have HX2:Hid ((fun wx=>wx.cell? ⟨n0,0,none⟩=some (.int .i64 k)∧wx.cell? ⟨n0,1,none⟩=some (.int .i64 lg)∧wx.cell? ⟨n0,2,none⟩=some (.int .i64 at_)∧wx.cell? ⟨n0,3,none⟩=some (.slice va n cp)) w2):=⟨aAa HR2.out,aAa HR2.out,aAa HR2.out,aAa HR2.out⟩
  clear hk2 hb2 hHeld HOW
  refine hK.out _ _ HX2.out (fun hHeld=>?_)
  clear hK K
  try simp only [Act.put,siT,scZ,scS]
  refine wpAnyH_tk 8 20 ?_
  refine wpAnyH_cm 9 ?_;intro K hK
  go_simp
  have hb3:=aAc w2 (.cells #[.int .i64 (td:Int),.int .i64 k,.int .i64 lg,.int .i64 at_,.slice a2 n d2] 40)
  have HBL2:Hid (B≤w2.heap.size):=by show B≤_;have:=HB2.out.size;have:=HBW.out;omega
  have HT3:=hide ((hb3.block nt (lt HT2.out)).trans HT2.out)
  have HR3:=hide ((hb3.block n0 (lt HR2.out)).trans HR2.out)
  have HO3:=hide (aAh HO2.out hb3)
  have HK3:=hide (HK2.out.later hb3 HBL2.out)
  have HQ4:Hid (∀ (i:Nat) x v,l[i]?=some x→vs[i]?=some v→∃ a c,v=.slice a x.val.length c∧BK B (w2.alloc (.cells #[.int .i64 (td:Int),.int .i64 k,.int .i64 lg,.int .i64 at_,.slice a2 n d2] 40)) a x.val.length c x.val):=fun i x v e1 e2=>by
   obtain ⟨a,c,e3,e4⟩:=HQ2.out i x v e1 e2
   exact ⟨a,c,e3,e4.later hb3 HBL2.out⟩
  have HB3:Hid (Below n0 w (w2.alloc (.cells #[.int .i64 (td:Int),.int .i64 k,.int .i64 lg,.int .i64 at_,.slice a2 n d2] 40))):=HB2.out.trans (hb3.mono (by have:=HB2.out.size;omega))
  have HNW:Hid (∀ j r,[.int .i64 (td:Int),.int .i64 k,.int .i64 lg,.int .i64 at_,.slice a2 n d2][j]?=some r→(w2.alloc (.cells #[.int .i64 (td:Int),.int .i64 k,.int .i64 lg,.int .i64 at_,.slice a2 n d2] 40)).cell? ((⟨w2.heap.size,0,none⟩:Addr).add j)=some r):=news5 w2 _ _ _ _ _ _
  have HX3:Hid ((fun wx=>wx.cell? ⟨n0,0,none⟩=some (.int .i64 k)∧wx.cell? ⟨n0,1,none⟩=some (.int .i64 lg)∧wx.cell? ⟨n0,2,none⟩=some (.int .i64 at_)∧wx.cell? ⟨n0,3,none⟩=some (.slice va n cp)) (w2.alloc (.cells #[.int .i64 (td:Int),.int .i64 k,.int .i64 lg,.int .i64 at_,.slice a2 n d2] 40))):=⟨aAa HR3.out,aAa HR3.out,aAa HR3.out,aAa HR3.out⟩
  clear hb3 hHeld
  generalize w2.alloc (.cells #[.int .i64 (td:Int),.int .i64 k,.int .i64 lg,.int .i64 at_,.slice a2 n d2] 40)=w3 at *
  generalize w2.heap.size=n2 at *
  refine hK.out _ _ HX3.out (fun hHeld=>?_)
  clear hK K
  try simp only [Act.put,siT,scZ,scS]
  refine wpAnyH_cm 10 ?_;intro K hK
  rw [if_pos (by rfl)]
  refine aAu (.tmp 16) (.tmp 21) 35 rfl B 40 i0 (.agg #[.int .i64 0,.int .i64 0,.int .i64 0,.int .i64 0,.slice none 0 0]) 5 56 Tryz.underlying35 hi hz0 hz1 hz2 rfl (by omega) (.slice la l.length lc) l.length _ rfl HO3.out ⟨n2,0,none⟩ 1 1 [.int .i64 (td:Int),.int .i64 k,.int .i64 lg,.int .i64 at_,.slice a2 n d2] rfl rfl HNW.out (by intro u hu;simp at hu;rcases hu with rfl | rfl | rfl | rfl | rfl<;>rfl) (by unfold maxLen;omega) (by omega) (by have:=HB3.out.size;have:=HBW.out;omega) ?_
  intro v4 w4 ho4 hg4 hat4
  obtain ⟨a4,p4,rfl⟩:=aAg ho4
  have hnl:∀ k':Nat,(Value.slice la l.length lc).ownBlock=some k'→∃ cur,w3.heap[k']?=some (.cells cur 40 (0,0)):=fun k' e=>(aAl HO3.out e).2
  have net:some nt≠(Value.slice la l.length lc).ownBlock:=fun e=>by
   obtain ⟨cur,hc⟩:=hnl nt e.symm
   rw [HT3.out] at hc
   simp only [oI,cI] at hc
   exact absurd hc.2.1 (by decide)
  have ner:some n0≠(Value.slice la l.length lc).ownBlock:=fun e=>by
   obtain ⟨cur,hc⟩:=hnl n0 e.symm
   rw [HR3.out] at hc
   simp only [oI,cI] at hc
   exact absurd hc.2.1 (by decide)
  have HT4:=hide ((hg4.block nt (lt HT3.out) net).trans HT3.out)
  have HR4:=hide ((hg4.block n0 (lt HR3.out) ner).trans HR3.out)
  have hft:FT B w3 w4:=by
   refine ⟨⟨hg4.os,hg4.tape,hg4.output,hg4.size,fun k' hk'=>hg4.block k' (by have:=HB3.out.size;have:=HBW.out;omega) (fun e=>?_)⟩,fun k' cs fz e=>?_⟩
   ·have:=(aAl HO3.out e.symm).1
    omega
   ·rw [hg4.block k' (lt e) (fun e'=>?_),e]
    obtain ⟨cur,hc⟩:=hnl k' e'.symm
    rw [hc] at e
    simp only [oI,cI] at e
    exact absurd e.2.1 (by decide)
  have HK4:=hide (HK3.out.ft hft)
  have HQ5:Hid (∀ (i:Nat) x v,l[i]?=some x→vs[i]?=some v→∃ a c,v=.slice a x.val.length c∧BK B w4 a x.val.length c x.val):=fun i x v e1 e2=>by
   obtain ⟨a,c,e3,e4⟩:=HQ4.out i x v e1 e2
   exact ⟨a,c,e3,e4.ft hft⟩
  have HO4:=hide ho4
  have HG4:=hide hg4
  have HFT:=hide hft
  have HX4:Hid ((fun wx=>wx.cell? ⟨n0,0,none⟩=some (.int .i64 k)∧wx.cell? ⟨n0,1,none⟩=some (.int .i64 lg)∧wx.cell? ⟨n0,2,none⟩=some (.int .i64 at_)∧wx.cell? ⟨n0,3,none⟩=some (.slice va n cp)) w4):=⟨aAa HR4.out,aAa HR4.out,aAa HR4.out,aAa HR4.out⟩
  clear ho4 hg4 hft hnl net ner hHeld
  refine hK.out _ _ HX4.out (fun hHeld=>?_)
  clear hK K
  try simp only [Act.put,siT,scZ,scS]
  refine wpAnyH_tk 11 23 ?_
  refine wpAnyH_tk 12 24 ?_
  have y2:w4.cell? ⟨nt,2,none⟩=some (.slice la l.length lc):=aAa HT4.out
  have yf2:w4.frozen? ⟨nt,2,none⟩=false:=aAb HT4.out
  refine wpAnyH_cm 13 ?_;intro K hK
  go_simp
  have hne:n0≠nt:=by have:=HLN.out;omega
  have HT5:Hid ((w4.setCell ⟨nt,2,none⟩ (.slice a4 (l.length+1) p4)).heap[nt]?=some (.cells #[.slice (some ⟨gh,0,none⟩) M M,wv,.slice a4 (l.length+1) p4] 46 (0,0))):=heap_setCell_same _ _ _ _ _ _ HT4.out
  have HR5:=(heap_setCell_other w4 ⟨nt,2,none⟩ n0 (.slice a4 (l.length+1) p4) hne).trans HR4.out
  have HX5:Hid ((fun wx=>wx.cell? ⟨n0,0,none⟩=some (.int .i64 k)∧wx.cell? ⟨n0,1,none⟩=some (.int .i64 lg)∧wx.cell? ⟨n0,2,none⟩=some (.int .i64 at_)∧wx.cell? ⟨n0,3,none⟩=some (.slice va n cp)) (w4.setCell ⟨nt,2,none⟩ (.slice a4 (l.length+1) p4))):=⟨aAa HR5,aAa HR5,aAa HR5,aAa HR5⟩
  have HF5:Hid (FT B w4 (w4.setCell ⟨nt,2,none⟩ (.slice a4 (l.length+1) p4))):=ft1 HT4.out (by decide) HB.out
  have HO5:Hid ((w4.setCell ⟨nt,2,none⟩ (.slice a4 (l.length+1) p4)).ownsRow B 40 5 (.slice a4 (l.length+1) p4) (l.length+1) (lrF l vs++[.int .i64 (td:Int),.int .i64 k,.int .i64 lg,.int .i64 at_,.slice a2 n d2])):=aAj HO4.out fun k' cs hk' e=>(heap_setCell_other _ _ _ _ (by
   show k'≠nt
   intro e'
   subst e'
   rw [HT4.out] at e
   simp only [oI,cI] at e
   exact absurd e.2.1 (by decide))).trans e
  have HW5:Hid (Below B w (w4.setCell ⟨nt,2,none⟩ (.slice a4 (l.length+1) p4))):=((HB3.out.mono HBW.out).trans HFT.out.1).trans HF5.out.1
  have HK5:=hide (HK4.out.ft HF5.out)
  have HQ6:Hid (∀ (i:Nat) x v,l[i]?=some x→vs[i]?=some v→∃ a c,v=.slice a x.val.length c∧BK B (w4.setCell ⟨nt,2,none⟩ (.slice a4 (l.length+1) p4)) a x.val.length c x.val):=fun i x v e1 e2=>by
   obtain ⟨a,c,e3,e4⟩:=HQ5.out i x v e1 e2
   exact ⟨a,c,e3,e4.ft HF5.out⟩
  have HS5:Hid (∀ k',k'<n0→k'≠nt→(Value.slice la l.length lc).ownBlock≠some k'→(w4.setCell ⟨nt,2,none⟩ (.slice a4 (l.length+1) p4)).heap[k']?=w.heap[k']?):=fun k' h1 h2 h3=>((heap_setCell_other _ _ _ _ h2).trans (HG4.out.block k' (by have:=HB3.out.size;omega) (fun e=>h3 e.symm))).trans (HB3.out.block k' h1)
  clear hHeld hne HR5 y2 yf2
  generalize (w4.setCell ⟨nt,2,none⟩ (.slice a4 (l.length+1) p4))=w5 at *
  refine hK.out _ _ HX5.out (fun hHeld=>?_)
  clear hK K
  try simp only [Act.put,siT,scZ,scS]
  refine wpAnyH_done (by kernel_rfl) ?_ _
  refine NoPanic.normal ?_
  clear hHeld
  go_wp2
  (try simp only [Exit.inBlock,Exit.then])
  refine bodyPost_end (results_none rfl _ _ _) rfl ⟨rfl,_,HT5.out,⟨vs++[.slice a2 n d2],by simp [HQ1.out],?_,?_⟩,HW5.out,fun k' h1 h2 h3=>HS5.out k' h1 h2 h3⟩
  ·have e1:(l++[(⟨td,k,lg,at_,val⟩:LR)]).length=l.length+1:=by simp
   rw [aEg _ _ _ _ HQ1.out,e1]
   exact HO5.out
  ·intro i x v e1 e2
   by_cases hi':i<l.length
   ·rw [List.getElem?_append_left hi'] at e1
    rw [List.getElem?_append_left (by rw [HQ1.out];exact hi')] at e2
    exact HQ6.out i x v e1 e2
   ·have hil:i=l.length:=by
     have:=(lL e1)
     simp at this
     omega
    subst hil
    rw [List.getElem?_append_right (nR _),Nat.sub_self] at e1
    rw [List.getElem?_append_right (by rw [HQ1.out];exact nR _),HQ1.out,Nat.sub_self] at e2
    simp only [List.getElem?_cons_zero,oI] at e1 e2
    subst e1
    subst e2
    refine ⟨a2,d2,?_,?_⟩
    ·show Value.slice a2 n d2=Value.slice a2 val.length d2
     rw [HVL.out]
    ·show BK B w5 a2 val.length d2 val
     rw [HVL.out]
     exact HK5.out
 case bb =>
  intro o ho K hK
  simp only [List.getElem?_toArray,List.getElem?_cons_succ,List.getElem?_cons_zero,oI] at ho
  subst ho
  go_simp
  refine HOW.out.mono ?_
  rintro e w2 ⟨a2,d2,rfl,hk2,hb2⟩
  have hb2:Below w1.heap.size w1 w2:=⟨hb2.os,hb2.tape,hb2.output,hb2.size,hb2.block⟩
  have HK2:=hide hk2
  have HT2:=hide ((hb2.block nt (lt HT1.out)).trans HT1.out)
  have HR2:=hide ((hb2.block n0 (lt HR1.out)).trans HR1.out)
  have HO2:=hide (aAh HO1.out hb2)
  have HQ2:Hid (∀ (i:Nat) x v,l[i]?=some x→vs[i]?=some v→∃ a c,v=.slice a x.val.length c∧BK B w2 a x.val.length c x.val):=fun i x v e1 e2=>by
   obtain ⟨a,c,e3,e4⟩:=HQ3.out i x v e1 e2
   exact ⟨a,c,e3,e4.later hb2 HB1.out⟩
  have HB2:Hid (Below n0 w w2):=HBX.out.trans (hb2.mono (by have:=HBX.out.size;omega))
  have HX2:Hid ((fun wx=>wx.cell? ⟨n0,0,none⟩=some (.int .i64 k)∧wx.cell? ⟨n0,1,none⟩=some (.int .i64 lg)∧wx.cell? ⟨n0,2,none⟩=some (.int .i64 at_)∧wx.cell? ⟨n0,3,none⟩=some (.slice va n cp)) w2):=⟨aAa HR2.out,aAa HR2.out,aAa HR2.out,aAa HR2.out⟩
  clear hk2 hb2 hHeld HOW
  refine hK.out _ _ HX2.out (fun hHeld=>?_)
  clear hK K
  try simp only [Act.put,siT,scZ,scS]
  refine wpAnyH_tk 8 20 ?_
  refine aAo (i:=4) (j:=9) (by kernel_rfl) (by kernel_rfl) (by kernel_rfl) ?bba ?bbb
  case bba =>
   have c2:w2.cell? ⟨nt,2,none⟩=some (.slice la l.length lc):=aAa HT2.out
   intro o ho K hK
   simp only [List.getElem?_toArray,List.getElem?_cons_succ,List.getElem?_cons_zero,oI] at ho
   subst ho
   go_simp
   clear hHeld
   refine hK.out _ _ HX2.out (fun hHeld=>?_)
   clear hK K
   try simp only [Act.put,siT,scZ,scS]
   clear c2
   refine wpAnyH_cm 9 ?_;intro K hK
   go_simp
   have hb3:=aAc w2 (.cells #[.int .i64 (td:Int),.int .i64 k,.int .i64 lg,.int .i64 at_,.slice a2 n d2] 40)
   have HBL2:Hid (B≤w2.heap.size):=by show B≤_;have:=HB2.out.size;have:=HBW.out;omega
   have HT3:=hide ((hb3.block nt (lt HT2.out)).trans HT2.out)
   have HR3:=hide ((hb3.block n0 (lt HR2.out)).trans HR2.out)
   have HO3:=hide (aAh HO2.out hb3)
   have HK3:=hide (HK2.out.later hb3 HBL2.out)
   have HQ4:Hid (∀ (i:Nat) x v,l[i]?=some x→vs[i]?=some v→∃ a c,v=.slice a x.val.length c∧BK B (w2.alloc (.cells #[.int .i64 (td:Int),.int .i64 k,.int .i64 lg,.int .i64 at_,.slice a2 n d2] 40)) a x.val.length c x.val):=fun i x v e1 e2=>by
    obtain ⟨a,c,e3,e4⟩:=HQ2.out i x v e1 e2
    exact ⟨a,c,e3,e4.later hb3 HBL2.out⟩
   have HB3:Hid (Below n0 w (w2.alloc (.cells #[.int .i64 (td:Int),.int .i64 k,.int .i64 lg,.int .i64 at_,.slice a2 n d2] 40))):=HB2.out.trans (hb3.mono (by have:=HB2.out.size;omega))
   have HNW:Hid (∀ j r,[.int .i64 (td:Int),.int .i64 k,.int .i64 lg,.int .i64 at_,.slice a2 n d2][j]?=some r→(w2.alloc (.cells #[.int .i64 (td:Int),.int .i64 k,.int .i64 lg,.int .i64 at_,.slice a2 n d2] 40)).cell? ((⟨w2.heap.size,0,none⟩:Addr).add j)=some r):=news5 w2 _ _ _ _ _ _
   have HX3:Hid ((fun wx=>wx.cell? ⟨n0,0,none⟩=some (.int .i64 k)∧wx.cell? ⟨n0,1,none⟩=some (.int .i64 lg)∧wx.cell? ⟨n0,2,none⟩=some (.int .i64 at_)∧wx.cell? ⟨n0,3,none⟩=some (.slice va n cp)) (w2.alloc (.cells #[.int .i64 (td:Int),.int .i64 k,.int .i64 lg,.int .i64 at_,.slice a2 n d2] 40))):=⟨aAa HR3.out,aAa HR3.out,aAa HR3.out,aAa HR3.out⟩
   clear hb3 hHeld
   generalize w2.alloc (.cells #[.int .i64 (td:Int),.int .i64 k,.int .i64 lg,.int .i64 at_,.slice a2 n d2] 40)=w3 at *
   generalize w2.heap.size=n2 at *
   refine hK.out _ _ HX3.out (fun hHeld=>?_)
   clear hK K
   try simp only [Act.put,siT,scZ,scS]
   refine wpAnyH_cm 10 ?_;intro K hK
   rw [if_pos (by rfl)]
   refine aAu (.tmp 16) (.tmp 21) 35 rfl B 40 i0 (.agg #[.int .i64 0,.int .i64 0,.int .i64 0,.int .i64 0,.slice none 0 0]) 5 56 Tryz.underlying35 hi hz0 hz1 hz2 rfl (by omega) (.slice la l.length lc) l.length _ rfl HO3.out ⟨n2,0,none⟩ 1 1 [.int .i64 (td:Int),.int .i64 k,.int .i64 lg,.int .i64 at_,.slice a2 n d2] rfl rfl HNW.out (by intro u hu;simp at hu;rcases hu with rfl | rfl | rfl | rfl | rfl<;>rfl) (by unfold maxLen;omega) (by omega) (by have:=HB3.out.size;have:=HBW.out;omega) ?_
   intro v4 w4 ho4 hg4 hat4
   obtain ⟨a4,p4,rfl⟩:=aAg ho4
   have hnl:∀ k':Nat,(Value.slice la l.length lc).ownBlock=some k'→∃ cur,w3.heap[k']?=some (.cells cur 40 (0,0)):=fun k' e=>(aAl HO3.out e).2
   have net:some nt≠(Value.slice la l.length lc).ownBlock:=fun e=>by
    obtain ⟨cur,hc⟩:=hnl nt e.symm
    rw [HT3.out] at hc
    simp only [oI,cI] at hc
    exact absurd hc.2.1 (by decide)
   have ner:some n0≠(Value.slice la l.length lc).ownBlock:=fun e=>by
    obtain ⟨cur,hc⟩:=hnl n0 e.symm
    rw [HR3.out] at hc
    simp only [oI,cI] at hc
    exact absurd hc.2.1 (by decide)
   have HT4:=hide ((hg4.block nt (lt HT3.out) net).trans HT3.out)
   have HR4:=hide ((hg4.block n0 (lt HR3.out) ner).trans HR3.out)
   have hft:FT B w3 w4:=by
    refine ⟨⟨hg4.os,hg4.tape,hg4.output,hg4.size,fun k' hk'=>hg4.block k' (by have:=HB3.out.size;have:=HBW.out;omega) (fun e=>?_)⟩,fun k' cs fz e=>?_⟩
    ·have:=(aAl HO3.out e.symm).1
     omega
    ·rw [hg4.block k' (lt e) (fun e'=>?_),e]
     obtain ⟨cur,hc⟩:=hnl k' e'.symm
     rw [hc] at e
     simp only [oI,cI] at e
     exact absurd e.2.1 (by decide)
   have HK4:=hide (HK3.out.ft hft)
   have HQ5:Hid (∀ (i:Nat) x v,l[i]?=some x→vs[i]?=some v→∃ a c,v=.slice a x.val.length c∧BK B w4 a x.val.length c x.val):=fun i x v e1 e2=>by
    obtain ⟨a,c,e3,e4⟩:=HQ4.out i x v e1 e2
    exact ⟨a,c,e3,e4.ft hft⟩
   have HO4:=hide ho4
   have HG4:=hide hg4
   have HFT:=hide hft
   have HX4:Hid ((fun wx=>wx.cell? ⟨n0,0,none⟩=some (.int .i64 k)∧wx.cell? ⟨n0,1,none⟩=some (.int .i64 lg)∧wx.cell? ⟨n0,2,none⟩=some (.int .i64 at_)∧wx.cell? ⟨n0,3,none⟩=some (.slice va n cp)) w4):=⟨aAa HR4.out,aAa HR4.out,aAa HR4.out,aAa HR4.out⟩
   clear ho4 hg4 hft hnl net ner hHeld
   refine hK.out _ _ HX4.out (fun hHeld=>?_)
   clear hK K
   try simp only [Act.put,siT,scZ,scS]
   refine wpAnyH_tk 11 23 ?_
   refine wpAnyH_tk 12 24 ?_
   have y2:w4.cell? ⟨nt,2,none⟩=some (.slice la l.length lc):=aAa HT4.out
   have yf2:w4.frozen? ⟨nt,2,none⟩=false:=aAb HT4.out
   refine wpAnyH_cm 13 ?_;intro K hK
   go_simp
   have hne:n0≠nt:=by have:=HLN.out;omega
   have HT5:Hid ((w4.setCell ⟨nt,2,none⟩ (.slice a4 (l.length+1) p4)).heap[nt]?=some (.cells #[.slice (some ⟨gh,0,none⟩) M M,wv,.slice a4 (l.length+1) p4] 46 (0,0))):=heap_setCell_same _ _ _ _ _ _ HT4.out
   have HR5:=(heap_setCell_other w4 ⟨nt,2,none⟩ n0 (.slice a4 (l.length+1) p4) hne).trans HR4.out
   have HX5:Hid ((fun wx=>wx.cell? ⟨n0,0,none⟩=some (.int .i64 k)∧wx.cell? ⟨n0,1,none⟩=some (.int .i64 lg)∧wx.cell? ⟨n0,2,none⟩=some (.int .i64 at_)∧wx.cell? ⟨n0,3,none⟩=some (.slice va n cp)) (w4.setCell ⟨nt,2,none⟩ (.slice a4 (l.length+1) p4))):=⟨aAa HR5,aAa HR5,aAa HR5,aAa HR5⟩
   have HF5:Hid (FT B w4 (w4.setCell ⟨nt,2,none⟩ (.slice a4 (l.length+1) p4))):=ft1 HT4.out (by decide) HB.out
   have HO5:Hid ((w4.setCell ⟨nt,2,none⟩ (.slice a4 (l.length+1) p4)).ownsRow B 40 5 (.slice a4 (l.length+1) p4) (l.length+1) (lrF l vs++[.int .i64 (td:Int),.int .i64 k,.int .i64 lg,.int .i64 at_,.slice a2 n d2])):=aAj HO4.out fun k' cs hk' e=>(heap_setCell_other _ _ _ _ (by
    show k'≠nt
    intro e'
    subst e'
    rw [HT4.out] at e
    simp only [oI,cI] at e
    exact absurd e.2.1 (by decide))).trans e
   have HW5:Hid (Below B w (w4.setCell ⟨nt,2,none⟩ (.slice a4 (l.length+1) p4))):=((HB3.out.mono HBW.out).trans HFT.out.1).trans HF5.out.1
   have HK5:=hide (HK4.out.ft HF5.out)
   have HQ6:Hid (∀ (i:Nat) x v,l[i]?=some x→vs[i]?=some v→∃ a c,v=.slice a x.val.length c∧BK B (w4.setCell ⟨nt,2,none⟩ (.slice a4 (l.length+1) p4)) a x.val.length c x.val):=fun i x v e1 e2=>by
    obtain ⟨a,c,e3,e4⟩:=HQ5.out i x v e1 e2
    exact ⟨a,c,e3,e4.ft HF5.out⟩
   have HS5:Hid (∀ k',k'<n0→k'≠nt→(Value.slice la l.length lc).ownBlock≠some k'→(w4.setCell ⟨nt,2,none⟩ (.slice a4 (l.length+1) p4)).heap[k']?=w.heap[k']?):=fun k' h1 h2 h3=>((heap_setCell_other _ _ _ _ h2).trans (HG4.out.block k' (by have:=HB3.out.size;omega) (fun e=>h3 e.symm))).trans (HB3.out.block k' h1)
   clear hHeld hne HR5 y2 yf2
   generalize (w4.setCell ⟨nt,2,none⟩ (.slice a4 (l.length+1) p4))=w5 at *
   refine hK.out _ _ HX5.out (fun hHeld=>?_)
   clear hK K
   try simp only [Act.put,siT,scZ,scS]
   refine wpAnyH_done (by kernel_rfl) ?_ _
   refine NoPanic.normal ?_
   clear hHeld
   go_wp2
   (try simp only [Exit.inBlock,Exit.then])
   refine bodyPost_end (results_none rfl _ _ _) rfl ⟨rfl,_,HT5.out,⟨vs++[.slice a2 n d2],by simp [HQ1.out],?_,?_⟩,HW5.out,fun k' h1 h2 h3=>HS5.out k' h1 h2 h3⟩
   ·have e1:(l++[(⟨td,k,lg,at_,val⟩:LR)]).length=l.length+1:=by simp
    rw [aEg _ _ _ _ HQ1.out,e1]
    exact HO5.out
   ·intro i x v e1 e2
    by_cases hi':i<l.length
    ·rw [List.getElem?_append_left hi'] at e1
     rw [List.getElem?_append_left (by rw [HQ1.out];exact hi')] at e2
     exact HQ6.out i x v e1 e2
    ·have hil:i=l.length:=by
      have:=(lL e1)
      simp at this
      omega
     subst hil
     rw [List.getElem?_append_right (nR _),Nat.sub_self] at e1
     rw [List.getElem?_append_right (by rw [HQ1.out];exact nR _),HQ1.out,Nat.sub_self] at e2
     simp only [List.getElem?_cons_zero,oI] at e1 e2
     subst e1
     subst e2
     refine ⟨a2,d2,?_,?_⟩
     ·show Value.slice a2 n d2=Value.slice a2 val.length d2
      rw [HVL.out]
     ·show BK B w5 a2 val.length d2 val
      rw [HVL.out]
      exact HK5.out
  case bbb =>
   intro o ho K hK
   simp only [List.getElem?_toArray,List.getElem?_cons_succ,List.getElem?_cons_zero,oI] at ho
   subst ho
   go_simp
   have hb3:=aAc w2 (.cells #[.int .i64 (td:Int),.int .i64 k,.int .i64 lg,.int .i64 at_,.slice a2 n d2] 40)
   have HBL2:Hid (B≤w2.heap.size):=by show B≤_;have:=HB2.out.size;have:=HBW.out;omega
   have HT3:=hide ((hb3.block nt (lt HT2.out)).trans HT2.out)
   have HR3:=hide ((hb3.block n0 (lt HR2.out)).trans HR2.out)
   have HO3:=hide (aAh HO2.out hb3)
   have HK3:=hide (HK2.out.later hb3 HBL2.out)
   have HQ4:Hid (∀ (i:Nat) x v,l[i]?=some x→vs[i]?=some v→∃ a c,v=.slice a x.val.length c∧BK B (w2.alloc (.cells #[.int .i64 (td:Int),.int .i64 k,.int .i64 lg,.int .i64 at_,.slice a2 n d2] 40)) a x.val.length c x.val):=fun i x v e1 e2=>by
    obtain ⟨a,c,e3,e4⟩:=HQ2.out i x v e1 e2
    exact ⟨a,c,e3,e4.later hb3 HBL2.out⟩
   have HB3:Hid (Below n0 w (w2.alloc (.cells #[.int .i64 (td:Int),.int .i64 k,.int .i64 lg,.int .i64 at_,.slice a2 n d2] 40))):=HB2.out.trans (hb3.mono (by have:=HB2.out.size;omega))
   have HNW:Hid (∀ j r,[.int .i64 (td:Int),.int .i64 k,.int .i64 lg,.int .i64 at_,.slice a2 n d2][j]?=some r→(w2.alloc (.cells #[.int .i64 (td:Int),.int .i64 k,.int .i64 lg,.int .i64 at_,.slice a2 n d2] 40)).cell? ((⟨w2.heap.size,0,none⟩:Addr).add j)=some r):=news5 w2 _ _ _ _ _ _
   have HX3:Hid ((fun wx=>wx.cell? ⟨n0,0,none⟩=some (.int .i64 k)∧wx.cell? ⟨n0,1,none⟩=some (.int .i64 lg)∧wx.cell? ⟨n0,2,none⟩=some (.int .i64 at_)∧wx.cell? ⟨n0,3,none⟩=some (.slice va n cp)) (w2.alloc (.cells #[.int .i64 (td:Int),.int .i64 k,.int .i64 lg,.int .i64 at_,.slice a2 n d2] 40))):=⟨aAa HR3.out,aAa HR3.out,aAa HR3.out,aAa HR3.out⟩
   clear hb3 hHeld
   generalize w2.alloc (.cells #[.int .i64 (td:Int),.int .i64 k,.int .i64 lg,.int .i64 at_,.slice a2 n d2] 40)=w3 at *
   generalize w2.heap.size=n2 at *
   refine hK.out _ _ HX3.out (fun hHeld=>?_)
   clear hK K
   try simp only [Act.put,siT,scZ,scS]
   have c2:w3.cell? ⟨nt,2,none⟩=some (.slice la l.length lc):=aAa HT3.out
   refine wpAnyH_cm 4 ?_;intro K hK
   go_simp
   clear hHeld
   refine hK.out _ _ HX3.out (fun hHeld=>?_)
   clear hK K
   try simp only [Act.put,siT,scZ,scS]
   clear c2
   refine wpAnyH_cm 10 ?_;intro K hK
   rw [if_pos (by rfl)]
   refine aAu (.tmp 16) (.tmp 21) 35 rfl B 40 i0 (.agg #[.int .i64 0,.int .i64 0,.int .i64 0,.int .i64 0,.slice none 0 0]) 5 56 Tryz.underlying35 hi hz0 hz1 hz2 rfl (by omega) (.slice la l.length lc) l.length _ rfl HO3.out ⟨n2,0,none⟩ 1 1 [.int .i64 (td:Int),.int .i64 k,.int .i64 lg,.int .i64 at_,.slice a2 n d2] rfl rfl HNW.out (by intro u hu;simp at hu;rcases hu with rfl | rfl | rfl | rfl | rfl<;>rfl) (by unfold maxLen;omega) (by omega) (by have:=HB3.out.size;have:=HBW.out;omega) ?_
   intro v4 w4 ho4 hg4 hat4
   obtain ⟨a4,p4,rfl⟩:=aAg ho4
   have hnl:∀ k':Nat,(Value.slice la l.length lc).ownBlock=some k'→∃ cur,w3.heap[k']?=some (.cells cur 40 (0,0)):=fun k' e=>(aAl HO3.out e).2
   have net:some nt≠(Value.slice la l.length lc).ownBlock:=fun e=>by
    obtain ⟨cur,hc⟩:=hnl nt e.symm
    rw [HT3.out] at hc
    simp only [oI,cI] at hc
    exact absurd hc.2.1 (by decide)
   have ner:some n0≠(Value.slice la l.length lc).ownBlock:=fun e=>by
    obtain ⟨cur,hc⟩:=hnl n0 e.symm
    rw [HR3.out] at hc
    simp only [oI,cI] at hc
    exact absurd hc.2.1 (by decide)
   have HT4:=hide ((hg4.block nt (lt HT3.out) net).trans HT3.out)
   have HR4:=hide ((hg4.block n0 (lt HR3.out) ner).trans HR3.out)
   have hft:FT B w3 w4:=by
    refine ⟨⟨hg4.os,hg4.tape,hg4.output,hg4.size,fun k' hk'=>hg4.block k' (by have:=HB3.out.size;have:=HBW.out;omega) (fun e=>?_)⟩,fun k' cs fz e=>?_⟩
    ·have:=(aAl HO3.out e.symm).1
     omega
    ·rw [hg4.block k' (lt e) (fun e'=>?_),e]
     obtain ⟨cur,hc⟩:=hnl k' e'.symm
     rw [hc] at e
     simp only [oI,cI] at e
     exact absurd e.2.1 (by decide)
   have HK4:=hide (HK3.out.ft hft)
   have HQ5:Hid (∀ (i:Nat) x v,l[i]?=some x→vs[i]?=some v→∃ a c,v=.slice a x.val.length c∧BK B w4 a x.val.length c x.val):=fun i x v e1 e2=>by
    obtain ⟨a,c,e3,e4⟩:=HQ4.out i x v e1 e2
    exact ⟨a,c,e3,e4.ft hft⟩
   have HO4:=hide ho4
   have HG4:=hide hg4
   have HFT:=hide hft
   have HX4:Hid ((fun wx=>wx.cell? ⟨n0,0,none⟩=some (.int .i64 k)∧wx.cell? ⟨n0,1,none⟩=some (.int .i64 lg)∧wx.cell? ⟨n0,2,none⟩=some (.int .i64 at_)∧wx.cell? ⟨n0,3,none⟩=some (.slice va n cp)) w4):=⟨aAa HR4.out,aAa HR4.out,aAa HR4.out,aAa HR4.out⟩
   clear ho4 hg4 hft hnl net ner hHeld
   refine hK.out _ _ HX4.out (fun hHeld=>?_)
   clear hK K
   try simp only [Act.put,siT,scZ,scS]
   refine wpAnyH_tk 11 23 ?_
   refine wpAnyH_tk 12 24 ?_
   have y2:w4.cell? ⟨nt,2,none⟩=some (.slice la l.length lc):=aAa HT4.out
   have yf2:w4.frozen? ⟨nt,2,none⟩=false:=aAb HT4.out
   refine wpAnyH_cm 13 ?_;intro K hK
   go_simp
   have hne:n0≠nt:=by have:=HLN.out;omega
   have HT5:Hid ((w4.setCell ⟨nt,2,none⟩ (.slice a4 (l.length+1) p4)).heap[nt]?=some (.cells #[.slice (some ⟨gh,0,none⟩) M M,wv,.slice a4 (l.length+1) p4] 46 (0,0))):=heap_setCell_same _ _ _ _ _ _ HT4.out
   have HR5:=(heap_setCell_other w4 ⟨nt,2,none⟩ n0 (.slice a4 (l.length+1) p4) hne).trans HR4.out
   have HX5:Hid ((fun wx=>wx.cell? ⟨n0,0,none⟩=some (.int .i64 k)∧wx.cell? ⟨n0,1,none⟩=some (.int .i64 lg)∧wx.cell? ⟨n0,2,none⟩=some (.int .i64 at_)∧wx.cell? ⟨n0,3,none⟩=some (.slice va n cp)) (w4.setCell ⟨nt,2,none⟩ (.slice a4 (l.length+1) p4))):=⟨aAa HR5,aAa HR5,aAa HR5,aAa HR5⟩
   have HF5:Hid (FT B w4 (w4.setCell ⟨nt,2,none⟩ (.slice a4 (l.length+1) p4))):=ft1 HT4.out (by decide) HB.out
   have HO5:Hid ((w4.setCell ⟨nt,2,none⟩ (.slice a4 (l.length+1) p4)).ownsRow B 40 5 (.slice a4 (l.length+1) p4) (l.length+1) (lrF l vs++[.int .i64 (td:Int),.int .i64 k,.int .i64 lg,.int .i64 at_,.slice a2 n d2])):=aAj HO4.out fun k' cs hk' e=>(heap_setCell_other _ _ _ _ (by
    show k'≠nt
    intro e'
    subst e'
    rw [HT4.out] at e
    simp only [oI,cI] at e
    exact absurd e.2.1 (by decide))).trans e
   have HW5:Hid (Below B w (w4.setCell ⟨nt,2,none⟩ (.slice a4 (l.length+1) p4))):=((HB3.out.mono HBW.out).trans HFT.out.1).trans HF5.out.1
   have HK5:=hide (HK4.out.ft HF5.out)
   have HQ6:Hid (∀ (i:Nat) x v,l[i]?=some x→vs[i]?=some v→∃ a c,v=.slice a x.val.length c∧BK B (w4.setCell ⟨nt,2,none⟩ (.slice a4 (l.length+1) p4)) a x.val.length c x.val):=fun i x v e1 e2=>by
    obtain ⟨a,c,e3,e4⟩:=HQ5.out i x v e1 e2
    exact ⟨a,c,e3,e4.ft HF5.out⟩
   have HS5:Hid (∀ k',k'<n0→k'≠nt→(Value.slice la l.length lc).ownBlock≠some k'→(w4.setCell ⟨nt,2,none⟩ (.slice a4 (l.length+1) p4)).heap[k']?=w.heap[k']?):=fun k' h1 h2 h3=>((heap_setCell_other _ _ _ _ h2).trans (HG4.out.block k' (by have:=HB3.out.size;omega) (fun e=>h3 e.symm))).trans (HB3.out.block k' h1)
   clear hHeld hne HR5 y2 yf2
   generalize (w4.setCell ⟨nt,2,none⟩ (.slice a4 (l.length+1) p4))=w5 at *
   refine hK.out _ _ HX5.out (fun hHeld=>?_)
   clear hK K
   try simp only [Act.put,siT,scZ,scS]
   refine wpAnyH_done (by kernel_rfl) ?_ _
   refine NoPanic.normal ?_
   clear hHeld
   go_wp2
   (try simp only [Exit.inBlock,Exit.then])
   refine bodyPost_end (results_none rfl _ _ _) rfl ⟨rfl,_,HT5.out,⟨vs++[.slice a2 n d2],by simp [HQ1.out],?_,?_⟩,HW5.out,fun k' h1 h2 h3=>HS5.out k' h1 h2 h3⟩
   ·have e1:(l++[(⟨td,k,lg,at_,val⟩:LR)]).length=l.length+1:=by simp
    rw [aEg _ _ _ _ HQ1.out,e1]
    exact HO5.out
   ·intro i x v e1 e2
    by_cases hi':i<l.length
    ·rw [List.getElem?_append_left hi'] at e1
     rw [List.getElem?_append_left (by rw [HQ1.out];exact hi')] at e2
     exact HQ6.out i x v e1 e2
    ·have hil:i=l.length:=by
      have:=(lL e1)
      simp at this
      omega
     subst hil
     rw [List.getElem?_append_right (nR _),Nat.sub_self] at e1
     rw [List.getElem?_append_right (by rw [HQ1.out];exact nR _),HQ1.out,Nat.sub_self] at e2
     simp only [List.getElem?_cons_zero,oI] at e1 e2
     subst e1
     subst e2
     refine ⟨a2,d2,?_,?_⟩
     ·show Value.slice a2 n d2=Value.slice a2 val.length d2
      rw [HVL.out]
     ·show BK B w5 a2 val.length d2 val
      rw [HVL.out]
      exact HK5.out
theorem aA7 {fn:Func} {p u:Tmp} (h:fn.results=#[.cell p 30,.tmp u]) (tmps:Array Value) (w:World) (g:Nat) (cs:Array Value)
  (hp:tmps.getD p undef=.pointer (some ⟨g,0,none⟩)) (hg:w.heap[g]?=some (.cells cs 30 (0,0))) (hz:cs.size=6) :
  (results fn tmps).run Tryz.prog w=.ok (.tuple #[.agg cs,tmps.getD u undef]) w:=by
 have hi:(Tryz.prog.info? 30).map (·.size)=some cs.size:=by rw [hz];exact aE6
 rw [results_cell_tmp h,hp]
 simp only [asAddr,Sem.run_pure,Result.andThen_ok,run_loadVar_row w g 30 30 cs (0,0) _ hg Tryz.underlying30 rfl hi]
section
variable {B N M:Nat} {P:Nat→NdP} {A:Nat→NdS} {E:Nat→Prop} {W w w':World}
theorem MND.dead (h:MND B N M P A E W w) {i:Nat} (hi:i<M):Calls Tryz.prog 34 #[.pointer (some ⟨(P i).nd,0,none⟩)] w fun e w'=>e=.returned (.bool false)∧Below w.heap.size w w':=by
 obtain ⟨F,⟨h1,_⟩,_⟩:=h
 have hx:=(h1 i hi).nx (fun _=>False) (fun k hk=>False.elim hk)
 letI:Gd:=⟨fun _=>False⟩
 obtain ⟨c,u,k1,_⟩:=hx
 exact k1.dead
theorem MND.wrO (h:MND B N M P A E W w) {g o:Nat} {u:Value} {cs:Array Value} {t:TypeId} (hg:w.heap[g]?=some (.cells cs t (0,0))) (hB:B≤g) (h0:¬ DTy t) (h1:t≠5) (h2:t≠155) (h3:t≠104) (h4:t≠89∧t≠109):MND B N M P A E W (w.setCell ⟨g,o,none⟩ u):=by
 obtain ⟨F,⟨k1,hE⟩,k2⟩:=h
 have oth:∀ k,k≠g→(w.setCell ⟨g,o,none⟩ u).heap[k]?=w.heap[k]?:=fun k hk=>heap_setCell_other _ _ _ _ hk
 have ne:∀ {k:Nat} {cs':Array Value} {t':TypeId} {fz:Nat×Nat},w.heap[k]?=some (Obj.cells cs' t' fz)→t≠t'→k≠g:=by
  intro k cs' t' fz e ht e3
  subst e3
  rw [hg] at e
  simp only [oI,cI] at e
  exact ht e.2.1
 refine ⟨F,⟨fun i hi=>?_,fun k hk=>⟨(hE k hk).1.same (oth k ((hE k hk).1.ne hg h0)),(hE k hk).2⟩⟩,k2⟩
 obtain ⟨⟨d1,⟨c1,d2⟩,⟨c2,d3⟩,⟨c3,d4⟩⟩,⟨_,c5,d5,_⟩,_⟩:=k1 i hi
 exact (k1 i hi).keep (fun k hk=>oth k ((d1 k hk).ne hg h0)) (fun k cs fz e=>(oth k (ne e h1)).trans e) (oth _ (ne d2 h2)) (oth _ (ne d3 h3)) (oth _ (ne d4 h4.1)) ((Below.refl _ _).setCell (p:=⟨g,o,none⟩) hB u) (oth _ (ne d5 h4.2))
theorem MND.wr6 (h:MND B N M P A E W w) {g:Nat} {a0 a1 a2 a3 a4 a5 b0 b1 b2 b3 b4 b5:Value} (hg:w.heap[g]?=some (.cells #[a0,a1,a2,a3,a4,a5] 30 (0,0))) (hB:B≤g):MND B N M P A E W ((((((w.setCell ⟨g,0,none⟩ b0).setCell ⟨g,1,none⟩ b1).setCell ⟨g,2,none⟩ b2).setCell ⟨g,3,none⟩ b3).setCell ⟨g,4,none⟩ b4).setCell ⟨g,5,none⟩ b5):=by
 have s1:=heap_setCell_same w g 0 _ _ b0 hg
 have s2:=heap_setCell_same _ g 1 _ _ b1 s1
 have s3:=heap_setCell_same _ g 2 _ _ b2 s2
 have s4:=heap_setCell_same _ g 3 _ _ b3 s3
 have s5:=heap_setCell_same _ g 4 _ _ b4 s4
 have d:¬ DTy 30:=by unfold DTy;decide
 exact (((((h.wrO hg hB d (by decide) (by decide) (by decide) (by decide)).wrO s1 hB d (by decide) (by decide) (by decide) (by decide)).wrO s2 hB d (by decide) (by decide) (by decide) (by decide)).wrO s3 hB d (by decide) (by decide) (by decide) (by decide)).wrO s4 hB d (by decide) (by decide) (by decide) (by decide)).wrO s5 hB d (by decide) (by decide) (by decide) (by decide)
end
theorem NdK.wr6 {w0 w:World} {g:Nat} {b0 b1 b2 b3 b4 b5:Value} (h:NdK w0 w) (hn:w0.heap.size≤g):NdK w0 ((((((w.setCell ⟨g,0,none⟩ b0).setCell ⟨g,1,none⟩ b1).setCell ⟨g,2,none⟩ b2).setCell ⟨g,3,none⟩ b3).setCell ⟨g,4,none⟩ b4).setCell ⟨g,5,none⟩ b5):=fun k cs t fz e n1 n2 n3 n4=>by
 have hne:k≠g:=by
  have:=(lO e)
  omega
 rw [heap_setCell_other _ _ _ _ hne,heap_setCell_other _ _ _ _ hne,heap_setCell_other _ _ _ _ hne,heap_setCell_other _ _ _ _ hne,heap_setCell_other _ _ _ _ hne,heap_setCell_other _ _ _ _ hne]
 exact h k cs t fz e n1 n2 n3 n4
theorem oth6 {w:World} {g k:Nat} {b0 b1 b2 b3 b4 b5:Value} (hne:k≠g):((((((w.setCell ⟨g,0,none⟩ b0).setCell ⟨g,1,none⟩ b1).setCell ⟨g,2,none⟩ b2).setCell ⟨g,3,none⟩ b3).setCell ⟨g,4,none⟩ b4).setCell ⟨g,5,none⟩ b5).heap[k]?=w.heap[k]?:=by
 rw [heap_setCell_other _ _ _ _ hne,heap_setCell_other _ _ _ _ hne,heap_setCell_other _ _ _ _ hne,heap_setCell_other _ _ _ _ hne,heap_setCell_other _ _ _ _ hne,heap_setCell_other _ _ _ _ hne]
def DoT (B N:Nat) (P:NdP) (W:World) (k lg at_:Int) (va:Option Addr) (n cp:Nat) (a x:NdS) (e0 tl:Int) (sl:Bool) (tr bl:Int) (vn:Nat) (val:List Nat) (ww:World):Prop:=∀ S:Nat→Prop,@NX ⟨S⟩ B P.p P.q P.g P.ls P.rg P.nd N a.m a.l a.L W ww→RGB B P ww→Calls Tryz.prog 27 #[.pointer (some ⟨P.nd,0,none⟩),.agg #[.int .i64 k,.int .i64 lg,.int .i64 at_,.slice va n cp]] ww fun e w'=>(∃ sa sc,e=.returned (.agg #[.int .i64 e0,.int .i64 tl,.bool sl,.int .i64 tr,.int .i64 bl,.slice sa vn sc])∧BK B w' sa vn sc val)∧@NX ⟨S⟩ B P.p P.q P.g P.ls P.rg P.nd N x.m x.l x.L W w'∧RGB B P w'∧@RgN ⟨S⟩ B P ww w'
theorem host_up {B N M:Nat} {P:Nat→NdP} {A:Nat→NdS} {E:Nat→Prop} {W w:World} (h:MND B N M P A E W w) {i gh:Nat} (hi:i<M) (hh:w.cell? ⟨gh,i*2+1,none⟩=some (.pointer (some ⟨(P i).nd,0,none⟩))) :
  Calls Tryz.prog 26 #[.pointer (some ⟨gh,i*2,none⟩)] w fun e w'=>e=.returned (.bool true)∧Below w.heap.size w w':=by
 have HD:=hide (h.dead hi)
 clear h
 go_enter Tryz.func26,Tryz.ntmps26
 go_wp2_with fail
 refine HD.out.mono ?_
 rintro e w1 ⟨rfl,hb1⟩
 have HB1:=hide hb1
 clear hb1 HD
 go_wp2
 go_ret
 exact ⟨rfl,HB1.out⟩
theorem aCu {B N M:Nat} {P:Nat→NdP} {A:Nat→NdS} {E:Nat→Prop} {W w:World} (h:MND B N M P A E W w) (hBw:B≤w.heap.size) {i gh n cp vn:Nat} {k lg at_ e0 tl tr bl:Int} {sl:Bool} {va:Option Addr} {val:List Nat} {x:NdS} {hc:Array Value} (hi:i<M) (hh:w.heap[gh]?=some (.cells hc 52 (0,0))) (hcc:hc[i*2+1]?=some (.pointer (some ⟨(P i).nd,0,none⟩))) (he:¬ e0=20) (hEl:∀ k,E k→k<w.heap.size)
  (hdo:∀ ww,Below w.heap.size w ww→DoT B N (P i) W k lg at_ va n cp (A i) x e0 tl sl tr bl vn val ww) :
  Calls Tryz.prog 16 #[.pointer (some ⟨gh,i*2,none⟩),.agg #[.int .i64 k,.int .i64 lg,.int .i64 at_,.slice va n cp]] w fun e w'=>(∃ sa sc,e=.returned (.tuple #[.agg #[.int .i64 e0,.int .i64 tl,.bool sl,.int .i64 tr,.int .i64 bl,.slice sa vn sc],.bool true])∧BK B w' sa vn sc val)∧MND B N M P (upS A i x) E W w'∧NdK w w'∧Below B w w'∧∀ k,E k→w'.heap[k]?=w.heap[k]?:=by
 have lt:∀ {k:Nat} {o:Obj} {ww:World},ww.heap[k]?=some o→k<ww.heap.size:=fun e=>(lO e)
 have HBX:=hide (aAr w (.cells #[.int .i64 k,.int .i64 lg,.int .i64 at_,.slice va n cp] 34) (.cells #[.int .i64 0,.int .i64 0,.bool false,.int .i64 0,.int .i64 0,.slice none 0 0] 30))
 have HR1:Hid (((w.alloc (.cells #[.int .i64 k,.int .i64 lg,.int .i64 at_,.slice va n cp] 34)).alloc (.cells #[.int .i64 0,.int .i64 0,.bool false,.int .i64 0,.int .i64 0,.slice none 0 0] 30)).heap[w.heap.size]?=some (.cells #[.int .i64 k,.int .i64 lg,.int .i64 at_,.slice va n cp] 34 (0,0))):=aAd [Obj.cells #[.int .i64 k,.int .i64 lg,.int .i64 at_,.slice va n cp] 34,Obj.cells #[.int .i64 0,.int .i64 0,.bool false,.int .i64 0,.int .i64 0,.slice none 0 0] 30] w 0 _ rfl
 have HA1:Hid (((w.alloc (.cells #[.int .i64 k,.int .i64 lg,.int .i64 at_,.slice va n cp] 34)).alloc (.cells #[.int .i64 0,.int .i64 0,.bool false,.int .i64 0,.int .i64 0,.slice none 0 0] 30)).heap[w.heap.size+1]?=some (.cells #[.int .i64 0,.int .i64 0,.bool false,.int .i64 0,.int .i64 0,.slice none 0 0] 30 (0,0))):=aAd [Obj.cells #[.int .i64 k,.int .i64 lg,.int .i64 at_,.slice va n cp] 34,Obj.cells #[.int .i64 0,.int .i64 0,.bool false,.int .i64 0,.int .i64 0,.slice none 0 0] 30] w 1 _ rfl
 have HM1:=hide (h.later HBX.out hBw)
 have HH1:=hide ((HBX.out.block gh (lt hh)).trans hh)
 have HGH:Hid (gh<w.heap.size):=lt hh
 have HHC:=hide hcc
 have HI:=hide hi
 have HDO:=hide hdo
 have HBW:=hide hBw
 have HEL:=hide hEl
 have y0:((w.alloc (.cells #[.int .i64 k,.int .i64 lg,.int .i64 at_,.slice va n cp] 34)).alloc (.cells #[.int .i64 0,.int .i64 0,.bool false,.int .i64 0,.int .i64 0,.slice none 0 0] 30)).cell? ⟨gh,i*2+1,none⟩=some (.pointer (some ⟨(P i).nd,0,none⟩)):=(aAa HH1.out).trans hcc
 have HU1:=hide (host_up HM1.out hi y0)
 clear h hh hcc hi hdo hBw hEl y0
 go_enter Tryz.func16,Tryz.ntmps16
 go_upto_region 1 with fail
 generalize ((w.alloc (.cells #[.int .i64 k,.int .i64 lg,.int .i64 at_,.slice va n cp] 34)).alloc (.cells #[.int .i64 0,.int .i64 0,.bool false,.int .i64 0,.int .i64 0,.slice none 0 0] 30))=w1 at *
 generalize hn0:w.heap.size=n0 at *
 generalize hn1:n0+1=n1 at *
 have HN1:Hid (n0≤n1):=by show n0≤n1;omega
 have HBN:Hid (B≤n1):=by show B≤n1;have:=HBW.out;omega
 clear hn1
 go_wp2_with fail
 refine HU1.out.mono ?_
 rintro e w2 ⟨rfl,hb2⟩
 have HB1:B≤w1.heap.size:=by have:=HBX.out.size;have:=HBW.out;omega
 have hb2:=hb2.drew
 have HM2:=hide (HM1.out.later hb2 HB1)
 have HR2:=hide ((hb2.block n0 (lt HR1.out)).trans HR1.out)
 have HA2:=hide ((hb2.block n1 (lt HA1.out)).trans HA1.out)
 have HH2:=hide ((hb2.block gh (lt HH1.out)).trans HH1.out)
 have HWD:Hid (Below n0 w w2.drew):=HBX.out.trans (hb2.mono (by have:=HBX.out.size;omega))
 have HNW2:Hid (NdK w w2.drew):=NdK.of (by rw [hn0];exact HWD.out)
 have HWB2:Hid (Below B w w2.drew):=HWD.out.mono HBW.out
 have HE2:Hid (∀ k,E k→w2.drew.heap[k]?=w.heap[k]?):=fun k hk=>HWD.out.block k (HEL.out k hk)
 have HB2:Hid (B≤w2.heap.size):=by show B≤_;have h9:w1.heap.size≤w2.heap.size:=hb2.size;omega
 have HCA:=hide (HM2.out.callr HI.out (HDO.out w2.drew HWD.out))
 have HX2:Hid ((fun wx=>wx.cell? ⟨gh,i*2+1,none⟩=some (.pointer (some ⟨(P i).nd,0,none⟩))∧wx.cell? ⟨n0,0,none⟩=some (.int .i64 k)∧wx.cell? ⟨n0,1,none⟩=some (.int .i64 lg)∧wx.cell? ⟨n0,2,none⟩=some (.int .i64 at_)∧wx.cell? ⟨n0,3,none⟩=some (.slice va n cp)) w2.drew):=⟨(aAa HH2.out).trans HHC.out,aAa HR2.out,aAa HR2.out,aAa HR2.out,aAa HR2.out⟩
 clear hb2 HB1 HU1 HM1 HR1 HA1 HH1 HBX
 go_upto_region 3 with fail
 refine wp_region_noPanic ?_
 refine wp_region_held_drew (S:=fun wx=>wx.cell? ⟨gh,i*2+1,none⟩=some (.pointer (some ⟨(P i).nd,0,none⟩))∧wx.cell? ⟨n0,0,none⟩=some (.int .i64 k)∧wx.cell? ⟨n0,1,none⟩=some (.int .i64 lg)∧wx.cell? ⟨n0,2,none⟩=some (.int .i64 at_)∧wx.cell? ⟨n0,3,none⟩=some (.slice va n cp)) (by kernel_rfl) HX2.out (fun hHeld=>?_)
 refine wpAnyH_tk 0 11 ?_
 refine wpAnyH_tk 1 12 ?_
 refine wpAnyH_tk 2 13 ?_
 refine wpAnyH_tk 3 14 ?_
 refine wpAnyH_tk 4 15 ?_
 refine aAo (i:=5) (j:=6) (by kernel_rfl) (by kernel_rfl) (by kernel_rfl) ?ba ?bb
 case ba =>
  intro o ho K hK
  simp only [List.getElem?_toArray,List.getElem?_cons_succ,List.getElem?_cons_zero,oI] at ho
  subst ho
  go_simp
  refine HCA.out.mono ?_
  rintro e w3 ⟨⟨sa,sc,rfl,hk3⟩,hM3,hN3,hb3,hE3⟩
  have HM3:=hide hM3
  have HK3:=hide hk3
  have HR3:=hide (hN3 _ _ _ _ HR2.out (by decide) (by decide) (by decide) (by decide))
  have HA3:=hide (hN3 _ _ _ _ HA2.out (by decide) (by decide) (by decide) (by decide))
  have HH3:=hide (hN3 _ _ _ _ HH2.out (by decide) (by decide) (by decide) (by decide))
  have HN3:=hide (HNW2.out.trans hN3)
  have HW3:Hid (Below B w w3):=HWB2.out.trans hb3
  have HE3:Hid (∀ k,E k→w3.heap[k]?=w.heap[k]?):=fun k hk=>(hE3 k hk).trans (HE2.out k hk)
  have HX3:Hid ((fun wx=>wx.cell? ⟨gh,i*2+1,none⟩=some (.pointer (some ⟨(P i).nd,0,none⟩))∧wx.cell? ⟨n0,0,none⟩=some (.int .i64 k)∧wx.cell? ⟨n0,1,none⟩=some (.int .i64 lg)∧wx.cell? ⟨n0,2,none⟩=some (.int .i64 at_)∧wx.cell? ⟨n0,3,none⟩=some (.slice va n cp)) w3):=⟨(aAa HH3.out).trans HHC.out,aAa HR3.out,aAa HR3.out,aAa HR3.out,aAa HR3.out⟩
  have HB3:Hid (B≤w3.heap.size):=by show B≤_;have:=HW3.out.size;have:=HBW.out;omega
  clear hk3 hM3 hN3 hb3 hE3 hHeld HCA HM2 HR2 HA2 HH2 HNW2 HWB2 HE2
  refine hK.out _ _ HX3.out (fun hHeld=>?_)
  clear hK K
  try simp only [Act.put,siT,scZ,scS]
  refine wpAnyH_cm 6 ?_;intro K hK
  go_simp
  have hb4:=aAc w3 (.cells #[.int .i64 0,.int .i64 0,.bool false,.int .i64 0,.int .i64 0,.slice none 0 0] 30)
  have HM4:=hide (HM3.out.later hb4 HB3.out)
  have HC4:Hid ((w3.alloc (.cells #[.int .i64 0,.int .i64 0,.bool false,.int .i64 0,.int .i64 0,.slice none 0 0] 30)).heap[w3.heap.size]?=some (.cells #[.int .i64 0,.int .i64 0,.bool false,.int .i64 0,.int .i64 0,.slice none 0 0] 30 (0,0))):=heap_alloc_new w3 _
  have HR4:=hide ((hb4.block n0 (lt HR3.out)).trans HR3.out)
  have HA4:=hide ((hb4.block n1 (lt HA3.out)).trans HA3.out)
  have HH4:=hide ((hb4.block gh (lt HH3.out)).trans HH3.out)
  have HK4:=hide (HK3.out.later hb4 HB3.out)
  have HN4:=hide (HN3.out.trans (NdK.of hb4))
  have HW4:Hid (Below B w (w3.alloc (.cells #[.int .i64 0,.int .i64 0,.bool false,.int .i64 0,.int .i64 0,.slice none 0 0] 30))):=HW3.out.trans (hb4.mono HB3.out)
  have HE4:Hid (∀ k,E k→(w3.alloc (.cells #[.int .i64 0,.int .i64 0,.bool false,.int .i64 0,.int .i64 0,.slice none 0 0] 30)).heap[k]?=w.heap[k]?):=fun k hk=>(hb4.block k (by have:=HEL.out k hk;have:=HW3.out.size;omega)).trans (HE3.out k hk)
  have HN2:Hid (n1<w3.heap.size):=lt HA3.out
  have HBC:Hid (B≤w3.heap.size):=HB3.out
  have HX4:Hid ((fun wx=>wx.cell? ⟨gh,i*2+1,none⟩=some (.pointer (some ⟨(P i).nd,0,none⟩))∧wx.cell? ⟨n0,0,none⟩=some (.int .i64 k)∧wx.cell? ⟨n0,1,none⟩=some (.int .i64 lg)∧wx.cell? ⟨n0,2,none⟩=some (.int .i64 at_)∧wx.cell? ⟨n0,3,none⟩=some (.slice va n cp)) (w3.alloc (.cells #[.int .i64 0,.int .i64 0,.bool false,.int .i64 0,.int .i64 0,.slice none 0 0] 30))):=⟨(aAa HH4.out).trans HHC.out,aAa HR4.out,aAa HR4.out,aAa HR4.out,aAa HR4.out⟩
  clear hb4 hHeld HM3 HR3 HA3 HH3 HK3 HN3 HW3 HE3 HB3
  generalize w3.alloc (.cells #[.int .i64 0,.int .i64 0,.bool false,.int .i64 0,.int .i64 0,.slice none 0 0] 30)=w4 at *
  generalize w3.heap.size=n2 at *
  refine hK.out _ _ HX4.out (fun hHeld=>?_)
  clear hK K
  try simp only [Act.put,siT,scZ,scS]
  have m0:w4.cell? ⟨n2,0,none⟩=some (.int .i64 0):=aAa HC4.out
  have mf0:w4.frozen? ⟨n2,0,none⟩=false:=aAb HC4.out
  have m1:w4.cell? ⟨n2,1,none⟩=some (.int .i64 0):=aAa HC4.out
  have mf1:w4.frozen? ⟨n2,1,none⟩=false:=aAb HC4.out
  have m2:w4.cell? ⟨n2,2,none⟩=some (.bool false):=aAa HC4.out
  have mf2:w4.frozen? ⟨n2,2,none⟩=false:=aAb HC4.out
  have m3:w4.cell? ⟨n2,3,none⟩=some (.int .i64 0):=aAa HC4.out
  have mf3:w4.frozen? ⟨n2,3,none⟩=false:=aAb HC4.out
  have m4:w4.cell? ⟨n2,4,none⟩=some (.int .i64 0):=aAa HC4.out
  have mf4:w4.frozen? ⟨n2,4,none⟩=false:=aAb HC4.out
  have m5:w4.cell? ⟨n2,5,none⟩=some (.slice none 0 0):=aAa HC4.out
  have mf5:w4.frozen? ⟨n2,5,none⟩=false:=aAb HC4.out
  refine wpAnyH_cm 7 ?_;intro K hK
  go_simp
  have HM5:=hide (HM4.out.wr6 (b0:=.int .i64 e0) (b1:=.int .i64 tl) (b2:=.bool sl) (b3:=.int .i64 tr) (b4:=.int .i64 bl) (b5:=.slice sa vn sc) HC4.out HBC.out)
  have HC5:Hid (((((((w4.setCell ⟨n2,0,none⟩ (.int .i64 e0)).setCell ⟨n2,1,none⟩ (.int .i64 tl)).setCell ⟨n2,2,none⟩ (.bool sl)).setCell ⟨n2,3,none⟩ (.int .i64 tr)).setCell ⟨n2,4,none⟩ (.int .i64 bl)).setCell ⟨n2,5,none⟩ (.slice sa vn sc)).heap[n2]?=some (.cells #[.int .i64 e0,.int .i64 tl,.bool sl,.int .i64 tr,.int .i64 bl,.slice sa vn sc] 30 (0,0))):=set6 HC4.out
  have HH5:Hid (((((((w4.setCell ⟨n2,0,none⟩ (.int .i64 e0)).setCell ⟨n2,1,none⟩ (.int .i64 tl)).setCell ⟨n2,2,none⟩ (.bool sl)).setCell ⟨n2,3,none⟩ (.int .i64 tr)).setCell ⟨n2,4,none⟩ (.int .i64 bl)).setCell ⟨n2,5,none⟩ (.slice sa vn sc)).heap[gh]?=some (.cells hc 52 (0,0))):=(oth6 (by have:=HGH.out;have:=HN2.out;have:=HN1.out;omega)).trans HH4.out
  have HA5:Hid (((((((w4.setCell ⟨n2,0,none⟩ (.int .i64 e0)).setCell ⟨n2,1,none⟩ (.int .i64 tl)).setCell ⟨n2,2,none⟩ (.bool sl)).setCell ⟨n2,3,none⟩ (.int .i64 tr)).setCell ⟨n2,4,none⟩ (.int .i64 bl)).setCell ⟨n2,5,none⟩ (.slice sa vn sc)).heap[n1]?=some (.cells #[.int .i64 0,.int .i64 0,.bool false,.int .i64 0,.int .i64 0,.slice none 0 0] 30 (0,0))):=(oth6 (by have:=HN2.out;omega)).trans HA4.out
  have HR5:Hid (((((((w4.setCell ⟨n2,0,none⟩ (.int .i64 e0)).setCell ⟨n2,1,none⟩ (.int .i64 tl)).setCell ⟨n2,2,none⟩ (.bool sl)).setCell ⟨n2,3,none⟩ (.int .i64 tr)).setCell ⟨n2,4,none⟩ (.int .i64 bl)).setCell ⟨n2,5,none⟩ (.slice sa vn sc)).heap[n0]?=some (.cells #[.int .i64 k,.int .i64 lg,.int .i64 at_,.slice va n cp] 34 (0,0))):=(oth6 (by have:=HN2.out;have:=HN1.out;omega)).trans HR4.out
  have HK5:Hid (BK B ((((((w4.setCell ⟨n2,0,none⟩ (.int .i64 e0)).setCell ⟨n2,1,none⟩ (.int .i64 tl)).setCell ⟨n2,2,none⟩ (.bool sl)).setCell ⟨n2,3,none⟩ (.int .i64 tr)).setCell ⟨n2,4,none⟩ (.int .i64 bl)).setCell ⟨n2,5,none⟩ (.slice sa vn sc)) sa vn sc val):=HK4.out.ft (ft6 HC4.out (by decide) HBC.out)
  have HN5:Hid (NdK w ((((((w4.setCell ⟨n2,0,none⟩ (.int .i64 e0)).setCell ⟨n2,1,none⟩ (.int .i64 tl)).setCell ⟨n2,2,none⟩ (.bool sl)).setCell ⟨n2,3,none⟩ (.int .i64 tr)).setCell ⟨n2,4,none⟩ (.int .i64 bl)).setCell ⟨n2,5,none⟩ (.slice sa vn sc))):=HN4.out.wr6 (by have:=HN2.out;have:=HN1.out;omega)
  have HW5:Hid (Below B w ((((((w4.setCell ⟨n2,0,none⟩ (.int .i64 e0)).setCell ⟨n2,1,none⟩ (.int .i64 tl)).setCell ⟨n2,2,none⟩ (.bool sl)).setCell ⟨n2,3,none⟩ (.int .i64 tr)).setCell ⟨n2,4,none⟩ (.int .i64 bl)).setCell ⟨n2,5,none⟩ (.slice sa vn sc))):=bel6 HW4.out HBC.out
  have HE5:Hid (∀ k,E k→((((((w4.setCell ⟨n2,0,none⟩ (.int .i64 e0)).setCell ⟨n2,1,none⟩ (.int .i64 tl)).setCell ⟨n2,2,none⟩ (.bool sl)).setCell ⟨n2,3,none⟩ (.int .i64 tr)).setCell ⟨n2,4,none⟩ (.int .i64 bl)).setCell ⟨n2,5,none⟩ (.slice sa vn sc)).heap[k]?=w.heap[k]?):=fun k hk=>(oth6 (by have:=HEL.out k hk;have:=HN2.out;have:=HN1.out;omega)).trans (HE4.out k hk)
  have HB5:Hid (B≤((((((w4.setCell ⟨n2,0,none⟩ (.int .i64 e0)).setCell ⟨n2,1,none⟩ (.int .i64 tl)).setCell ⟨n2,2,none⟩ (.bool sl)).setCell ⟨n2,3,none⟩ (.int .i64 tr)).setCell ⟨n2,4,none⟩ (.int .i64 bl)).setCell ⟨n2,5,none⟩ (.slice sa vn sc)).heap.size):=by show B≤_;have:=HW5.out.size;have:=HBW.out;omega
  have HS5:Hid (n0≤((((((w4.setCell ⟨n2,0,none⟩ (.int .i64 e0)).setCell ⟨n2,1,none⟩ (.int .i64 tl)).setCell ⟨n2,2,none⟩ (.bool sl)).setCell ⟨n2,3,none⟩ (.int .i64 tr)).setCell ⟨n2,4,none⟩ (.int .i64 bl)).setCell ⟨n2,5,none⟩ (.slice sa vn sc)).heap.size):=by show n0≤_;have:=HW5.out.size;omega
  have HX5:Hid ((fun wx=>wx.cell? ⟨gh,i*2+1,none⟩=some (.pointer (some ⟨(P i).nd,0,none⟩))∧wx.cell? ⟨n0,0,none⟩=some (.int .i64 k)∧wx.cell? ⟨n0,1,none⟩=some (.int .i64 lg)∧wx.cell? ⟨n0,2,none⟩=some (.int .i64 at_)∧wx.cell? ⟨n0,3,none⟩=some (.slice va n cp)) ((((((w4.setCell ⟨n2,0,none⟩ (.int .i64 e0)).setCell ⟨n2,1,none⟩ (.int .i64 tl)).setCell ⟨n2,2,none⟩ (.bool sl)).setCell ⟨n2,3,none⟩ (.int .i64 tr)).setCell ⟨n2,4,none⟩ (.int .i64 bl)).setCell ⟨n2,5,none⟩ (.slice sa vn sc))):=⟨(aAa HH5.out).trans HHC.out,aAa HR5.out,aAa HR5.out,aAa HR5.out,aAa HR5.out⟩
  clear hHeld HM4 HH4 HA4 HC4 HR4 HK4 HN4 HW4 HE4
  generalize ((((((w4.setCell ⟨n2,0,none⟩ (.int .i64 e0)).setCell ⟨n2,1,none⟩ (.int .i64 tl)).setCell ⟨n2,2,none⟩ (.bool sl)).setCell ⟨n2,3,none⟩ (.int .i64 tr)).setCell ⟨n2,4,none⟩ (.int .i64 bl)).setCell ⟨n2,5,none⟩ (.slice sa vn sc))=w5 at *
  refine hK.out _ _ HX5.out (fun hHeld=>?_)
  clear hK K
  try simp only [Act.put,siT,scZ,scS]
  refine wpAnyH_done (by kernel_rfl) ?_ _
  refine NoPanic.normal ?_
  clear hHeld
  have y0:w5.cell? ⟨gh,i*2+1,none⟩=some (.pointer (some ⟨(P i).nd,0,none⟩)):=(aAa HH5.out).trans HHC.out
  have HU5:=hide (host_up HM5.out HI.out y0)
  clear y0
  go_wp2_with fail
  refine HU5.out.mono ?_
  rintro e w6 ⟨rfl,hb6⟩
  have HM6:=hide (HM5.out.later hb6 HB5.out)
  have HA6:=hide ((hb6.block n1 (lt HA5.out)).trans HA5.out)
  have HC6:=hide ((hb6.block n2 (lt HC5.out)).trans HC5.out)
  have HK6:=hide (HK5.out.later hb6 HB5.out)
  have HN6:=hide (HN5.out.trans (NdK.of hb6))
  have HW6:Hid (Below B w w6):=HW5.out.trans (hb6.mono HB5.out)
  have HE6:Hid (∀ k,E k→w6.heap[k]?=w.heap[k]?):=fun k hk=>(hb6.block k (by have:=HEL.out k hk;have:=HS5.out;omega)).trans (HE5.out k hk)
  clear hb6 HU5 HM5 HA5 HC5 HK5 HN5 HW5 HE5
  have z0:w6.cell? ⟨n1,0,none⟩=some (.int .i64 0):=aAa HA6.out
  have zf0:w6.frozen? ⟨n1,0,none⟩=false:=aAb HA6.out
  have z1:w6.cell? ⟨n1,1,none⟩=some (.int .i64 0):=aAa HA6.out
  have zf1:w6.frozen? ⟨n1,1,none⟩=false:=aAb HA6.out
  have z2:w6.cell? ⟨n1,2,none⟩=some (.bool false):=aAa HA6.out
  have zf2:w6.frozen? ⟨n1,2,none⟩=false:=aAb HA6.out
  have z3:w6.cell? ⟨n1,3,none⟩=some (.int .i64 0):=aAa HA6.out
  have zf3:w6.frozen? ⟨n1,3,none⟩=false:=aAb HA6.out
  have z4:w6.cell? ⟨n1,4,none⟩=some (.int .i64 0):=aAa HA6.out
  have zf4:w6.frozen? ⟨n1,4,none⟩=false:=aAb HA6.out
  have z5:w6.cell? ⟨n1,5,none⟩=some (.slice none 0 0):=aAa HA6.out
  have zf5:w6.frozen? ⟨n1,5,none⟩=false:=aAb HA6.out
  have x0:w6.cell? ⟨n2,0,none⟩=some (.int .i64 e0):=aAa HC6.out
  have xf0:w6.frozen? ⟨n2,0,none⟩=false:=aAb HC6.out
  have x1:w6.cell? ⟨n2,1,none⟩=some (.int .i64 tl):=aAa HC6.out
  have xf1:w6.frozen? ⟨n2,1,none⟩=false:=aAb HC6.out
  have x2:w6.cell? ⟨n2,2,none⟩=some (.bool sl):=aAa HC6.out
  have xf2:w6.frozen? ⟨n2,2,none⟩=false:=aAb HC6.out
  have x3:w6.cell? ⟨n2,3,none⟩=some (.int .i64 tr):=aAa HC6.out
  have xf3:w6.frozen? ⟨n2,3,none⟩=false:=aAb HC6.out
  have x4:w6.cell? ⟨n2,4,none⟩=some (.int .i64 bl):=aAa HC6.out
  have xf4:w6.frozen? ⟨n2,4,none⟩=false:=aAb HC6.out
  have x5:w6.cell? ⟨n2,5,none⟩=some (.slice sa vn sc):=aAa HC6.out
  have xf5:w6.frozen? ⟨n2,5,none⟩=false:=aAb HC6.out
  go_wp2
  (try simp only [Exit.inBlock,Exit.then])
  refine bodyPost_ret (aA7 rfl _ _ n1 _ rfl (set6 HA6.out) rfl) rfl ?_
  refine ⟨⟨sa,sc,rfl,HK6.out.ft (ft6 HA6.out (by decide) HBN.out)⟩,HM6.out.wr6 HA6.out HBN.out,HN6.out.wr6 (by rw [hn0];exact HN1.out),bel6 HW6.out HBN.out,fun k hk=>(oth6 (by have:=HEL.out k hk;have:=HN1.out;omega)).trans (HE6.out k hk)⟩
 case bb =>
  intro o ho K hK
  simp only [List.getElem?_toArray,List.getElem?_cons_succ,List.getElem?_cons_zero,oI] at ho
  subst ho
  go_simp
  have hb3:Below w2.drew.heap.size w2.drew (w2.alloc (.cells #[.int .i64 0,.int .i64 0,.bool false,.int .i64 0,.int .i64 0,.slice none 0 0] 30)).drew:=⟨(aAc w2 (.cells #[.int .i64 0,.int .i64 0,.bool false,.int .i64 0,.int .i64 0,.slice none 0 0] 30)).os,(aAc w2 (.cells #[.int .i64 0,.int .i64 0,.bool false,.int .i64 0,.int .i64 0,.slice none 0 0] 30)).tape,(aAc w2 (.cells #[.int .i64 0,.int .i64 0,.bool false,.int .i64 0,.int .i64 0,.slice none 0 0] 30)).output,(aAc w2 (.cells #[.int .i64 0,.int .i64 0,.bool false,.int .i64 0,.int .i64 0,.slice none 0 0] 30)).size,(aAc w2 (.cells #[.int .i64 0,.int .i64 0,.bool false,.int .i64 0,.int .i64 0,.slice none 0 0] 30)).block⟩
  have HC3:Hid ((w2.alloc (.cells #[.int .i64 0,.int .i64 0,.bool false,.int .i64 0,.int .i64 0,.slice none 0 0] 30)).drew.heap[w2.heap.size]?=some (.cells #[.int .i64 0,.int .i64 0,.bool false,.int .i64 0,.int .i64 0,.slice none 0 0] 30 (0,0))):=heap_alloc_new w2 _
  have HM3:=hide (HM2.out.later hb3 HB2.out)
  have HR3:=hide ((hb3.block n0 (lt HR2.out)).trans HR2.out)
  have HA3:=hide ((hb3.block n1 (lt HA2.out)).trans HA2.out)
  have HH3:=hide ((hb3.block gh (lt HH2.out)).trans HH2.out)
  have HN3:=hide (HNW2.out.trans (NdK.of hb3))
  have HW3:Hid (Below B w (w2.alloc (.cells #[.int .i64 0,.int .i64 0,.bool false,.int .i64 0,.int .i64 0,.slice none 0 0] 30)).drew):=HWB2.out.trans (hb3.mono HB2.out)
  have HE3:Hid (∀ k,E k→(w2.alloc (.cells #[.int .i64 0,.int .i64 0,.bool false,.int .i64 0,.int .i64 0,.slice none 0 0] 30)).drew.heap[k]?=w.heap[k]?):=fun k hk=>(hb3.block k (by have:=HEL.out k hk;have:=HWB2.out.size;omega)).trans (HE2.out k hk)
  have HN2:Hid (n1<w2.heap.size):=lt HA2.out
  have HBC:Hid (B≤w2.heap.size):=HB2.out
  have HX3:Hid ((fun wx=>wx.cell? ⟨gh,i*2+1,none⟩=some (.pointer (some ⟨(P i).nd,0,none⟩))∧wx.cell? ⟨n0,0,none⟩=some (.int .i64 k)∧wx.cell? ⟨n0,1,none⟩=some (.int .i64 lg)∧wx.cell? ⟨n0,2,none⟩=some (.int .i64 at_)∧wx.cell? ⟨n0,3,none⟩=some (.slice va n cp)) (w2.alloc (.cells #[.int .i64 0,.int .i64 0,.bool false,.int .i64 0,.int .i64 0,.slice none 0 0] 30)).drew):=⟨(aAa HH3.out).trans HHC.out,aAa HR3.out,aAa HR3.out,aAa HR3.out,aAa HR3.out⟩
  have HCB:=hide (HM3.out.callr HI.out (HDO.out (w2.alloc (.cells #[.int .i64 0,.int .i64 0,.bool false,.int .i64 0,.int .i64 0,.slice none 0 0] 30)).drew (HWD.out.trans (hb3.mono (by have:=HWD.out.size;omega)))))
  clear hb3 hHeld HCA HM2 HR2 HA2 HH2 HNW2 HWB2 HE2 HB2
  generalize (w2.alloc (.cells #[.int .i64 0,.int .i64 0,.bool false,.int .i64 0,.int .i64 0,.slice none 0 0] 30)).drew=x2 at *
  generalize w2.heap.size=n2 at *
  refine hK.out _ _ HX3.out (fun hHeld=>?_)
  clear hK K
  try simp only [Act.put,siT,scZ,scS]
  refine wpAnyH_cm 5 ?_;intro K hK
  go_simp
  refine HCB.out.mono ?_
  rintro e w4 ⟨⟨sa,sc,rfl,hk4⟩,hM4,hN4,hb4,hE4⟩
  have HM4:=hide hM4
  have HK4:=hide hk4
  have HR4:=hide (hN4 _ _ _ _ HR3.out (by decide) (by decide) (by decide) (by decide))
  have HA4:=hide (hN4 _ _ _ _ HA3.out (by decide) (by decide) (by decide) (by decide))
  have HH4:=hide (hN4 _ _ _ _ HH3.out (by decide) (by decide) (by decide) (by decide))
  have HC4:=hide (hN4 _ _ _ _ HC3.out (by decide) (by decide) (by decide) (by decide))
  have HN4:=hide (HN3.out.trans hN4)
  have HW4:Hid (Below B w w4):=HW3.out.trans hb4
  have HE4:Hid (∀ k,E k→w4.heap[k]?=w.heap[k]?):=fun k hk=>(hE4 k hk).trans (HE3.out k hk)
  have HX4:Hid ((fun wx=>wx.cell? ⟨gh,i*2+1,none⟩=some (.pointer (some ⟨(P i).nd,0,none⟩))∧wx.cell? ⟨n0,0,none⟩=some (.int .i64 k)∧wx.cell? ⟨n0,1,none⟩=some (.int .i64 lg)∧wx.cell? ⟨n0,2,none⟩=some (.int .i64 at_)∧wx.cell? ⟨n0,3,none⟩=some (.slice va n cp)) w4):=⟨(aAa HH4.out).trans HHC.out,aAa HR4.out,aAa HR4.out,aAa HR4.out,aAa HR4.out⟩
  clear hk4 hM4 hN4 hb4 hE4 hHeld HCB HM3 HR3 HA3 HH3 HC3 HN3 HW3 HE3
  refine hK.out _ _ HX4.out (fun hHeld=>?_)
  clear hK K
  try simp only [Act.put,siT,scZ,scS]
  have m0:w4.cell? ⟨n2,0,none⟩=some (.int .i64 0):=aAa HC4.out
  have mf0:w4.frozen? ⟨n2,0,none⟩=false:=aAb HC4.out
  have m1:w4.cell? ⟨n2,1,none⟩=some (.int .i64 0):=aAa HC4.out
  have mf1:w4.frozen? ⟨n2,1,none⟩=false:=aAb HC4.out
  have m2:w4.cell? ⟨n2,2,none⟩=some (.bool false):=aAa HC4.out
  have mf2:w4.frozen? ⟨n2,2,none⟩=false:=aAb HC4.out
  have m3:w4.cell? ⟨n2,3,none⟩=some (.int .i64 0):=aAa HC4.out
  have mf3:w4.frozen? ⟨n2,3,none⟩=false:=aAb HC4.out
  have m4:w4.cell? ⟨n2,4,none⟩=some (.int .i64 0):=aAa HC4.out
  have mf4:w4.frozen? ⟨n2,4,none⟩=false:=aAb HC4.out
  have m5:w4.cell? ⟨n2,5,none⟩=some (.slice none 0 0):=aAa HC4.out
  have mf5:w4.frozen? ⟨n2,5,none⟩=false:=aAb HC4.out
  refine wpAnyH_cm 7 ?_;intro K hK
  go_simp
  have HM5:=hide (HM4.out.wr6 (b0:=.int .i64 e0) (b1:=.int .i64 tl) (b2:=.bool sl) (b3:=.int .i64 tr) (b4:=.int .i64 bl) (b5:=.slice sa vn sc) HC4.out HBC.out)
  have HC5:Hid (((((((w4.setCell ⟨n2,0,none⟩ (.int .i64 e0)).setCell ⟨n2,1,none⟩ (.int .i64 tl)).setCell ⟨n2,2,none⟩ (.bool sl)).setCell ⟨n2,3,none⟩ (.int .i64 tr)).setCell ⟨n2,4,none⟩ (.int .i64 bl)).setCell ⟨n2,5,none⟩ (.slice sa vn sc)).heap[n2]?=some (.cells #[.int .i64 e0,.int .i64 tl,.bool sl,.int .i64 tr,.int .i64 bl,.slice sa vn sc] 30 (0,0))):=set6 HC4.out
  have HH5:Hid (((((((w4.setCell ⟨n2,0,none⟩ (.int .i64 e0)).setCell ⟨n2,1,none⟩ (.int .i64 tl)).setCell ⟨n2,2,none⟩ (.bool sl)).setCell ⟨n2,3,none⟩ (.int .i64 tr)).setCell ⟨n2,4,none⟩ (.int .i64 bl)).setCell ⟨n2,5,none⟩ (.slice sa vn sc)).heap[gh]?=some (.cells hc 52 (0,0))):=(oth6 (by have:=HGH.out;have:=HN2.out;have:=HN1.out;omega)).trans HH4.out
  have HA5:Hid (((((((w4.setCell ⟨n2,0,none⟩ (.int .i64 e0)).setCell ⟨n2,1,none⟩ (.int .i64 tl)).setCell ⟨n2,2,none⟩ (.bool sl)).setCell ⟨n2,3,none⟩ (.int .i64 tr)).setCell ⟨n2,4,none⟩ (.int .i64 bl)).setCell ⟨n2,5,none⟩ (.slice sa vn sc)).heap[n1]?=some (.cells #[.int .i64 0,.int .i64 0,.bool false,.int .i64 0,.int .i64 0,.slice none 0 0] 30 (0,0))):=(oth6 (by have:=HN2.out;omega)).trans HA4.out
  have HR5:Hid (((((((w4.setCell ⟨n2,0,none⟩ (.int .i64 e0)).setCell ⟨n2,1,none⟩ (.int .i64 tl)).setCell ⟨n2,2,none⟩ (.bool sl)).setCell ⟨n2,3,none⟩ (.int .i64 tr)).setCell ⟨n2,4,none⟩ (.int .i64 bl)).setCell ⟨n2,5,none⟩ (.slice sa vn sc)).heap[n0]?=some (.cells #[.int .i64 k,.int .i64 lg,.int .i64 at_,.slice va n cp] 34 (0,0))):=(oth6 (by have:=HN2.out;have:=HN1.out;omega)).trans HR4.out
  have HK5:Hid (BK B ((((((w4.setCell ⟨n2,0,none⟩ (.int .i64 e0)).setCell ⟨n2,1,none⟩ (.int .i64 tl)).setCell ⟨n2,2,none⟩ (.bool sl)).setCell ⟨n2,3,none⟩ (.int .i64 tr)).setCell ⟨n2,4,none⟩ (.int .i64 bl)).setCell ⟨n2,5,none⟩ (.slice sa vn sc)) sa vn sc val):=HK4.out.ft (ft6 HC4.out (by decide) HBC.out)
  have HN5:Hid (NdK w ((((((w4.setCell ⟨n2,0,none⟩ (.int .i64 e0)).setCell ⟨n2,1,none⟩ (.int .i64 tl)).setCell ⟨n2,2,none⟩ (.bool sl)).setCell ⟨n2,3,none⟩ (.int .i64 tr)).setCell ⟨n2,4,none⟩ (.int .i64 bl)).setCell ⟨n2,5,none⟩ (.slice sa vn sc))):=HN4.out.wr6 (by have:=HN2.out;have:=HN1.out;omega)
  have HW5:Hid (Below B w ((((((w4.setCell ⟨n2,0,none⟩ (.int .i64 e0)).setCell ⟨n2,1,none⟩ (.int .i64 tl)).setCell ⟨n2,2,none⟩ (.bool sl)).setCell ⟨n2,3,none⟩ (.int .i64 tr)).setCell ⟨n2,4,none⟩ (.int .i64 bl)).setCell ⟨n2,5,none⟩ (.slice sa vn sc))):=bel6 HW4.out HBC.out
  have HE5:Hid (∀ k,E k→((((((w4.setCell ⟨n2,0,none⟩ (.int .i64 e0)).setCell ⟨n2,1,none⟩ (.int .i64 tl)).setCell ⟨n2,2,none⟩ (.bool sl)).setCell ⟨n2,3,none⟩ (.int .i64 tr)).setCell ⟨n2,4,none⟩ (.int .i64 bl)).setCell ⟨n2,5,none⟩ (.slice sa vn sc)).heap[k]?=w.heap[k]?):=fun k hk=>(oth6 (by have:=HEL.out k hk;have:=HN2.out;have:=HN1.out;omega)).trans (HE4.out k hk)
  have HB5:Hid (B≤((((((w4.setCell ⟨n2,0,none⟩ (.int .i64 e0)).setCell ⟨n2,1,none⟩ (.int .i64 tl)).setCell ⟨n2,2,none⟩ (.bool sl)).setCell ⟨n2,3,none⟩ (.int .i64 tr)).setCell ⟨n2,4,none⟩ (.int .i64 bl)).setCell ⟨n2,5,none⟩ (.slice sa vn sc)).heap.size):=by show B≤_;have:=HW5.out.size;have:=HBW.out;omega
  have HS5:Hid (n0≤((((((w4.setCell ⟨n2,0,none⟩ (.int .i64 e0)).setCell ⟨n2,1,none⟩ (.int .i64 tl)).setCell ⟨n2,2,none⟩ (.bool sl)).setCell ⟨n2,3,none⟩ (.int .i64 tr)).setCell ⟨n2,4,none⟩ (.int .i64 bl)).setCell ⟨n2,5,none⟩ (.slice sa vn sc)).heap.size):=by show n0≤_;have:=HW5.out.size;omega
  have HX5:Hid ((fun wx=>wx.cell? ⟨gh,i*2+1,none⟩=some (.pointer (some ⟨(P i).nd,0,none⟩))∧wx.cell? ⟨n0,0,none⟩=some (.int .i64 k)∧wx.cell? ⟨n0,1,none⟩=some (.int .i64 lg)∧wx.cell? ⟨n0,2,none⟩=some (.int .i64 at_)∧wx.cell? ⟨n0,3,none⟩=some (.slice va n cp)) ((((((w4.setCell ⟨n2,0,none⟩ (.int .i64 e0)).setCell ⟨n2,1,none⟩ (.int .i64 tl)).setCell ⟨n2,2,none⟩ (.bool sl)).setCell ⟨n2,3,none⟩ (.int .i64 tr)).setCell ⟨n2,4,none⟩ (.int .i64 bl)).setCell ⟨n2,5,none⟩ (.slice sa vn sc))):=⟨(aAa HH5.out).trans HHC.out,aAa HR5.out,aAa HR5.out,aAa HR5.out,aAa HR5.out⟩
  clear hHeld HM4 HH4 HA4 HC4 HR4 HK4 HN4 HW4 HE4
  generalize ((((((w4.setCell ⟨n2,0,none⟩ (.int .i64 e0)).setCell ⟨n2,1,none⟩ (.int .i64 tl)).setCell ⟨n2,2,none⟩ (.bool sl)).setCell ⟨n2,3,none⟩ (.int .i64 tr)).setCell ⟨n2,4,none⟩ (.int .i64 bl)).setCell ⟨n2,5,none⟩ (.slice sa vn sc))=w5 at *
  refine hK.out _ _ HX5.out (fun hHeld=>?_)
  clear hK K
  try simp only [Act.put,siT,scZ,scS]
  refine wpAnyH_done (by kernel_rfl) ?_ _
  refine NoPanic.normal ?_
  clear hHeld
  have y0:w5.cell? ⟨gh,i*2+1,none⟩=some (.pointer (some ⟨(P i).nd,0,none⟩)):=(aAa HH5.out).trans HHC.out
  have HU5:=hide (host_up HM5.out HI.out y0)
  clear y0
  go_wp2_with fail
  refine HU5.out.mono ?_
  rintro e w6 ⟨rfl,hb6⟩
  have HM6:=hide (HM5.out.later hb6 HB5.out)
  have HA6:=hide ((hb6.block n1 (lt HA5.out)).trans HA5.out)
  have HC6:=hide ((hb6.block n2 (lt HC5.out)).trans HC5.out)
  have HK6:=hide (HK5.out.later hb6 HB5.out)
  have HN6:=hide (HN5.out.trans (NdK.of hb6))
  have HW6:Hid (Below B w w6):=HW5.out.trans (hb6.mono HB5.out)
  have HE6:Hid (∀ k,E k→w6.heap[k]?=w.heap[k]?):=fun k hk=>(hb6.block k (by have:=HEL.out k hk;have:=HS5.out;omega)).trans (HE5.out k hk)
  clear hb6 HU5 HM5 HA5 HC5 HK5 HN5 HW5 HE5
  have z0:w6.cell? ⟨n1,0,none⟩=some (.int .i64 0):=aAa HA6.out
  have zf0:w6.frozen? ⟨n1,0,none⟩=false:=aAb HA6.out
  have z1:w6.cell? ⟨n1,1,none⟩=some (.int .i64 0):=aAa HA6.out
  have zf1:w6.frozen? ⟨n1,1,none⟩=false:=aAb HA6.out
  have z2:w6.cell? ⟨n1,2,none⟩=some (.bool false):=aAa HA6.out
  have zf2:w6.frozen? ⟨n1,2,none⟩=false:=aAb HA6.out
  have z3:w6.cell? ⟨n1,3,none⟩=some (.int .i64 0):=aAa HA6.out
  have zf3:w6.frozen? ⟨n1,3,none⟩=false:=aAb HA6.out
  have z4:w6.cell? ⟨n1,4,none⟩=some (.int .i64 0):=aAa HA6.out
  have zf4:w6.frozen? ⟨n1,4,none⟩=false:=aAb HA6.out
  have z5:w6.cell? ⟨n1,5,none⟩=some (.slice none 0 0):=aAa HA6.out
  have zf5:w6.frozen? ⟨n1,5,none⟩=false:=aAb HA6.out
  have x0:w6.cell? ⟨n2,0,none⟩=some (.int .i64 e0):=aAa HC6.out
  have xf0:w6.frozen? ⟨n2,0,none⟩=false:=aAb HC6.out
  have x1:w6.cell? ⟨n2,1,none⟩=some (.int .i64 tl):=aAa HC6.out
  have xf1:w6.frozen? ⟨n2,1,none⟩=false:=aAb HC6.out
  have x2:w6.cell? ⟨n2,2,none⟩=some (.bool sl):=aAa HC6.out
  have xf2:w6.frozen? ⟨n2,2,none⟩=false:=aAb HC6.out
  have x3:w6.cell? ⟨n2,3,none⟩=some (.int .i64 tr):=aAa HC6.out
  have xf3:w6.frozen? ⟨n2,3,none⟩=false:=aAb HC6.out
  have x4:w6.cell? ⟨n2,4,none⟩=some (.int .i64 bl):=aAa HC6.out
  have xf4:w6.frozen? ⟨n2,4,none⟩=false:=aAb HC6.out
  have x5:w6.cell? ⟨n2,5,none⟩=some (.slice sa vn sc):=aAa HC6.out
  have xf5:w6.frozen? ⟨n2,5,none⟩=false:=aAb HC6.out
  go_wp2
  (try simp only [Exit.inBlock,Exit.then])
  refine bodyPost_ret (aA7 rfl _ _ n1 _ rfl (set6 HA6.out) rfl) rfl ?_
  refine ⟨⟨sa,sc,rfl,HK6.out.ft (ft6 HA6.out (by decide) HBN.out)⟩,HM6.out.wr6 HA6.out HBN.out,HN6.out.wr6 (by rw [hn0];exact HN1.out),bel6 HW6.out HBN.out,fun k hk=>(oth6 (by have:=HEL.out k hk;have:=HN1.out;omega)).trans (HE6.out k hk)⟩
theorem NX.rgn [Gd] {B N m:Nat} {P:NdP} {l:List It} {L:Nat→Lg} {W w w':World} (hx:NX B P.p P.q P.g P.ls P.rg P.nd N m l L W w) (hr:RGB B P w) (hf:RgF B P.g P.ls P.nd w w'):RGB B P w'∧RgN B P w w':=by
 obtain ⟨h1,cs,h2,h3⟩:=hr
 have e:=hx.keep hf h2 (by decide) (by decide) (by decide) (by decide)
 exact ⟨⟨h1,cs,e,h3⟩,hf.1,fun k cs t fz e n1 n2 n3 n4 _=>hf.2 k cs t fz e n1 n2 n3 n4,hf.gd⟩
theorem NX.st [Gd] {B p q g ls rg nd N m lg n cp tl tr:Nat} {sl:Bool} {l:List It} {L:Nat→Lg} {W w:World} {va:Option Addr} (h:NX B p q g ls rg nd N m l L W w) (hlg:lg≤16) (HL:L lg=(tl,tr,sl)) (hn:n≤1800) :
  Calls Tryz.prog 27 #[.pointer (some ⟨nd,0,none⟩),.agg #[.int .i64 4,.int .i64 (lg:Int),.int .i64 ((0:Nat):Int),.slice va n cp]] w fun e w'=>∃ sa sc,e=.returned (.agg #[.int .i64 0,.int .i64 (tl:Int),.bool sl,.int .i64 (tr:Int),.int .i64 0,.slice sa ([]:List Nat).length sc])∧BK B w' sa ([]:List Nat).length sc ([]:List Nat)∧NX B p q g ls rg nd N m l L W w'∧RgF B g ls nd w w':=by
 obtain ⟨c,u,h1,h2,h3,h4⟩:=h
 refine (do_ok (c':=c) (u':=u) (l':=l) (L':=L) (val:=[]) (e0:=0) h1 (by decide) (by decide) hlg hn (by decide) HL (fun ww hww hbw=>?_)).mono ?_
 ·refine (aDu (k:=4) hww hlg HL (by decide) (fun w9=>lgr_t w9) (fun w9=>lgb_t w9)).mono ?_
  rintro e w' ⟨rfl,q1⟩
  exact ⟨none,0,rfl,BK.nil _ _,hww.later q1,RgF.of q1 hww.bw⟩
 ·rintro e w' ⟨sa,sc,rfl,q0,q1,q2⟩
  exact ⟨sa,sc,rfl,q0,⟨c,u,q1,h2,h3,h4⟩,q2⟩
section
variable {B N lg n cp tl tr:Nat} {P:NdP} {a:NdS} {W ww:World} {va:Option Addr} {val:List Nat} {sl:Bool}
theorem dt_w (hlg:lg≤16) (HL:a.L lg=(tl,tr,false)) (htl:tl<256) (hm:a.m+21≤N) (hm2:a.m≤80) (hv:BK B ww va n cp val) (hn:n≤1800):DoT B N P W 1 (lg:Int) (tl:Int) va n cp a ⟨a.m+1,putL a.l ([0,lg,tl],val),upL a.L lg (tl+1,tr,false)⟩ 0 ((tl:Int)+1) false (tr:Int) 0 0 [] ww:=by
 intro S hx hr
 letI:Gd:=⟨S⟩
 refine (NX.w (sl:=false) hx hlg trivial HL rfl htl hm hm2 hv hn).mono ?_
 rintro e w' ⟨sa,sc,rfl,q0,q1,q2⟩
 exact ⟨⟨sa,sc,rfl,q0⟩,q1,hx.rgn hr q2⟩
theorem dt_same {at_:Nat} (hlg:lg≤16) (HL:a.L lg=(tl,tr,false)) (hat:at_<256) (hne:at_≠tl) (hn:n≤1800):DoT B N P W 1 (lg:Int) (at_:Int) va n cp a a 0 (tl:Int) false (tr:Int) 0 0 [] ww:=by
 intro S hx hr
 letI:Gd:=⟨S⟩
 refine (NX.same (sl:=false) hx hlg HL rfl hat hne hn).mono ?_
 rintro e w' ⟨sa,sc,rfl,q0,q1,q2⟩
 exact ⟨⟨sa,sc,rfl,q0⟩,q1,hx.rgn hr q2⟩
theorem dt_st (hlg:lg≤16) (HL:a.L lg=(tl,tr,sl)) (hn:n≤1800):DoT B N P W 4 (lg:Int) 0 va n cp a a 0 (tl:Int) sl (tr:Int) 0 0 [] ww:=by
 intro S hx hr
 letI:Gd:=⟨S⟩
 refine (NX.st hx hlg HL hn).mono ?_
 rintro e w' ⟨sa,sc,rfl,q0,q1,q2⟩
 exact ⟨⟨sa,sc,rfl,q0⟩,q1,hx.rgn hr q2⟩
theorem dt_r {at_:Nat} (hlg:lg≤16) (HL:a.L lg=(tl,tr,sl)) (hat:tr≤at_) (hat2:at_<tl) (hat3:at_<256) (hval:valL a.l [0,lg,at_]=some val) (hn:n≤1800):DoT B N P W 5 (lg:Int) (at_:Int) va n cp a a 0 (tl:Int) sl (tr:Int) 0 val.length val ww:=by
 intro S hx hr
 letI:Gd:=⟨S⟩
 refine (NX.r hx hlg HL hat hat2 hat3 hval hn).mono ?_
 rintro e w' ⟨sa,sc,rfl,q0,q1,q2⟩
 exact ⟨⟨sa,sc,rfl,q0⟩,q1,hx.rgn hr q2⟩
end
end Go.Proofs.YthimmblpmijnlaaGreat
