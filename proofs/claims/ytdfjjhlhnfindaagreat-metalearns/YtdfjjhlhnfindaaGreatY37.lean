import Derived.Test.YtdfjjhlhnfindaaGreatY36
set_option maxRecDepth 100000
set_option maxHeartbeats 16000000
set_option linter.unusedVariables false
namespace Go.Proofs.YtdfjjhlhnfindaaGreat
open Go.RowKit Tryz
variable {B c fb g h j n p q:Nat} {a:Option Addr} {cs:Array Value} {fn:Func} {fz:Nat×Nat} {l:List It} {last now st:StT} {left:Int} {ps xs:List Nat} {s:DS} {sv v:Value} {t:PS} {ty:TypeId} {w w':World}
theorem aAo:∀ (l:List Obj) (w:World),Below w.heap.size w (l.foldl World.alloc w)/\(l.foldl World.alloc w).heap.size=w.heap.size+l.length
 | [],w=>⟨Below.refl _ _,rfl⟩
 | o::l,w=>by
  have h:=aAo l (w.alloc o)
  have b:=aAc w o
  have e:(w.alloc o).heap.size=w.heap.size+1:=Array.size_push _
  refine ⟨b.trans (h.1.mono b.size),?_⟩
  rw [List.foldl_cons,h.2,e,List.length_cons]
  omega
theorem aAf:∀ (l:List Obj) (w:World) (i:Nat) (o:Obj),l[i]?=some o->(l.foldl World.alloc w).heap[w.heap.size+i]?=some o
 | [],w,i,o,h=>by simp at h
 | a::l,w,0,o,h=>by
  simp only [List.getElem?_cons_zero,oI] at h
  subst h
  have e:(w.alloc a).heap.size=w.heap.size+1:=Array.size_push _
  have hb:=(aAo l (w.alloc a)).1
  rw [List.foldl_cons,Nat.add_zero,hb.block _ (by omega)]
  exact heap_alloc_new w a
 | a::l,w,i+1,o,h=>by
  have e:(w.alloc a).heap.size=w.heap.size+1:=Array.size_push _
  have:=aAf l (w.alloc a) i o (by simpa using h)
  rw [e,show w.heap.size+1+i=w.heap.size+(i+1) by omega] at this
  exact this
theorem Ex.ftX {T0:TypeId} (f:Ex B [g] w w') (hg:w.heap[g]?=some (.cells cs T0 fz)) (h0:5≠T0):FT B w w':=⟨f.1,fun k cs' fz e=>f.keepX hg e h0⟩
theorem results_cct {p q u:Tmp} {ty2:TypeId} (h:fn.results=#[.cell p ty,.cell q ty2,.tmp u]) (tmps:Array Value) (P:Program) (w:World) {a b:Addr} {v1 v2:Value} (hp:tmps.getD p undef=.pointer (some a)) (hq:tmps.getD q undef=.pointer (some b)) (h1:(loadVar ty a).run P w=.ok v1 w) (h2:(loadVar ty2 b).run P w=.ok v2 w) :
  (results fn tmps).run P w=.ok (.tuple #[v1,v2,tmps.getD u undef]) w:=by
 have hp':tmps[p]?.getD undef=.pointer (some a):=by simpa using hp
 have hq':tmps[q]?.getD undef=.pointer (some b):=by simpa using hq
 simp [results,h,hp',hq',asAddr,Sem.run_bind,Result.andThen,h1,h2]
def VlV (B:Nat) (w:World) (o:Option (List Nat)) (v:Value) (isb:Bool):Prop:=match o with
 | some x=>isb=true/\KV B w v x
 | none=>isb=false/\v=.slice none 0 0
theorem VlV.ft {o:Option (List Nat)} {isb:Bool} (h:VlV B w o v isb) (f:FT B w w'):VlV B w' o v isb:=by
 cases o with
 | some x=>exact ⟨h.1,h.2.ft f⟩
 | none=>exact h
theorem VlV.form {o:Option (List Nat)} {isb:Bool} (h:VlV B w o v isb):∃ a n c,v=.slice a n c:=by
 cases o with
 | some x=>obtain ⟨a,c,e,_⟩:=h.2;exact ⟨a,_,c,e⟩
 | none=>exact ⟨none,0,0,h.2⟩
theorem VlR.vv {o:Option (List Nat)} {e:Ending} (h:VlR B o e w):∃ v isb,e=.returned (.tuple #[v,.bool isb])/\VlV B w o v isb:=by
 cases o with
 | some x=>obtain ⟨v,h1,h2⟩:=h;exact ⟨v,true,h1,rfl,h2⟩
 | none=>exact ⟨_,false,h,rfl,rfl⟩
def GtR (B:Nat) (w:World) (o:Option (List Nat)) (vb ib:Nat) (w':World):Prop:=∃ w1 v isb,VlV B w1 o v isb/\Below w.heap.size w w1/\w'=(w1.setCell ⟨vb,0,none⟩ v).setCell ⟨ib,0,none⟩ (.bool isb)
theorem get1_any [Gd] {tb sb kb vb ib gs so:Nat} (hST:ST B p q s t w) (hB:B<=w.heap.size) (hlf:s.life=t.life) (hdn:s.down=false) (hTr:Tr s t st l) (hdp:st.depth<100000) (hr0:w.cell? ⟨gs,so,none⟩=some (.int .i64 st.root)) (hd0:w.cell? ⟨gs,so+1,none⟩=some (.int .i64 st.depth)) {ka:Option Addr} {kn kc:Nat} {key:List Nat} (hk:BK B w ka kn kc key)
  (c1:w.cell? ⟨tb,0,none⟩=some (.pointer (some ⟨g,0,none⟩))) (c2:w.cell? ⟨g,1,none⟩=some (.pointer (some ⟨q,0,none⟩))) (c3:w.cell? ⟨sb,0,none⟩=some (.pointer (some ⟨gs,so,none⟩))) (c4:w.cell? ⟨kb,0,none⟩=some (.slice ka kn kc)) (hvb:w.heap[vb]?=some (.cells #[.slice none 0 0] 55 (0,0))) (hib:w.heap[ib]?=some (.cells #[.bool false] 4 (0,0))) (n1:tb≠vb/\g≠vb/\sb≠vb/\kb≠vb) (n2:tb≠ib/\g≠ib/\sb≠ib/\kb≠ib) :
  Calls prog 168 #[.pointer (some ⟨tb,0,none⟩),.pointer (some ⟨sb,0,none⟩),.pointer (some ⟨kb,0,none⟩),.pointer (some ⟨vb,0,none⟩),.pointer (some ⟨ib,0,none⟩)] w fun e w'=>e=.returned (.int .i64 0)/\GtR B w (valL l key) vb ib w':=by
 have HBd:=zH ((Below.refl w.heap.size w).drew);have HVI:=zH (valueIn_any (w:=w.drew) (hST.later HBd.o) hB hlf hdn hTr hdp hr0 hd0 (hk.later HBd.o hB));have HVB:=zH hvb;have HIB:=zH hib;have hnvi:vb≠ib:=by
  intro q9;subst q9;rw [hvb] at hib;simp only [oI,cI] at hib;exact absurd hib.2.1 (by decide)
 have HX0:Hid ((fun wx=>wx.cell? ⟨tb,0,none⟩=some (.pointer (some ⟨g,0,none⟩))/\wx.cell? ⟨g,1,none⟩=some (.pointer (some ⟨q,0,none⟩))/\wx.cell? ⟨sb,0,none⟩=some (.pointer (some ⟨gs,so,none⟩))/\wx.cell? ⟨kb,0,none⟩=some (.slice ka kn kc)) w.drew):=⟨c1,c2,c3,c4⟩;have HKK:=zH (show ∀ w',Below w.heap.size w.drew w'->((fun wx=>wx.cell? ⟨tb,0,none⟩=some (.pointer (some ⟨g,0,none⟩))/\wx.cell? ⟨g,1,none⟩=some (.pointer (some ⟨q,0,none⟩))/\wx.cell? ⟨sb,0,none⟩=some (.pointer (some ⟨gs,so,none⟩))/\wx.cell? ⟨kb,0,none⟩=some (.slice ka kn kc)) w') from fun w' hb=>⟨(hb.cell (p:=⟨tb,0,none⟩) (block_lt_of_cell c1)).trans c1,(hb.cell (p:=⟨g,1,none⟩) (block_lt_of_cell c2)).trans c2,(hb.cell (p:=⟨sb,0,none⟩) (block_lt_of_cell c3)).trans c3,(hb.cell (p:=⟨kb,0,none⟩) (block_lt_of_cell c4)).trans c4⟩);clear hST hTr hr0 hd0 hk c1 c2 c3 c4 hvb hib;go_enter func168,ntmps168;go_upto_region 1 with fail;refine wp_region_noPanic ?_;refine wp_region_held_drew (S:=fun wx=>wx.cell? ⟨tb,0,none⟩=some (.pointer (some ⟨g,0,none⟩))/\wx.cell? ⟨g,1,none⟩=some (.pointer (some ⟨q,0,none⟩))/\wx.cell? ⟨sb,0,none⟩=some (.pointer (some ⟨gs,so,none⟩))/\wx.cell? ⟨kb,0,none⟩=some (.slice ka kn kc)) (by kernel_rfl) HX0.o (fun hHeld=>?_);refine kT 0 7 ?_;refine kT 1 8 ?_;refine kT 2 9 ?_;refine kT 3 10 ?_;refine kT 4 11 ?_;refine kT 5 12 ?_;refine kC 6 ?_;intro K hK;go_simp;refine HVI.o.mono ?_;rintro e w1 ⟨hv,hb1⟩;obtain ⟨v,isb,rfl,hvv⟩:=hv.vv;obtain ⟨va,vn,vc,hva⟩:=hvv.form;subst hva;have HVV:=zH hvv;have HB1:=zH hb1;have HX1:=zH (HKK.o w1 hb1);have HV1:=zH ((hb1.block vb (lO HVB.o)).trans (show w.drew.heap[vb]?=_ from HVB.o));have HI1:=zH ((hb1.block ib (lO HIB.o)).trans (show w.drew.heap[ib]?=_ from HIB.o));have f1:w1.frozen? ⟨vb,0,none⟩=false:=aAb HV1.o;have d1:w1.cell? ⟨vb,0,none⟩=some (.slice none 0 0):=aAa HV1.o;have HI2:Hid ((w1.setCell ⟨vb,0,none⟩ (.slice va vn vc)).heap[ib]?=some (.cells #[.bool false] 4 (0,0))):=(heap_setCell_other _ _ _ _ (Ne.symm hnvi)).trans HI1.o;have f2:(w1.setCell ⟨vb,0,none⟩ (.slice va vn vc)).frozen? ⟨ib,0,none⟩=false:=aAb HI2.o;have d2:(w1.setCell ⟨vb,0,none⟩ (.slice va vn vc)).cell? ⟨ib,0,none⟩=some (.bool false):=aAa HI2.o;have HX2:Hid ((fun wx=>wx.cell? ⟨tb,0,none⟩=some (.pointer (some ⟨g,0,none⟩))/\wx.cell? ⟨g,1,none⟩=some (.pointer (some ⟨q,0,none⟩))/\wx.cell? ⟨sb,0,none⟩=some (.pointer (some ⟨gs,so,none⟩))/\wx.cell? ⟨kb,0,none⟩=some (.slice ka kn kc)) (w1.setCell ⟨vb,0,none⟩ (.slice va vn vc))):=⟨(World.cell?_of_block (heap_setCell_other _ _ _ _ n1.1)).trans HX1.o.1,(World.cell?_of_block (heap_setCell_other _ _ _ _ n1.2.1)).trans HX1.o.2.1,(World.cell?_of_block (heap_setCell_other _ _ _ _ n1.2.2.1)).trans HX1.o.2.2.1,(World.cell?_of_block (heap_setCell_other _ _ _ _ n1.2.2.2)).trans HX1.o.2.2.2⟩;have HX3:Hid ((fun wx=>wx.cell? ⟨tb,0,none⟩=some (.pointer (some ⟨g,0,none⟩))/\wx.cell? ⟨g,1,none⟩=some (.pointer (some ⟨q,0,none⟩))/\wx.cell? ⟨sb,0,none⟩=some (.pointer (some ⟨gs,so,none⟩))/\wx.cell? ⟨kb,0,none⟩=some (.slice ka kn kc)) ((w1.setCell ⟨vb,0,none⟩ (.slice va vn vc)).setCell ⟨ib,0,none⟩ (.bool isb))):=⟨(World.cell?_of_block (heap_setCell_other _ _ _ _ n2.1)).trans HX2.o.1,(World.cell?_of_block (heap_setCell_other _ _ _ _ n2.2.1)).trans HX2.o.2.1,(World.cell?_of_block (heap_setCell_other _ _ _ _ n2.2.2.1)).trans HX2.o.2.2.1,(World.cell?_of_block (heap_setCell_other _ _ _ _ n2.2.2.2)).trans HX2.o.2.2.2⟩;clear hv hb1 hvv hHeld;refine hK.out _ _ HX1.o (fun hHeld=>?_);clear hK K
 try simp only [Act.put,siT,scZ,scS]
 refine kT 7 6 ?_;refine kT 8 14 ?_;refine kT 9 15 ?_;refine kC 10 ?_;intro K hK;go_simp;clear hHeld;refine hK.out _ _ HX2.o (fun hHeld=>?_);clear hK K
 try simp only [Act.put,siT,scZ,scS]
 refine kC 11 ?_;intro K hK;go_simp;clear hHeld;refine hK.out _ _ HX3.o (fun hHeld=>?_);clear hK K
 try simp only [Act.put,siT,scZ,scS]
 refine wpAnyH_done (by kernel_rfl) ?_ _;refine NoPanic.normal ?_;clear hHeld f1 f2 d1 d2;go_wp2;go_ret;exact ⟨rfl,w1,_,isb,HVV.o,HBd.o.trans HB1.o,rfl⟩
theorem getC_any [Gd] {n0 gs so:Nat} (hM:TM B p q g s t now last sv left w) (hTr:Tr s t st l) (hdp:st.depth<100000) (hr0:w.cell? ⟨gs,so,none⟩=some (.int .i64 st.root)) (hd0:w.cell? ⟨gs,so+1,none⟩=some (.int .i64 st.depth)) {ka:Option Addr} {kn kc:Nat} {key:List Nat} (hk:BK B w ka kn kc key) (hn0:B<=n0) (hgn:g<n0)
  (x:w.heap[n0]?=some (.cells #[.pointer (some ⟨g,0,none⟩)] 121 (0,0))/\w.heap[n0+1]?=some (.cells #[.pointer (some ⟨gs,so,none⟩)] 223 (0,0))/\w.heap[n0+2]?=some (.cells #[.slice ka kn kc] 55 (0,0))/\w.heap[n0+3]?=some (.cells #[.slice none 0 0] 55 (0,0))/\w.heap[n0+4]?=some (.cells #[.bool false] 4 (0,0))) :
  Calls prog 114 #[.func (Fn.func 168) #[] #[.pointer (some ⟨n0,0,none⟩),.pointer (some ⟨n0+1,0,none⟩),.pointer (some ⟨n0+2,0,none⟩),.pointer (some ⟨n0+3,0,none⟩),.pointer (some ⟨n0+4,0,none⟩)]] w fun e w'=>e=.returned (.int .i64 0)/\∃ v isb,VlV B w' (valL l key) v isb/\Below n0 w w'/\w'.heap[n0+3]?=some (.cells #[v] 55 (0,0))/\w'.heap[n0+4]?=some (.cells #[.bool isb] 4 (0,0)):=by
 obtain ⟨x0,x1,x2,x3,x4⟩:=x;have b3:=aAc w (.cells #[.int .i64 0] 23);have xe:(w.alloc (.cells #[.int .i64 0] 23)).heap[w.heap.size]?=some (.cells #[.int .i64 0] 23 (0,0)):=heap_alloc_new w _;have hn4:=lO x4;obtain ⟨cs,hg,hT⟩:=hM.tv;have yg:=(b3.block _ (lO hg)).trans hg;have y0:=(b3.block _ (lO x0)).trans x0;have y1:=(b3.block _ (lO x1)).trans x1;have y2:=(b3.block _ (lO x2)).trans x2;have y3:=(b3.block _ (lO x3)).trans x3;have y4:=(b3.block _ (lO x4)).trans x4;have hC:=get1_any (w:=w.alloc (.cells #[.int .i64 0] 23)) (hM.st.later b3) (nT hM.bw b3.size) hM.lf hM.dn hTr hdp ((b3.cell (p:=⟨gs,so,none⟩) (block_lt_of_cell hr0)).trans hr0) ((b3.cell (p:=⟨gs,so+1,none⟩) (block_lt_of_cell hd0)).trans hd0) (hk.later b3 hM.bw) (aAa y0) ((aAa yg).trans hT.c1) (aAa y1) (aAa y2) y3 y4 ⟨by omega,by omega,by omega,by omega⟩ ⟨by omega,by omega,by omega,by omega⟩;refine (aEl (w:=w) (P:=fun r' ww=>r'=0/\GtR B (w.alloc (.cells #[.int .i64 0] 23)) (valL l key) (n0+3) (n0+4) ww) (fun ww=>by rfl) (hC.mono ?_)).mono ?_
 ·rintro e9 w9 ⟨rfl,hG⟩;refine ⟨0,rfl,⟨rfl,hG⟩,?_⟩;obtain ⟨w1,v,isb,g1,g2,rfl⟩:=hG;rw [heap_setCell_other _ _ _ _ (by show w.heap.size≠n0+4;omega),heap_setCell_other _ _ _ _ (by show w.heap.size≠n0+3;omega),g2.block _ (lO xe),xe]
 ·rintro e9 w9 ⟨r',w8,rfl,⟨rfl,hG⟩,rfl⟩;obtain ⟨w1,v,isb,g1,g2,rfl⟩:=hG;have z3:=(g2.block _ (lO y3)).trans y3;have z4:=(g2.block _ (lO y4)).trans y4;have ze:=(g2.block _ (lO xe)).trans xe;have a1:Ex B [n0+3] w1 (w1.setCell ⟨n0+3,0,none⟩ v):=Ex.set (by omega);have z4':(w1.setCell ⟨n0+3,0,none⟩ v).heap[n0+4]?=_:=(heap_setCell_other _ _ _ _ (by show n0+4≠n0+3;omega)).trans z4;have a2:Ex B [n0+4] (w1.setCell ⟨n0+3,0,none⟩ v) ((w1.setCell ⟨n0+3,0,none⟩ v).setCell ⟨n0+4,0,none⟩ (.bool isb)):=Ex.set (by omega);have ze':((w1.setCell ⟨n0+3,0,none⟩ v).setCell ⟨n0+4,0,none⟩ (.bool isb)).heap[w.heap.size]?=_:=(heap_setCell_other _ _ _ _ (by show w.heap.size≠n0+4;omega)).trans ((heap_setCell_other _ _ _ _ (by show w.heap.size≠n0+3;omega)).trans ze);have a3:Ex B [w.heap.size] ((w1.setCell ⟨n0+3,0,none⟩ v).setCell ⟨n0+4,0,none⟩ (.bool isb)) (((w1.setCell ⟨n0+3,0,none⟩ v).setCell ⟨n0+4,0,none⟩ (.bool isb)).setCell ⟨w.heap.size,0,none⟩ (.int .i64 0)):=Ex.set hM.bw;refine ⟨rfl,v,isb,((g1.ft (a1.ftX z3 (by decide))).ft (a2.ftX z4' (by decide))).ft (a3.ftX ze' (by decide)),?_,?_,?_⟩
  ·have c0:Below n0 w w1:=(b3.mono (by omega)).trans (g2.mono (by have:=b3.size;omega));exact ((c0.setCell (p:=⟨n0+3,0,none⟩) (by show n0<=n0+3;omega) _).setCell (p:=⟨n0+4,0,none⟩) (by show n0<=n0+4;omega) _).setCell (p:=⟨w.heap.size,0,none⟩) (by show n0<=w.heap.size;omega) _
  ·rw [heap_setCell_other _ _ _ _ (by show n0+3≠w.heap.size;omega),heap_setCell_other _ _ _ _ (by show n0+3≠n0+4;omega),heap_setCell_same _ _ _ _ _ _ z3];rfl
  ·rw [heap_setCell_other _ _ _ _ (by show n0+4≠w.heap.size;omega),heap_setCell_same _ _ _ _ _ _ z4'];rfl
theorem get_any' [Gd] {gs so:Nat} (hM:TM B p q g s t now last sv left w) (hTr:Tr s t st l) (hdp:st.depth<100000) (hr0:w.cell? ⟨gs,so,none⟩=some (.int .i64 st.root)) (hd0:w.cell? ⟨gs,so+1,none⟩=some (.int .i64 st.depth)) {ka:Option Addr} {kn kc:Nat} {key:List Nat} (hk:BK B w ka kn kc key) (hk0:0<kn) (hk6:kn<=64) :
  Calls prog 147 #[.pointer (some ⟨g,0,none⟩),.pointer (some ⟨gs,so,none⟩),.slice ka kn kc] w fun e w'=>∃ v isb,e=.returned (.tuple #[v,.bool isb,.int .i64 0])/\VlV B w' (valL l key) v isb/\Below w.heap.size w w':=by
 have hmf:∀ (fn:Fn) (first cap:Array Value) (w:World),(Instr.makeFunc fn first cap).run prog w=.ok (.func fn first cap) w:=fun _ _ _ _=>rfl
 have HM:=zH hM;have HTR:=zH hTr;have HK:=zH hk;have HR0:=zH hr0;have HD0:=zH hd0;have HGL:Hid (g<w.heap.size):=by obtain ⟨cs,hg,hT⟩:=hM.tv;exact lO hg
 have HBB:=zH (aAo [(Obj.cells #[.pointer (some ⟨g,0,none⟩)] 121),(Obj.cells #[.pointer (some ⟨gs,so,none⟩)] 223),(Obj.cells #[.slice ka kn kc] 55),(Obj.cells #[.slice none 0 0] 55),(Obj.cells #[.bool false] 4)] w);have HXX:Hid ((((((w.alloc (.cells #[.pointer (some ⟨g,0,none⟩)] 121)).alloc (.cells #[.pointer (some ⟨gs,so,none⟩)] 223)).alloc (.cells #[.slice ka kn kc] 55)).alloc (.cells #[.slice none 0 0] 55)).alloc (.cells #[.bool false] 4)).heap[w.heap.size]?=some (.cells #[.pointer (some ⟨g,0,none⟩)] 121 (0,0))/\(((((w.alloc (.cells #[.pointer (some ⟨g,0,none⟩)] 121)).alloc (.cells #[.pointer (some ⟨gs,so,none⟩)] 223)).alloc (.cells #[.slice ka kn kc] 55)).alloc (.cells #[.slice none 0 0] 55)).alloc (.cells #[.bool false] 4)).heap[w.heap.size+1]?=some (.cells #[.pointer (some ⟨gs,so,none⟩)] 223 (0,0))/\(((((w.alloc (.cells #[.pointer (some ⟨g,0,none⟩)] 121)).alloc (.cells #[.pointer (some ⟨gs,so,none⟩)] 223)).alloc (.cells #[.slice ka kn kc] 55)).alloc (.cells #[.slice none 0 0] 55)).alloc (.cells #[.bool false] 4)).heap[w.heap.size+2]?=some (.cells #[.slice ka kn kc] 55 (0,0))/\(((((w.alloc (.cells #[.pointer (some ⟨g,0,none⟩)] 121)).alloc (.cells #[.pointer (some ⟨gs,so,none⟩)] 223)).alloc (.cells #[.slice ka kn kc] 55)).alloc (.cells #[.slice none 0 0] 55)).alloc (.cells #[.bool false] 4)).heap[w.heap.size+3]?=some (.cells #[.slice none 0 0] 55 (0,0))/\(((((w.alloc (.cells #[.pointer (some ⟨g,0,none⟩)] 121)).alloc (.cells #[.pointer (some ⟨gs,so,none⟩)] 223)).alloc (.cells #[.slice ka kn kc] 55)).alloc (.cells #[.slice none 0 0] 55)).alloc (.cells #[.bool false] 4)).heap[w.heap.size+4]?=some (.cells #[.bool false] 4 (0,0))):=⟨aAf [(Obj.cells #[.pointer (some ⟨g,0,none⟩)] 121),(Obj.cells #[.pointer (some ⟨gs,so,none⟩)] 223),(Obj.cells #[.slice ka kn kc] 55),(Obj.cells #[.slice none 0 0] 55),(Obj.cells #[.bool false] 4)] w 0 _ rfl,aAf [(Obj.cells #[.pointer (some ⟨g,0,none⟩)] 121),(Obj.cells #[.pointer (some ⟨gs,so,none⟩)] 223),(Obj.cells #[.slice ka kn kc] 55),(Obj.cells #[.slice none 0 0] 55),(Obj.cells #[.bool false] 4)] w 1 _ rfl,aAf [(Obj.cells #[.pointer (some ⟨g,0,none⟩)] 121),(Obj.cells #[.pointer (some ⟨gs,so,none⟩)] 223),(Obj.cells #[.slice ka kn kc] 55),(Obj.cells #[.slice none 0 0] 55),(Obj.cells #[.bool false] 4)] w 2 _ rfl,aAf [(Obj.cells #[.pointer (some ⟨g,0,none⟩)] 121),(Obj.cells #[.pointer (some ⟨gs,so,none⟩)] 223),(Obj.cells #[.slice ka kn kc] 55),(Obj.cells #[.slice none 0 0] 55),(Obj.cells #[.bool false] 4)] w 3 _ rfl,aAf [(Obj.cells #[.pointer (some ⟨g,0,none⟩)] 121),(Obj.cells #[.pointer (some ⟨gs,so,none⟩)] 223),(Obj.cells #[.slice ka kn kc] 55),(Obj.cells #[.slice none 0 0] 55),(Obj.cells #[.bool false] 4)] w 4 _ rfl⟩;have HB1:Hid (Below w.heap.size w (((((w.alloc (.cells #[.pointer (some ⟨g,0,none⟩)] 121)).alloc (.cells #[.pointer (some ⟨gs,so,none⟩)] 223)).alloc (.cells #[.slice ka kn kc] 55)).alloc (.cells #[.slice none 0 0] 55)).alloc (.cells #[.bool false] 4))):=HBB.o.1;have c0:(((((w.alloc (.cells #[.pointer (some ⟨g,0,none⟩)] 121)).alloc (.cells #[.pointer (some ⟨gs,so,none⟩)] 223)).alloc (.cells #[.slice ka kn kc] 55)).alloc (.cells #[.slice none 0 0] 55)).alloc (.cells #[.bool false] 4)).cell? ⟨w.heap.size,0,none⟩=some (.pointer (some ⟨g,0,none⟩)):=aAa HXX.o.1;have c2:(((((w.alloc (.cells #[.pointer (some ⟨g,0,none⟩)] 121)).alloc (.cells #[.pointer (some ⟨gs,so,none⟩)] 223)).alloc (.cells #[.slice ka kn kc] 55)).alloc (.cells #[.slice none 0 0] 55)).alloc (.cells #[.bool false] 4)).cell? ⟨w.heap.size+2,0,none⟩=some (.slice ka kn kc):=aAa HXX.o.2.2.1;have HBW:=zH hM.bw;clear hM hTr hk hr0 hd0 HBB;generalize hn0:w.heap.size=n0 at *
 generalize hW:(((((w.alloc (.cells #[.pointer (some ⟨g,0,none⟩)] 121)).alloc (.cells #[.pointer (some ⟨gs,so,none⟩)] 223)).alloc (.cells #[.slice ka kn kc] 55)).alloc (.cells #[.slice none 0 0] 55)).alloc (.cells #[.bool false] 4))=w1 at *
 have HRF:Hid (Calls prog 152 #[.pointer (some ⟨g,0,none⟩),.slice ka kn kc] w1 fun e w'=>e=.returned (.int .i64 0)/\Below w1.heap.size w1 w'):=by
  have h1:=HM.o.later (by rw [hn0];exact HB1.o);obtain ⟨cs,hg,hT⟩:=h1.tv;have hr:=aFl h1.st HM.o.lf hg hT ka kn kc;rw [if_neg (by omega),if_neg (by omega)] at hr;exact hr
 go_enter func147,ntmps147;go_wp2_with fail;refine HRF.o.mono ?_;rintro e w2 ⟨rfl,hb2⟩;have HB2:Hid (Below n0 w w2):=HB1.o.trans (hb2.mono (by have:=HB1.o.size;omega));have HY:Hid (w2.heap[n0]?=some (.cells #[.pointer (some ⟨g,0,none⟩)] 121 (0,0))/\w2.heap[n0+1]?=some (.cells #[.pointer (some ⟨gs,so,none⟩)] 223 (0,0))/\w2.heap[n0+2]?=some (.cells #[.slice ka kn kc] 55 (0,0))/\w2.heap[n0+3]?=some (.cells #[.slice none 0 0] 55 (0,0))/\w2.heap[n0+4]?=some (.cells #[.bool false] 4 (0,0))):=⟨(hb2.block _ (lO HXX.o.1)).trans HXX.o.1,(hb2.block _ (lO HXX.o.2.1)).trans HXX.o.2.1,(hb2.block _ (lO HXX.o.2.2.1)).trans HXX.o.2.2.1,(hb2.block _ (lO HXX.o.2.2.2.1)).trans HXX.o.2.2.2.1,(hb2.block _ (lO HXX.o.2.2.2.2)).trans HXX.o.2.2.2.2⟩;have HB2':Hid (Below w.heap.size w w2):=by rw [hn0];exact HB2.o
 have HCC:=zH (getC_any (n0:=n0) (HM.o.later HB2'.out) HTR.o hdp ((HB2'.out.cell (p:=⟨gs,so,none⟩) (block_lt_of_cell HR0.o)).trans HR0.o) ((HB2'.out.cell (p:=⟨gs,so+1,none⟩) (block_lt_of_cell HD0.o)).trans HD0.o) (HK.o.later HB2'.out HM.o.bw) HBW.o HGL.o HY.o);clear hb2 c0 c2 HRF;go_wp2_with fail;refine HCC.o.mono ?_;rintro e w3 ⟨rfl,v,isb,h1,h2,h3,h4⟩;obtain ⟨va,vn,vc,hva⟩:=h1.form;subst hva;have HV3:=zH h1;have HB3:Hid (Below n0 w w3):=HB2.o.trans h2;have H3:=zH h3;have H4:=zH h4;have d3:w3.cell? ⟨n0+3,0,none⟩=some (.slice va vn vc):=aAa h3;have d4:w3.cell? ⟨n0+4,0,none⟩=some (.bool isb):=aAa h4;have f3:w3.frozen? ⟨n0+3,0,none⟩=false:=aAb h3;have f4:w3.frozen? ⟨n0+4,0,none⟩=false:=aAb h4;clear h1 h2 h3 h4 HCC;have e4:(w3.setCell ⟨n0+3,0,none⟩ (.slice va vn vc)).heap[n0+4]?=some (.cells #[.bool isb] 4 (0,0)):=(heap_setCell_other _ _ _ _ (by show n0+4≠n0+3;omega)).trans H4.o;have f5:(w3.setCell ⟨n0+3,0,none⟩ (.slice va vn vc)).frozen? ⟨n0+4,0,none⟩=false:=aAb e4;have d5:(w3.setCell ⟨n0+3,0,none⟩ (.slice va vn vc)).cell? ⟨n0+4,0,none⟩=some (.bool isb):=aAa e4;clear e4;go_wp2;go_region;go_wp2;have a1:Ex B [n0+3] w3 (w3.setCell ⟨n0+3,0,none⟩ (.slice va vn vc)):=Ex.set (by have:=HBW.o;omega);have z4:(w3.setCell ⟨n0+3,0,none⟩ (.slice va vn vc)).heap[n0+4]?=some (.cells #[.bool isb] 4 (0,0)):=(heap_setCell_other _ _ _ _ (by show n0+4≠n0+3;omega)).trans H4.o;have a2:Ex B [n0+4] (w3.setCell ⟨n0+3,0,none⟩ (.slice va vn vc)) ((w3.setCell ⟨n0+3,0,none⟩ (.slice va vn vc)).setCell ⟨n0+4,0,none⟩ (.bool isb)):=Ex.set (by have:=HBW.o;omega);have z3:(w3.setCell ⟨n0+3,0,none⟩ (.slice va vn vc)).heap[n0+3]?=some (.cells #[.slice va vn vc] 55 (0,0)):=by rw [heap_setCell_same _ _ _ _ _ _ H3.o];rfl
 have z3':((w3.setCell ⟨n0+3,0,none⟩ (.slice va vn vc)).setCell ⟨n0+4,0,none⟩ (.bool isb)).drew.heap[n0+3]?=some (.cells #[.slice va vn vc] 55 (0,0)):=(heap_setCell_other _ _ _ _ (by show n0+3≠n0+4;omega)).trans z3;have z4':((w3.setCell ⟨n0+3,0,none⟩ (.slice va vn vc)).setCell ⟨n0+4,0,none⟩ (.bool isb)).drew.heap[n0+4]?=some (.cells #[.bool isb] 4 (0,0)):=by
  show ((w3.setCell ⟨n0+3,0,none⟩ (.slice va vn vc)).setCell ⟨n0+4,0,none⟩ (.bool isb)).heap[n0+4]?=_;rw [heap_setCell_same _ _ _ _ _ _ z4];rfl
 have HBF:Hid (Below n0 w ((w3.setCell ⟨n0+3,0,none⟩ (.slice va vn vc)).setCell ⟨n0+4,0,none⟩ (.bool isb)).drew):=((HB3.o.setCell (p:=⟨n0+3,0,none⟩) (by show n0<=n0+3;omega) _).setCell (p:=⟨n0+4,0,none⟩) (by show n0<=n0+4;omega) _).drew;have HVF:Hid (VlV B ((w3.setCell ⟨n0+3,0,none⟩ (.slice va vn vc)).setCell ⟨n0+4,0,none⟩ (.bool isb)).drew (valL l key) (.slice va vn vc) isb):=((HV3.o.ft (a1.ftX H3.o (by decide))).ft (a2.ftX z4 (by decide))).ft (FT.of (Below.refl _ _).drew (nT HM.o.bw (by have:=HBF.o.size;exact this)));have c3:=aAa (i:=0) z3';have c4:=aAa (i:=0) z4';simp only [show n0+1+1+1=n0+3 from rfl,show n0+1+1+1+1=n0+4 from rfl];generalize ((w3.setCell ⟨n0+3,0,none⟩ (.slice va vn vc)).setCell ⟨n0+4,0,none⟩ (.bool isb)).drew=w4 at *
 refine bodyPost_ret (results_cct (v1:=.slice va vn vc) (v2:=.bool isb) rfl _ _ _ rfl rfl (by simp [go_sem,c3]) (by simp [go_sem,c4])) rfl ⟨_,isb,rfl,HVF.o,HBF.o⟩
theorem Get_ok [Gd] (hM:TM B p q g s t now last sv left w) (hTr:Tr s t now l) (hdp:now.depth<100000) {ka:Option Addr} {kn kc:Nat} {key:List Nat} (hk:BK B w ka kn kc key) (hk0:0<kn) (hk6:kn<=64) :
  Calls prog 129 #[.pointer (some ⟨g,0,none⟩),.slice ka kn kc] w fun e w'=>∃ v isb,e=.returned (.tuple #[v,.bool isb,.int .i64 0])/\VlV B w' (valL l key) v isb/\Below w.heap.size w w':=by
 obtain ⟨cs,hg,hT⟩:=hM.tv;have HGT:=zH (get_any' (gs:=g) (so:=2) hM hTr hdp ((aAa hg).trans hT.n0) ((aAa hg).trans hT.n1) hk hk0 hk6);clear hM hTr hdp hk hg hT;go_enter func129,ntmps129;go_wp2_with fail;refine HGT.o.mono ?_;rintro e w1 ⟨v,isb,rfl,h1,h2⟩;obtain ⟨va,vn,vc,hva⟩:=h1.form;subst hva;have H1:=zH h1;have H2:=zH h2;clear h1 h2;go_wp2;go_ret3;exact ⟨_,isb,rfl,H1.o,H2.o⟩
structure StV (cs:Array Value) (root dp k:Int) (ps:List Nat):Prop where
 sz:cs.size=67
 c0:cs[0]?=some (.int .i64 root)
 c1:cs[1]?=some (.int .i64 dp)
 c2:cs[2]?=some (.int .i64 k)
 wd:Wd cs 3 ps
theorem StV.keys {root dp k k':Int} (h:StV cs root dp k ps):StV (cs.setIfInBounds 2 (.int .i64 k')) root dp k' ps:=by
 have ne:∀ i,i≠2->(cs.setIfInBounds 2 (.int .i64 k'))[i]?=cs[i]?:=fun i hi=>Array.getElem?_setIfInBounds_ne (Ne.symm hi)
 exact ⟨by rw [Array.size_setIfInBounds,h.sz],(ne 0 (by decide)).trans h.c0,(ne 1 (by decide)).trans h.c1,Array.getElem?_setIfInBounds_self_of_lt (by rw [h.sz];decide),h.wd.same fun i hi _=>ne i (by omega)⟩
theorem StV.words {cs':Array Value} {root dp k:Int} {ps':List Nat} (h:StV cs root dp k ps) (hw:Wd cs' 3 ps') (hs:Sm cs cs' 3):StV cs' root dp k ps' :=
 ⟨hs.1.trans h.sz,(hs.2 0 (by omega)).trans h.c0,(hs.2 1 (by omega)).trans h.c1,(hs.2 2 (by omega)).trans h.c2,hw⟩
theorem ST.exS [Gd] (h:ST B p q s t w) (f:Ex B [g] w w') (hg:w.heap[g]?=some (.cells cs 176 (0,0))):ST B p q s t w':=by
 obtain ⟨h1,gs,h2⟩:=h;refine ⟨?_,gs,f.keepX hg h2.hq (by decide),f.keepX hg h2.hs (by decide),h2.qB,h2.gB,h2.ok,h2.hG⟩;exact h1.of_stay (fun k cs t e ht=>f.keepX hg e (by rcases ht with rfl | rfl | rfl | rfl | rfl | rfl | rfl<;>decide))
def WkR (B fb:Nat) (root dp k:Int) (ps:List Nat) (n:Nat) (pg:List Nat) (w w':World):Prop:=∃ cs',w'.heap[fb]?=some (.cells cs' 176 (0,0))/\StV cs' root dp (k+(n:Int)) (pg.foldl adP ps)/\Ex B [fb] w w'
def Bnd (lo hi:List Nat) (l:List It):Prop:=∀ x∈l,0<cmpB x.1 lo/\(hi=[]\/cmpB x.1 hi<0)
def WkC [Gd] (B p q fb:Nat) (s:DS) (t:PS) (h:Nat):Prop :=
 ∀ (w:World) (b:BT h) (cs:Array Value) (root dp k:Int) (ps:List Nat) (lo hi:List Nat) (la:Option Addr) (ln lc:Nat) (ha:Option Addr) (hn hc:Nat),
  ST B p q s t w->B<=w.heap.size->B<=fb->w.heap[fb]?=some (.cells cs 176 (0,0))->StV cs root dp k ps->OnD s t h b->ShB h b->Srt (flB h b)->((BT.id b:Int)=root\/2<=(BT.it b).length)->0<=k->k+((flB h b).length:Int)<=1000000->BK B w la ln lc lo->BK B w ha hn hc hi->lo.length=ln->hi.length=hn->Bnd lo hi (flB h b) ->
  Calls prog 116 #[.pointer (some ⟨fb,0,none⟩),.pointer (some ⟨q,0,none⟩),.int .i64 (BT.id b:Int),.slice la ln lc,.slice ha hn hc] w fun e w'=>e=.returned (.int .i64 ((h:Int)+1))/\WkR B fb root dp k ps (flB h b).length (pgB h b) w w'
theorem BK.len (h:BK B w a n c xs):xs.length=n:=h.1.hlen
theorem walk_leaf [Gd] (hlf:s.life=t.life) (hdn:s.down=false) (hsn:s.n<=4096):WkC B p q fb s t 0:=by
 intro w b cs root dp k ps lo hi la ln lc ha hn hc hST hB hBf hfb hsv hon hsh hsr hro hk0 hk1 hlo hhi hln hhn hbd;obtain ⟨hpg,hit⟩:=hon;have hkk:k+(b.2.length:Int)<=1000000:=hk1;show Calls prog 116 #[.pointer (some ⟨fb,0,none⟩),.pointer (some ⟨q,0,none⟩),.int .i64 (b.1:Int),.slice la ln lc,.slice ha hn hc] w fun e w'=>e=.returned (.int .i64 1)/\WkR B fb root dp k ps b.2.length [b.1] w w'
 have HLD:=zH (aFq b.1 hST hB hlf hpg.lt (by rw [hpg.of];decide) hdn b.2 hpg.pg hit.n1 hit.n4 hit.ok hit.so hpg.ln hpg.bt);have HST:=zH hST;have HIT:=zH hit;have hl4:=hit.n4;have hl1:=hit.n1;have HB:=zH hB;have HFB:=zH hfb;have HSV:=zH hsv;have HBF:=zH hBf;have hfl:=(lO hfb);have HLO:=zH hlo;have HHI:=zH hhi;have HID:Hid (b.1<4096):=Nat.lt_of_lt_of_le hpg.lt hsn;have HBI:Hid (∀ x∈b.2,0<cmpB x.1 lo/\(hi=[]\/cmpB x.1 hi<0)):=fun x hx=>hbd x (hx)
 clear hST hfb hsv hpg hit hlo hhi hB hBf hsn hlf hdn hbd hsh hsr hk1;generalize hl:b.2=l at *
 generalize hLL:l.length=L at *
 go_enter func116,ntmps116;go_wp2_with fail;refine HLD.o.mono ?_;rintro e w1 ⟨v1,rfl,⟨gl,gi,rfl,z1,z2,z3,z4⟩,hb1⟩;rw [hLL] at z3;have HIO:=zH (aBu z3);unfold lfP at HIO;have HZ3:=zH z3;have HB1:=zH hb1;have HBw1:Hid (B<=w1.heap.size):=nT HB.o hb1.size;obtain ⟨kf,vf,hg1,hg2⟩:=z4;rw [hLL] at hg1;have HG1:=zH hg1;have HG2:=zH hg2;have HFB1:=zH ((hb1.block fb hfl).trans HFB.o);have r0:w1.cell? ⟨fb,0,none⟩=some (.int .i64 root):=(aAa HFB1.o).trans HSV.o.c0;have HF1:=zH (FT.of hb1 HB.o);clear z3 hb1 HLD hg1 hg2;go_wp2_with fail;refine HIO.o.mono ?_;rintro e w1' ⟨rfl,rfl⟩;go_upto_region 3 with fail;go_cut [] from 26 to 37 (fun wx=>wx=w1')
 case first =>
  by_cases hrt:(b.1:Int)=root
  ·have drt:((b.1:Int) == root)=true:=by simp;exact hrt
   subst hrt;go_wp2_with fail;refine (aA1 _).mono ?_;rintro e w2 ⟨rfl,rfl⟩;go_wp2;go_meet;rfl
  ·have drt:((b.1:Int) == root)=false:=by simp;exact hrt
   have x2:(2:Int)<=(L:Int):=by
    rcases hro with h9 | h9
    ·exact absurd h9 hrt
    ·have h9:2<=b.2.length:=h9;rw [hl,hLL] at h9;omega
   go_wp2_with fail;refine (aA1 _).mono ?_;rintro e w2 ⟨rfl,rfl⟩;go_wp2;go_meet;rfl
 case rest =>
  subst hcut;obtain ⟨x0,hx0⟩:∃ x,l[0]?=some x:=⟨_,gE (by omega)⟩;obtain ⟨x9,hx9⟩:∃ x,l[L-1]?=some x:=⟨_,gE (by omega)⟩;obtain ⟨ka0,kc0,hk0,hb0⟩:=(HG2.o 0 x0 hx0).1;obtain ⟨ka9,kc9,hk9,hb9⟩:=(HG2.o (L-1) x9 hx9).1;have y0:wc.cell? ⟨gi,0,none⟩=some (.slice ka0 x0.1.length kc0):=by rw [aAa HG1.o,List.getElem?_toArray,<-hk0];exact aA0 kf vf 0 L (by omega)
  have y9:wc.cell? ⟨gi,(L-1)*2,none⟩=some (.slice ka9 x9.1.length kc9):=by rw [aAa HG1.o,List.getElem?_toArray,<-hk9];exact aA0 kf vf (L-1) L (by omega)
  have HC0:=zH (aBq ka0 la x0.1.length kc0 ln lc x0.1 lo wc hb0.1 (HLO.o.ft HF1.o).1);have HC9:=zH (aBq ka9 ha x9.1.length kc9 hn hc x9.1 hi wc hb9.1 (HHI.o.ft HF1.o).1);have xc0:(0:Int)<cmpB x0.1 lo:=(HBI.o x0 (mG hx0)).1;have HX9:=zH (HBI.o x9 (mG hx9)).2;clear hx0 hx9 hb0 hb9 hk0 hk9;generalize cmpB x0.1 lo=cc0 at *
  generalize cmpB x9.1 hi=cc9 at *
  generalize x0.1.length=n00 at *
  generalize x9.1.length=n99 at *
  have xL0:(0:Int)<(L:Int):=by omega
  have xL1:((L:Int)-1)=((L-1:Nat):Int):=by omega
  have xL2:((L-1:Nat):Int)<(L:Int):=by omega
  go_wp2_with fail;refine HC0.o.mono ?_;rintro e w2 ⟨rfl,rfl⟩;go_wp2_with fail;refine (aA1 _).mono ?_;rintro e w3 ⟨rfl,rfl⟩;go_upto_region 5 with fail;go_cut [] from 46 to 61 (fun wx=>wx=w3)
  case first =>
   by_cases hhe:hn=0
   ·subst hhe;go_wp2_with fail;refine (aA1 _).mono ?_;rintro e w4 ⟨rfl,rfl⟩;go_wp2;go_meet;rfl
   ·have xh:¬ (hn:Int)=0:=by omega
    have dh:((hn:Int) == 0)=false:=by simp;omega
    have xc9:cc9<0:=by
     rcases HX9.o with h9 | h9
     ·rw [h9] at hhn;simp at hhn;omega
     ·exact h9
    go_wp2_with fail;refine HC9.o.mono ?_;rintro e w4 ⟨rfl,rfl⟩;go_wp2_with fail;refine (aA1 _).mono ?_;rintro e w5 ⟨rfl,rfl⟩;go_wp2;go_meet;rfl
  case rest =>
   subst hcut;have r2:wc.cell? ⟨fb,2,none⟩=some (.int .i64 k):=(aAa HFB1.o).trans HSV.o.c2;have f2:wc.frozen? ⟨fb,2,none⟩=false:=aAb HFB1.o;have HFB2:Hid ((wc.setCell ⟨fb,2,none⟩ (.int .i64 (k+(L:Int)))).heap[fb]?=some (.cells (cs.setIfInBounds 2 (.int .i64 (k+(L:Int)))) 176 (0,0))):=heap_setCell_same _ _ _ _ _ _ HFB1.o;have HSV2:=zH (HSV.o.keys (k':=k+(L:Int)));have HEX2:Hid (Ex B [fb] wc (wc.setCell ⟨fb,2,none⟩ (.int .i64 (k+(L:Int))))):=Ex.set HBF.o;have HAD:=zH (add_ok (B:=B) (o:=3) HBF.o HFB2.o HSV2.o.wd HID.o);clear y0 y9 r0 HC0 HC9 HX9;go_wp2_with fail;refine HAD.o.mono ?_;rintro e w4 ⟨rfl,cs4,p1,p2,p3,p4⟩;have HFB4:=zH p1;have HSV4:=zH (HSV2.o.words p2 p3);have HEX4:=zH (HEX2.o.trans p4);have HEXw:Hid (Ex B [fb] w w4):=⟨(HB1.o.mono HB.o).trans HEX4.o.1,fun k9 h8 h9=>by rw [HEX4.o.2 k9 (Nat.lt_of_lt_of_le h8 HB1.o.size) h9,HB1.o.block k9 h8]⟩;have ta:=aAx (.pointer (some ⟨gl,0,none⟩)) w4;clear p1 p2 p3 p4 r2 f2 HAD;go_wp2;go_ret;exact ⟨rfl,cs4,HFB4.o,HSV4.o,HEXw.o⟩
theorem kid_bounds {cs:List (List It)} {c:List It} (hs:Srt (weave l cs)) (hl:cs.length=l.length+1) (hc:cs[j]?=some c):(∀ z,0<j->l[j-1]?=some z->∀ x∈c,0<cmpB x.1 z.1)/\(∀ z,l[j]?=some z->∀ x∈c,cmpB x.1 z.1<0):=by
 have hjl:=(lL hc);have hw:=aA8 l cs j c hl hc;rw [hw] at hs;obtain ⟨p1,p2,p3⟩:=hs.app;obtain ⟨p4,p5,p6⟩:=p2.app;constructor
 ·intro z h0 hz x hx
  obtain ⟨a,ha⟩:=wvL_end (l.take j) (cs.take j) z (by simp;omega) (by
   rw [List.getLast?_eq_getElem?,List.length_take,Nat.min_eq_left (by omega),List.getElem?_take_of_lt (by omega)]
   exact hz)
  have h1:=p3 z (by rw [ha];simp) x (List.mem_append_left _ hx);rw [aB7] at h1;omega
 ·intro z hz x hx;obtain ⟨c2,hc2⟩:∃ c2,cs[j+1]?=some c2:=⟨_,gE (by have:=(lL hz);omega)⟩;rw [aE2 hz hc2] at p6;exact p6 x hx z (by simp)
theorem Ex.wk {a b c:World} (h:Ex B [fb] a b) (k:Ex B [fb] b c):Ex B [fb] a c:=h.trans k
theorem walk_branch [Gd] (hlf:s.life=t.life) (hdn:s.down=false) (hsn:s.n<=4096) (hh:h<100000) (hIH:WkC B p q fb s t h):WkC B p q fb s t (h+1):=by
 intro w b cs root dp k ps lo hi la ln lc ha hn hc hST hB hBf hfb hsv hon hsh hsr hro hk0 hk1 hlo hhi hln hhn hbd;obtain ⟨hpg,hit,hcl,hid,hkd⟩:=hon;obtain ⟨s1,s2,s3⟩:=hsh;have hidl:(b.2.2.map BT.id).length=b.2.1.length+1:=by rw [List.length_map];exact hcl
 have hcs:(b.2.2.map (flB h)).length=b.2.1.length+1:=by rw [List.length_map];exact hcl
 have HIH:=zH hIH;have HBD:=zH hbd;have HSR:Hid (Srt (weave b.2.1 (b.2.2.map (flB h)))):=hsr;have HCS:=zH hcs;have HLN:Hid ((flB (h+1) b).length=b.2.1.length+((b.2.2.map (flB h)).map List.length).sum):=aBs _ _ hcs;have HPG:Hid (pgB (h+1) b=b.1::(b.2.2.map (pgB h)).flatten):=rfl;have HK1:=zH hk1;have HFL:Hid (flB (h+1) b=weave b.2.1 (b.2.2.map (flB h))):=rfl;rw [HPG.o];show Calls prog 116 #[.pointer (some ⟨fb,0,none⟩),.pointer (some ⟨q,0,none⟩),.int .i64 (b.1:Int),.slice la ln lc,.slice ha hn hc] w fun e w'=>e=.returned (.int .i64 ((((h+1:Nat):Nat):Int)+1))/\WkR B fb root dp k ps (flB (h+1) b).length (b.1::(b.2.2.map (pgB h)).flatten) w w'
 rw [show (((h+1:Nat):Nat):Int)+1=(h:Int)+1+1 by omega];have hkk:k+(b.2.1.length:Int)<=1000000:=by have:=HLN.o;omega
 clear hIH hsr hk1;generalize hALL:flB (h+1) b=all at *
 have HLD:=zH (aDx b.1 hST hB hlf hpg.lt (by rw [hpg.of];decide) hdn b.2.1 (b.2.2.map BT.id) hpg.pg hidl (by intro x hx;obtain ⟨k,hk,rfl⟩:=List.mem_map.1 hx;exact hid k hk) hit.n1 hit.n4 hit.ok hit.so hpg.ln hpg.bt);have HST:=zH hST;have HIT:=zH hit;have hl4:=hit.n4;have hl1:=hit.n1;have HB:=zH hB;have HFB:=zH hfb;have HSV:=zH hsv;have HBF:=zH hBf;have hfl:=(lO hfb);have HLO:=zH hlo;have HHI:=zH hhi;have HID:Hid (b.1<4096):=Nat.lt_of_lt_of_le hpg.lt hsn;have HKD:=zH hkd;have HS3:=zH s3;have HBI:Hid (∀ x∈b.2.1,0<cmpB x.1 lo/\(hi=[]\/cmpB x.1 hi<0)):=fun x hx=>hbd x (by rw [HFL.o];exact aFe _ _ hcs _ hx)
 clear hST hfb hsv hpg hit hlo hhi hB hBf hsn hlf hdn hbd;generalize hl:b.2.1=l at *
 generalize hLL:l.length=L at *
 have hn2:(b.2.2.map BT.id).length=L+1:=hidl;go_enter func116,ntmps116;go_wp2_with fail;refine HLD.o.mono ?_;rintro e w1 ⟨v1,rfl,⟨gb,gi,gc,rfl,z1,z2,z5,z3,z4,z6⟩,hb1⟩;rw [hLL,hn2] at z3;have HIO:=zH (aBf z3);unfold brP at HIO;have HZ6:=zH z6;have HZ3:=zH z3;have HB1:=zH hb1;have HBw1:Hid (B<=w1.heap.size):=nT HB.o hb1.size;obtain ⟨kf,vf,hg1,hg2⟩:=z4;rw [hLL] at hg1;have HG1:=zH hg1;have HG2:=zH hg2;have HFB1:=zH ((hb1.block fb hfl).trans HFB.o);have r0:w1.cell? ⟨fb,0,none⟩=some (.int .i64 root):=(aAa HFB1.o).trans HSV.o.c0;have HF1:=zH (FT.of hb1 HB.o);clear z3 hb1 HLD hg1 hg2;go_wp2_with fail;refine HIO.o.mono ?_;rintro e w1' ⟨rfl,rfl⟩;go_upto_region 3 with fail;go_cut [] from 26 to 37 (fun wx=>wx=w1')
 case first =>
  by_cases hrt:(b.1:Int)=root
  ·have drt:((b.1:Int) == root)=true:=by simp;exact hrt
   subst hrt;go_wp2_with fail;refine (aA1 _).mono ?_;rintro e w2 ⟨rfl,rfl⟩;go_wp2;go_meet;rfl
  ·have drt:((b.1:Int) == root)=false:=by simp;exact hrt
   have x2:(2:Int)<=(L:Int):=by
    rcases hro with h9 | h9
    ·exact absurd h9 hrt
    ·have h9:2<=b.2.1.length:=h9;rw [hl,hLL] at h9;omega
   go_wp2_with fail;refine (aA1 _).mono ?_;rintro e w2 ⟨rfl,rfl⟩;go_wp2;go_meet;rfl
 case rest =>
  subst hcut;obtain ⟨x0,hx0⟩:∃ x,l[0]?=some x:=⟨_,gE (by omega)⟩;obtain ⟨x9,hx9⟩:∃ x,l[L-1]?=some x:=⟨_,gE (by omega)⟩;obtain ⟨ka0,kc0,hk0,hb0⟩:=(HG2.o 0 x0 hx0).1;obtain ⟨ka9,kc9,hk9,hb9⟩:=(HG2.o (L-1) x9 hx9).1;have y0:wc.cell? ⟨gi,0,none⟩=some (.slice ka0 x0.1.length kc0):=by rw [aAa HG1.o,List.getElem?_toArray,<-hk0];exact aA0 kf vf 0 L (by omega)
  have y9:wc.cell? ⟨gi,(L-1)*2,none⟩=some (.slice ka9 x9.1.length kc9):=by rw [aAa HG1.o,List.getElem?_toArray,<-hk9];exact aA0 kf vf (L-1) L (by omega)
  have HC0:=zH (aBq ka0 la x0.1.length kc0 ln lc x0.1 lo wc hb0.1 (HLO.o.ft HF1.o).1);have HC9:=zH (aBq ka9 ha x9.1.length kc9 hn hc x9.1 hi wc hb9.1 (HHI.o.ft HF1.o).1);have xc0:(0:Int)<cmpB x0.1 lo:=(HBI.o x0 (mG hx0)).1;have HX9:=zH (HBI.o x9 (mG hx9)).2;clear hx0 hx9 hb0 hb9 hk0 hk9;generalize cmpB x0.1 lo=cc0 at *
  generalize cmpB x9.1 hi=cc9 at *
  generalize x0.1.length=n00 at *
  generalize x9.1.length=n99 at *
  have xL0:(0:Int)<(L:Int):=by omega
  have xL1:((L:Int)-1)=((L-1:Nat):Int):=by omega
  have xL2:((L-1:Nat):Int)<(L:Int):=by omega
  go_wp2_with fail;refine HC0.o.mono ?_;rintro e w2 ⟨rfl,rfl⟩;go_wp2_with fail;refine (aA1 _).mono ?_;rintro e w3 ⟨rfl,rfl⟩;go_upto_region 5 with fail;go_cut [] from 46 to 61 (fun wx=>wx=w3)
  case first =>
   by_cases hhe:hn=0
   ·subst hhe;go_wp2_with fail;refine (aA1 _).mono ?_;rintro e w4 ⟨rfl,rfl⟩;go_wp2;go_meet;rfl
   ·have xh:¬ (hn:Int)=0:=by omega
    have dh:((hn:Int) == 0)=false:=by simp;omega
    have xc9:cc9<0:=by
     rcases HX9.o with h9 | h9
     ·rw [h9] at hhn;simp at hhn;omega
     ·exact h9
    go_wp2_with fail;refine HC9.o.mono ?_;rintro e w4 ⟨rfl,rfl⟩;go_wp2_with fail;refine (aA1 _).mono ?_;rintro e w5 ⟨rfl,rfl⟩;go_wp2;go_meet;rfl
  case rest =>
   subst hcut;have r2:wc.cell? ⟨fb,2,none⟩=some (.int .i64 k):=(aAa HFB1.o).trans HSV.o.c2;have f2:wc.frozen? ⟨fb,2,none⟩=false:=aAb HFB1.o;have HFB2:Hid ((wc.setCell ⟨fb,2,none⟩ (.int .i64 (k+(L:Int)))).heap[fb]?=some (.cells (cs.setIfInBounds 2 (.int .i64 (k+(L:Int)))) 176 (0,0))):=heap_setCell_same _ _ _ _ _ _ HFB1.o;have HSV2:=zH (HSV.o.keys (k':=k+(L:Int)));have HEX2:Hid (Ex B [fb] wc (wc.setCell ⟨fb,2,none⟩ (.int .i64 (k+(L:Int))))):=Ex.set HBF.o;have HAD:=zH (add_ok (B:=B) (o:=3) HBF.o HFB2.o HSV2.o.wd HID.o);clear y0 y9 r0 HC0 HC9 HX9;go_wp2_with fail;refine HAD.o.mono ?_;rintro e w4 ⟨rfl,cs4,p1,p2,p3,p4⟩;have HFB4:=zH p1;have HSV4:=zH (HSV2.o.words p2 p3);have HEX4:=zH (HEX2.o.trans p4);have HEXw:Hid (Ex B [fb] w w4):=⟨(HB1.o.mono HB.o).trans HEX4.o.1,fun k9 h8 h9=>by rw [HEX4.o.2 k9 (Nat.lt_of_lt_of_le h8 HB1.o.size) h9,HB1.o.block k9 h8]⟩;have ta:=aAy (.pointer (some ⟨gb,0,none⟩)) w4;clear p1 p2 p3 p4 r2 f2 HAD;have hm:∀ (ds:List (BT h)),((ds.map (flB h)).map List.length).sum=(ds.map fun d=>(flB h d).length).sum:=fun ds=>by rw [List.map_map];rfl
   have HSUM:Hid (all.length=L+(b.2.2.map fun d=>(flB h d).length).sum):=by
    show _=_;rw [HLN.o,hm]
   have HG1':=zH ((HEX4.o.2 gi (lO HG1.o) (by
    intro q9;simp only [List.mem_singleton] at q9;have h9:=HG1.o;rw [q9,HFB1.o] at h9;simp only [oI,cI] at h9
    exact absurd h9.2.1 (by decide))).trans HG1.o)
   have HGB4:=zH (HEX4.o.keepX HFB1.o HZ3.o (by decide));have HGC4:=zH (HEX4.o.keepX HFB1.o HZ6.o (by decide));have HF4:Hid (FT B wc w4):=HEX4.o.ftX HFB1.o (by decide);have g1:w4.cell? ⟨gb,1,none⟩=some (.slice (some ⟨gc,0,none⟩) (L+1) (L+1)):=aAa HGB4.o;have HST4:Hid (ST B p q s t w4):=HST.o.exS HEXw.o HFB.o;have HBw4:Hid (B<=w4.heap.size):=nT HB.o HEXw.o.1.size;go_wp2_with fail;go_loopw [88,15] (fun i hgt wx=>∃ j:Nat,j<=L+1/\i=.int .i64 j/\hgt=.int .i64 (if j=0 then 0 else (h:Int)+1)/\∃ csj,wx.heap[fb]?=some (.cells csj 176 (0,0))/\StV csj root dp (k+(L:Int)+(((b.2.2.take j).map fun d=>(flB h d).length).sum:Nat)) (((b.2.2.take j).map (pgB h)).flatten.foldl adP (adP ps b.1))/\Ex B [fb] w4 wx) (fun i _ _=>L+1-(intOf i).toNat)
   case atStart=>exact ⟨0,by omega,rfl,rfl,cs4,HFB4.o,by simpa using HSV4.o,Ex.refl _ _ _⟩
   case round =>
    obtain ⟨j,hj,rfl,rfl,csj,hfj,hsj,hej⟩:=hrel;have HFBj:=zH hfj;have HSVj:=zH hsj;have HEXj:=zH hej;have HEWj:=zH (HEXw.o.wk hej);clear hfj hsj hej g1 ta;by_cases hjn:j<L+1
    ·have xj:(j:Int)<((L+1:Nat):Int):=by omega
     obtain ⟨kb,hkb⟩:∃ kb,b.2.2[j]?=some kb:=⟨_,gE (by omega)⟩;have hkm:=mG hkb;have hkc:(b.2.2.map (flB h))[j]?=some (flB h kb):=by rw [List.getElem?_map,hkb];rfl
     have HKB:=zH (kid_bounds HSR.o (by rw [hLL];exact HCS.o) hkc);have HKS:Hid (Srt (flB h kb)):=Srt.kid HSR.o (by rw [hLL];exact HCS.o) (mG hkc);have HCB:Hid (∀ x∈flB h kb,0<cmpB x.1 lo/\(hi=[]\/cmpB x.1 hi<0)):=fun x hx=>HBD.o x (by rw [HFL.o];exact (aCr l _ _ (by rw [hLL];exact HCS.o) (mG hkc)).subset hx)
     have HGR:=zH (HEXj.o.keepX HFB4.o HG1'.out (by decide));have HFT:Hid (FT B wc wr):=HF4.o.trans (HEXj.o.ftX HFB4.o (by decide));have HSTr:Hid (ST B p q s t wr):=HST4.o.exS HEXj.o HFB4.o;have HBr:Hid (B<=wr.heap.size):=nT HBw4.o HEXj.o.1.size;have hgc:=HEXj.o.keepX HFB4.o HGC4.o (by decide);have g2:wr.cell? ⟨gc,j,none⟩=some (.iface 217 (.int .i64 (BT.id kb:Int))):=by
      rw [aAa hgc,List.getElem?_toArray,List.getElem?_map,List.getElem?_map,hkb];rfl
     have g3:=aF5 (.int .i64 (BT.id kb:Int)) wr;have htk:(b.2.2.take (j+1)).map (fun d=>(flB h d).length)=(b.2.2.take j).map (fun d=>(flB h d).length)++[(flB h kb).length]:=by
      rw [List.take_add_one,hkb];simp
     have htp:((b.2.2.take (j+1)).map (pgB h)).flatten=((b.2.2.take j).map (pgB h)).flatten++pgB h kb:=by
      rw [List.take_add_one,hkb];simp
     have hle:((b.2.2.take (j+1)).map fun d=>(flB h d).length).sum<=(b.2.2.map fun d=>(flB h d).length).sum:=by
      conv=>rhs;rw [<-List.take_append_drop (j+1) b.2.2,List.map_append,List.sum_append]
      omega
     rw [htk,List.sum_append] at hle;simp only [List.sum_cons,List.sum_nil,Nat.add_zero] at hle;generalize hkj:k+(L:Int)+(((b.2.2.take j).map fun d=>(flB h d).length).sum:Nat)=kj at *
     generalize hpj:((b.2.2.take j).map (pgB h)).flatten.foldl adP (adP ps b.1)=psj at *
     have HKJ0:Hid (0<=kj):=by show 0<=kj;omega
     have HKJ1:Hid (kj+((flB h kb).length:Int)<=1000000):=by
      have h1:=HK1.o;have h2:=HSUM.o;show kj+((flB h kb).length:Int)<=1000000;omega
     have HNX:Hid (∀ (csn:Array Value) (wn:World),wn.heap[fb]?=some (.cells csn 176 (0,0))->StV csn root dp (kj+((flB h kb).length:Int)) ((pgB h kb).foldl adP psj)->Ex B [fb] w4 wn->∃ j':Nat,j'<=L+1/\Value.int .i64 (j+1)=.int .i64 j'/\Value.int .i64 ((h:Int)+1)=.int .i64 (if j'=0 then 0 else (h:Int)+1)/\∃ csj,wn.heap[fb]?=some (.cells csj 176 (0,0))/\StV csj root dp (k+(L:Int)+(((b.2.2.take j').map fun d=>(flB h d).length).sum:Nat)) (((b.2.2.take j').map (pgB h)).flatten.foldl adP (adP ps b.1))/\Ex B [fb] w4 wn):=by
      intro csn wn a1 a2 a3;refine ⟨j+1,by omega,by simp,by simp,csn,a1,?_,a3⟩;rw [htk,htp,List.sum_append,List.foldl_append,hpj];rw [<-hkj] at a2;have:k+(L:Int)+((((b.2.2.take j).map fun d=>(flB h d).length).sum+[(flB h kb).length].sum:Nat):Int)=k+(L:Int)+(((b.2.2.take j).map fun d=>(flB h d).length).sum:Nat)+((flB h kb).length:Int):=by
       simp only [List.sum_cons,List.sum_nil,Nat.add_zero];omega
      rw [this];exact a2
     clear hgc htk htp hle hkb hkc hkj hpj;by_cases hj00:j=0
     ·obtain ⟨x1,hx1⟩:∃ x,l[j]?=some x:=⟨_,gE (by omega)⟩;obtain ⟨ka1,kc1,hka1,hkb1⟩:=(HG2.o j x1 hx1).1;have y1:wr.cell? ⟨gi,j*2,none⟩=some (.slice ka1 x1.1.length kc1):=by rw [aAa HGR.o,List.getElem?_toArray,<-hka1];exact aA0 kf vf j L (by omega)
      have hb1':=hkb1.ft HFT.o;have hx11:=HKB.o.2 x1 hx1;have HCW:=zH (HIH.o wr kb csj root dp kj psj lo x1.1 la ln lc ka1 x1.1.length kc1 HSTr.o HBr.o HBF.o HFBj.o HSVj.o (HKD.o kb hkm) (HS3.o kb hkm).1 HKS.o (Or.inr (HS3.o kb hkm).2) HKJ0.o HKJ1.o ((HLO.o.ft HF1.o).ft HFT.o) (hb1') hln rfl (fun x hx=>⟨(HCB.o x hx).1,Or.inr (hx11 x hx)⟩));generalize x1.1.length=n1 at *
      subst hj00;clear hkb1 hb1' hka1 hx1 hx11;go_wp2_with fail;refine HCW.o.mono ?_;rintro e w5 ⟨rfl,csn,p1,p2,p3⟩;have HFBn:=zH p1;have HSVn:=zH p2;have HEXn:=zH (HEXj.o.wk p3);clear p1 p2 p3 HCW;go_wp2_with fail;refine (aA1 _).mono ?_;rintro e w6 ⟨rfl,rfl⟩;go_wp2_with fail;go_roundw
      case rel=>exact HNX.o _ _ HFBn.o HSVn.o HEXn.o
      case measure=>simp [intOf]
     ·have xj0:(0:Int)<(j:Int):=by omega
      have xj00:¬ (j:Int)=0:=by omega
      have dj00:((j:Int) == 0)=false:=by simp;omega
      simp only [if_neg hj00];by_cases hjl:j<L
      ·have xjl:(j:Int)<(L:Int):=by omega
       obtain ⟨x0,hx0⟩:∃ x,l[j-1]?=some x:=⟨_,gE (by omega)⟩;obtain ⟨ka0,kc0,hka0,hkb0⟩:=(HG2.o (j-1) x0 hx0).1;have y0:wr.cell? ⟨gi,(j-1)*2,none⟩=some (.slice ka0 x0.1.length kc0):=by rw [aAa HGR.o,List.getElem?_toArray,<-hka0];exact aA0 kf vf (j-1) L (by omega)
       have xj1:((j:Int)-1)=((j-1:Nat):Int):=by omega
       have xj2:((j-1:Nat):Int)<(L:Int):=by omega
       have hb0':=hkb0.ft HFT.o;have hx01:=HKB.o.1 x0 (by omega) hx0;obtain ⟨x1,hx1⟩:∃ x,l[j]?=some x:=⟨_,gE (by omega)⟩;obtain ⟨ka1,kc1,hka1,hkb1⟩:=(HG2.o j x1 hx1).1;have y1:wr.cell? ⟨gi,j*2,none⟩=some (.slice ka1 x1.1.length kc1):=by rw [aAa HGR.o,List.getElem?_toArray,<-hka1];exact aA0 kf vf j L (by omega)
       have hb1':=hkb1.ft HFT.o;have hx11:=HKB.o.2 x1 hx1;have HCW:=zH (HIH.o wr kb csj root dp kj psj x0.1 x1.1 ka0 x0.1.length kc0 ka1 x1.1.length kc1 HSTr.o HBr.o HBF.o HFBj.o HSVj.o (HKD.o kb hkm) (HS3.o kb hkm).1 HKS.o (Or.inr (HS3.o kb hkm).2) HKJ0.o HKJ1.o (hb0') (hb1') rfl rfl (fun x hx=>⟨hx01 x hx,Or.inr (hx11 x hx)⟩));generalize x0.1.length=n0 at *
       generalize x1.1.length=n1 at *
       clear hkb0 hb0' hka0 hx0 hx01;clear hkb1 hb1' hka1 hx1 hx11;go_wp2_with fail;refine HCW.o.mono ?_;rintro e w5 ⟨rfl,csn,p1,p2,p3⟩;have HFBn:=zH p1;have HSVn:=zH p2;have HEXn:=zH (HEXj.o.wk p3);clear p1 p2 p3 HCW;go_wp2_with fail;refine (aA1 _).mono ?_;rintro e w6 ⟨rfl,rfl⟩;go_wp2_with fail;go_roundw
       case rel=>exact HNX.o _ _ HFBn.o HSVn.o HEXn.o
       case measure=>simp [intOf];omega
      ·have xjl:¬ (j:Int)<(L:Int):=by omega
       obtain ⟨x0,hx0⟩:∃ x,l[j-1]?=some x:=⟨_,gE (by omega)⟩;obtain ⟨ka0,kc0,hka0,hkb0⟩:=(HG2.o (j-1) x0 hx0).1;have y0:wr.cell? ⟨gi,(j-1)*2,none⟩=some (.slice ka0 x0.1.length kc0):=by rw [aAa HGR.o,List.getElem?_toArray,<-hka0];exact aA0 kf vf (j-1) L (by omega)
       have xj1:((j:Int)-1)=((j-1:Nat):Int):=by omega
       have xj2:((j-1:Nat):Int)<(L:Int):=by omega
       have hb0':=hkb0.ft HFT.o;have hx01:=HKB.o.1 x0 (by omega) hx0;have HCW:=zH (HIH.o wr kb csj root dp kj psj x0.1 hi ka0 x0.1.length kc0 ha hn hc HSTr.o HBr.o HBF.o HFBj.o HSVj.o (HKD.o kb hkm) (HS3.o kb hkm).1 HKS.o (Or.inr (HS3.o kb hkm).2) HKJ0.o HKJ1.o (hb0') ((HHI.o.ft HF1.o).ft HFT.o) rfl hhn (fun x hx=>⟨hx01 x hx,(HCB.o x hx).2⟩));generalize x0.1.length=n0 at *
       clear hkb0 hb0' hka0 hx0 hx01;go_wp2_with fail;refine HCW.o.mono ?_;rintro e w5 ⟨rfl,csn,p1,p2,p3⟩;have HFBn:=zH p1;have HSVn:=zH p2;have HEXn:=zH (HEXj.o.wk p3);clear p1 p2 p3 HCW;go_wp2_with fail;refine (aA1 _).mono ?_;rintro e w6 ⟨rfl,rfl⟩;go_wp2_with fail;go_roundw
       case rel=>exact HNX.o _ _ HFBn.o HSVn.o HEXn.o
       case measure=>simp [intOf];omega
    ·have xj:¬ (j:Int)<((L+1:Nat):Int):=by omega
     obtain rfl:j=L+1:=by omega
     have htt:b.2.2.take (L+1)=b.2.2:=List.take_of_length_le (by omega);rw [htt] at HSVj;have hjz:¬ L+1=0:=by omega
     simp only [if_neg hjz];go_wp2;go_ret;refine ⟨rfl,csj,HFBj.o,?_,HEWj.o⟩;rw [HSUM.o,List.foldl_cons];have:k+((L+(b.2.2.map fun d=>(flB h d).length).sum:Nat):Int)=k+(L:Int)+((b.2.2.map fun d=>(flB h d).length).sum:Nat):=by omega
     rw [this];exact HSVj.o
theorem walk_ok [Gd] (hlf:s.life=t.life) (hdn:s.down=false) (hsn:s.n<=4096):∀ h,h<100000->WkC B p q fb s t h
 | 0,_=>walk_leaf hlf hdn hsn
 | h+1,hh=>walk_branch hlf hdn hsn (by omega) (walk_ok hlf hdn hsn h (by omega))
end Go.Proofs.YtdfjjhlhnfindaaGreat
set_option linter.unusedVariables false
namespace Go.Proofs.YtdfjjhlhnfindaaGreat
open Tryz
def bsum (f:Nat->Bool):Nat->Nat
 | 0=>0
 | n+1=>bsum f n+(f n).toNat
theorem bsum_add (f:Nat->Bool) (a:Nat):∀ b,bsum f (a+b)=bsum f a+bsum (fun i=>f (a+i)) b
 | 0=>rfl
 | b+1=>by
  show bsum f (a+b)+(f (a+b)).toNat=bsum f a+(bsum (fun i=>f (a+i)) b+(f (a+b)).toNat)
  rw [bsum_add f a b,Nat.add_assoc]
theorem aG2 {f g:Nat->Bool}:∀ {n:Nat},(∀ i,i<n->f i=g i)->bsum f n=bsum g n
 | 0,_=>rfl
 | n+1,h=>by
  show bsum f n+(f n).toNat=bsum g n+(g n).toNat
  rw [aG2 (fun i hi=>h i (by omega)),h n (by omega)]
theorem aF3 (f:Nat->Bool):∀ n,bsum f n=((List.range n).filter f).length
 | 0=>rfl
 | n+1=>by
  rw [List.range_succ,List.filter_append,lA,<-aF3 f n]
  show bsum f n+(f n).toNat=_
  cases h:f n<;>simp [h]
theorem bsum_list {l:List Nat} {n:Nat} (hn:l.Nodup) (hl:∀ x∈l,x<n):bsum (fun j=>decide (j∈l)) n=l.length:=by
 rw [aF3];refine List.Perm.length_eq ((List.perm_ext_iff_of_nodup ((List.nodup_range).filter _) hn).2 fun a=>?_);simp only [List.mem_filter,List.mem_range,decide_eq_true_eq];exact ⟨fun h=>h.2,fun h=>⟨hl a h,h⟩⟩
def mk8 (c:Nat):Nat->Nat
 | 0=>0
 | n+1=>c+256*mk8 c n
def st2 (n x:Nat):Nat:=(x / 4 &&& mk8 51 n)+(x &&& mk8 51 n)
def st3 (n x:Nat):Nat:=(x / 16+x) &&& mk8 15 n
def y1 (b:Nat):Nat:=(b / 2 &&& 85)+(b &&& 85)
def y2 (b:Nat):Nat:=(b / 4 &&& 51)+(b &&& 51)
end Go.Proofs.YtdfjjhlhnfindaaGreat
