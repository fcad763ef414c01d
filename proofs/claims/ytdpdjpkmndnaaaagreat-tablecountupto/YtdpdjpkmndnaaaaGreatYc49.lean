import Derived.Test.YtdpdjpkmndnaaaaGreatYc46
import Derived.Laws.CopyRow
set_option maxRecDepth 100000
set_option maxHeartbeats 16000000
set_option linter.unusedVariables false
namespace Go.Proofs.YtdpdjpkmndnaaaaGreat
open Go.RowKit _root_.Go.Proofs.Tryz
variable {B g o p q rb:Nat} {Q:Exit->Act->World->Prop} {fn:Func} {l:List It} {ops:Array Oper} {ps:List Nat} {st:StT} {t:TypeId} {w w':World}
def spl (cur:Array Value) (o:Nat) (vs:Array Value):Array Value:=(cur.toList.take o++vs.toList++cur.toList.drop (o+vs.size)).toArray
theorem aHi {cur vs:Array Value} (h:vs.size=cur.size):spl cur 0 vs=vs:=by
 unfold spl;rw [Nat.zero_add,h,List.drop_eq_nil_of_le (by simp)];simp
theorem aDo {cur vs:Array Value} (hg:w.heap[g]?=some (.cells cur t (0,0))) (h:o+vs.size<=cur.size) (h1:∀ v∈vs.toList,v.oneCell'=true) :
  (storeCells ⟨g,o,none⟩ vs.toList).run prog w=.ok () (w.setRow g (spl cur o vs)):=by
 have:=run_storeCells_at (P:=prog) g o t vs.toList 0 cur w hg (by simpa using h) h1;simpa [spl] using this
theorem Ex.below {C:Nat} (h:Ex B [g] w w') (h1:C<=g) (h2:C<=w.heap.size):Below C w w':=⟨h.1.os,h.1.tape,h.1.output,h.1.size,fun k hk=>h.2 k (by omega) (by simp;omega)⟩
theorem Ex.row (hB:B<=g) (c:Array Value):Ex B [g] w (w.setRow g c):=by
 refine ⟨below_setRow (Below.refl B w) hB c,fun k hk hn=>?_⟩;simp only [List.mem_singleton] at hn;simp only [World.setRow,Array.getElem?_modify];rw [if_neg (fun q=>hn q.symm)]
theorem StV.one {cs:Array Value} {root dp k:Int} (h:StV cs root dp k ps):∀ v∈cs.toList,v.oneCell'=true:=by
 intro v hv;obtain ⟨i,hi⟩:=List.getElem?_of_mem hv;rw [Array.getElem?_toList] at hi;have hl:=(lO hi);have hz:=h.sz;by_cases c0:i=0
 ·subst c0;rw [h.c0] at hi;simp only [oI] at hi;subst hi;rfl
 by_cases c1:i=1
 ·subst c1;rw [h.c1] at hi;simp only [oI] at hi;subst hi;rfl
 by_cases c2:i=2
 ·subst c2;rw [h.c2] at hi;simp only [oI] at hi;subst hi;rfl
 obtain ⟨x,hx⟩:∃ x,ps[i-3]?=some x:=⟨_,gE (by have:=h.wd.1;omega)⟩;have:=h.wd.2.2 (i-3) x hx;rw [show 3+(i-3)=i by omega,hi] at this;simp only [oI] at this;subst this;rfl
theorem StV.setRoot {cs:Array Value} {root dp k r:Int} (h:StV cs root dp k ps):StV (cs.setIfInBounds 0 (.int .i64 r)) r dp k ps:=by
 have ne:∀ i,i≠0->(cs.setIfInBounds 0 (.int .i64 r))[i]?=cs[i]?:=fun i hi=>Array.getElem?_setIfInBounds_ne (Ne.symm hi)
 exact ⟨by rw [Array.size_setIfInBounds,h.sz],Array.getElem?_setIfInBounds_self_of_lt (by rw [h.sz];decide),(ne 1 (by decide)).trans h.c1,(ne 2 (by decide)).trans h.c2,h.wd.same fun i hi _=>ne i (by omega)⟩
theorem StV.setDepth {cs:Array Value} {root dp k r:Int} (h:StV cs root dp k ps):StV (cs.setIfInBounds 1 (.int .i64 r)) root r k ps:=by
 have ne:∀ i,i≠1->(cs.setIfInBounds 1 (.int .i64 r))[i]?=cs[i]?:=fun i hi=>Array.getElem?_setIfInBounds_ne (Ne.symm hi)
 exact ⟨by rw [Array.size_setIfInBounds,h.sz],(ne 0 (by decide)).trans h.c0,Array.getElem?_setIfInBounds_self_of_lt (by rw [h.sz];decide),(ne 2 (by decide)).trans h.c2,h.wd.same fun i hi _=>ne i (by omega)⟩
def zPs:List Nat:=List.replicate 64 0
theorem zero_list:zeroCells207.toList=[.int .i64 0,.int .i64 0,.int .i64 0]++List.replicate 64 (.int .u64 0):=by kernel_rfl
theorem aD4:StV zeroCells207 0 0 0 zPs:=by
 have e:zeroCells207=([.int .i64 0,.int .i64 0,.int .i64 0]++List.replicate 64 (.int .u64 0):List Value).toArray:=by rw [<-zero_list]
 rw [e];refine ⟨by rfl,by rfl,by rfl,by rfl,by rfl,fun x hx=>?_,fun i x hi=>?_⟩
 ·rw [zPs,List.mem_replicate] at hx;omega
 ·have hi2:=List.getElem?_eq_some_iff.1 hi;obtain ⟨h1,h2⟩:=hi2;simp only [zPs,List.length_replicate] at h1;simp only [zPs,List.getElem_replicate] at h2;subst h2;rw [List.getElem?_toArray,List.getElem?_append_right (show 3<=3+i by omega),show 3+i-([Value.int .i64 0,Value.int .i64 0,Value.int .i64 0]:List Value).length=i by show 3+i-3=i;omega,List.getElem?_replicate,if_pos h1];rfl
theorem aJk {L:List Nat} (hd:L.Nodup) (h4:∀ x∈L,x<4096):PgS (L.foldl adP zPs) L:=by
 have e:=fun j=>hs_folda L zPs j (by rfl) h4
 refine ⟨(e 0).2,hd,h4,fun j=>?_⟩;have hz:hsP zPs j=false:=by
  unfold hsP zPs;have:(List.replicate 64 0).getD (j / 64) 0=0:=by
   rw [List.getD_eq_getElem?_getD]
   cases h:(List.replicate 64 0)[j / 64]? with
   | none=>rfl
   | some x =>
    have:=mG h;rw [List.mem_replicate] at this;exact this.2
  rw [this];simp
 rw [(e j).1,hz,Bool.false_or]
theorem looked1_ok [Gd] {fb sb h:Nat} {s:DS} {t:PS} {cs:Array Value} {d0 r0:Int} (hST:ST B p q s t w) (hB:B<=w.heap.size) (hlf:s.life=t.life) (hdn:s.down=false) (hsn:s.n<=4096) (b:BT h) (hon:OnW s t h b) (hsh:ShB h b) (hsr:Srt (flB h b)) (hh:h<100000) (hl:(flB h b).length<100000) (hBf:B<=fb)
  (hrb:w.heap[rb]?=some (.cells #[.int .i64 (BT.id b:Int)] 3 (0,0))) (hfb:w.heap[fb]?=some (.cells cs 207 (0,0))) (hsb:w.heap[sb]?=some (.cells #[.pointer (some ⟨q,0,none⟩)] 201 (0,0))) (hsv:StV cs r0 d0 0 zPs) :
  Calls prog 150 #[.pointer (some ⟨rb,0,none⟩),.pointer (some ⟨fb,0,none⟩),.pointer (some ⟨sb,0,none⟩)] w fun e w'=>e=.returned (.int .i64 0)/\∃ cs',w'.heap[fb]?=some (.cells cs' 207 (0,0))/\StV cs' (BT.id b:Int) ((h:Int)+1) ((flB h b).length:Int) ((pgB h b).foldl adP zPs)/\Ex B [fb] w w':=by
 have r1:w.cell? ⟨rb,0,none⟩=some (.int .i64 (BT.id b:Int)):=aAc hrb;have r2:w.cell? ⟨fb,0,none⟩=some (.int .i64 r0):=(aAc hfb).trans hsv.c0;have f2:w.frozen? ⟨fb,0,none⟩=false:=aAj hfb;have HEX:Hid (Ex B [fb] w (w.setCell ⟨fb,0,none⟩ (.int .i64 (BT.id b:Int)))):=Ex.set hBf;have HRB:=zH (HEX.o.keepX hfb hrb (by decide));have HSB:=zH (HEX.o.keepX hfb hsb (by decide));have HFB:Hid ((w.setCell ⟨fb,0,none⟩ (.int .i64 (BT.id b:Int))).heap[fb]?=some (.cells (cs.setIfInBounds 0 (.int .i64 (BT.id b:Int))) 207 (0,0))):=heap_setCell_same _ _ _ _ _ _ hfb
 have HWK:=zH (walk_ok (B:=B) (p:=p) (q:=q) (fb:=fb) (s:=s) (t:=t) hlf hdn hsn h hh (w.setCell ⟨fb,0,none⟩ (.int .i64 (BT.id b:Int))) b _ (BT.id b:Int) d0 0 zPs [] [] none 0 0 none 0 0 (hST.exS HEX.o hfb) (nT hB HEX.o.1.size) hBf HFB.o hsv.setRoot hon hsh hsr (Or.inl rfl) (Int.le_refl _) (by omega) (BK.nil _ _) (BK.nil _ _) rfl rfl (fun x hx=>⟨by
  have h9:=(hon.ok x hx).k0
  cases hx1:x.1 with
  | nil=>exact absurd hx1 h9
  | cons a l=>simp [cmpB],Or.inl rfl⟩))
 have HBF:=zH hBf;have c1:=aAc (i:=0) HRB.o;have c2:=aAc (i:=0) HSB.o;simp only [tG,zG] at c1 c2;clear hST hon hsh hsr hrb hfb hsb hsv;go_enter func150,ntmps150;go_wp2_with fail;refine HWK.o.mono ?_;rintro e w1 ⟨rfl,cs1,k1,k2,k3⟩;have HK1:=zH k1;have HK2:=zH k2;have HK3:=zH (HEX.o.trans k3);have d1:w1.cell? ⟨fb,1,none⟩=some (.int .i64 d0):=(aAc k1).trans k2.c1;have f1:w1.frozen? ⟨fb,1,none⟩=false:=aAj k1;clear k1 k2 k3;go_wp2;go_ret;refine ⟨rfl,_,heap_setCell_same _ _ _ _ _ _ HK1.o,?_,HK3.o.trans (Ex.set HBF.o)⟩;have:=HK2.o.setDepth (r:=(h:Int)+1);rw [Int.zero_add] at this;exact this
theorem aC8:(prog.info? 207).map (·.size)=some 67:=by kernel_rfl
theorem aE8 {p u:Tmp} (h:fn.results=#[.cell p 207,.tmp u]) (tmps:Array Value) (w:World) (g:Nat) (cs:Array Value)
  (hp:tmps.getD p undef=.pointer (some ⟨g,0,none⟩)) (hg:w.heap[g]?=some (.cells cs 207 (0,0))) (hz:cs.size=67) :
  (results fn tmps).run prog w=.ok (.tuple #[.agg cs,tmps.getD u undef]) w:=by
 have hi:(prog.info? 207).map (·.size)=some cs.size:=by rw [hz];exact aC8
 rw [results_cell_tmp h,hp];simp only [asAddr,Sem.run_pure,Result.andThen_ok,run_loadVar_row w g 207 207 cs (0,0) _ hg underlying207 rfl hi]
theorem wp_load_row {o:Oper} {a:Act} {K:Act->World->Prop} (p:Operand) (t:TypeId) (ho:o.op=.load t p) {ad:Addr} {cs:Array Value} (hp:a.eval p=.pointer (some ad)) (hrun:(loadVar t ad).run prog w=.ok (.agg cs) w) (h:K (a.put o.dst (.agg cs)) w):Oper.wp prog o a w K Q:=by
 unfold Oper.wp;simp [execOp,ho,Instr.loadAt,Instr.sureAddr,hp,hrun,Result.andThen];exact h
theorem wpList_load_row {rest:List Oper} {o:Oper} {a:Act} (hgd:o.guard=none) (p:Operand) (t:TypeId) (ho:o.op=.load t p) {ad:Addr} {cs:Array Value} (hp:a.eval p=.pointer (some ad)) (hrun:(loadVar t ad).run prog w=.ok (.agg cs) w) (h:wpList prog ops Q rest (a.put o.dst (.agg cs)) w):wpList prog ops Q (o::rest) a w :=
 wpList_plain hgd fun K hK=>wp_load_row p t ho hp hrun (hK _ _ h)
structure SameT (st st':StT):Prop where
 rt:st'.root=st.root
 dp:st'.depth=st.depth
 ky:st'.keys=st.keys
 ln:st'.pgs.length=64
 hs:∀ j,hsP st'.pgs j=hsP st.pgs j
theorem PgS.hs {ps' l:List Nat} (h:PgS ps l) (h':PgS ps' l):ps'.length=64/\∀ j,hsP ps' j=hsP ps j:=⟨h'.1,fun j=>by rw [h.2.2.2,h'.2.2.2]⟩
theorem SameT.pgs {st':StT} (e:SameT st st') {l:List Nat} (h:PgS st.pgs l):PgS st'.pgs l:=⟨e.ln,h.2.1,h.2.2.1,fun j=>by rw [e.hs,h.2.2.2]⟩
def TrW (s:DS) (t:PS) (st:StT) (l:List It):Prop :=
 (st.root=0/\st.depth=0/\st.keys=0/\l=[]/\PgS st.pgs []) \/
 ∃ (h:Nat) (b:BT h),st.root=((BT.id b:Nat):Int)/\st.depth=((h+1:Nat):Int)/\st.keys=((l.length:Nat):Int)/\flB h b=l/\Srt l/\OnW s t h b/\ShB h b/\1<=(BT.it b).length/\PgS st.pgs (pgB h b)
theorem looked_w [Gd] {s:DS} {t:PS} (hST:ST B p q s t w) (hB:B<=w.heap.size) (hlf:s.life=t.life) (hdn:s.down=false) (hsn:t.st.length=s.n) (hhd:t.st.getD 0 0=0) (hTr:TrW s t st l) (hdp:st.depth<100000) (hl:l.length<100000) :
  Calls prog 105 #[.pointer (some ⟨q,0,none⟩),.int .i64 st.root] w fun e w'=>∃ v,e=.returned (.tuple #[v,.int .i64 0])/\(∃ cs' st',v=.agg cs'/\StV cs' st'.root st'.depth st'.keys st'.pgs/\SameT st st')/\Below w.heap.size w w':=by
 have hmf:∀ (fn:Fn) (first cap:Array Value) (w:World),(Instr.makeFunc fn first cap).run prog w=.ok (.func fn first cap) w:=fun _ _ _ _=>rfl
 have hsn4:s.n<=4096:=by obtain ⟨_,gs,h2⟩:=hST;rw [<-hsn];exact h2.ok.sl
 have HBB:=zH (aAz [Obj.cells #[.pointer (some ⟨q,0,none⟩)] 201,Obj.cells #[.int .i64 st.root] 3,Obj.cells zeroCells207 207] w);have HX0:Hid ((((w.alloc (.cells #[.pointer (some ⟨q,0,none⟩)] 201)).alloc (.cells #[.int .i64 st.root] 3)).alloc (.cells zeroCells207 207)).heap[w.heap.size]?=some (.cells #[.pointer (some ⟨q,0,none⟩)] 201 (0,0))):=aAn [Obj.cells #[.pointer (some ⟨q,0,none⟩)] 201,Obj.cells #[.int .i64 st.root] 3,Obj.cells zeroCells207 207] w 0 _ rfl;have HX1:Hid ((((w.alloc (.cells #[.pointer (some ⟨q,0,none⟩)] 201)).alloc (.cells #[.int .i64 st.root] 3)).alloc (.cells zeroCells207 207)).heap[w.heap.size+1]?=some (.cells #[.int .i64 st.root] 3 (0,0))):=aAn [Obj.cells #[.pointer (some ⟨q,0,none⟩)] 201,Obj.cells #[.int .i64 st.root] 3,Obj.cells zeroCells207 207] w 1 _ rfl;have HX2:Hid ((((w.alloc (.cells #[.pointer (some ⟨q,0,none⟩)] 201)).alloc (.cells #[.int .i64 st.root] 3)).alloc (.cells zeroCells207 207)).heap[w.heap.size+2]?=some (.cells zeroCells207 207 (0,0))):=aAn [Obj.cells #[.pointer (some ⟨q,0,none⟩)] 201,Obj.cells #[.int .i64 st.root] 3,Obj.cells zeroCells207 207] w 2 _ rfl;have HB1:Hid (Below w.heap.size w (((w.alloc (.cells #[.pointer (some ⟨q,0,none⟩)] 201)).alloc (.cells #[.int .i64 st.root] 3)).alloc (.cells zeroCells207 207))):=HBB.o.1;have c1:(((w.alloc (.cells #[.pointer (some ⟨q,0,none⟩)] 201)).alloc (.cells #[.int .i64 st.root] 3)).alloc (.cells zeroCells207 207)).cell? ⟨w.heap.size+1,0,none⟩=some (.int .i64 st.root):=aAc HX1.o;clear HBB;generalize hn0:w.heap.size=n0 at *
 have HST:=zH hST;clear hST;rcases hTr with ⟨r1,r2,r3,r4,r5⟩ | ⟨h,b,q1,q2,q3,q4,q5,q6,q7,q8,q9⟩
 ·have hz:=r5.hs (aJk List.nodup_nil (fun x hx=>by simp at hx));have HTR:Hid (SameT st ⟨0,0,0,zPs⟩):=⟨r1.symm,r2.symm,r3.symm,hz.1,hz.2⟩;rw [r1] at HX0 HX1 HX2 HB1 c1 ⊢;have hst:=aDo (o:=0) HX2.o (by rw [Nat.zero_add];exact nR _) aD4.one;rw [aHi rfl] at hst;have HEX:Hid (Ex n0 [n0+2] (((w.alloc (.cells #[.pointer (some ⟨q,0,none⟩)] 201)).alloc (.cells #[.int .i64 0] 3)).alloc (.cells zeroCells207 207)) _):=Ex.row (show n0<=n0+2 by omega) zeroCells207;have HY2:=zH (setRow_heap _ _ _ zeroCells207 _ _ HX2.o);clear r1 r2 r3 r4 r5;go_enter func105,ntmps105;go_wp2;refine bodyPost_ret (aE8 rfl _ _ (n0+2) zeroCells207 rfl HY2.o aD4.sz) rfl ⟨_,rfl,⟨_,⟨0,0,0,zPs⟩,rfl,aD4,HTR.o⟩,HB1.o.trans HEX.o.1⟩
 ·have hid1:0<BT.id b:=by
   have k1:=(q6.pgs _ (id_mem b)).1;apply Classical.byContradiction;intro k3;rw [show BT.id b=0 by omega,hhd] at k1;exact k1 rfl
  have hz:=q9.hs (aJk q9.2.1 q9.2.2.1);have HTR:Hid (SameT st ⟨(BT.id b:Int),(h:Int)+1,((flB h b).length:Int),(pgB h b).foldl adP zPs⟩):=⟨q1.symm,by rw [q2];simp,by rw [q3,q4],hz.1,hz.2⟩;rw [q1] at HX0 HX1 HX2 HB1 c1 ⊢;have xr:¬ ((BT.id b:Nat):Int)=0:=by omega
  generalize hW:(((w.alloc (.cells #[.pointer (some ⟨q,0,none⟩)] 201)).alloc (.cells #[.int .i64 ((BT.id b:Nat):Int)] 3)).alloc (.cells zeroCells207 207))=w1 at *
  have HCR:Hid (Calls prog 149 #[.func (Fn.func 150) #[] #[.pointer (some ⟨n0+1,0,none⟩),.pointer (some ⟨n0+2,0,none⟩),.pointer (some ⟨n0,0,none⟩)]] w1 fun e w'=>e=.returned (.int .i64 0)/\∃ cs',w'.heap[n0+2]?=some (.cells cs' 207 (0,0))/\StV cs' (BT.id b:Int) ((h:Int)+1) ((flB h b).length:Int) ((pgB h b).foldl adP zPs)/\Below n0 w w'):=by
   have b3:=aAh w1 (.cells #[.int .i64 0] 45);have xe:(w1.alloc (.cells #[.int .i64 0] 45)).heap[w1.heap.size]?=some (.cells #[.int .i64 0] 45 (0,0)):=heap_alloc_new w1 _;have hs1:=HB1.o.size;have b4:Below n0 w (w1.alloc (.cells #[.int .i64 0] 45)):=HB1.o.trans (b3.mono (by omega));have hn2:=lO HX2.o;have hC:=looked1_ok (w:=w1.alloc (.cells #[.int .i64 0] 45)) (HST.o.later (by rw [hn0];exact b4)) (by have:=b4.size;omega) hlf hdn hsn4 b q6 q7 (by rw [q4];exact q5) (by omega) (by rw [q4];exact hl) (show B<=n0+2 by omega) ((b3.block _ (lO HX1.o)).trans HX1.o) ((b3.block _ (lO HX2.o)).trans HX2.o) ((b3.block _ (lO HX0.o)).trans HX0.o) aD4;refine (aI1 (w:=w1) (P:=fun r' ww=>r'=0/\∃ cs',ww.heap[n0+2]?=some (.cells cs' 207 (0,0))/\StV cs' (BT.id b:Int) ((h:Int)+1) ((flB h b).length:Int) ((pgB h b).foldl adP zPs)/\Ex B [n0+2] (w1.alloc (.cells #[.int .i64 0] 45)) ww/\Below n0 w ww) (fun ww=>by rfl) (hC.mono ?_)).mono ?_
   ·rintro e9 w9 ⟨rfl,cs',h1,h2,h3⟩;have hB9:Below n0 w w9:=b4.trans (h3.below (show n0<=n0+2 by omega) (by have:=b4.size;omega));exact ⟨0,rfl,⟨rfl,cs',h1,h2,h3,hB9⟩,by rw [h3.2 _ (lO xe) (by simp;omega),xe]⟩
   ·rintro e9 w9 ⟨r',w8,rfl,⟨rfl,cs',h1,h2,h3,h4⟩,rfl⟩;refine ⟨rfl,cs',?_,h2,?_⟩
    ·rw [heap_setCell_other _ _ _ _ (by show n0+2≠w1.heap.size;omega),h1]
    ·exact h4.setCell (p:=⟨w1.heap.size,0,none⟩) (by show n0<=w1.heap.size;omega) _
  clear q1 q2 q3 q4 q5 q6 q7 q8 q9;go_enter func105,ntmps105;go_wp2_with fail;refine HCR.o.mono ?_;rintro e w2 ⟨rfl,cs2,k1,k2,k3⟩;have HK1:=zH k1;have HK2:=zH k2;have HK3:=zH k3;have hst:=aDo (o:=0) k1 (by rw [Nat.zero_add];exact nR _) k2.one;rw [aHi rfl] at hst;have hld:=run_loadVar_row (P:=prog) w2 (n0+2) 207 207 cs2 (0,0) _ k1 underlying207 rfl (by rw [k2.sz];exact aC8);have HEX:Hid (Ex n0 [n0+2] w2 (w2.setRow (n0+2) cs2)):=Ex.row (show n0<=n0+2 by omega) cs2;have HY2:=zH (setRow_heap _ _ _ cs2 _ _ HK1.o);have hcz:cs2.size=67:=k2.sz;clear k1 k2 k3 HCR;have HLD:=zH hld;clear hld;go_upto_region 6 with fail;refine wp_region_lit ?_;refine wpList_load_row rfl (.tmp 4) 207 rfl rfl HLD.o ?_;go_wp2;refine bodyPost_ret (aE8 rfl _ _ (n0+2) cs2 rfl HY2.o HK2.o.sz) rfl ⟨_,rfl,⟨_,_,rfl,HK2.o,HTR.o⟩,HK3.o.trans HEX.o.1⟩
end Go.Proofs.YtdpdjpkmndnaaaaGreat
