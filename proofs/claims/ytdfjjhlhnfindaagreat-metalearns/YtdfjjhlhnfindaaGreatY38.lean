import Derived.Test.YtdfjjhlhnfindaaGreatY37
import Derived.Laws.CopyRow
set_option maxRecDepth 100000
set_option maxHeartbeats 16000000
set_option linter.unusedVariables false
namespace Go.Proofs.YtdfjjhlhnfindaaGreat
open Go.RowKit Tryz
variable {B fb g h i o p q:Nat} {L ps:List Nat} {Q:Exit->Act->World->Prop} {cs cur vs:Array Value} {fn:Func} {l:List It} {s:DS} {st:StT} {t:PS} {w w':World}
def spl (cur:Array Value) (o:Nat) (vs:Array Value):Array Value:=(cur.toList.take o++vs.toList++cur.toList.drop (o+vs.size)).toArray
theorem spl_size (h:o+vs.size<=cur.size):(spl cur o vs).size=cur.size:=by
 unfold spl;simp;omega
theorem spl_in (h:o+vs.size<=cur.size) (hi:i<vs.size):(spl cur o vs)[o+i]?=vs[i]?:=by
 unfold spl;rw [List.getElem?_toArray,List.append_assoc,List.getElem?_append_right (by simp;omega),List.getElem?_append_left (by simp;omega)];simp only [List.length_take,Array.length_toList];rw [show o+i-min o cur.size=i by omega,Array.getElem?_toList]
theorem spl_out (h:o+vs.size<=cur.size) (hi:i<o\/o+vs.size<=i):(spl cur o vs)[i]?=cur[i]?:=by
 unfold spl;rw [List.getElem?_toArray];rcases hi with hi | hi
 ·rw [List.append_assoc,List.getElem?_append_left (by simp;omega),List.getElem?_take_of_lt hi,Array.getElem?_toList]
 ·rw [List.getElem?_append_right (by simp;omega),List.getElem?_drop];simp only [lA,List.length_take,Array.length_toList];rw [show o+vs.size+(i-(min o cur.size+vs.size))=i by omega,Array.getElem?_toList]
theorem aB9 (h:vs.size=cur.size):spl cur 0 vs=vs:=by
 unfold spl;rw [Nat.zero_add,h,List.drop_eq_nil_of_le (by simp)];simp
theorem aA6 {t:TypeId} (hg:w.heap[g]?=some (.cells cur t (0,0))) (h:o+vs.size<=cur.size) (h1:∀ v∈vs.toList,v.oneCell'=true) :
  (storeCells ⟨g,o,none⟩ vs.toList).run prog w=.ok () (w.setRow g (spl cur o vs)):=by
 have:=run_storeCells_at (P:=prog) g o t vs.toList 0 cur w hg (by simpa using h) h1;simpa [spl] using this
theorem Ex.below {C:Nat} (h:Ex B [g] w w') (h1:C<=g) (h2:C<=w.heap.size):Below C w w':=⟨h.1.os,h.1.tape,h.1.output,h.1.size,fun k hk=>h.2 k (by omega) (by simp;omega)⟩
theorem Ex.row (hB:B<=g) (c:Array Value):Ex B [g] w (w.setRow g c):=by
 refine ⟨below_setRow (Below.refl B w) hB c,fun k hk hn=>?_⟩;simp only [List.mem_singleton] at hn;simp only [World.setRow,Array.getElem?_modify];rw [if_neg (fun q=>hn q.symm)]
theorem StV.one {root dp k:Int} (h:StV cs root dp k ps):∀ v∈cs.toList,v.oneCell'=true:=by
 intro v hv;obtain ⟨i,hi⟩:=List.getElem?_of_mem hv;rw [Array.getElem?_toList] at hi;have hl:=(lO hi);have hz:=h.sz;by_cases c0:i=0
 ·subst c0;rw [h.c0] at hi;simp only [oI] at hi;subst hi;rfl
 by_cases c1:i=1
 ·subst c1;rw [h.c1] at hi;simp only [oI] at hi;subst hi;rfl
 by_cases c2:i=2
 ·subst c2;rw [h.c2] at hi;simp only [oI] at hi;subst hi;rfl
 obtain ⟨x,hx⟩:∃ x,ps[i-3]?=some x:=⟨_,gE (by have:=h.wd.1;omega)⟩;have:=h.wd.2.2 (i-3) x hx;rw [show 3+(i-3)=i by omega,hi] at this;simp only [oI] at this;subst this;rfl
theorem StV.setRoot {root dp k r:Int} (h:StV cs root dp k ps):StV (cs.setIfInBounds 0 (.int .i64 r)) r dp k ps:=by
 have ne:∀ i,i≠0->(cs.setIfInBounds 0 (.int .i64 r))[i]?=cs[i]?:=fun i hi=>Array.getElem?_setIfInBounds_ne (Ne.symm hi)
 exact ⟨by rw [Array.size_setIfInBounds,h.sz],Array.getElem?_setIfInBounds_self_of_lt (by rw [h.sz];decide),(ne 1 (by decide)).trans h.c1,(ne 2 (by decide)).trans h.c2,h.wd.same fun i hi _=>ne i (by omega)⟩
theorem StV.setDepth {root dp k r:Int} (h:StV cs root dp k ps):StV (cs.setIfInBounds 1 (.int .i64 r)) root r k ps:=by
 have ne:∀ i,i≠1->(cs.setIfInBounds 1 (.int .i64 r))[i]?=cs[i]?:=fun i hi=>Array.getElem?_setIfInBounds_ne (Ne.symm hi)
 exact ⟨by rw [Array.size_setIfInBounds,h.sz],(ne 0 (by decide)).trans h.c0,Array.getElem?_setIfInBounds_self_of_lt (by rw [h.sz];decide),(ne 2 (by decide)).trans h.c2,h.wd.same fun i hi _=>ne i (by omega)⟩
def zPs:List Nat:=List.replicate 64 0
theorem zero_list:zeroCells176.toList=[.int .i64 0,.int .i64 0,.int .i64 0]++List.replicate 64 (.int .u64 0):=by kernel_rfl
theorem aC1:StV zeroCells176 0 0 0 zPs:=by
 have e:zeroCells176=([.int .i64 0,.int .i64 0,.int .i64 0]++List.replicate 64 (.int .u64 0):List Value).toArray:=by rw [<-zero_list]
 rw [e];refine ⟨by rfl,by rfl,by rfl,by rfl,by rfl,fun x hx=>?_,fun i x hi=>?_⟩
 ·rw [zPs,List.mem_replicate] at hx;omega
 ·have hi2:=List.getElem?_eq_some_iff.1 hi;obtain ⟨h1,h2⟩:=hi2;simp only [zPs,List.length_replicate] at h1;simp only [zPs,List.getElem_replicate] at h2;subst h2;rw [List.getElem?_toArray,List.getElem?_append_right (show 3<=3+i by omega),show 3+i-([Value.int .i64 0,Value.int .i64 0,Value.int .i64 0]:List Value).length=i by show 3+i-3=i;omega,List.getElem?_replicate,if_pos h1];rfl
theorem aHl (hd:L.Nodup) (h4:∀ x∈L,x<4096):PgS (L.foldl adP zPs) L:=by
 have e:=fun j=>aHv L zPs j (by rfl) h4
 refine ⟨(e 0).2,hd,h4,fun j=>?_⟩;have hz:hsP zPs j=false:=by
  unfold hsP zPs;have:(List.replicate 64 0).getD (j / 64) 0=0:=by
   rw [List.getD_eq_getElem?_getD]
   cases h:(List.replicate 64 0)[j / 64]? with
   | none=>rfl
   | some x =>
    have:=mG h;rw [List.mem_replicate] at this;exact this.2
  rw [this];simp
 rw [(e j).1,hz,Bool.false_or]
theorem looked1_ok [Gd] {rb sb:Nat} {d0 r0:Int} (hST:ST B p q s t w) (hB:B<=w.heap.size) (hlf:s.life=t.life) (hdn:s.down=false) (hsn:s.n<=4096) (b:BT h) (hon:OnD s t h b) (hsh:ShB h b) (hsr:Srt (flB h b)) (hh:h<100000) (hl:(flB h b).length<100000) (hBf:B<=fb)
  (hrb:w.heap[rb]?=some (.cells #[.int .i64 (BT.id b:Int)] 3 (0,0))) (hfb:w.heap[fb]?=some (.cells cs 176 (0,0))) (hsb:w.heap[sb]?=some (.cells #[.pointer (some ⟨q,0,none⟩)] 170 (0,0))) (hsv:StV cs r0 d0 0 zPs) :
  Calls prog 115 #[.pointer (some ⟨rb,0,none⟩),.pointer (some ⟨fb,0,none⟩),.pointer (some ⟨sb,0,none⟩)] w fun e w'=>e=.returned (.int .i64 0)/\∃ cs',w'.heap[fb]?=some (.cells cs' 176 (0,0))/\StV cs' (BT.id b:Int) ((h:Int)+1) ((flB h b).length:Int) ((pgB h b).foldl adP zPs)/\Ex B [fb] w w':=by
 have r1:w.cell? ⟨rb,0,none⟩=some (.int .i64 (BT.id b:Int)):=aAa hrb;have r2:w.cell? ⟨fb,0,none⟩=some (.int .i64 r0):=(aAa hfb).trans hsv.c0;have f2:w.frozen? ⟨fb,0,none⟩=false:=aAb hfb;have HEX:Hid (Ex B [fb] w (w.setCell ⟨fb,0,none⟩ (.int .i64 (BT.id b:Int)))):=Ex.set hBf;have HRB:=zH (HEX.o.keepX hfb hrb (by decide));have HSB:=zH (HEX.o.keepX hfb hsb (by decide));have HFB:Hid ((w.setCell ⟨fb,0,none⟩ (.int .i64 (BT.id b:Int))).heap[fb]?=some (.cells (cs.setIfInBounds 0 (.int .i64 (BT.id b:Int))) 176 (0,0))):=heap_setCell_same _ _ _ _ _ _ hfb
 have HWK:=zH (walk_ok (B:=B) (p:=p) (q:=q) (fb:=fb) (s:=s) (t:=t) hlf hdn hsn h hh (w.setCell ⟨fb,0,none⟩ (.int .i64 (BT.id b:Int))) b _ (BT.id b:Int) d0 0 zPs [] [] none 0 0 none 0 0 (hST.exS HEX.o hfb) (nT hB HEX.o.1.size) hBf HFB.o hsv.setRoot hon hsh hsr (Or.inl rfl) (Int.le_refl _) (by omega) (BK.nil _ _) (BK.nil _ _) rfl rfl (fun x hx=>⟨by
  have h9:=(hon.ok x hx).k0
  cases hx1:x.1 with
  | nil=>exact absurd hx1 h9
  | cons a l=>simp [cmpB],Or.inl rfl⟩))
 have HBF:=zH hBf;have c1:=aAa (i:=0) HRB.o;have c2:=aAa (i:=0) HSB.o;simp only [List.getElem?_toArray,List.getElem?_cons_zero] at c1 c2;clear hST hon hsh hsr hrb hfb hsb hsv;go_enter func115,ntmps115;go_wp2_with fail;refine HWK.o.mono ?_;rintro e w1 ⟨rfl,cs1,k1,k2,k3⟩;have HK1:=zH k1;have HK2:=zH k2;have HK3:=zH (HEX.o.trans k3);have d1:w1.cell? ⟨fb,1,none⟩=some (.int .i64 d0):=(aAa k1).trans k2.c1;have f1:w1.frozen? ⟨fb,1,none⟩=false:=aAb k1;clear k1 k2 k3;go_wp2;go_ret;refine ⟨rfl,_,heap_setCell_same _ _ _ _ _ _ HK1.o,?_,HK3.o.trans (Ex.set HBF.o)⟩;have:=HK2.o.setDepth (r:=(h:Int)+1);rw [Int.zero_add] at this;exact this
theorem aB5:(prog.info? 176).map (·.size)=some 67:=by kernel_rfl
theorem aDo {p u:Tmp} (h:fn.results=#[.cell p 176,.tmp u]) (tmps:Array Value) (w:World) (g:Nat) (cs:Array Value)
  (hp:tmps.getD p undef=.pointer (some ⟨g,0,none⟩)) (hg:w.heap[g]?=some (.cells cs 176 (0,0))) (hz:cs.size=67) :
  (results fn tmps).run prog w=.ok (.tuple #[.agg cs,tmps.getD u undef]) w:=by
 have hi:(prog.info? 176).map (·.size)=some cs.size:=by rw [hz];exact aB5
 rw [results_cell_tmp h,hp];simp only [asAddr,Sem.run_pure,Result.andThen_ok,run_loadVar_row w g 176 176 cs (0,0) _ hg underlying176 rfl hi]
theorem wp_load_row {o:Oper} {a:Act} {K:Act->World->Prop} (p:Operand) (t:TypeId) (ho:o.op=.load t p) {ad:Addr} {cs:Array Value} (hp:a.eval p=.pointer (some ad)) (hrun:(loadVar t ad).run prog w=.ok (.agg cs) w) (h:K (a.put o.dst (.agg cs)) w):Oper.wp prog o a w K Q:=by
 unfold Oper.wp;simp [execOp,ho,Instr.loadAt,Instr.sureAddr,hp,hrun,Result.andThen];exact h
theorem wpList_load_row {ops:Array Oper} {rest:List Oper} {o:Oper} {a:Act} (hgd:o.guard=none) (p:Operand) (t:TypeId) (ho:o.op=.load t p) {ad:Addr} {cs:Array Value} (hp:a.eval p=.pointer (some ad)) (hrun:(loadVar t ad).run prog w=.ok (.agg cs) w) (h:wpList prog ops Q rest (a.put o.dst (.agg cs)) w):wpList prog ops Q (o::rest) a w :=
 wpList_plain hgd fun K hK=>wp_load_row p t ho hp hrun (hK _ _ h)
def LtR (s:DS) (t:PS) (st:StT) (l:List It) (v:Value):Prop:=∃ cs' st',v=.agg cs'/\StV cs' st'.root st'.depth st'.keys st'.pgs/\Tr s t st' l/\st'.root=st.root/\st'.depth=st.depth
theorem looked_any [Gd] (hST:ST B p q s t w) (hB:B<=w.heap.size) (hlf:s.life=t.life) (hdn:s.down=false) (hsn:t.st.length=s.n) (hhd:t.st.getD 0 0=0) (hTr:Tr s t st l) (hdp:st.depth<100000) (hl:l.length<100000) :
  Calls prog 80 #[.pointer (some ⟨q,0,none⟩),.int .i64 st.root] w fun e w'=>∃ v,e=.returned (.tuple #[v,.int .i64 0])/\LtR s t st l v/\Below w.heap.size w w':=by
 have hmf:∀ (fn:Fn) (first cap:Array Value) (w:World),(Instr.makeFunc fn first cap).run prog w=.ok (.func fn first cap) w:=fun _ _ _ _=>rfl
 have hsn4:s.n<=4096:=by obtain ⟨_,gs,h2⟩:=hST;rw [<-hsn];exact h2.ok.sl
 have HBB:=zH (aAo [Obj.cells #[.pointer (some ⟨q,0,none⟩)] 170,Obj.cells #[.int .i64 st.root] 3,Obj.cells zeroCells176 176] w);have HX0:Hid ((((w.alloc (.cells #[.pointer (some ⟨q,0,none⟩)] 170)).alloc (.cells #[.int .i64 st.root] 3)).alloc (.cells zeroCells176 176)).heap[w.heap.size]?=some (.cells #[.pointer (some ⟨q,0,none⟩)] 170 (0,0))):=aAf [Obj.cells #[.pointer (some ⟨q,0,none⟩)] 170,Obj.cells #[.int .i64 st.root] 3,Obj.cells zeroCells176 176] w 0 _ rfl;have HX1:Hid ((((w.alloc (.cells #[.pointer (some ⟨q,0,none⟩)] 170)).alloc (.cells #[.int .i64 st.root] 3)).alloc (.cells zeroCells176 176)).heap[w.heap.size+1]?=some (.cells #[.int .i64 st.root] 3 (0,0))):=aAf [Obj.cells #[.pointer (some ⟨q,0,none⟩)] 170,Obj.cells #[.int .i64 st.root] 3,Obj.cells zeroCells176 176] w 1 _ rfl;have HX2:Hid ((((w.alloc (.cells #[.pointer (some ⟨q,0,none⟩)] 170)).alloc (.cells #[.int .i64 st.root] 3)).alloc (.cells zeroCells176 176)).heap[w.heap.size+2]?=some (.cells zeroCells176 176 (0,0))):=aAf [Obj.cells #[.pointer (some ⟨q,0,none⟩)] 170,Obj.cells #[.int .i64 st.root] 3,Obj.cells zeroCells176 176] w 2 _ rfl;have HB1:Hid (Below w.heap.size w (((w.alloc (.cells #[.pointer (some ⟨q,0,none⟩)] 170)).alloc (.cells #[.int .i64 st.root] 3)).alloc (.cells zeroCells176 176))):=HBB.o.1;have c1:(((w.alloc (.cells #[.pointer (some ⟨q,0,none⟩)] 170)).alloc (.cells #[.int .i64 st.root] 3)).alloc (.cells zeroCells176 176)).cell? ⟨w.heap.size+1,0,none⟩=some (.int .i64 st.root):=aAa HX1.o;clear HBB;generalize hn0:w.heap.size=n0 at *
 have HST:=zH hST;clear hST;rcases hTr with ⟨r1,r2,r3,r4,r5⟩ | ⟨h,b,q1,q2,q3,q4,q5,q6,q7,q8,q9⟩
 ·have HTR:Hid (Tr s t ⟨0,0,0,zPs⟩ l):=Or.inl ⟨rfl,rfl,rfl,r4,aHl List.nodup_nil (fun x hx=>by simp at hx)⟩;have HR1:=zH r1;have HR2:=zH r2;rw [r1] at HX0 HX1 HX2 HB1 c1 ⊢;have hst:=aA6 (o:=0) HX2.o (by rw [Nat.zero_add];exact nR _) aC1.one;rw [aB9 rfl] at hst;have HEX:Hid (Ex n0 [n0+2] (((w.alloc (.cells #[.pointer (some ⟨q,0,none⟩)] 170)).alloc (.cells #[.int .i64 0] 3)).alloc (.cells zeroCells176 176)) _):=Ex.row (show n0<=n0+2 by omega) zeroCells176;have HY2:=zH (setRow_heap _ _ _ zeroCells176 _ _ HX2.o);clear r1 r2 r3 r4 r5;go_enter func80,ntmps80;go_wp2;refine bodyPost_ret (aDo rfl _ _ (n0+2) zeroCells176 rfl HY2.o aC1.sz) rfl ⟨_,rfl,⟨_,⟨0,0,0,zPs⟩,rfl,aC1,HTR.o,HR1.o.symm,HR2.o.symm⟩,HB1.o.trans HEX.o.1⟩
 ·have hid1:0<BT.id b:=by
   have k1:=(q6.held _ (id_mem b)).1;apply Classical.byContradiction;intro k3;rw [show BT.id b=0 by omega,hhd] at k1;exact absurd k1 (by decide)
  have HTR:Hid (Tr s t ⟨(BT.id b:Int),(h:Int)+1,((flB h b).length:Int),(pgB h b).foldl adP zPs⟩ l):=Or.inr ⟨h,b,rfl,by simp,by rw [q4],q4,q5,q6,q7,q8,aHl q9.2.1 q9.2.2.1⟩;have HQ1:=zH q1;have HQ2:Hid (st.depth=(h:Int)+1):=by show _=_;rw [q2];simp
  rw [q1] at HX0 HX1 HX2 HB1 c1 ⊢;have xr:¬ ((BT.id b:Nat):Int)=0:=by omega
  generalize hW:(((w.alloc (.cells #[.pointer (some ⟨q,0,none⟩)] 170)).alloc (.cells #[.int .i64 ((BT.id b:Nat):Int)] 3)).alloc (.cells zeroCells176 176))=w1 at *
  have HCR:Hid (Calls prog 114 #[.func (Fn.func 115) #[] #[.pointer (some ⟨n0+1,0,none⟩),.pointer (some ⟨n0+2,0,none⟩),.pointer (some ⟨n0,0,none⟩)]] w1 fun e w'=>e=.returned (.int .i64 0)/\∃ cs',w'.heap[n0+2]?=some (.cells cs' 176 (0,0))/\StV cs' (BT.id b:Int) ((h:Int)+1) ((flB h b).length:Int) ((pgB h b).foldl adP zPs)/\Below n0 w w'):=by
   have b3:=aAc w1 (.cells #[.int .i64 0] 23);have xe:(w1.alloc (.cells #[.int .i64 0] 23)).heap[w1.heap.size]?=some (.cells #[.int .i64 0] 23 (0,0)):=heap_alloc_new w1 _;have hs1:=HB1.o.size;have b4:Below n0 w (w1.alloc (.cells #[.int .i64 0] 23)):=HB1.o.trans (b3.mono (by omega));have hn2:=lO HX2.o;have hC:=looked1_ok (w:=w1.alloc (.cells #[.int .i64 0] 23)) (HST.o.later (by rw [hn0];exact b4)) (by have:=b4.size;omega) hlf hdn hsn4 b q6 q7 (by rw [q4];exact q5) (by omega) (by rw [q4];exact hl) (show B<=n0+2 by omega) ((b3.block _ (lO HX1.o)).trans HX1.o) ((b3.block _ (lO HX2.o)).trans HX2.o) ((b3.block _ (lO HX0.o)).trans HX0.o) aC1;refine (aEl (w:=w1) (P:=fun r' ww=>r'=0/\∃ cs',ww.heap[n0+2]?=some (.cells cs' 176 (0,0))/\StV cs' (BT.id b:Int) ((h:Int)+1) ((flB h b).length:Int) ((pgB h b).foldl adP zPs)/\Ex B [n0+2] (w1.alloc (.cells #[.int .i64 0] 23)) ww/\Below n0 w ww) (fun ww=>by rfl) (hC.mono ?_)).mono ?_
   ·rintro e9 w9 ⟨rfl,cs',h1,h2,h3⟩;have hB9:Below n0 w w9:=b4.trans (h3.below (show n0<=n0+2 by omega) (by have:=b4.size;omega));exact ⟨0,rfl,⟨rfl,cs',h1,h2,h3,hB9⟩,by rw [h3.2 _ (lO xe) (by simp;omega),xe]⟩
   ·rintro e9 w9 ⟨r',w8,rfl,⟨rfl,cs',h1,h2,h3,h4⟩,rfl⟩;refine ⟨rfl,cs',?_,h2,?_⟩
    ·rw [heap_setCell_other _ _ _ _ (by show n0+2≠w1.heap.size;omega),h1]
    ·exact h4.setCell (p:=⟨w1.heap.size,0,none⟩) (by show n0<=w1.heap.size;omega) _
  clear q1 q2 q3 q4 q5 q6 q7 q8 q9;go_enter func80,ntmps80;go_wp2_with fail;refine HCR.o.mono ?_;rintro e w2 ⟨rfl,cs2,k1,k2,k3⟩;have HK1:=zH k1;have HK2:=zH k2;have HK3:=zH k3;have hst:=aA6 (o:=0) k1 (by rw [Nat.zero_add];exact nR _) k2.one;rw [aB9 rfl] at hst;have hld:=run_loadVar_row (P:=prog) w2 (n0+2) 176 176 cs2 (0,0) _ k1 underlying176 rfl (by rw [k2.sz];exact aB5);have HEX:Hid (Ex n0 [n0+2] w2 (w2.setRow (n0+2) cs2)):=Ex.row (show n0<=n0+2 by omega) cs2;have HY2:=zH (setRow_heap _ _ _ cs2 _ _ HK1.o);have hcz:cs2.size=67:=k2.sz;clear k1 k2 k3 HCR;have HLD:=zH hld;clear hld;go_upto_region 6 with fail;refine wp_region_lit ?_;refine wpList_load_row rfl (.tmp 4) 176 rfl rfl HLD.o ?_;go_wp2;refine bodyPost_ret (aDo rfl _ _ (n0+2) cs2 rfl HY2.o HK2.o.sz) rfl ⟨_,rfl,⟨_,_,rfl,HK2.o,HTR.o,HQ1.o.symm,HQ2.o.symm⟩,HK3.o.trans HEX.o.1⟩
end Go.Proofs.YtdfjjhlhnfindaaGreat
