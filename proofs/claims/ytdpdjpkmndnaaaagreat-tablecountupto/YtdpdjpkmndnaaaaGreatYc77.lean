/- The walk of the law. -/
import Derived.Test.YtdpdjpkmndnaaaaGreatYc72
import Derived.Test.YtdpdjpkmndnaaaaGreatYc68
import Derived.Test.YtdpdjpkmndnaaaaGreatYc76
import Derived.Deep.CutBlock
set_option maxRecDepth 100000
set_option maxHeartbeats 16000000
set_option linter.unusedVariables false
namespace Go.Proofs.YtdpdjpkmndnaaaaGreat
open Go.RowKit
variable {B B1 N db g i k kc ls n p q te:Nat} {T:List Tbl} {W w w' w0:World} {v:Value}
def fNum (z:Int):List Value:=[.int .i64 z]
theorem aCk (z:Int):(fNum z).length=1:=rfl
theorem fNum_one (z:Int):∀ u∈fNum z,u.oneCell'=true:=by
  intro u hu;obtain rfl:u=.int .i64 z:=by simpa [fNum] using hu
  rfl
theorem fN_one (s:ByteArray):∀ u∈fN s,u.oneCell'=true:=by
  intro u hu;obtain rfl:u=.string s:=by simpa [fN] using hu
  rfl
theorem info_intI:(Tryz.prog.info? 3).map (fun i=>(i.zero,i.size,i.bytes))=some (some (.int .i64 0),1,8):=by kernel_rfl
theorem aDs {xs:List Value} (h:w.ownsRow B te k v n xs) (hk:KTb w w') (h1:te≠124) (h2:te≠164):w'.ownsRow B te k v n xs:=by
  refine ⟨h.1,?_⟩;rcases h.2 with q | ⟨g,cap,cur,e,h5,h6,h7⟩
  · exact Or.inl q
  · exact Or.inr ⟨g,cap,cur,e,h5,hk _ _ _ _ h6 h1 h2,h7⟩
theorem own_typ {xs:List Value} (h:w.ownsRow B te k v n xs) (hv:v.ownBlock=some i):B<=i/\∃ cur,w.heap[i]?=some (.cells cur te (0,0)):=by
  rcases h.2 with ⟨q,_⟩ | ⟨g,cap,cur,e,h5,h6,_⟩
  · rw [q] at hv;cases hv
  · rw [e] at hv
    obtain rfl:g=i:=Option.some.inj hv;exact ⟨h5,cur,h6⟩
theorem own_oth {B' te' k' n':Nat} {v':Value} {xs xs':List Value} (h:w.ownsRow B te k v n xs) (h':w.ownsRow B' te' k' v' n' xs') (hne:te≠te') (ho:∀ i,i<w.heap.size->v'.ownBlock≠some i->w'.heap[i]?=w.heap[i]?):w'.ownsRow B te k v n xs:=by
  refine ⟨h.1,?_⟩;rcases h.2 with q | ⟨g,cap,cur,e,h5,h6,h7⟩
  · exact Or.inl q
  · refine Or.inr ⟨g,cap,cur,e,h5,(ho g (aAd h6) fun q=>?_).trans h6,h7⟩
    obtain ⟨_,cur',h8⟩:=own_typ h' q;rw [h6] at h8;simp only [oI,cI] at h8;exact hne h8.2.1
theorem TbD.oth [Gd] {u:Value} {xs:List Value} (h:TbD B p q g ls db W w0 N T w) (hr:w.ownsRow B1 te k u n xs) (hw:w0.heap.size<=B1) (hb:Below B1 w w') (ho:∀ i,i<w.heap.size->u.ownBlock≠some i->w'.heap[i]?=w.heap[i]?) (h1:te≠124) (h2:te≠164) (h3:te≠5):TbD B p q g ls db W w0 N T w':=by
  obtain ⟨v,cs,hd,I,hl⟩:=h;have hB0:B<=w0.heap.size:=hd.st.bw;have typ:∀ (i:Nat) (cs:Array Value) (t:TypeId) (fz:Nat×Nat),w.heap[i]?=some (.cells cs t fz)->t≠te->w'.heap[i]?=some (.cells cs t fz):=by
    intro i cs t fz hi ht;rw [ho i (lO hi) fun q=>?_,hi];obtain ⟨_,cur,h8⟩:=own_typ hr q;rw [hi] at h8;simp only [oI,cI] at h8;exact ht h8.2.1
  refine ⟨v,cs,⟨hd.st,hd.be.trans (hb.mono hw),⟨typ _ _ _ _ hd.dd.blk (Ne.symm h1),hd.dd.row.keep ⟨hb.mono (nT hB0 hw),fun i c fz hi=>typ i c _ fz hi (Ne.symm h3)⟩ fun i hi=>?_,hd.dd.hB⟩,hd.hd⟩,I,hl⟩;obtain ⟨_,_,cur,h8⟩:=hd.dd.row.blk hi;rw [typ i _ _ _ h8 (Ne.symm h2),h8]
theorem aCm (T:List Tbl):(nmsT T).length=T.length:=by unfold nmsT;rw [List.length_map]
theorem cnt_len (T:List Tbl):(cntT T).length=T.length:=by unfold cntT;rw [List.length_map]
structure CtS [Gd] (B1 B p q g ls db:Nat) (W w0:World) (N:Nat) (T:List Tbl) (v5 v6:Value) (w:World):Prop where
  d:TbD B p q g ls db W w0 N T w
  n:w.ownsRow B1 9 1 v5 T.length ((nmsT T).flatMap fN)
  c:w.ownsRow B1 3 1 v6 T.length ((cntT T).flatMap fNum)
  z:w0.heap.size<=B1
  s:B1<=w.heap.size
section
variable [Gd] {B1 B p q g ls db N M:Nat} {W w0 w w':World} {T T':List Tbl} {v5 v6:Value}
theorem CtS.later (h:CtS B1 B p q g ls db W w0 N T v5 v6 w) (hb:Below w.heap.size w w'):CtS B1 B p q g ls db W w0 N T v5 v6 w':=⟨h.d.later hb,aAk h.n hb,aAk h.c hb,h.z,nT h.s hb.size⟩
theorem TbD.inv (h:TbD B p q g ls db W w0 N T w):∃ cs,Inv cs T:=by
  obtain ⟨v,cs,_,h2,_⟩:=h;exact ⟨cs,h2⟩
theorem CtS.sl (h:CtS B1 B p q g ls db W w0 N T v5 v6 w):∃ na nc ka kc,v5=.slice na T.length nc/\v6=.slice ka T.length kc:=by
  obtain ⟨na,nc,e1,_⟩:=aA4 aGl h.n (by unfold nmsT;rw [List.length_map]);obtain ⟨ka,kc,e2,_⟩:=aA4 aCk h.c (by unfold cntT;rw [List.length_map]);exact ⟨na,nc,ka,kc,e1,e2⟩
theorem CtS.call (h:CtS B1 B p q g ls db W w0 N T v5 v6 w) (hd:TbD B p q g ls db W w0 M T' w') (hk:KTb w w') (hs:B1<=w'.heap.size) (hn:nmsT T'=nmsT T) (hc:cntT T'=cntT T):CtS B1 B p q g ls db W w0 M T' v5 v6 w':=by
  have hl:T'.length=T.length:=by have:=congrArg List.length hn;unfold nmsT at this;rw [List.length_map,List.length_map] at this;exact this
  refine ⟨hd,?_,?_,h.z,hs⟩
  · rw [hl,hn];exact aDs h.n hk (by decide) (by decide)
  · rw [hl,hc];exact aDs h.c hk (by decide) (by decide)
theorem CtS.name (hd:TbD B p q g ls db W w0 N T' w) (hz:w0.heap.size<=B1) (hn:w.ownsRow B1 9 1 v5 T.length ((nmsT T).flatMap fN)) (hc:w.ownsRow B1 3 1 v6 T.length ((cntT T).flatMap fNum)) {v5':Value} {nm:ByteArray} (ho:w'.ownsRow B1 9 1 v5' (nmsT T++[nm]).length ((nmsT T++[nm]).flatMap fN)) (hb:Below B1 w w') (hk:∀ i,i<w.heap.size->v5.ownBlock≠some i->w'.heap[i]?=w.heap[i]?):TbD B p q g ls db W w0 N T' w'/\w'.ownsRow B1 3 1 v6 T.length ((cntT T).flatMap fNum) :=
  ⟨hd.oth hn hz hb hk (by decide) (by decide) (by decide),own_oth hc hn (by decide) hk⟩
theorem CtS.more {t:Tbl} (hd:TbD B p q g ls db W w0 N (T++[t]) w) (hz:w0.heap.size<=B1) (hs:B1<=w.heap.size) (hn:w.ownsRow B1 9 1 v5 (nmsT T++[t.s.nm]).length ((nmsT T++[t.s.nm]).flatMap fN)) (hc:w.ownsRow B1 3 1 v6 T.length ((cntT T).flatMap fNum)) {v6':Value} (h0:t.rows=[]) (ho:w'.ownsRow B1 3 1 v6' (cntT T++[0]).length ((cntT T++[0]).flatMap fNum)) (hb:Below B1 w w') (hk:∀ i,i<w.heap.size->v6.ownBlock≠some i->w'.heap[i]?=w.heap[i]?):CtS B1 B p q g ls db W w0 N (T++[t]) v5 v6' w':=by
  refine ⟨hd.oth hc hz hb hk (by decide) (by decide) (by decide),?_,?_,hz,nT hs hb.size⟩
  · have h1:=own_oth hn hc (by decide) hk
    have e1:nmsT (T++[t])=nmsT T++[t.s.nm]:=by simp [nmsT]
    rw [e1,show (T++[t]).length=(nmsT T++[t.s.nm]).length by simp [nmsT]];exact h1
  · have e1:cntT (T++[t])=cntT T++[0]:=by simp [cntT,h0]
    rw [e1,show (T++[t]).length=(cntT T++[0]).length by simp [cntT]];exact ho
theorem CtS.put {gb:Nat} {z:Int} (hd:TbD B p q g ls db W w0 M T' w) (hz:w0.heap.size<=B1) (hs:B1<=w.heap.size) (hn:w.ownsRow B1 9 1 v5 T.length ((nmsT T).flatMap fN)) (hc:w.ownsRow B1 3 1 (.slice (some ⟨gb,0,none⟩) T.length kc) T.length ((cntT T).flatMap fNum)) (hi:i<T.length) (en:nmsT T'=nmsT T) (ec:cntT T'=(cntT T).set i z):CtS B1 B p q g ls db W w0 M T' v5 (.slice (some ⟨gb,0,none⟩) T.length kc) (w.setCell ⟨gb,i,none⟩ (.int .i64 z)):=by
  have hl:T'.length=T.length:=by rw [<-aCm,en,aCm]
  have hg:=(own_typ hc rfl).1;have hk:∀ k,k<w.heap.size->(Value.slice (some ⟨gb,0,none⟩) T.length kc).ownBlock≠some k->(w.setCell ⟨gb,i,none⟩ (.int .i64 z)).heap[k]?=w.heap[k]?:=fun k _ hne=>heap_setCell_other _ _ _ _ (fun e=>hne (by rw [e];rfl))
  have hb:Below B1 w (w.setCell ⟨gb,i,none⟩ (.int .i64 z)):=(Below.refl B1 w).setCell (p:=⟨gb,i,none⟩) hg _;refine ⟨hd.oth hc hz hb hk (by decide) (by decide) (by decide),?_,?_,hz,nT hs hb.size⟩
  · rw [hl,en];exact own_oth hn hc (by decide) hk
  · rw [hl,ec]
    have h1:=aB4 (u:=.int .i64 z) (i:=i) hc (by omega);have h2:=aCe (f:=fNum) (k:=1) (j:=0) (i:=i) (u:=.int .i64 z) (x:=(cntT T).getD i 0) (x':=z) aCk (by omega) (by rw [List.getD_eq_getElem?_getD,gE (by rw [cnt_len];exact hi)];rfl) rfl;rw [Nat.mul_one,Nat.add_zero] at h2;rw [<-h2];exact h1
end
theorem aHh (a:Option Addr) (n c:Nat) (xs:List OpV) (w:World) (hx:SVK fO 17 w a n c xs) (px:∀ y∈xs,OpP w y):Calls Tryz.prog 8 #[.slice a n c] w fun e w'=>e=.returned (.bool true)/\Below w.heap.size w w':=by
  letI:Gd:=⟨fun _=>False⟩;have HNW:=zH (lnew_ok w (fun _ h=>False.elim h));obtain ⟨B,hB⟩:∃ B,w.heap.size=B:=⟨_,rfl⟩;have HBB:=aAb hB;rw [hB] at HNW ⊢;have HX:=aAb hx;have HPX:=aAb px;have x9:(n:Int)<=9223372036854775807:=by have:=hx.hc;have:=hx.hm;omega
  obtain ⟨M,hM⟩:∃ M,M=min n 40:=⟨_,rfl⟩;have HM:=aAb hM;clear hB hx px hM;go_enter Tryz.func8,Tryz.ntmps8;go_wp2_with fail;refine HNW.o.mono ?_;rintro e w1 ⟨p,q,g,ls,db,w0,rfl,hd1,hb1⟩;have HZ0:Hid (w0.heap.size<=w1.heap.size):=hd1.be.size;have HD1:Hid (TbD w.heap.size p q g ls db w w0 0 [] w1):=by rw [HBB.o];exact ⟨_,_,hd1,Inv.nil,nR _⟩
  clear hd1 hb1 HNW;go_upto_region 6 with fail;obtain ⟨B1,hB1⟩:∃ B1,w1.heap.size=B1:=⟨_,rfl⟩;obtain ⟨w2,hw2⟩:∃ w2,w2=(w1.alloc (.cells #[] 9)).alloc (.cells #[] 3):=⟨_,rfl⟩;have HC0:Hid (CtS B1 w.heap.size p q g ls db w w0 (0) [] (.slice (some ⟨B1,0,none⟩) 0 0) (.slice (some ⟨B1+1,0,none⟩) 0 0) w2):=by
    refine ⟨by rw [hw2];exact HD1.o.later (aCa w1 _ _),⟨rfl,Or.inr ⟨B1,0,#[],rfl,nR _,by rw [hw2,<-hB1];exact heap_alloc2_old w1 _ _,nR _,by unfold maxLen;omega,rfl,rfl⟩⟩,⟨rfl,Or.inr ⟨B1+1,0,#[],rfl,Nat.le_succ _,by rw [hw2,<-hB1];exact heap_alloc2_new w1 _ _,nR _,by unfold maxLen;omega,rfl,rfl⟩⟩,by rw [<-hB1];exact HZ0.o,?_⟩;rw [hw2,<-hB1];exact (aCa w1 _ _).size
  try rw [<-hw2]
  try simp only [hB1]
  clear hw2 hB1 HD1 HZ0;go_wp2_with fail;go_loopg [5,6,7] M (fun gh s5 s6 s7 wx=>∃ (j:Nat) (T:List Tbl),j+gh=M/\s7=.int .i64 (j:Int)/\CtS B1 w.heap.size p q g ls db w w0 (8*j) T s5 s6 wx)
  case atStart=>exact ⟨0,[],by omega,rfl,HC0.o⟩
  case round =>
    obtain ⟨j,T,hj,rfl,hc1⟩:=hrel;have HC1:=aAb hc1;have HJ9:=aAb hj;clear hc1 HC0 hj;by_cases hjm:j<M
    · have x1:(j:Int)<(n:Int):=by have:=HM.o;omega
      have x2:(j:Int)<40:=by have:=HM.o;omega
      have x0:(0:Int)<=(j:Int):=by omega
      have HJM:Hid (j<M/\j<n/\j<40):=⟨hjm,by have:=HM.o;omega,by have:=HM.o;omega⟩;obtain ⟨y,hy⟩:∃ y,xs[j]?=some y:=⟨_,gE (by rw [HX.o.hl];exact HJM.o.2.1)⟩;obtain ⟨b,o,ea,_,hcell⟩:=(HX.o.later HC1.o.d.bel).pl (by omega);subst ea;have HY:Hid (OpP wr y):=(HPX.o y (mG hy)).later HC1.o.d.bel;have c0:wr.cell? ⟨b,o+j*17,none⟩=some (.int .i64 y.kind):=hcell j y hy 0 (by omega);have c1:wr.cell? ⟨b,o+j*17+1,none⟩=some (.string y.nm):=hcell j y hy 1 (by omega);have c2:wr.cell? ⟨b,o+j*17+2,none⟩=some (.string y.s.nm):=hcell j y hy 2 (by omega);have c3:wr.cell? ⟨b,o+j*17+3,none⟩=some (.slice y.ca y.cl y.cc):=hcell j y hy 3 (by omega);have c4:wr.cell? ⟨b,o+j*17+4,none⟩=some (.slice y.xa y.xl y.xc):=hcell j y hy 4 (by omega);have c5:wr.cell? ⟨b,o+j*17+5,none⟩=some (.slice y.ra y.rl y.rc):=hcell j y hy 5 (by omega);have c6:wr.cell? ⟨b,o+j*17+6,none⟩=some (.int .i64 y.key.1):=hcell j y hy 6 (by omega);have c7:wr.cell? ⟨b,o+j*17+7,none⟩=some (.int .i64 y.key.2.1):=hcell j y hy 7 (by omega);have c8:wr.cell? ⟨b,o+j*17+8,none⟩=some (.string y.key.2.2):=hcell j y hy 8 (by omega);have c9:wr.cell? ⟨b,o+j*17+9,none⟩=some (.int .i64 y.col):=hcell j y hy 9 (by omega);have c10:wr.cell? ⟨b,o+j*17+10,none⟩=some (.int .i64 y.lo.1):=hcell j y hy 10 (by omega);have c11:wr.cell? ⟨b,o+j*17+11,none⟩=some (.int .i64 y.lo.2.1):=hcell j y hy 11 (by omega);have c12:wr.cell? ⟨b,o+j*17+12,none⟩=some (.string y.lo.2.2):=hcell j y hy 12 (by omega);have c13:wr.cell? ⟨b,o+j*17+13,none⟩=some (.int .i64 y.hi.1):=hcell j y hy 13 (by omega);have c14:wr.cell? ⟨b,o+j*17+14,none⟩=some (.int .i64 y.hi.2.1):=hcell j y hy 14 (by omega);have c15:wr.cell? ⟨b,o+j*17+15,none⟩=some (.string y.hi.2.2):=hcell j y hy 15 (by omega);have c16:wr.cell? ⟨b,o+j*17+16,none⟩=some (.int .i64 y.lim):=hcell j y hy 16 (by omega);have HOP:Hid (Calls Tryz.prog 10 #[.agg #[.int .i64 y.kind,.string y.nm,.string y.s.nm,.slice y.ca y.cl y.cc,.slice y.xa y.xl y.xc,.slice y.ra y.rl y.rc,.int .i64 y.key.1,.int .i64 y.key.2.1,.string y.key.2.2,.int .i64 y.col,.int .i64 y.lo.1,.int .i64 y.lo.2.1,.string y.lo.2.2,.int .i64 y.hi.1,.int .i64 y.hi.2.1,.string y.hi.2.2,.int .i64 y.lim]] wr fun e w'=>∃ z:OpV,e=.returned (.agg #[.int .i64 z.kind,.string z.nm,.string z.s.nm,.slice z.ca z.cl z.cc,.slice z.xa z.xl z.xc,.slice z.ra z.rl z.rc,.int .i64 z.key.1,.int .i64 z.key.2.1,.string z.key.2.2,.int .i64 z.col,.int .i64 z.lo.1,.int .i64 z.lo.2.1,.string z.lo.2.2,.int .i64 z.hi.1,.int .i64 z.hi.2.1,.string z.hi.2.2,.int .i64 z.lim])/\OpP w' z/\Below wr.heap.size wr w'):=(op_ok y HY.o).mono fun e w' hh=>by obtain ⟨z,h1,_,h3,h4,_⟩:=hh;exact ⟨z,h1,h3,h4⟩
      clear hcell hy hjm;go_wp2_with fail;refine HOP.o.mono ?_;rintro e w2 ⟨z,rfl,hz,hb2⟩;have hbx:=aAe w2 (.cells #[.int .i64 z.kind,.string z.nm,.string z.s.nm,.slice z.ca z.cl z.cc,.slice z.xa z.xl z.xc,.slice z.ra z.rl z.rc,.int .i64 z.key.1,.int .i64 z.key.2.1,.string z.key.2.2,.int .i64 z.col,.int .i64 z.lo.1,.int .i64 z.lo.2.1,.string z.lo.2.2,.int .i64 z.hi.1,.int .i64 z.hi.2.1,.string z.hi.2.2,.int .i64 z.lim] 38);have HB3:Hid ((w2.alloc (.cells #[.int .i64 z.kind,.string z.nm,.string z.s.nm,.slice z.ca z.cl z.cc,.slice z.xa z.xl z.xc,.slice z.ra z.rl z.rc,.int .i64 z.key.1,.int .i64 z.key.2.1,.string z.key.2.2,.int .i64 z.col,.int .i64 z.lo.1,.int .i64 z.lo.2.1,.string z.lo.2.2,.int .i64 z.hi.1,.int .i64 z.hi.2.1,.string z.hi.2.2,.int .i64 z.lim] 38)).heap[w2.heap.size]?=some (.cells #[.int .i64 z.kind,.string z.nm,.string z.s.nm,.slice z.ca z.cl z.cc,.slice z.xa z.xl z.xc,.slice z.ra z.rl z.rc,.int .i64 z.key.1,.int .i64 z.key.2.1,.string z.key.2.2,.int .i64 z.col,.int .i64 z.lo.1,.int .i64 z.lo.2.1,.string z.lo.2.2,.int .i64 z.hi.1,.int .i64 z.hi.2.1,.string z.hi.2.2,.int .i64 z.lim] 38 (0,0))):=boxed w2 _;have HC3:=aAb ((HC1.o.later hb2).later hbx);have HB1K:Hid (B1<=w2.heap.size):=nT HC1.o.s hb2.size;have HZ3:=aAb (hz.later hbx);clear hz hb2 hbx HOP c0 c1 c2 c3 c4 c5 c6 c7 c8 c9 c10 c11 c12 c13 c14 c15 c16 HC1 HY;go_upto_region 10 with fail;generalize w2.alloc (.cells #[.int .i64 z.kind,.string z.nm,.string z.s.nm,.slice z.ca z.cl z.cc,.slice z.xa z.xl z.xc,.slice z.ra z.rl z.rc,.int .i64 z.key.1,.int .i64 z.key.2.1,.string z.key.2.2,.int .i64 z.col,.int .i64 z.lo.1,.int .i64 z.lo.2.1,.string z.lo.2.2,.int .i64 z.hi.1,.int .i64 z.hi.2.1,.string z.hi.2.2,.int .i64 z.lim] 38)=w4 at *
      generalize w2.heap.size=K1 at *
      obtain ⟨k0,hk0⟩:∃ k,(tAt T z.nm).getD T.length=k:=⟨_,rfl⟩;have HKA:=aAb (tAt_k (T:=T) (nm:=z.nm));rw [hk0] at HKA;have HK0:=aAb hk0;obtain ⟨len,hlen⟩:∃ n,T.length=n:=⟨_,rfl⟩;have HLEN:=aAb hlen;have hnr:=HC3.o.n;have hcr:=HC3.o.c;rw [hlen] at hnr hcr;obtain ⟨na,nc,en,hns⟩:=aA4 aGl hnr (by unfold nmsT;rw [List.length_map];exact hlen);obtain ⟨ka,kc,ek,hks⟩:=aA4 aCk hcr (by unfold cntT;rw [List.length_map];exact hlen);subst en ek;have HNS:=aAb hns;have HKS:=aAb hks;have xn:(len:Int)<=9223372036854775807:=by have:=hns.hc;have:=hns.hm;omega
      clear hk0 hlen hnr hcr hns hks;go_wp2_with fail;go_loopg [9] k0 (fun gh s9 wx=>∃ kk:Nat,kk+gh=k0/\s9=.int .i64 (kk:Int)/\Below w4.heap.size w4 wx)
      case atStart=>exact ⟨0,by omega,rfl,Below.refl _ _⟩
      case round =>
        obtain ⟨kk,hkk,rfl,hbk⟩:=hrel;have HBK:=aAb hbk;have HKK:=aAb hkk;have k1:wr.cell? ⟨K1,1,none⟩=some (.string z.nm):=aAa ((hbk.block K1 (aAd HB3.o)).trans HB3.o);clear hbk hkk;by_cases hlt:kk<k0
        · obtain ⟨t,ht1,ht2⟩:=HKA.o.1 kk hlt
          have hkl:kk<len:=by rw [<-HLEN.o];exact (lL ht1)
          obtain ⟨nb,no,ena,hnb,hnc⟩:=HNS.o.pl (by omega);have n1:wr.cell? ⟨nb,no+kk,none⟩=some (.string t.s.nm):=(HBK.o.cell (p:=⟨nb,no+kk,none⟩) hnb).trans (by have:=hnc kk t.s.nm (by unfold nmsT;rw [List.getElem?_map,ht1];rfl) 0 (by omega);rw [Nat.mul_one,Nat.add_zero] at this;exact this);subst ena;have g0:(kk:Int)<(len:Int):=by omega
          have g1:decide (kk<len)=true:=decide_eq_true hkl;have g2:(0:Int)<=(kk:Int):=by omega
          have f1:(t.s.nm.toList == z.nm.toList)=false:=by rw [ba_beq];exact decide_eq_false ht2
          have f2:(t.s.nm != z.nm)=true:=ba_ne ht2;have HLT:=aAb hlt;clear hnb hnc ht1 ht2 hlt hkl;go_wp2_with fail;go_quiet (fail);go_wp2;go_roundg (k0-(kk+1))
          case measure=>(have:=HKK.o;have:=HLT.o;omega)
          case rel=>exact ⟨kk+1,by have:=HLT.o;omega,rfl,aIg HBK.o _⟩
        · have ekk:kk=k0:=by have:=HKK.o;omega
          subst ekk;have HEX:Hid (∀ wx,Below w4.heap.size w4 wx->CtS B1 w.heap.size p q g ls db w w0 (8*j) T (.slice na len nc) (.slice ka len kc) wx/\wx.heap[K1]?=some (.cells #[.int .i64 z.kind,.string z.nm,.string z.s.nm,.slice z.ca z.cl z.cc,.slice z.xa z.xl z.xc,.slice z.ra z.rl z.rc,.int .i64 z.key.1,.int .i64 z.key.2.1,.string z.key.2.2,.int .i64 z.col,.int .i64 z.lo.1,.int .i64 z.lo.2.1,.string z.lo.2.2,.int .i64 z.hi.1,.int .i64 z.hi.2.1,.string z.hi.2.2,.int .i64 z.lim] 38 (0,0))/\OpP wx z):=fun wx h7=>⟨HC3.o.later h7,(h7.block K1 (aAd HB3.o)).trans HB3.o,HZ3.o.later h7⟩
          have HKB:Hid (B1<=K1):=HB1K.o;clear hlt;go_upto_region 11 with fail;go_cut [48] from 36 to 50 (fun cz wx=>cz=.bool false/\Below w4.heap.size w4 wx)
          case first =>
            by_cases hkl:kk<len
            · obtain ⟨t,ht1,ht2⟩:=HKA.o.2.1 (by rw [HLEN.o];exact hkl)
              obtain ⟨nb,no,ena,hnb,hnc⟩:=HNS.o.pl (by omega);have n1:wr.cell? ⟨nb,no+kk,none⟩=some (.string z.nm):=(HBK.o.cell (p:=⟨nb,no+kk,none⟩) hnb).trans (by have:=hnc kk t.s.nm (by unfold nmsT;rw [List.getElem?_map,ht1];rfl) 0 (by omega);rw [Nat.mul_one,Nat.add_zero,ht2] at this;exact this);subst ena;have g0:(kk:Int)<(len:Int):=by omega
              have g1:decide (kk<len)=true:=decide_eq_true hkl;have g2:(0:Int)<=(kk:Int):=by omega
              clear hnb hnc ht1 ht2 hkl;go_quiet (fail);(try go_wp2);go_meet;exact ⟨rfl,aIg HBK.o _⟩
            · have g0:¬ (kk:Int)<(len:Int):=by omega
              have g1:decide (kk<len)=false:=decide_eq_false hkl;clear hkl;go_quiet (fail);(try go_wp2);go_meet;exact ⟨rfl,aIg HBK.o _⟩
          case rest =>
            obtain ⟨rfl,hbq⟩:=hcut;obtain ⟨hc5,hb5,hz5⟩:=HEX.o wc hbq;have HC5:=aAb hc5;have HB5:=aAb hb5;have HZ5:=aAb hz5;have HK0B:Hid (kk<=len/\(∀ i,tAt T z.nm=some i->i=kk)):=⟨by have:=HKA.o.2.2;rw [HLEN.o] at this;exact this,fun i hi=>by have:=HK0.o;rw [hi] at this;exact this⟩;clear hc5 hb5 hz5 hbq k1 HEX HC3 HB3 HZ3 HBK HKK;obtain ⟨kd,hkd⟩:∃ kd,z.kind=kd:=⟨_,rfl⟩;have e0:wc.cell? ⟨K1,0,none⟩=some (.int .i64 kd):=by rw [<-hkd];exact aAa HB5.o
            clear hkd
            iterate 6 go_step
            have e1:wc.cell? ⟨K1,1,none⟩=some (.string z.nm):=aAa HB5.o;have e2:wc.cell? ⟨K1,2,none⟩=some (.string z.s.nm):=aAa HB5.o;have e3:wc.cell? ⟨K1,3,none⟩=some (.slice z.ca z.cl z.cc):=aAa HB5.o;have e4:wc.cell? ⟨K1,4,none⟩=some (.slice z.xa z.xl z.xc):=aAa HB5.o;have e5:wc.cell? ⟨K1,5,none⟩=some (.slice z.ra z.rl z.rc):=aAa HB5.o;have e6:wc.cell? ⟨K1,6,none⟩=some (.int .i64 z.key.1):=aAa HB5.o;have e7:wc.cell? ⟨K1,7,none⟩=some (.int .i64 z.key.2.1):=aAa HB5.o;have e8:wc.cell? ⟨K1,8,none⟩=some (.string z.key.2.2):=aAa HB5.o;go_cut [5,6] from 21 to 147 (fun a5 a6 wx=>∃ (T2:List Tbl) (n5:Option Addr) (c5:Nat) (n6:Option Addr) (c6:Nat),a5=.slice n5 T2.length c5/\a6=.slice n6 T2.length c6/\CtS B1 w.heap.size p q g ls db w w0 (8*(j+1)) T2 (.slice n5 T2.length c5) (.slice n6 T2.length c6) wx)
            case first =>
              have HJL:Hid (T.length<=4):=by obtain ⟨cs,I⟩:=HC5.o.d.inv;exact I.len
              by_cases q1:kd=1
              · subst q1
                as_aux_lemma =>
                  have HCR:=aAb (HC5.o.d.cre (by have:=HJM.o;omega) HZ5.o.sc);obtain ⟨ec,hec⟩:∃ ec,(creO T z.s).e=ec:=⟨_,rfl⟩;have HEC:=aAb hec;rw [hec] at HCR;clear hec;go_wp2_with fail;refine HCR.o.mono ?_;rintro e w6 ⟨rfl,hd6,hk6⟩;have hb6:=hk6 _ _ _ _ HB5.o (by decide) (by decide);have HD6:=aAb hd6;have HK6:=aAb hk6;have HB6:=aAb hb6;have HS6:Hid (B1<=w6.heap.size):=by have:=aAd hb6;have:=HKB.o;show _<=_;omega
                  clear hd6 hk6 hb6 HCR;clear e0 e1 e2 e3 e4 e5 e6 e7 e8;by_cases h0:ec=0
                  · have HT:Hid ((creO T z.s).T=T++[⟨z.s,[]⟩]):=cre_cnt (HEC.o.trans h0)
                    have f0:(ec == 0)=true:=by rw [h0];rfl
                    clear h0;have HD7:=HD6;rw [HT.o] at HD7;have hn6:=aDs HC5.o.n HK6.o (by decide) (by decide);have hc6:=aDs HC5.o.c HK6.o (by decide) (by decide);have m2:w6.cell? ⟨K1,2,none⟩=some (.string z.s.nm):=aAa HB6.o;have hbz:=aAe w6 (.cells #[.string z.s.nm] 9);have HNA:=aAb (aAk hn6 hbz);have HCA:=aAb (aAk hc6 hbz);have HDA:=aAb (HD7.o.later hbz);have HSA:Hid (B1<=(w6.alloc (.cells #[.string z.s.nm] 9)).heap.size):=nT HS6.o hbz.size;have HGA:Hid (SVK fN 1 (w6.alloc (.cells #[.string z.s.nm] 9)) (some ⟨w6.heap.size,0,none⟩) 1 1 [z.s.nm]):=SVK.whole aGl (l:=[z.s.nm]) rfl (by omega) (boxed _ _);clear hn6 hc6 hbz;have hln:=aCm T;have hlc:=cnt_len T;go_upto_region 16 with fail
                    go_wp2_with (at_builtin;first
                      | (refine aA6 aGl (by omega) fN_one Tryz.underlying44 info_strT rfl (by omega) rfl (.tmp 60) (.tmp 64) rfl (B1:=B1) (F:=nmsT T) (G:=[z.s.nm]) rfl rfl (by rw [hln];exact HNA.o) HGA.o HSA.o (by have:=HJL.o;rw [hln];omega) ?_
                         intro v7 w7 ho7 hb7 hk7;obtain ⟨hd7,hc7⟩:=CtS.name HDA.o HC5.o.z HNA.o HCA.o ho7 hb7 hk7;have hs7:B1<=w7.heap.size:=nT HSA.o hb7.size;have hby:=aAe w7 (.cells #[.int .i64 0] 3);have HNB:=aAb (aAk ho7 hby);have HCB:=aAb (aAk hc7 hby);have HDB:=aAb (hd7.later hby);have HSB:Hid (B1<=(w7.alloc (.cells #[.int .i64 0] 3)).heap.size):=nT hs7 hby.size;have HGB:Hid (SVK fNum 1 (w7.alloc (.cells #[.int .i64 0] 3)) (some ⟨w7.heap.size,0,none⟩) 1 1 [0]):=SVK.whole aCk (l:=[0]) rfl (by omega) (boxed _ _)
                         clear ho7 hb7 hk7 hd7 hc7 hs7 hby)
                      | (refine aA6 aCk (by omega) fNum_one Tryz.underlying76 info_intI rfl (by omega) rfl (.tmp 66) (.tmp 67) rfl (B1:=B1) (F:=cntT T) (G:=[0]) rfl rfl (by rw [hlc];exact HCB.o) HGB.o HSB.o (by have:=HJL.o;rw [hlc];omega) ?_
                         intro v8 w8 ho8 hb8 hk8;have HC8:=aAb (CtS.more (t:=⟨z.s,[]⟩) HDB.o HC5.o.z HSB.o HNB.o HCB.o rfl ho8 hb8 hk8)
                         clear ho8 hb8 hk8))
                    obtain ⟨n5,c5,n6,c6,e5,e6⟩:=HC8.o.sl;subst e5 e6;go_meet;exact ⟨_,n5,c5,n6,c6,rfl,rfl,HC8.o⟩
                  · have f0:(ec == 0)=false:=by simp [h0]
                    have HT:Hid ((creO T z.s).T=T):=cre_same (by rw [HEC.o];exact h0);have HD7:=HD6;rw [HT.o] at HD7;have HC7:=aAb (HC5.o.call HD7.o HK6.o HS6.o rfl rfl);clear h0;go_wp2;go_meet;exact ⟨T,_,_,_,_,by rw [HLEN.o],by rw [HLEN.o],by rw [HLEN.o];exact HC7.o⟩
              · skip
                by_cases q2:kd=2
                · subst q2
                  as_aux_lemma =>
                    have HCR:=aAb (HC5.o.d.insert (by have:=HJM.o;omega) z.nm HZ5.o.rw_ HZ5.o.rp);obtain ⟨ec,hec⟩:∃ ec,(insO T z.nm z.row).e=ec:=⟨_,rfl⟩;have HEC:=aAb hec;rw [hec] at HCR;clear hec;go_wp2_with fail;refine HCR.o.mono ?_;rintro e w6 ⟨rfl,hd6,hk6⟩;have hb6:=hk6 _ _ _ _ HB5.o (by decide) (by decide);have HD6:=aAb hd6;have HK6:=aAb hk6;have HB6:=aAb hb6;have HS6:Hid (B1<=w6.heap.size):=by have:=aAd hb6;have:=HKB.o;show _<=_;omega
                    clear hd6 hk6 hb6 HCR;clear e0 e1 e2 e3 e4 e5 e6 e7 e8;by_cases h0:ec=0
                    · obtain ⟨i,t,h1,h2,h3,h4,h5⟩:=ins_cnt (HEC.o.trans h0)
                      obtain rfl:=HK0B.o.2 i h1;have hil:i<T.length:=(lL h2);have HIL:=aAb hil;obtain ⟨cs,I⟩:=HC5.o.d.inv;have htm:=at_mem h2;have h64:=I.cnt t htm;have HEN:Hid (nmsT (insO T z.nm z.row).T=nmsT T):=by show _=_;rw [h5];exact nms_set h2
                      have HCN:Hid (cntT (insO T z.nm z.row).T=(cntT T).set i ((t.rows.length:Int)+1)):=by show _=_;rw [h5,cnt_set,aFk];rfl
                      obtain ⟨q,hq⟩:∃ q:Nat,t.rows.length=q:=⟨_,rfl⟩;rw [hq] at h64 HCN;have hcell:(cntT T)[i]?=some (q:Int):=by unfold cntT;rw [List.getElem?_map,h2];show some (t.rows.length:Int)=_;rw [hq]
                      have f0:(ec == 0)=true:=by rw [h0];rfl
                      have f1:((i:Int) == (len:Int))=false:=by have:=HLEN.o;simp;omega
                      have g0:(0:Int)<=(i:Int):=by omega
                      have g1:(i:Int)<(len:Int):=by have:=HLEN.o;omega
                      have hn6:=aDs HC5.o.n HK6.o (by decide) (by decide);have hc6:=aDs HC5.o.c HK6.o (by decide) (by decide);obtain ⟨gb,egb⟩:∃ gb,ka=some ⟨gb,0,none⟩:=by
                        rcases hc6.2 with ⟨q9,_⟩ | ⟨g9,_,_,q9,_⟩
                        · simp only [Value.slice.injEq] at q9;have:=HLEN.o;omega
                        · simp only [Value.slice.injEq] at q9;exact ⟨g9,q9.1⟩
                      subst egb;rw [<-HLEN.o] at hc6;have HN6:=aAb hn6;have HC6:=aAb hc6;obtain ⟨cur,hcur,hcc⟩:=aCc aCk hc6 hcell;have d0:w6.cell? ⟨gb,i,none⟩=some (.int .i64 (q:Int)):=by have h9:=hcc 0 (by omega);rw [Nat.mul_one,Nat.add_zero] at h9;exact h9
                      have df:w6.frozen? ⟨gb,i,none⟩=false:=aAg hcur;have hw:IntKind.i64.wrap ((q:Int)+1)=(q:Int)+1:=by rw [IntKind.wrap_i64];omega
                      have hw2:-9223372036854775808<=(q:Int)+1/\(q:Int)+1<=9223372036854775807:=by omega
                      clear h0 h1 h2 h3 h4 h5 hil I htm h64 hq hcell hn6 hc6 hcur hcc;go_wp2;go_meet;have h8:=CtS.put (z:=(q:Int)+1) HD6.o HC5.o.z HS6.o HN6.o HC6.o HIL.o HEN.o HCN.o;have hl:(insO T z.nm z.row).T.length=len:=by rw [<-aCm,HEN.o,aCm];exact HLEN.o
                      rw [HLEN.o] at h8;exact ⟨_,_,_,_,_,by rw [hl],by rw [hl],by rw [hl];exact h8⟩
                    · have f0:(ec == 0)=false:=by simp [h0]
                      have HT:Hid ((insO T z.nm z.row).T=T):=(ins_same (by rw [HEC.o];exact h0)).1;have HD7:=HD6;rw [HT.o] at HD7;have HC7:=aAb (HC5.o.call HD7.o HK6.o HS6.o rfl rfl);clear h0;go_wp2;go_meet;exact ⟨T,_,_,_,_,by rw [HLEN.o],by rw [HLEN.o],by rw [HLEN.o];exact HC7.o⟩
                · skip
                  by_cases q4:kd=4
                  · subst q4
                    as_aux_lemma =>
                      have HCR:=aAb (HC5.o.d.delete (by have:=HJM.o;omega) z.nm HZ5.o.key);obtain ⟨ec,hec⟩:∃ ec,(delO T z.nm z.key).e=ec:=⟨_,rfl⟩;have HEC:=aAb hec;rw [hec] at HCR;clear hec;go_wp2_with fail;refine HCR.o.mono ?_;rintro e w6 ⟨rfl,hd6,hk6⟩;have hb6:=hk6 _ _ _ _ HB5.o (by decide) (by decide);have HD6:=aAb hd6;have HK6:=aAb hk6;have HB6:=aAb hb6;have HS6:Hid (B1<=w6.heap.size):=by have:=aAd hb6;have:=HKB.o;show _<=_;omega
                      clear hd6 hk6 hb6 HCR;clear e0 e1 e2 e3 e4 e5 e6 e7 e8;by_cases h0:ec=0
                      · obtain ⟨i,t,r,h1,h2,h3,h5⟩:=del_cnt (HEC.o.trans h0)
                        obtain rfl:=HK0B.o.2 i h1;have hil:i<T.length:=(lL h2);have HIL:=aAb hil;obtain ⟨cs,I⟩:=HC5.o.d.inv;have htm:=at_mem h2;have h64:=I.cnt t htm;have HEN:Hid (nmsT (delO T z.nm z.key).T=nmsT T):=by show _=_;rw [h5];exact nms_set h2
                        have HCN:Hid (cntT (delO T z.nm z.key).T=(cntT T).set i ((t.rows.length:Int)-1)):=by
                          show _=_;obtain ⟨h6,h7⟩:=aBq h3;have h8:=cut_len1 I htm h6;rw [h7] at h8;rw [h5,cnt_set]
                          congr 1
                          omega
                        obtain ⟨q,hq⟩:∃ q:Nat,t.rows.length=q:=⟨_,rfl⟩;rw [hq] at h64 HCN;have hcell:(cntT T)[i]?=some (q:Int):=by unfold cntT;rw [List.getElem?_map,h2];show some (t.rows.length:Int)=_;rw [hq]
                        have f0:(ec == 0)=true:=by rw [h0];rfl
                        have f1:((i:Int) == (len:Int))=false:=by have:=HLEN.o;simp;omega
                        have g0:(0:Int)<=(i:Int):=by omega
                        have g1:(i:Int)<(len:Int):=by have:=HLEN.o;omega
                        have hn6:=aDs HC5.o.n HK6.o (by decide) (by decide);have hc6:=aDs HC5.o.c HK6.o (by decide) (by decide);obtain ⟨gb,egb⟩:∃ gb,ka=some ⟨gb,0,none⟩:=by
                          rcases hc6.2 with ⟨q9,_⟩ | ⟨g9,_,_,q9,_⟩
                          · simp only [Value.slice.injEq] at q9;have:=HLEN.o;omega
                          · simp only [Value.slice.injEq] at q9;exact ⟨g9,q9.1⟩
                        subst egb;rw [<-HLEN.o] at hc6;have HN6:=aAb hn6;have HC6:=aAb hc6;obtain ⟨cur,hcur,hcc⟩:=aCc aCk hc6 hcell;have d0:w6.cell? ⟨gb,i,none⟩=some (.int .i64 (q:Int)):=by have h9:=hcc 0 (by omega);rw [Nat.mul_one,Nat.add_zero] at h9;exact h9
                        have df:w6.frozen? ⟨gb,i,none⟩=false:=aAg hcur;have hw:IntKind.i64.wrap ((q:Int)-1)=(q:Int)-1:=by rw [IntKind.wrap_i64];omega
                        have hw2:-9223372036854775808<=(q:Int)-1/\(q:Int)-1<=9223372036854775807:=by omega
                        clear h0 h1 h2 h3 h5 hil I htm h64 hq hcell hn6 hc6 hcur hcc;go_wp2;go_meet;have h8:=CtS.put (z:=(q:Int)-1) HD6.o HC5.o.z HS6.o HN6.o HC6.o HIL.o HEN.o HCN.o;have hl:(delO T z.nm z.key).T.length=len:=by rw [<-aCm,HEN.o,aCm];exact HLEN.o
                        rw [HLEN.o] at h8;exact ⟨_,_,_,_,_,by rw [hl],by rw [hl],by rw [hl];exact h8⟩
                      · have f0:(ec == 0)=false:=by simp [h0]
                        have HT:Hid ((delO T z.nm z.key).T=T):=del_same (by rw [HEC.o];exact h0);have HD7:=HD6;rw [HT.o] at HD7;have HC7:=aAb (HC5.o.call HD7.o HK6.o HS6.o rfl rfl);clear h0;go_wp2;go_meet;exact ⟨T,_,_,_,_,by rw [HLEN.o],by rw [HLEN.o],by rw [HLEN.o];exact HC7.o⟩
                  · skip
                    by_cases q3:kd=3
                    · subst q3
                      as_aux_lemma =>
                        have HCR:=aAb (HC5.o.d.update (by have:=HJM.o;omega) z.nm HZ5.o.rw_ HZ5.o.rp);go_wp2_with fail;refine HCR.o.mono ?_;rintro e w6 ⟨rfl,hd6,hk6⟩;have hb6:=hk6 _ _ _ _ HB5.o (by decide) (by decide);have HS6:Hid (B1<=w6.heap.size):=by have:=aAd hb6;have:=HKB.o;show _<=_;omega
                        obtain ⟨cs,I⟩:=HC5.o.d.inv;have HUP:=aAb (upd_cnt (nm:=z.nm) (r:=z.row) I);have HC7:=aAb (HC5.o.call hd6 hk6 HS6.o HUP.o.1 HUP.o.2);clear hd6 hk6 hb6 HCR I;clear e0 e1 e2 e3 e4 e5 e6 e7 e8;go_wp2;go_meet;have hl:(updO T z.nm z.row).T.length=len:=by rw [<-aCm,HUP.o.1,aCm];exact HLEN.o
                        exact ⟨_,_,_,_,_,by rw [hl],by rw [hl],by rw [hl];exact HC7.o⟩
                    · skip
                      clear e1 e2 e3 e4 e5 e6 e7 e8;go_wp2;go_meet;have hm:TbD w.heap.size p q g ls db w w0 (8*(j+1)) T wc:=by
                        obtain ⟨v,cs,h1,h2,h3⟩:=HC5.o.d;exact ⟨v,cs,h1,h2,by omega⟩
                      exact ⟨T,_,_,_,_,by rw [HLEN.o],by rw [HLEN.o],by rw [HLEN.o];exact ⟨hm,HC5.o.n,HC5.o.c,HC5.o.z,HC5.o.s⟩⟩
            case rest =>
              obtain ⟨T2,n5,c5,n6,c6,rfl,rfl,hc7⟩:=hcut;have HC7:=aAb hc7;clear hc7 HC5 HB5 HZ5 HNS HKS;obtain ⟨l2,hl2⟩:∃ n,T2.length=n:=⟨_,rfl⟩;have HL2:=aAb hl2;have hnr:=HC7.o.n;have hcr:=HC7.o.c;rw [hl2] at hnr hcr;obtain ⟨n5',c5',e5,hns⟩:=aA4 aGl hnr (by rw [aCm];exact hl2);obtain ⟨n6',c6',e6,hks⟩:=aA4 aCk hcr (by rw [cnt_len];exact hl2);simp only [Value.slice.injEq] at e5 e6;obtain ⟨rfl,_,rfl⟩:=e5;obtain ⟨rfl,_,rfl⟩:=e6;rw [hl2];have HNS:=aAb hns;have HKS:=aAb hks;have xl2:(l2:Int)<=9223372036854775807:=by have:=hns.hc;have:=hns.hm;omega
              clear hnr hcr hns hks hl2;go_wp2_with fail;go_loopg [10] l2 (fun gh s10 wx=>∃ i2:Nat,i2+gh=l2/\s10=.int .i64 (i2:Int)/\Below wc.heap.size wc wx)
              case atStart=>exact ⟨0,by omega,rfl,Below.refl _ _⟩
              case round =>
                obtain ⟨i2,hi2,rfl,hb8⟩:=hrel;have HI2:=aAb hi2;have HB8:=aAb hb8;clear hi2 hb8;by_cases hlt:i2<l2
                · obtain ⟨t,ht⟩:∃ t,T2[i2]?=some t:=⟨_,gE (by rw [HL2.o];exact hlt)⟩
                  obtain ⟨nb,no,ena,hnb,hnc⟩:=HNS.o.pl (by omega);obtain ⟨kb,ko,eka,hkb,hkc⟩:=HKS.o.pl (by omega);have n1:wr.cell? ⟨nb,no+i2,none⟩=some (.string t.s.nm):=(HB8.o.cell (p:=⟨nb,no+i2,none⟩) hnb).trans (by have:=hnc i2 t.s.nm (by unfold nmsT;rw [List.getElem?_map,ht];rfl) 0 (by omega);rw [Nat.mul_one,Nat.add_zero] at this;exact this);have HK1:Hid (kb<wc.heap.size/\wc.cell? ⟨kb,ko+i2,none⟩=some (.int .i64 (t.rows.length:Int))):=⟨hkb,by have:=hkc i2 (t.rows.length:Int) (by unfold cntT;rw [List.getElem?_map,ht];rfl) 0 (by omega);rw [Nat.mul_one,Nat.add_zero] at this;exact this⟩;obtain ⟨cs,I⟩:=HC7.o.d.inv;have h64:=I.cnt t (at_mem ht);have hln:=(HC7.o.d.later HB8.o).lenT (by have:=HJM.o;omega) t.s.nm;rw [lenO_some (I.tAt ht) ht] at hln;have HLN:=aAb hln;obtain ⟨r,hr⟩:∃ r:Nat,t.rows.length=r:=⟨_,rfl⟩;rw [hr] at HLN HK1 h64;subst ena eka;have g0:(0:Int)<=(i2:Int):=by omega
                  have g1:(i2:Int)<(l2:Int):=by omega
                  have HLT:=aAb hlt;have H64:=aAb h64;clear hnb hnc hkb hkc ht I h64 hln hr hlt;go_wp2_with fail;refine HLN.o.mono ?_;rintro e w9 ⟨rfl,hb9⟩;have HB9:=aAb (HB8.o.trans (hb9.mono HB8.o.size));have k9:w9.cell? ⟨kb,ko+i2,none⟩=some (.int .i64 (r:Int)):=(HB9.o.cell (p:=⟨kb,ko+i2,none⟩) HK1.o.1).trans HK1.o.2;have f1:((r:Int) != (r:Int))=false:=by simp
                  have f2:decide ((r:Int)<0)=false:=decide_eq_false (by omega);have f3:decide ((64:Int)<(r:Int))=false:=decide_eq_false (by have:=H64.o;omega);have f4:decide (64<r)=false:=decide_eq_false (by have:=H64.o;omega);have f5:¬ (64:Int)<(r:Int):=by have:=H64.o;omega
                  clear hb9 n1;go_wp2;go_roundg (l2-(i2+1))
                  case measure=>(have:=HI2.o;have:=HLT.o;omega)
                  case rel=>exact ⟨i2+1,by have:=HLT.o;omega,rfl,HB9.o⟩
                · obtain rfl:i2=l2:=by have:=HI2.o;omega
                  have g1:¬ (i2:Int)<(i2:Int):=by omega
                  clear hlt;go_wp2;go_roundg (M-(j+1))
                  case measure=>(have:=HJ9.o;have:=HJM.o;omega)
                  case rel=>exact ⟨j+1,T2,by have:=HJM.o;omega,rfl,by have:=HC7.o.later HB8.o;rw [HL2.o] at this;exact this⟩
    · obtain rfl:j=M:=by have:=HJ9.o;omega
      have HT:=aAb told15;by_cases hn:n<=40
      · have x1:¬ (j:Int)<(n:Int):=by have:=HM.o;omega
        go_wp2_with fail;refine (HT.o wr).mono ?_;rintro e w4 ⟨rfl,hb4⟩;have HE:Hid (Below B w w4):=by have:=(HC1.o.d.later hb4).bel;rw [HBB.o] at this;exact this
        clear hb4 HT;go_wp2;go_ret;exact ⟨rfl,HE.o⟩
      · have x1:(j:Int)<(n:Int):=by have:=HM.o;omega
        have x2:¬ (j:Int)<40:=by have:=HM.o;omega
        go_wp2_with fail;refine (HT.o wr).mono ?_;rintro e w4 ⟨rfl,hb4⟩;have HE:Hid (Below B w w4):=by have:=(HC1.o.d.later hb4).bel;rw [HBB.o] at this;exact this
        clear hb4 HT;go_wp2;go_ret;exact ⟨rfl,HE.o⟩
end Go.Proofs.YtdpdjpkmndnaaaaGreat
