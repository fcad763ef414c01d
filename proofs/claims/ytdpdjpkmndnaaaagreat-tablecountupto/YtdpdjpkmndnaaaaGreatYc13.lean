import Derived.Test.YtdpdjpkmndnaaaaGreatYc7
import Derived.Test.YtdpdjpkmndnaaaaGreatYc2
import Derived.BigQuiet
set_option maxRecDepth 100000
set_option maxHeartbeats 16000000
set_option linter.unusedVariables false
namespace Go.Proofs.YtdpdjpkmndnaaaaGreat
open Go.RowKit _root_.Go.Proofs.Tryz
variable {B cap i j k n size:Nat} {a:Option Addr} {v:Value} {w w':World}
theorem aCu {e:Nat} {xs:List Value} (h:w.ownsRow B e size v n xs):∃ a cap,v=.slice a n cap:=by
 rcases h.2 with ⟨e,e0⟩ | ⟨g,cap,cur,e,_⟩
 ·exact ⟨none,0,by rw [e,e0]⟩
 ·exact ⟨_,cap,e⟩
theorem own_place {e:Nat} {xs:List Value} (h:w.ownsRow B e size (.slice a n cap) n xs) (h0:0<n):∃ g,a=some ⟨g,0,none⟩/\g<w.heap.size/\∃ cur,w.heap[g]?=some (.cells cur e (0,0)):=by
 rcases h.2 with ⟨_,e0⟩ | ⟨g,cap,cur,e,_,hc,_⟩
 ·omega
 ·simp only [Value.slice.injEq,true_and] at e;exact ⟨g,e.1,(lO hc),cur,hc⟩
theorem aAh (w:World) (o:Obj):Below w.heap.size w (w.alloc o):=(Below.refl _ _).alloc (nR _) _
def DS.show (s:DS) (i:Nat):List Nat:=match (s.idx i).getLast? with
 | some j=>s.by_ j
 | none=>s.K i
theorem idx_mem {s:DS} (h:j∈s.idx i):j<s.m/\s.at_ j=i:=by
 simp only [DS.idx,List.mem_filter,List.mem_range,beq_iff_eq] at h;exact h
theorem show_len {s:DS} (h:s.Ok) (i:Nat):(s.show i).length<=blk:=by
 unfold DS.show;split
 ·exact h.bl _
 ·exact h.kl _
theorem show_lt {s:DS} (h:s.Ok) (i:Nat):∀ c∈s.show i,c<256:=by
 unfold DS.show;split
 ·exact h.bb _
 ·exact h.kb _
theorem icells_get {l:List Nat} (h:i<l.length):(icells l)[i]?=some (.int .i64 ((l.getD i 0:Nat):Int)):=by
 simp [icells,h]
theorem idx_len (s:DS) (i:Nat):(s.idx i).length<=s.m:=by
 unfold DS.idx;exact nT (List.length_filter_le _ _) (by rw [List.length_range];exact nR _)
theorem shown_any [Gd] (B p:Nat) (s:DS) (i:Nat) (w:World) (h:DI B p s w) (hB:B<=w.heap.size) (hi:i<s.n) :
  Calls prog 212 #[.pointer (some ⟨p,0,none⟩),.int .i64 i] w fun e w'=>∃ v,e=.returned v/\w'.ownsRow B 5 1 v (s.show i).length (cellsOf (s.show i))/\Below w.heap.size w w':=by
 obtain ⟨gb,vo,kv,ov,wv,h⟩:=h;have hn:=h.ok.n2;have hmm:=h.ok.mm;have c0:=h.c0;have c1:=h.c1;have hpl:p<w.heap.size:=(lO h.hp);have g0:w.cell? ⟨gb,i*2,none⟩=some (kv i):=by
  rw [aAc h.hg];simpa using aBe kv ov i s.n hi
 have g1:w.cell? ⟨gb,i*2+1,none⟩=some (ov i):=by
  rw [aAc h.hg];simpa using aC3 kv ov i s.n hi
 obtain ⟨a1,p1,e1⟩:=aCu (h.hk i hi);obtain ⟨a2,p2,e2⟩:=aCu (h.ho i hi);have O1:=h.hk i hi;have O2:=h.ho i hi;rw [e1] at g0 O1;rw [e2] at g1 O2;have i1:(0:Int)<=(i:Int):=by omega
 have i2:(i:Int)<((s.n:Nat):Int):=by omega
 have HIL:=idx_len s i
 cases hx:s.idx i with
 | nil =>
  have HS:Hid (s.show i=s.K i):=by show _=_;unfold DS.show;rw [hx];rfl
  rw [hx] at O2 g1;simp only [List.length_nil] at O2 g1;have HO1:=zH O1;rw [HS.o];have HB1:=zH (aAh w (.cells #[.slice a1 (s.K i).length p1,.slice a2 0 p2] 349));clear h O1 O2 e1 e2 hx;generalize (s.K i).length=n1 at *
  generalize s.n=n at *
  go_enter func212,ntmps212;go_wp2;go_ret;exact ⟨_,rfl,aBg HO1.o HB1.o,HB1.o⟩
 | cons j0 jr =>
  have hlen:0<(s.idx i).length:=by rw [hx];simp
  obtain ⟨l,hl⟩:∃ l,(s.idx i).length=l+1:=⟨(s.idx i).length-1,by omega⟩;obtain ⟨j,hj⟩:∃ j,(s.idx i).getD l 0=j:=⟨_,rfl⟩;have hlast:(s.idx i).getLast?=some j:=by
   rw [List.getLast?_eq_getElem?,hl,Nat.add_sub_cancel,<-hj,List.getD_eq_getElem?_getD,gE (by omega)];rfl
  have hjm:j∈s.idx i:=by
   have:=List.mem_of_getLast? hlast;exact this
  obtain ⟨hj1,hj2⟩:=idx_mem hjm;have HS:Hid (s.show i=s.by_ j):=by show _=_;unfold DS.show;rw [hlast]
  obtain ⟨A,C,hvo,hmc,hcm,hnil⟩:=h.form;have hw:=h.hw;have OB:=h.hb j hj1;obtain ⟨a3,p3,e3⟩:=aCu OB;rw [hvo] at hw c1;obtain ⟨g,rfl,hgl,cur,hgc⟩:=own_place hw (by omega);obtain ⟨g2,rfl,hg2,cur2,hgc2⟩:=own_place O2 (by omega);have r1:=hw.cellAt (j*2+1) (by omega);rw [aC3 _ _ _ _ hj1,e3] at r1;have r2:=O2.cellAt l (by omega);rw [icells_get (by omega),hj] at r2;rw [e3] at OB;have HOB:=zH OB;have hc2:(s.idx i).length<=p2:=by
   rcases O2.2 with ⟨e,_⟩ | ⟨_,_,_,e,_,_,h5,_⟩
   ·cases e
   ·simp only [Value.slice.injEq] at e;omega
  have hp2:p2<=9223372036854775807:=by
   rcases O2.2 with ⟨e,_⟩ | ⟨_,_,_,e,_,_,_,h5,_⟩
   ·cases e
   ·simp only [Value.slice.injEq] at e;unfold maxLen at h5;omega
  rw [HS.o];rw [hl] at g1 hc2 HIL;have HB1:=zH (aAh w (.cells #[.slice a1 (s.K i).length p1,.slice (some ⟨g2,0,none⟩) (l+1) p2] 349));have x1:(w.alloc (.cells #[.slice a1 (s.K i).length p1,.slice (some ⟨g2,0,none⟩) (l+1) p2] 349)).cell? ⟨p,1,none⟩=some (.slice (some ⟨g,0,none⟩) s.m C):=(HB1.o.cell hpl).trans c1;have x2:(w.alloc (.cells #[.slice a1 (s.K i).length p1,.slice (some ⟨g2,0,none⟩) (l+1) p2] 349)).cell? ⟨g2,l,none⟩=some (.int .i64 (j:Nat)):=(HB1.o.cell hg2).trans r2;have x3:(w.alloc (.cells #[.slice a1 (s.K i).length p1,.slice (some ⟨g2,0,none⟩) (l+1) p2] 349)).cell? ⟨g,j*2+1,none⟩=some (.slice a3 (s.by_ j).length p3):=(HB1.o.cell hgl).trans r1;have j1:(0:Int)<=(j:Int):=by omega
  have j2:(j:Int)<((s.m:Nat):Int):=by omega
  have l1:(0:Int)<=(l:Int):=by omega
  have l2:(0:Int)<(l:Int)+1:=by omega
  clear h O1 O2 OB hw hvo hnil hlen hlast hjm hj hl hx e1 e2 e3 r1 r2 hgc hgc2 hj1 hj2;generalize (s.K i).length=n1 at *
  generalize (s.by_ j).length=n3 at *
  generalize s.n=n at *
  generalize s.m=m at *
  go_enter func212,ntmps212;go_wp2_with fail;go_quiet (fail);go_wp2;go_ret;exact ⟨_,rfl,aBg HOB.o (below_drewN HB1.o _),below_drewN HB1.o _⟩
theorem read_ok [Gd] (B p:Nat) (s:DS) (i:Nat) (w:World) (h:DI B p s w) (hB:B<=w.heap.size) (hd:s.down=false) (hi:i<s.n) :
  Calls prog 183 #[.pointer (some ⟨p,0,none⟩),.int .i64 i] w fun e w'=>∃ g,e=.returned (.tuple #[.slice (some ⟨g,0,none⟩) blk blk,.int .i64 0])/\w'.ownsRow w.heap.size 5 1 (.slice (some ⟨g,0,none⟩) blk blk) blk (cellsOf (pad (s.show i)))/\Below w.heap.size w w':=by
 have HC:=zH (has_any B p s i w h);rw [decide_eq_true (by omega:(0:Int)<=(i:Int)/\(i:Int)<s.n)] at HC;have HS:=zH (shown_any B p s i w h hB hi);have HSL:=zH (show_len h.ok i);have HST:=zH (show_lt h.ok i);obtain ⟨gb,vo,kv,ov,wv,h⟩:=h;have c6:=h.c6;rw [hd] at c6;clear h;generalize s.show i=xs at *
 go_enter func183,ntmps183;go_wp2_with fail;refine HC.o.mono ?_;rintro e w2 ⟨rfl,rfl⟩;go_wp2_with fail;refine HS.o.mono ?_;rintro e w3 ⟨v,rfl,hv,hb3⟩;obtain ⟨a3,c3,rfl,B3⟩:=aI2 hv (by have:=HSL.o;unfold blk at this;omega) HST.o;have HB3:=zH B3;have HL3:=zH hb3;clear hv hb3 B3;go_wp2_with fail;refine (whole_any a3 xs.length c3 xs _ HB3.o HSL.o).mono ?_;rintro e w4 ⟨rfl,ho4,hb4⟩;have HO4:=zH (aFc ho4 HL3.o.size);have HL4:=zH (HL3.o.trans (hb4.mono HL3.o.size));clear ho4 hb4;go_wp2;go_ret2;exact ⟨_,rfl,HO4.o,HL4.o⟩
section
variable (s:DS) (a:Nat) (xs:List Nat)
end
theorem aCv {e:Nat} {xs:List Value} (h:w.ownsRow B e size v n xs) (hk:v.ownBlock=some k):B<=k/\∃ cur,w.heap[k]?=some (.cells cur e (0,0)):=by
 rcases h.2 with ⟨e,_⟩ | ⟨g,cap,cur,e,hB,hc,_⟩
 ·rw [e] at hk;cases hk
 ·rw [e] at hk;simp only [Value.ownBlock,oI] at hk;subst hk;exact ⟨hB,cur,hc⟩
theorem aBw {e:Nat} {xs:List Value} (h:w.ownsRow B e size v n xs) (hs:∀ (k:Nat) (cs:Array Value),v.ownBlock=some k->w.heap[k]?=some (Obj.cells cs e (0,0))->w'.heap[k]?=some (Obj.cells cs e (0,0))):w'.ownsRow B e size v n xs:=by
 obtain ⟨h1,h2⟩:=h;refine ⟨h1,?_⟩;rcases h2 with h2 | ⟨g,cap,cur,hv,hg,hc,h3⟩
 ·exact Or.inl h2
 ·exact Or.inr ⟨g,cap,cur,hv,hg,hs g cur (by rw [hv];rfl) hc,h3⟩
section
variable {B p gb:Nat} {vo:Value} {kv ov wv:Nat->Value} {s:DS} {a:Nat} {w w1 w2:World}
end
theorem info_int:(prog.info? 3).map (fun i=>(i.zero,i.size,i.bytes))=some (some (.int .i64 0),1,8):=by kernel_rfl
section
variable {B p gb:Nat} {vo:Value} {kv ov wv:Nat->Value} {s:DS} {a:Nat} {w w1 w2:World}
end
def sb (s:ByteArray) (k:Nat):Nat:=(s.data.toList.map UInt8.toNat).getD k 0
end Go.Proofs.YtdpdjpkmndnaaaaGreat
set_option linter.unusedVariables false
set_option linter.unusedSimpArgs false
namespace Go.Proofs.YtdpdjpkmndnaaaaGreat
open Go.RowKit _root_.Go.Proofs.Tryz
variable {B g o p:Nat} {t:TypeId} {w w':World}
def sl (s:ByteArray):List Nat:=s.data.toList.map UInt8.toNat
theorem str_size (xs:List Nat):(str xs).size=xs.length:=by rw [str,strOfNums_size];simp
theorem DI.other [Gd] {s:DS} {cs:Array Value} {u:Value} (h:DI B p s w) (hg:w.heap[g]?=some (.cells cs t (0,0))) (n1:t≠141) (n2:t≠349) (n3:t≠351) (n4:t≠3) (n5:t≠5) (n6:¬ Gd.s g):DI B p s (w.setCell ⟨g,o,none⟩ u):=by
 obtain ⟨gb,vo,kv,ov,wv,h⟩:=h;have st:∀ (k:Nat) (cs':Array Value) (t':TypeId),w.heap[k]?=some (Obj.cells cs' t' (0,0))->t≠t'->(w.setCell ⟨g,o,none⟩ u).heap[k]?=some (Obj.cells cs' t' (0,0)):=by
  intro k cs' t' e ht;rw [heap_setCell_other _ _ _ _ ?_,e];show k≠g;intro e2;subst e2;rw [hg] at e;simp only [oI,cI] at e;exact ht e.2.1
 exact ⟨gb,vo,kv,ov,wv,⟨st p _ _ h.hp n1,st gb _ _ h.hg n2,aBw h.hw fun k cs' _ e=>st k cs' _ e n3,fun i hi=>aBw (h.hk i hi) fun k cs' _ e=>st k cs' _ e n5,fun i hi=>aBw (h.hb i hi) fun k cs' _ e=>st k cs' _ e n5,fun i hi=>aBw (h.ho i hi) fun k cs' _ e=>st k cs' _ e n4,h.ha,h.pB,h.gB,h.ok,fun k hk=>⟨(h.hG k hk).1.same (heap_setCell_other _ _ _ _ (gd_ne n6 hk)),(h.hG k hk).2⟩⟩⟩
theorem DI.of_stay [Gd] {s:DS} (h:DI B p s w) (st:∀ (k:Nat) (cs:Array Value) (t:TypeId),w.heap[k]?=some (Obj.cells cs t (0,0))->(t=141\/t=349\/t=351\/t=3\/t=5\/t=254\/t=259)->w'.heap[k]?=some (Obj.cells cs t (0,0))):DI B p s w':=by
 obtain ⟨gb,vo,kv,ov,wv,h⟩:=h
 exact ⟨gb,vo,kv,ov,wv,⟨st p _ _ h.hp (by simp),st gb _ _ h.hg (by simp),aBw h.hw fun k cs' _ e=>st k cs' _ e (by simp),fun i hi=>aBw (h.hk i hi) fun k cs' _ e=>st k cs' _ e (by simp),fun i hi=>aBw (h.hb i hi) fun k cs' _ e=>st k cs' _ e (by simp),fun i hi=>aBw (h.ho i hi) fun k cs' _ e=>st k cs' _ e (by simp),h.ha,h.pB,h.gB,h.ok,fun k hk=>⟨by
  obtain ⟨cs',t',e,ht⟩:=(h.hG k hk).1
  exact ⟨cs',t',st k cs' t' e (by rcases ht with q | q | q | q | q | q<;>simp [q]),ht⟩,(h.hG k hk).2⟩⟩⟩
end Go.Proofs.YtdpdjpkmndnaaaaGreat
set_option linter.unusedVariables false
namespace Go.Proofs.YtdpdjpkmndnaaaaGreat
open Go.RowKit _root_.Go.Proofs.Tryz
variable {B g k n o:Nat} {e t:TypeId} {w w':World}
structure PS where
 st:List Nat
 life:Int
 num:Nat
 root:Nat
structure PS.Ok (t:PS):Prop where
 sl:t.st.length<=4096
 sb:∀ c∈t.st,c<4
 nm:t.num<=4611686018427387904
 rt:t.root<=4096
def storeV (gs p:Nat) (t:PS):Array Value:=#[.slice (some ⟨gs,0,none⟩) t.st.length t.st.length,.pointer (some ⟨p,0,none⟩),.int .i64 t.life,.int .i64 (t.num:Int),.int .i64 (t.root:Int)]
structure SV [Gd] (B p q gs:Nat) (t:PS) (w:World):Prop where
 hq:w.heap[q]?=some (.cells (storeV gs p t) 254 (0,0))
 hs:w.heap[gs]?=some (.cells (cellsOf t.st).toArray 259 (0,0))
 qB:B<=q
 gB:B<=gs
 ok:t.Ok
 hG:∀ k,Gd.s k->k≠q/\k≠gs
section
variable {B p q gs:Nat} {t:PS} {w w':World}
theorem SV.later [Gd] (h:SV B p q gs t w) (hb:Below w.heap.size w w'):SV B p q gs t w':=⟨(hb.block _ (lO h.hq)).trans h.hq,(hb.block _ (lO h.hs)).trans h.hs,h.qB,h.gB,h.ok,h.hG⟩
theorem SV.ne [Gd] (h:SV B p q gs t w):q≠gs:=by
 intro e;have h1:=h.hq;rw [e,h.hs] at h1;simp only [oI,cI] at h1;exact absurd h1.2.1 (by decide)
theorem SV.c0 [Gd] (h:SV B p q gs t w):w.cell? ⟨q,0,none⟩=some (.slice (some ⟨gs,0,none⟩) t.st.length t.st.length):=aAc h.hq
theorem SV.c1 [Gd] (h:SV B p q gs t w):w.cell? ⟨q,1,none⟩=some (.pointer (some ⟨p,0,none⟩)):=aAc h.hq
theorem SV.c2 [Gd] (h:SV B p q gs t w):w.cell? ⟨q,2,none⟩=some (.int .i64 t.life):=aAc h.hq
theorem SV.c4 [Gd] (h:SV B p q gs t w):w.cell? ⟨q,4,none⟩=some (.int .i64 (t.root:Int)):=aAc h.hq
theorem SV.sc [Gd] (h:SV B p q gs t w) (i:Nat) (hi:i<t.st.length):w.cell? ⟨gs,i,none⟩=some (.int .u8 (t.st.getD i 0:Nat)):=by
 rw [aAc h.hs];simpa using aBc t.st i hi
def PS.set (t:PS) (i v:Nat):PS:={ t with st:=t.st.set i v }
theorem PS.set_ok (h:t.Ok) (i:Nat) {v:Nat} (hv:v<4):(t.set i v).Ok where
 sl:=by show (t.st.set i v).length<=4096;rw [List.length_set];exact h.sl
 sb:=by
  intro c hc;rcases List.mem_or_eq_of_mem_set hc with h1 | h1
  ·exact h.sb c h1
  ·omega
 nm:=h.nm
 rt:=h.rt
theorem SV.set [Gd] (h:SV B p q gs t w) (i v:Nat) (hv:v<4):SV B p q gs (t.set i v) (w.setCell ⟨gs,i,none⟩ (.int .u8 (v:Int))):=by
 refine ⟨?_,?_,h.qB,h.gB,PS.set_ok h.ok i hv,h.hG⟩
 ·rw [heap_setCell_other _ _ _ _ h.ne,h.hq];show _=some (Obj.cells (storeV gs p (t.set i v)) _ _);have e:storeV gs p (t.set i v)=storeV gs p t:=by
   show #[_,_,_,_,_]=#[_,_,_,_,_];simp only [PS.set,List.length_set]
  rw [e]
 ·rw [heap_setCell_same w gs i _ _ _ h.hs,List.setIfInBounds_toArray]
  congr 3
  show (cellsOf t.st).set i (.int .u8 (v:Int))=cellsOf (t.st.set i v);simp [cellsOf,List.map_set]
end
def PS.of (t:PS) (id:Int):Nat:=if 0<=id then t.st.getD id.toNat 0 else 0
structure Fp [Gd] (B:Nat) (w w':World):Prop where
 bel:Below B w w'
 stay:∀ (k:Nat) (cs:Array Value) (t:TypeId) (fz:Nat×Nat),w.heap[k]?=some (Obj.cells cs t fz)->t≠141->t≠349->t≠351->t≠3->t≠254->t≠259->w'.heap[k]?=some (Obj.cells cs t fz)
 gd:GdK w w'
theorem Fp.trans [Gd] {a b c:World} (h:Fp B a b) (k:Fp B b c):Fp B a c:=⟨h.bel.trans k.bel,fun i cs t fz e n1 n2 n3 n4 n5 n6=>k.stay i cs t fz (h.stay i cs t fz e n1 n2 n3 n4 n5 n6) n1 n2 n3 n4 n5 n6,h.gd.trans k.gd⟩
theorem Fp.ofFr [Gd] (f:Fr B w w'):Fp B w w':=⟨f.bel,fun i cs t fz e n1 n2 n3 n4 _ _=>f.stay i cs t fz e n1 n2 n3 n4,f.gd⟩
theorem Fp.of [Gd] (h:Below w.heap.size w w') (hB:B<=w.heap.size):Fp B w w':=Fp.ofFr (Fr.of h hB)
theorem Fp.set [Gd] {cs:Array Value} {u:Value} (hg:w.heap[g]?=some (.cells cs t (0,0))) (hB:B<=g) (ht:t=254\/t=259) (hs0:¬ Gd.s g):Fp B w (w.setCell ⟨g,o,none⟩ u):=by
 have ne:∀ {k:Nat} {cs':Array Value} {t':TypeId} {fz:Nat×Nat},w.heap[k]?=some (Obj.cells cs' t' fz)->t'≠254->t'≠259->k≠g:=by
  intro k cs' t' fz e n5 n6 e2;subst e2;rw [hg] at e;simp only [oI,cI] at e;rcases ht with h | h
  ·exact n5 (e.2.1.symm.trans h)
  ·exact n6 (e.2.1.symm.trans h)
 refine ⟨(Below.refl _ _).setCell hB u,fun k cs' t' fz e n1 n2 n3 n4 n5 n6=>?_,fun k hk hf=>heap_setCell_other _ _ _ _ (gd_ne hs0 hk)⟩
 ·rw [heap_setCell_other _ _ _ _ (ne e n5 n6),e]
section
variable {B p q gs:Nat} {t:PS} {w:World}
theorem of_any [Gd] (id:Int) (h:SV B p q gs t w) (h63:id<=9223372036854775807) :
  Calls prog 153 #[.pointer (some ⟨q,0,none⟩),.int .i64 id] w fun e w'=>e=.returned (.int .u8 (t.of id:Nat))/\w'=w:=by
 have c0:=h.c0;have sl:=h.ok.sl;have HP:Hid (t.of id=if 0<=id then t.st.getD id.toNat 0 else 0):=rfl;by_cases h0:0<=id
 ·obtain ⟨i,rfl⟩:∃ i:Nat,id=(i:Int):=⟨id.toNat,by omega⟩;rw [if_pos h0,Int.toNat_natCast] at HP;by_cases h1:i<t.st.length
  ·have sc:=h.sc i h1;have d1:¬ (i:Int)<0:=by omega
   have d2:¬ ((t.st.length:Nat):Int)<=(i:Int):=by omega
   have d3:(i:Int)<((t.st.length:Nat):Int):=by omega
   generalize t.of (i:Int)=R at *
   obtain rfl:R=_:=HP.o;clear h HP;generalize t.st.getD i 0=c at *
   generalize t.st.length=n at *
   go_enter func153,ntmps153;go_wp2;go_ret;exact ⟨rfl,rfl⟩
  ·have e:t.st.getD i 0=0:=by rw [List.getD_eq_getElem?_getD,List.getElem?_eq_none (by omega)];rfl
   rw [e] at HP;have d1:¬ (i:Int)<0:=by omega
   have d2:((t.st.length:Nat):Int)<=(i:Int):=by omega
   generalize t.of (i:Int)=R at *
   obtain rfl:R=_:=HP.o;clear h HP e;generalize t.st.length=n at *
   go_enter func153,ntmps153;go_wp2;go_ret;exact ⟨rfl,rfl⟩
 ·rw [if_neg h0] at HP;have d1:id<0:=by omega
  generalize t.of id=R at *
  obtain rfl:R=_:=HP.o;clear h HP;go_enter func153,ntmps153;go_wp2;go_ret;exact ⟨rfl,rfl⟩
theorem set_any [Gd] (i v:Nat) (h:SV B p q gs t w) (hi:i<t.st.length) (hv:v<4) :
  Calls prog 154 #[.pointer (some ⟨q,0,none⟩),.int .i64 (i:Int),.int .u8 (v:Int)] w fun e w'=>e=.returned (.tuple #[])/\SV B p q gs (t.set i v) w'/\w'=w.setCell ⟨gs,i,none⟩ (.int .u8 (v:Int)):=by
 have c0:=h.c0;have sl:=h.ok.sl;have sc:=h.sc i hi;have fz:=aAj (i:=i) h.hs;have HS:=zH (h.set i v hv);have d3:(i:Int)<((t.st.length:Nat):Int):=by omega
 clear h;generalize t.st.length=n at *
 generalize t.st.getD i 0=c at *
 go_enter func154,ntmps154;go_wp2;go_end0;exact ⟨rfl,HS.o,rfl⟩
def cntF (st:List Nat):Nat:=st.count 1
theorem cntF_take {st:List Nat} (h:k<st.length):cntF (st.take (k+1))=cntF (st.take k)+if st.getD k 0=1 then 1 else 0:=by
 rw [List.take_add_one,gE h,List.getD_eq_getElem?_getD,gE h];unfold cntF;simp only [Option.toList_some,List.count_append,Option.getD_some,List.count_singleton,beq_iff_eq]
theorem cntF_le (st:List Nat) (k:Nat):cntF (st.take k)<=k:=by
 unfold cntF;exact nT List.count_le_length (by rw [List.length_take];omega)
theorem aJ7 [Gd] (h:SV B p q gs t w) :
  Calls prog 156 #[.pointer (some ⟨q,0,none⟩)] w fun e w'=>e=.returned (.int .i64 (cntF t.st:Nat))/\w'=w:=by
 have c0:=h.c0;have hl:=h.ok.sl;have HC:=zH (fun i hi=>h.sc i hi);have HT:=zH (fun k=>cntF_take (st:=t.st) (k:=k));have HL:=zH (cntF_le t.st);have HA:Hid (t.st.take t.st.length=t.st):=List.take_length;clear h;generalize t.st=st at *
 go_enter func156,ntmps156;go_wp2;go_loopw [11,3] (fun i c wr=>∃ k:Nat,k<=st.length/\i=.int .i64 k/\c=.int .i64 (cntF (st.take k):Nat)/\wr=w) (fun i _ _=>st.length-(intOf i).toNat)
 case atStart=>exact ⟨0,by omega,rfl,rfl,rfl⟩
 case round =>
  obtain ⟨k,hk,rfl,rfl,rfl⟩:=hrel;by_cases hlt:k<st.length
  ·have cc:=HC.o k hlt;have i1:(k:Int)<((st.length:Nat):Int):=by omega
   have HE:=zH (HT.o k hlt);have hle:=HL.o k;generalize hcv:st.getD k 0=c at *
   generalize hx:cntF (st.take k)=x at *
   have xb:(x:Int)<=4096:=by omega
   by_cases h1:c=1
   ·subst h1;rw [if_pos rfl] at HE;clear hcv hlt hx hle;go_wp2;exact ⟨⟨k+1,by omega,by go_num,by rw [HE.o];rfl,trivial⟩,by simp [intOf];omega⟩
   ·rw [if_neg h1] at HE;have q1:((c:Int) == 1)=false:=by simp;omega
    clear hcv hlt hx hle h1;go_wp2;exact ⟨⟨k+1,by omega,by go_num,by rw [HE.o];rfl,trivial⟩,by simp [intOf];omega⟩
  ·obtain rfl:k=st.length:=by omega
   have i1:¬ ((st.length:Nat):Int)<((st.length:Nat):Int):=by omega
   rw [HA.o];clear hlt;go_wp2;go_ret;exact ⟨rfl,rfl⟩
end
section
variable {B p q gs:Nat} {t:PS} {w:World}
end
def newSt (n:Nat):List Nat:=(List.range n).map fun i=>if i<2 then 0 else 1
def newK (n k:Nat):List Nat:=(List.range n).map fun i=>if i<2 then 0 else if i<k then 1 else 0
theorem newK_len (n k:Nat):(newK n k).length=n:=by simp [newK]
theorem newK_next (h:k<n) (h2:2<=k):(newK n k).set k 1=newK n (k+1):=by
 apply List.ext_getElem
 ·simp [newK]
 ·intro i h1 h3;simp only [newK,List.getElem_set,List.getElem_map,List.getElem_range];by_cases e:k=i
  ·subst e;rw [if_pos rfl,if_neg (by omega),if_pos (by omega)]
  ·rw [if_neg e];by_cases c:i<2
   ·rw [if_pos c,if_pos c]
   ·rw [if_neg c,if_neg c];by_cases d:i<k
    ·rw [if_pos d,if_pos (by omega)]
    ·rw [if_neg d,if_neg (by omega)]
theorem newK_all (n:Nat):newK n n=newSt n:=by
 unfold newK newSt;apply List.map_congr_left;intro i hi;rw [List.mem_range] at hi;rw [if_pos hi]
theorem newK_two (n:Nat):newK n 2=zs n:=by
 unfold newK zs;rw [List.eq_replicate_iff];refine ⟨by simp,fun b hb=>?_⟩;simp only [List.mem_map,List.mem_range] at hb;obtain ⟨i,_,rfl⟩:=hb
 split<;>rfl
theorem made_st (n:Nat):(madeCells (Value.int .u8 0).cells (n*1)).toList=cellsOf (zs n):=aD9 n
theorem info_state:(prog.info? 259).map (fun i=>(i.zero,i.size,i.bytes))=some (some (.int .u8 0),1,1):=by kernel_rfl
theorem info_pages:(prog.info? 251).map (·.size)=some 1:=by kernel_rfl
theorem made_whole1 {xs:List Value} (h:w.ownsRow B e 1 (.slice (some ⟨g,0,none⟩) n n) n xs):w.heap[g]?=some (.cells xs.toArray e (0,0))/\B<=g:=by
 rcases h.2 with ⟨e,_⟩ | ⟨g',cap,cur,e,h1,h2,h3,h4,h5,h6⟩
 ·cases e
 ·simp only [Value.slice.injEq,oI,Addr.mk.injEq,and_true,true_and] at e;obtain ⟨rfl,rfl⟩:=e;refine ⟨?_,h1⟩;rw [h2,<-h6]
  congr 2
  apply Array.toList_inj.1;simp only;rw [List.take_of_length_le (by simp;omega)]
end Go.Proofs.YtdpdjpkmndnaaaaGreat
