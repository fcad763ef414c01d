import Derived.Laws.IdiomStrings
import Derived.Test.YtdpdjpkmndnaaaaGreatYc54
import Derived.Test.YtdpdjpkmndnaaaaGreatYc22
set_option maxRecDepth 100000
set_option maxHeartbeats 16000000
set_option linter.unusedVariables false
namespace Go.Proofs.YtdpdjpkmndnaaaaGreat
open Go.RowKit _root_.Go.Proofs.Tryz
variable {B c n:Nat} {Q:Exit->Act->World->Prop} {a:Option Addr} {ops:Array Oper} {v:Value} {w w' wr:World} {xs:List Nat}
abbrev OB (B:Nat) (w:World) (v:Value) (xs:List Nat):Prop:=w.ownsRow B 5 1 v xs.length (cellsOf xs)
def fB (n:Nat):List Value:=[.int .u8 (n:Int)]
theorem aJ4 (xs:List Nat):xs.flatMap fB=cellsOf xs:=by
 induction xs with
 | nil=>rfl
 | cons x xs ih=>rw [List.flatMap_cons,ih];rfl
theorem fB_len (n:Nat):(fB n).length=1:=rfl
theorem fB_one (n:Nat):∀ u∈fB n,u.oneCell'=true:=by intro u hu;simp only [fB,List.mem_cons,List.not_mem_nil,or_false] at hu;subst hu;rfl
theorem OB.later (h:OB B w v xs) (hb:Below w.heap.size w w'):OB B w' v xs:=aAk h hb
theorem OB.form (h:OB B w v xs):∃ a c,v=.slice a xs.length c:=by
 rcases h.2 with ⟨e,h0⟩ | ⟨g,cap,cur,e,_⟩
 ·exact ⟨none,0,by rw [e,h0]⟩
 ·exact ⟨_,_,e⟩
theorem aAw {rest:List Oper} {o:Oper} {a:Act} (hgd:o.guard=none) (s x:Operand)
  (ho:o.op=.call { callee:=.builtin .append,args:=#[s,x],argTypes:=#[97,97] })
  {B1 B2:Nat} {v u:Value} {xs ys:List Nat} (hs:a.eval s=v) (hx:a.eval x=u) (hF:OB B1 wr v xs) (hG:OB B2 wr u ys) (hB1:B1<=wr.heap.size) (hsize:xs.length+ys.length<=100000000)
  (h:∀ v' w',OB B1 w' v' (xs++ys)->Below B1 wr w'->(∀ i,i<wr.heap.size->v.ownBlock≠some i->w'.heap[i]?=wr.heap[i]?)->wpList prog ops Q rest (a.put o.dst v') w'):wpList prog ops Q (o::rest) a wr:=by
 have hF':=hF;have hG':=hG;unfold OB at hF' hG';rw [<-aJ4] at hF' hG';obtain ⟨ad,c,e,hsv⟩:=aA4 fB_len hG' rfl;subst e;refine aA6 fB_len (by omega) fB_one underlying97 aFn rfl (by omega) hgd s x ho (F:=xs) (G:=ys) hs hx hF' hsv hB1 hsize ?_;intro v' w' h1 h2 h3;refine h v' w' ?_ h2 h3;rw [aJ4] at h1;exact h1
theorem OB.ne {V:Nat} (h:OB B w v xs) {cs:Array Value} {t:TypeId} {fz:Nat×Nat} (hV:w.heap[V]?=some (.cells cs t fz)) (ht:t≠5):v.ownBlock≠some V:=by
 intro q;rcases h.2 with ⟨e,_⟩ | ⟨g,cap,cur,e,_,h6,_⟩
 ·rw [e] at q;cases q
 ·rw [e] at q;have q:g=V:=by simpa [Value.ownBlock] using q
  subst q;rw [h6] at hV;simp only [oI,cI] at hV;exact ht hV.2.1.symm
def rowE (l:List Val):Int:=if 3<l.length then 2 else if keyErr l≠0 then 62 else if l.any (fun x=>decide (8<rcn x.2.2))=true then 62 else 0
def rowB (l:List Val):List Nat:=enc l.length++keyBytes l
theorem aCd:∀ {l:List Val},keyErr l=0->∀ x∈l,x.err=0
 | [],_,x,hx=>by simp at hx
 | y::l,h,x,hx=>by
  unfold keyErr at h
  by_cases e:y.err=0
  ·rw [if_pos e] at h
   rcases List.mem_cons.1 hx with rfl | hx
   ·exact e
   ·exact aCd h x hx
  ·rw [if_neg e] at h
   exact absurd h e
theorem aA8 (x:Val) (hz:x.2.2.size<=1048576):x.bytes.length<=3145732:=by
 unfold Val.bytes
 cases hh:holdOf x.1 x.2.1 x.2.2 with
 | text s =>
  simp only [H.bytes,List.length_cons,lA,aCt,aA9]
  cases hr:runes (bl x.2.2) with
  | none=>simp
  | some rs =>
   have:=aHk hr;rw [aDz] at this;simp only [Option.getD_some];omega
 | _=>simp [H.bytes,aA9]
theorem kb_le {l:List Val} (h:∀ x∈l,x.2.2.size<=1048576):(keyBytes l).length<=l.length*3145732:=by
 unfold keyBytes
 induction l with
 | nil=>simp
 | cons y l ih =>
  have h1:=aA8 y (h y List.mem_cons_self);have h2:=ih fun x hx=>h x (List.mem_cons_of_mem _ hx)
  rw [List.flatMap_cons,lA,List.length_cons,Nat.add_mul];omega
theorem SVK.vs {l:List Val} (h:SVK fV 3 w a n c l) (hn:n<=1000) (hok:∀ x∈l,x.ok):VS w a n c l:=by
 refine ⟨h.hl,h.hc,by omega,h.hm,hok,fun b o e i hi=>?_,fun h0=>?_⟩
 ·obtain ⟨b',o',e',_,h3⟩:=h.pl (by omega);rw [e] at e';simp only [oI,Addr.mk.injEq] at e';obtain ⟨rfl,rfl,_⟩:=e';obtain ⟨x,hx⟩:∃ x,l[i]?=some x:=⟨_,gE (by rw [h.hl];exact hi)⟩;have hg:l.getD i (0,0,⟨#[]⟩)=x:=by rw [List.getD_eq_getElem?_getD,hx];rfl
  rw [hg];exact ⟨h3 i x hx 0 (by omega),h3 i x hx 1 (by omega),h3 i x hx 2 (by omega)⟩
 ·obtain ⟨b,o,e,_⟩:=h.pl h0;exact ⟨b,o,e⟩
def EncR (l:List Val) (B:Nat) (e:Ending) (w':World):Prop:=∃ v,e=.returned (.tuple #[v,.int .i64 (rowE l)])/\(rowE l=0->OB B w' v (rowB l))/\(rowE l≠0->v=.slice none 0 0)
end Go.Proofs.YtdpdjpkmndnaaaaGreat
set_option maxRecDepth 100000
set_option maxHeartbeats 16000000
set_option linter.unusedVariables false
namespace Go.Proofs.YtdpdjpkmndnaaaaGreat
open Go.RowKit _root_.Go.Proofs.Tryz
variable {B c cap cc cl g j k n rb te xc xl:Nat} {a ca xa:Option Addr} {fz:Nat×Nat} {pre rest xs:List Nat} {s:Sch} {w w':World}
def slK (s:ByteArray):List Nat:=s.data.toList.map UInt8.toNat
theorem aEo (s:ByteArray):(slK s).length=s.size:=by simp [slK]
theorem sl_ltK (s:ByteArray):∀ c∈slK s,c<256:=by
 intro c hc;simp only [slK,List.mem_map] at hc;obtain ⟨u,_,rfl⟩:=hc;exact u.toNat_lt
theorem aI6 (s:ByteArray):str (slK s)=s:=by
 apply ByteArray.ext;apply Array.toList_inj.1;rw [str,strOfNums_data,slK,List.map_map,List.map_map]
 conv=>rhs;rw [<-List.map_id s.data.toList]
 apply List.map_congr_left;intro u _;simp
theorem conv_bsK {s:ByteArray} (h:w.heap[g]?=some (.cells (bytesRow s cap) 5 fz)) (h1:s.size<=cap) (h2:cap<=9223372036854775807) (h3:s.size<=140737488355328):BS w (some ⟨g,0,none⟩) s.size cap (slK s):=by
 refine BS.of (aEo s) h1 h3 h2 (sl_ltK s) ?_;intro i hi;have hi2:i<s.data.size:=hi;rw [Nat.zero_add,cell_of_row w g i _ _ _ h,bytesRow_at s cap i hi2]
 congr 3
 simp only [slK,List.getD_eq_getElem?_getD,List.getElem?_map,Array.getElem?_toList,Array.getElem?_eq_getElem hi2,Option.map_some,Option.getD_some]
theorem conv_ok (s:ByteArray) (w:World) (h:s.size<=1000):∃ cap w',(convert 9 97 (.string s)).run prog w=.ok (.slice (some ⟨w.heap.size,0,none⟩) s.size cap) w'/\Below w.heap.size w w'/\BS w' (some ⟨w.heap.size,0,none⟩) s.size cap (slK s):=by
 refine ⟨_,_,run_bytes_of_string w 9 97 5 s underlying9 underlying97 underlying5,(Below.refl _ _).drew.alloc (nR _) _,?_⟩;have hge:=grownCap_ge w s.size 0 5;have hle:=grownCap_le_maxLen w s.size 0 5 (by unfold maxLen;omega);unfold maxLen at hle;exact conv_bsK (heap_alloc_new w.drew _) hge (by omega) (by omega)
theorem aFy (n:Nat) (w:World) (h:n<9223372036854775808):Calls prog 101 #[.int .i64 n] w fun e w'=>∃ g c,e=.returned (.slice (some ⟨g,0,none⟩) (grp n) c)/\OB w.heap.size w' (.slice (some ⟨g,0,none⟩) (grp n) c) (enc n)/\Below w.heap.size w w':=by
 refine (aHf n w h).mono ?_;rintro e w' ⟨g,c,rfl,h1,h2⟩;refine ⟨g,c,rfl,?_,h2⟩;show World.ownsRow _ _ _ _ _ _ _;rw [aAo n (aAp n h).1];exact h1
def wb (s:ByteArray):List Nat:=enc s.size++slK s
theorem wire_name (s:ByteArray) (w:World) {cap:Nat} {a:Option Addr} (h:BS w a s.size cap (slK s)) (hs:s.size<=1000):Calls prog 100 #[.slice a s.size cap] w fun e w'=>∃ g c,e=.returned (.slice (some ⟨g,0,none⟩) (grp s.size+s.size) c)/\OB w.heap.size w' (.slice (some ⟨g,0,none⟩) (grp s.size+s.size) c) (wb s)/\Below w.heap.size w w':=by
 refine (bytes_any a s.size cap (slK s) w h (by omega)).mono ?_;rintro e w' ⟨g,c,rfl,h1,h2⟩;refine ⟨g,c,rfl,?_,h2⟩;show World.ownsRow _ _ _ _ _ _ _;unfold wb;rw [lA,aAo s.size (aAp s.size (by omega)).1,aEo];exact h1
theorem aBa (n:Nat) (h:n<9223372036854775808):(enc n).length<=9:=by rw [aAo n (aAp n h).1];exact (aAp n h).2.1
theorem wb_len (s:ByteArray) (h:s.size<=8):(wb s).length<=17:=by
 unfold wb;have:=aBa s.size (by omega);rw [lA,aEo];omega
def encC (c:Col):List Nat:=wb c.1++enc c.2.1.toNat++enc c.2.2.toNat
def encX (x:Idx):List Nat:=enc x.1.toNat++enc (if x.2 then 1 else 0)
def encS (s:Sch):List Nat:=wb s.nm++enc s.cs.length++s.cs.flatMap encC++enc s.xs.length++s.xs.flatMap encX
theorem colsN_at {l:List Col}:∀ {n j:Nat} {c:Col},colsN l n=true->j<n->l[j]?=some c->colAt l j c=true
 | 0,j,c,_,hj,_=>by omega
 | n+1,j,c,h,hj,hc=>by
  have h':(colsN l n && (match l[n]? with | some c=>colAt l n c | none=>true))=true:=h
  rw [Bool.and_eq_true] at h'
  by_cases e:j=n
  ·subst e
   have:=h'.2
   rw [hc] at this
   exact this
  ·exact colsN_at h'.1 (by omega) hc
theorem ixsN_at {m:Nat} {l:List Idx}:∀ {n j:Nat} {c:Idx},ixsN m l n=true->j<n->l[j]?=some c->ixAt m l j c=true
 | 0,j,c,_,hj,_=>by omega
 | n+1,j,c,h,hj,hc=>by
  have h':(ixsN m l n && (match l[n]? with | some c=>ixAt m l n c | none=>true))=true:=h
  rw [Bool.and_eq_true] at h'
  by_cases e:j=n
  ·subst e
   have:=h'.2
   rw [hc] at this
   exact this
  ·exact ixsN_at h'.1 (by omega) hc
theorem aFj {s:ByteArray} (h:isNm s=true):s.size<=8:=by
 unfold isNm at h;simp only [Bool.and_eq_true,decide_eq_true_eq] at h;exact h.1.2
theorem isMx_num {k m:Int} (h:isMx k m=true):1<=k/\k<=3/\0<=m/\m<=8:=by
 unfold isMx at h
 split at h
 ·simp only [Bool.and_eq_true,decide_eq_true_eq] at h;omega
 ·split at h
  ·simp only [beq_iff_eq] at h;omega
  ·cases h
structure ColOk (c:Col):Prop where
 nm:c.1.size<=8
 k0:1<=c.2.1
 k1:c.2.1<=3
 m0:0<=c.2.2
 m1:c.2.2<=8
theorem Sch.parts (h:s.ok=true):s.nm.size<=8/\s.cs.length<=3/\s.xs.length<=3/\(∀ (j:Nat) c,s.cs[j]?=some c->ColOk c)/\(∀ (j:Nat) x,s.xs[j]?=some x->1<=x.1/\x.1<=3):=by
 unfold Sch.ok colsOk ixsOk at h;simp only [Bool.and_eq_true,decide_eq_true_eq] at h;obtain ⟨⟨h1,⟨h2,h3⟩,h4⟩,h5,h6⟩:=h;refine ⟨aFj h1,h3,h5,fun j c hc=>?_,fun j x hx=>?_⟩
 ·have:=colsN_at h4 (lL hc) hc;unfold colAt at this;simp only [Bool.and_eq_true] at this;have hm:=isMx_num this.1.2;exact ⟨aFj this.1.1,hm.1,hm.2.1,hm.2.2.1,hm.2.2.2⟩
 ·have:=ixsN_at h6 (lL hx) hx;unfold ixAt at this;simp only [Bool.and_eq_true,decide_eq_true_eq] at this;omega
theorem aJ5 {c:Col} (h:ColOk c):(encC c).length<=35:=by
 unfold encC;have h1:=wb_len c.1 h.nm;have h2:=aBa c.2.1.toNat (by have:=h.k1;omega);have h3:=aBa c.2.2.toNat (by have:=h.m1;omega);simp only [lA];omega
theorem encX_len {x:Idx} (h:1<=x.1/\x.1<=3):(encX x).length<=18:=by
 unfold encX;have h2:=aBa x.1.toNat (by omega);have h3:=aBa (if x.2 then 1 else 0) (by split<;>omega);simp only [lA];omega
theorem encode_no (h:SC w ca cl cc xa xl xc s) (hok:s.ok=false) :
  Calls prog 61 #[.agg #[.string s.nm,.slice ca cl cc,.slice xa xl xc]] w fun e w'=>e=.returned (.tuple #[.slice none 0 0,.int .i64 61])/\Below w.heap.size w w':=by
 have hbx:=aAe w (.cells #[.string s.nm,.slice ca cl cc,.slice xa xl xc] 33);have HR1:Hid ((w.alloc (.cells #[.string s.nm,.slice ca cl cc,.slice xa xl xc] 33)).heap[w.heap.size]?=some (.cells #[.string s.nm,.slice ca cl cc,.slice xa xl xc] 33 (0,0))):=boxed w _;have HW1:=aAb hbx;have HRT:=aAb (aF1 (h.later hbx));rw [show s.err=61 from if_neg (by rw [hok];decide)] at HRT;clear h hbx hok;go_enter func61,ntmps61;go_upto_region 1 with fail;generalize w.alloc (.cells #[.string s.nm,.slice ca cl cc,.slice xa xl xc] 33)=w1 at *
 generalize hL:w.heap.size=L at *
 have y0:w1.cell? ⟨L,0,none⟩=some (.string s.nm):=aAa HR1.o;have y1:w1.cell? ⟨L,1,none⟩=some (.slice ca cl cc):=aAa HR1.o;have y2:w1.cell? ⟨L,2,none⟩=some (.slice xa xl xc):=aAa HR1.o;go_wp2_with fail;refine HRT.o.mono ?_;rintro e w2 ⟨rfl,hb2⟩;have HW2:Hid (Below L w w2):=HW1.o.trans (hb2.mono (by have:=aAd HR1.o;omega));clear hb2 HRT;go_wp2;go_ret2;exact ⟨rfl,by first | exact HW2.o | (rw [hL];exact HW2.o)⟩
theorem aF8 {α:Type} {f:α->List Nat} {m:Nat} {l:List α} (h:∀ (j:Nat) x,l[j]?=some x->(f x).length<=m):∀ j,((l.take j).flatMap f).length<=m*j
 | 0=>by simp
 | j+1=>by
  have ih:=aF8 h j
  rw [List.take_add_one,List.flatMap_append,lA,Nat.mul_add]
  cases hx:l[j]? with
  | none =>
   show ((l.take j).flatMap f).length+0<=m*j+m*1
   omega
  | some x =>
   have h1:=h j x hx
   have e:[x].flatMap f=f x:=by simp
   show ((l.take j).flatMap f).length+([x].flatMap f).length<=m*j+m*1;rw [e];omega
theorem aFo {α:Type} {f:α->List Nat} {l:List α} {x:α} (h:l[j]?=some x):(l.take (j+1)).flatMap f=(l.take j).flatMap f++f x:=by
 rw [List.take_add_one,h,List.flatMap_append];simp
theorem encode_ok (h:SC w ca cl cc xa xl xc s) (hok:s.ok=true) :
  Calls prog 61 #[.agg #[.string s.nm,.slice ca cl cc,.slice xa xl xc]] w fun e w'=>∃ v,e=.returned (.tuple #[v,.int .i64 0])/\OB w.heap.size w' v (encS s)/\Below w.heap.size w w':=by
 have hbx:=aAe w (.cells #[.string s.nm,.slice ca cl cc,.slice xa xl xc] 33);have HR1:Hid ((w.alloc (.cells #[.string s.nm,.slice ca cl cc,.slice xa xl xc] 33)).heap[w.heap.size]?=some (.cells #[.string s.nm,.slice ca cl cc,.slice xa xl xc] 33 (0,0))):=boxed w _;have HW1:=aAb hbx;have HRT:=aAb (aF1 (h.later hbx));rw [show s.err=0 from if_pos hok] at HRT;have HPA:=aAb (Sch.parts hok);have H0:=aAb h;have HCL:=aAb h.c.hl;have HXL:=aAb h.x.hl;have HNZ:Hid (s.nm.size<=8):=HPA.o.1;have hcl3:cl<=3:=by rw [<-HCL.o];exact HPA.o.2.1
 have hxl3:xl<=3:=by rw [<-HXL.o];exact HPA.o.2.2.1
 clear h hbx hok;go_enter func61,ntmps61;go_upto_region 1 with fail;generalize w.alloc (.cells #[.string s.nm,.slice ca cl cc,.slice xa xl xc] 33)=w1 at *
 generalize hL:w.heap.size=L at *
 have y0:w1.cell? ⟨L,0,none⟩=some (.string s.nm):=aAa HR1.o;have y1:w1.cell? ⟨L,1,none⟩=some (.slice ca cl cc):=aAa HR1.o;have y2:w1.cell? ⟨L,2,none⟩=some (.slice xa xl xc):=aAa HR1.o;go_wp2_with fail;refine HRT.o.mono ?_;rintro e w2 ⟨rfl,hb2⟩;have HW2:Hid (Below L w w2):=HW1.o.trans (hb2.mono (by have:=aAd HR1.o;omega));have HR2:=aAb ((hb2.block L (aAd HR1.o)).trans HR1.o);clear hb2 HRT y0 y1 y2 HR1 HW1;have y0:w2.cell? ⟨L,0,none⟩=some (.string s.nm):=aAa HR2.o;obtain ⟨cp3,w3,hcv3,hb3,hbs3⟩:=conv_ok s.nm w2 (by have:=HNZ.o;omega);have HP4:=aAb (wire_name s.nm w3 hbs3 (by have:=HNZ.o;omega));have HR3:=aAb ((hb3.block L (aAd HR2.o)).trans HR2.o);have HW3:Hid (Below L w w3):=HW2.o.trans (hb3.mono (by have:=aAd HR2.o;omega));clear hb3 hbs3;go_wp2_with fail;refine HP4.o.mono ?_;rintro e w4 ⟨g4,c4,rfl,ho4,hb4⟩;have HO4:=aAb ho4;have HR4:=aAb ((hb4.block L (aAd HR3.o)).trans HR3.o);have HW4:Hid (Below L w w4):=HW3.o.trans (hb4.mono (by have:=aAd HR3.o;omega));have HN0:Hid (w3.heap.size<=w4.heap.size):=hb4.size;have HL0:Hid (L<w3.heap.size):=aAd HR3.o;clear ho4 hb4 HP4 hcv3 y0;generalize w3.heap.size=n0 at *
 have y1:w4.cell? ⟨L,1,none⟩=some (.slice ca cl cc):=aAa HR4.o;have HWL:=aAb (wb_len s.nm HNZ.o);have HUC:=aAb (aBa cl (by omega));have HP5:=aAb (aFy cl w4 (by omega));go_wp2_with fail;refine HP5.o.mono ?_;rintro e w5 ⟨g5,c5,rfl,ho5,hb5⟩;have HO5:=aAb ho5;have HO5':=aAb (HO4.o.later hb5);have HR5:=aAb ((hb5.block L (aAd HR4.o)).trans HR4.o);have HN5:Hid (n0<=w5.heap.size):=nT HN0.o hb5.size;have HW5:Hid (Below L w w5):=HW4.o.trans (hb5.mono (by have:=aAd HR4.o;omega));clear ho5 hb5 HP5 HO4 y1;go_upto_region 6 with (at_builtin;refine aAw rfl (.tmp 19) (.tmp 23) rfl rfl rfl HO5'.out HO5.o HN5.o (by have:=HWL.o;have:=HUC.o;omega) ?_;intro v6 w6 ho6 hb6 hk6;have HO6:=aAb ho6;have HB6:=aAb hb6;clear ho6 hb6 hk6);have HR6:=aAb ((HB6.o.block L HL0.o).trans HR5.o);have HW6:Hid (Below L w w6):=HW5.o.trans (HB6.o.mono (by have:=HL0.o;omega));have HN6:Hid (n0<=w6.heap.size):=nT HN5.o HB6.o.size;obtain ⟨a6,c6,e6⟩:=HO6.o.form;obtain ⟨P6,hP6⟩:∃ P,P=wb s.nm++enc cl:=⟨_,rfl⟩;have HP6:=aAb hP6;have HPL:Hid (P6.length<=26):=by show _<=_;rw [hP6,lA];have:=HWL.o;have:=HUC.o;omega
 rw [<-hP6] at HO6 e6;obtain ⟨k6,hk6⟩:∃ k,P6.length=k:=⟨_,rfl⟩;rw [hk6] at e6;subst e6;have HK6:=aAb hk6;have HPLC:=HPL;have HNBC:=HN6;clear hP6 hk6 HO5 HO5' HB6 HR5 HW5 HN5;have y1:w6.cell? ⟨L,1,none⟩=some (.slice ca cl cc):=aAa HR6.o;go_wp2_with fail;clear y1;go_loopg [5,28] cl (fun gh s5 s28 wx=>∃ j:Nat,j+gh=cl/\s28=.int .i64 (j:Int)/\∃ a k c P,s5=.slice a k c/\P.length=k/\P=P6++(s.cs.take j).flatMap encC/\OB n0 wx (.slice a k c) P/\Below n0 w6 wx)
 case atStart=>exact ⟨0,by omega,rfl,a6,k6,c6,P6,rfl,HK6.o,by simp,HO6.o,Below.refl _ _⟩
 case round =>
  obtain ⟨j,hj,rfl,a,k,c0,P,rfl,hPk,hP,hO,hB⟩:=hrel;have HRW:=aAb hO;have HBW:=aAb hB;have HPP:=aAb hP;have HPK:=aAb hPk;have HNW:Hid (n0<=wr.heap.size):=nT HNBC.o hB.size;have HLW:Hid (Below L w wr):=HW6.o.trans (hB.mono (by have:=HL0.o;omega));have HPZ:Hid (P.length<=300):=by
   show _<=_;rw [hP,lA];have h9:=aF8 (f:=encC) (m:=35) (l:=s.cs) (fun j c hc=>aJ5 (HPA.o.2.2.2.1 j c hc)) j;have:=HPLC.o;omega
  clear hPk hP hO hB;by_cases hjn:j<cl
  ·have xj:(j:Int)<(cl:Int):=by omega
   have xj4:(j:Int)<4:=by omega
   obtain ⟨c,hcj⟩:∃ c,s.cs[j]?=some c:=⟨_,gE (by rw [HCL.o];exact hjn)⟩;have HOKC:=aAb (HPA.o.2.2.2.1 j c hcj);have HFN:=aAb (aFo (f:=encC) hcj);have hbw:Below w.heap.size w wr:=by rw [hL];exact HLW.o
   obtain ⟨b,o,ec,hb,hcc⟩:=(H0.o.c.later hbw).pl (by omega);have y0:wr.cell? ⟨b,o+j*3,none⟩=some (.string c.1):=hcc j c hcj 0 (by omega);have y1:wr.cell? ⟨b,o+j*3+1,none⟩=some (.int .i64 c.2.1):=hcc j c hcj 1 (by omega);have y2:wr.cell? ⟨b,o+j*3+2,none⟩=some (.int .i64 c.2.2):=hcc j c hcj 2 (by omega);have HNZ:Hid (c.1.size<=8):=HOKC.o.nm;obtain ⟨kk,hkk⟩:∃ kk:Nat,c.2.1=(kk:Int):=⟨c.2.1.toNat,by have:=HOKC.o.k0;omega⟩;obtain ⟨mm,hmm⟩:∃ mm:Nat,c.2.2=(mm:Int):=⟨c.2.2.toNat,by have:=HOKC.o.m0;omega⟩;have hk8:kk<=8:=by have:=HOKC.o.k1;omega
   have hm8:mm<=8:=by have:=HOKC.o.m1;omega
   have HEC:Hid (encC c=wb c.1++enc kk++enc mm):=by show encC c=_;unfold encC;rw [hkk,hmm];rfl
   have HWL:=aAb (wb_len c.1 HNZ.o);have HU1:=aAb (aBa kk (by omega));have HU2:=aAb (aBa mm (by omega));rw [hkk] at y1;rw [hmm] at y2;clear hkk hmm;have hbk:=aAe wr (.cells #[.string c.1,.int .i64 (kk:Int),.int .i64 (mm:Int)] 93);have HV:Hid ((wr.alloc (.cells #[.string c.1,.int .i64 (kk:Int),.int .i64 (mm:Int)] 93)).heap[wr.heap.size]?=some (.cells #[.string c.1,.int .i64 (kk:Int),.int .i64 (mm:Int)] 93 (0,0))):=boxed wr _;have HOA:=aAb (HRW.o.later hbk);have HBA:Hid (Below n0 w6 (wr.alloc (.cells #[.string c.1,.int .i64 (kk:Int),.int .i64 (mm:Int)] 93))):=HBW.o.trans (hbk.mono HNW.o);have HNA:Hid (n0<=(wr.alloc (.cells #[.string c.1,.int .i64 (kk:Int),.int .i64 (mm:Int)] 93)).heap.size):=nT HNW.o hbk.size;subst ec;clear hcc hcj hbk hbw;go_upto_region 9 with fail;clear y0 y1 y2;generalize wr.alloc (.cells #[.string c.1,.int .i64 (kk:Int),.int .i64 (mm:Int)] 93)=wa at *
   generalize wr.heap.size=V at *
   have z0:wa.cell? ⟨V,0,none⟩=some (.string c.1):=aAa HV.o;obtain ⟨cp9,wc9,hcv9,hbc9,hbs9⟩:=conv_ok c.1 wa (by have:=HNZ.o;omega);have HBC9:=aAb hbc9;have HP9:=aAb (wire_name c.1 wc9 hbs9 (by have:=HNZ.o;omega));clear hbc9 hbs9;go_wp2_with fail;refine HP9.o.mono ?_;rintro e wp9 ⟨gp9,cq9,rfl,hop9,hbp9⟩;have hbx9:Below wa.heap.size wa wp9:=HBC9.o.trans (hbp9.mono HBC9.o.size);clear hcv9;have HOP9:=aAb hop9;have HR9:=aAb (HOA.o.later hbx9);have HVp9:=aAb ((hbx9.block V (aAd HV.o)).trans HV.o);have HZ9:Hid (n0<=wp9.heap.size):=nT HNA.o hbx9.size;have HY9:Hid (Below n0 w6 wp9):=HBA.o.trans (hbx9.mono HNA.o);clear hop9 hbp9 hbx9 HP9;go_upto_region 10 with (at_builtin;refine aAw rfl (.tmp 32) (.tmp 36) rfl rfl rfl HR9.o HOP9.o HZ9.o (by have:=HPZ.o;have:=HWL.o;omega) ?_;intro v9 w9 ho9 hb9 hk9;have HO9:=aAb ho9;have HB9:=aAb hb9;have HK9:=aAb hk9;clear ho9 hb9 hk9);have HVq9:=aAb ((HK9.o V (aAd HVp9.o) (HR9.o.ne HVp9.o (by decide))).trans HVp9.o);have HX9:Hid (Below n0 w6 w9):=HY9.o.trans HB9.o;have HS9:Hid (n0<=w9.heap.size):=nT HZ9.o HB9.o.size;obtain ⟨a9,c9,e9⟩:=HO9.o.form;obtain ⟨k9,hk9⟩:∃ k,(P++wb c.1).length=k:=⟨_,rfl⟩;rw [hk9] at e9;subst e9;have HKL9:=aAb hk9;clear hk9 HR9 HOP9 HB9 HK9;have z1:w9.cell? ⟨V,1,none⟩=some (.int .i64 (kk:Int)):=aAa HVq9.o;clear z0;have HP10:=aAb (aFy kk w9 (by omega));go_wp2_with fail;refine HP10.o.mono ?_;rintro e wp10 ⟨gp10,cq10,rfl,hop10,hbp10⟩;have hbx10:Below w9.heap.size w9 wp10:=hbp10;have HOP10:=aAb hop10;have HR10:=aAb (HO9.o.later hbx10);have HVq9p10:=aAb ((hbx10.block V (aAd HVq9.o)).trans HVq9.o);have HZ10:Hid (n0<=wp10.heap.size):=nT HS9.o hbx10.size;have HY10:Hid (Below n0 w6 wp10):=HX9.o.trans (hbx10.mono HS9.o);clear hop10 hbp10 hbx10 HP10;go_upto_region 11 with (at_builtin;refine aAw rfl (.tmp 38) (.tmp 41) rfl rfl rfl HR10.o HOP10.o HZ10.o (by have:=HPZ.o;have:=HWL.o;have:=HU1.o;rw [lA];omega) ?_;intro v10 w10 ho10 hb10 hk10;have HO10:=aAb ho10;have HB10:=aAb hb10;have HK10:=aAb hk10;clear ho10 hb10 hk10);have HVq9q10:=aAb ((HK10.o V (aAd HVq9p10.o) (HR10.o.ne HVq9p10.o (by decide))).trans HVq9p10.o);have HX10:Hid (Below n0 w6 w10):=HY10.o.trans HB10.o;have HS10:Hid (n0<=w10.heap.size):=nT HZ10.o HB10.o.size;obtain ⟨a10,c10,e10⟩:=HO10.o.form;obtain ⟨k10,hk10⟩:∃ k,((P++wb c.1)++enc kk).length=k:=⟨_,rfl⟩;rw [hk10] at e10;subst e10;have HKL10:=aAb hk10;clear hk10 HR10 HOP10 HB10 HK10;have z2:w10.cell? ⟨V,2,none⟩=some (.int .i64 (mm:Int)):=aAa HVq9q10.o;clear z1;have HP11:=aAb (aFy mm w10 (by omega));go_wp2_with fail;refine HP11.o.mono ?_;rintro e wp11 ⟨gp11,cq11,rfl,hop11,hbp11⟩;have hbx11:Below w10.heap.size w10 wp11:=hbp11;have HOP11:=aAb hop11;have HR11:=aAb (HO10.o.later hbx11);have HZ11:Hid (n0<=wp11.heap.size):=nT HS10.o hbx11.size;have HY11:Hid (Below n0 w6 wp11):=HX10.o.trans (hbx11.mono HS10.o);clear hop11 hbp11 hbx11 HP11;go_upto_region 12 with (at_builtin;refine aAw rfl (.tmp 43) (.tmp 46) rfl rfl rfl HR11.o HOP11.o HZ11.o (by have:=HPZ.o;have:=HWL.o;have:=HU1.o;have:=HU2.o;rw [lA,lA];omega) ?_;intro v11 w11 ho11 hb11 hk11;have HO11:=aAb ho11;have HB11:=aAb hb11;have HK11:=aAb hk11;clear ho11 hb11 hk11);have HX11:Hid (Below n0 w6 w11):=HY11.o.trans HB11.o;have HS11:Hid (n0<=w11.heap.size):=nT HZ11.o HB11.o.size;obtain ⟨a11,c11,e11⟩:=HO11.o.form;obtain ⟨k11,hk11⟩:∃ k,((P++wb c.1++enc kk)++enc mm).length=k:=⟨_,rfl⟩;rw [hk11] at e11;subst e11;have HKL11:=aAb hk11;clear hk11 HR11 HOP11 HB11 HK11;go_wp2;go_roundg (gk-1)
   case measure=>omega
   case rel=>exact ⟨j+1,by omega,rfl,a11,k11,c11,P++wb c.1++enc kk++enc mm,rfl,HKL11.o,by rw [HFN.o,HEC.o,HPP.o];simp only [List.append_assoc],HO11.o,HX11.o⟩
  ·have xj:¬ (j:Int)<(cl:Int):=by omega
   have HPE:Hid (P=P6++s.cs.flatMap encC):=by
    show P=_;rw [HPP.o,List.take_of_length_le (by rw [HCL.o];omega)]
   have HRS:=aAb ((HBW.o.block L HL0.o).trans HR6.o);have y2:wr.cell? ⟨L,2,none⟩=some (.slice xa xl xc):=aAa HRS.o;have HUX:=aAb (aBa xl (by omega));go_upto_region 13 with fail;have HP13:=aAb (aFy xl wr (by omega));go_wp2_with fail;refine HP13.o.mono ?_;rintro e wp13 ⟨gp13,cq13,rfl,hop13,hbp13⟩;have hbx13:Below wr.heap.size wr wp13:=hbp13;have HOP13:=aAb hop13;have HR13:=aAb (HRW.o.later hbx13);have HRSp13:=aAb ((hbx13.block L (aAd HRS.o)).trans HRS.o);have HZ13:Hid (n0<=wp13.heap.size):=nT HNW.o hbx13.size;have HY13:Hid (Below n0 w6 wp13):=HBW.o.trans (hbx13.mono HNW.o);clear hop13 hbp13 hbx13 HP13;go_upto_region 14 with (at_builtin;refine aAw rfl (.tmp 49) (.tmp 53) rfl rfl rfl HR13.o HOP13.o HZ13.o (by have:=HPZ.o;have:=HUX.o;omega) ?_;intro v13 w13 ho13 hb13 hk13;have HO13:=aAb ho13;have HB13:=aAb hb13;have HK13:=aAb hk13;clear ho13 hb13 hk13);have HRSq13:=aAb ((HK13.o L (aAd HRSp13.o) (HR13.o.ne HRSp13.o (by decide))).trans HRSp13.o);have HX13:Hid (Below n0 w6 w13):=HY13.o.trans HB13.o;have HS13:Hid (n0<=w13.heap.size):=nT HZ13.o HB13.o.size;obtain ⟨a13,c13,e13⟩:=HO13.o.form;obtain ⟨k13,hk13⟩:∃ k,(P++enc xl).length=k:=⟨_,rfl⟩;rw [hk13] at e13;subst e13;have HKL13:=aAb hk13;clear hk13 HR13 HOP13 HB13 HK13;obtain ⟨P13,hP13⟩:∃ P',P'=P++enc xl:=⟨_,rfl⟩;have HP13:=aAb hP13;have HPLX:Hid (P13.length<=240):=by
    show _<=_;have h9:=aF8 (f:=encC) (m:=35) (l:=s.cs) (fun j c hc=>aJ5 (HPA.o.2.2.2.1 j c hc)) j;have h8:=HPP.o;rw [hP13,lA,h8,lA];have:=HPLC.o;have:=HUX.o;omega
   rw [<-hP13] at HO13 HKL13;have HNBX:Hid (n0<=w13.heap.size):=HS13.o;have HLX:Hid (Below L w w13):=HW6.o.trans (HX13.o.mono (by have:=HL0.o;omega));have y3:w13.cell? ⟨L,2,none⟩=some (.slice xa xl xc):=aAa HRSq13.o;clear y2 hP13;go_wp2_with fail;clear y3;go_loopg [5,58] xl (fun gh s5 s58 wx=>∃ j:Nat,j+gh=xl/\s58=.int .i64 (j:Int)/\∃ a k c P,s5=.slice a k c/\P.length=k/\P=P13++(s.xs.take j).flatMap encX/\OB n0 wx (.slice a k c) P/\Below n0 w13 wx)
   case atStart=>exact ⟨0,by omega,rfl,a13,k13,c13,P13,rfl,HKL13.o,by simp,HO13.o,Below.refl _ _⟩
   case round =>
    have HPC:=HPE;clear HPE HPP HPK HRW HBW HNW HLW HPZ xj;obtain ⟨j,hj,rfl,a,k,c0,P,rfl,hPk,hP,hO,hB⟩:=hrel;have HRW:=aAb hO;have HBW:=aAb hB;have HPP:=aAb hP;have HPK:=aAb hPk;have HNW:Hid (n0<=wr.heap.size):=nT HNBX.o hB.size;have HLW:Hid (Below L w wr):=HLX.o.trans (hB.mono (by have:=HL0.o;omega));have HPZ:Hid (P.length<=300):=by
     show _<=_;rw [hP,lA];have h9:=aF8 (f:=encX) (m:=18) (l:=s.xs) (fun j c hc=>encX_len (HPA.o.2.2.2.2 j c hc)) j;have:=HPLX.o;omega
    clear hPk hP hO hB;by_cases hjn:j<xl
    ·have xj:(j:Int)<(xl:Int):=by omega
     have xj4:(j:Int)<4:=by omega
     obtain ⟨c,hcj⟩:∃ c,s.xs[j]?=some c:=⟨_,gE (by rw [HXL.o];exact hjn)⟩;have HOKC:=aAb (HPA.o.2.2.2.2 j c hcj);have HFN:=aAb (aFo (f:=encX) hcj);have hbw:Below w.heap.size w wr:=by rw [hL];exact HLW.o
     obtain ⟨b,o,ec,hb,hcc⟩:=(H0.o.x.later hbw).pl (by omega);have y0:wr.cell? ⟨b,o+j*2,none⟩=some (.int .i64 c.1):=hcc j c hcj 0 (by omega);have y1:wr.cell? ⟨b,o+j*2+1,none⟩=some (.bool c.2):=hcc j c hcj 1 (by omega);obtain ⟨kk,hkk⟩:∃ kk:Nat,c.1=(kk:Int):=⟨c.1.toNat,by have:=HOKC.o.1;omega⟩;obtain ⟨ub,hub⟩:∃ ub,c.2=ub:=⟨_,rfl⟩;have hk8:kk<=8:=by have:=HOKC.o.2;omega
     obtain ⟨mm,hmm⟩:∃ mm:Nat,mm=(if ub then 1 else 0):=⟨_,rfl⟩;have hm8:mm<=8:=by rw [hmm];split<;>omega
     have hmi:(if ub then (1:Int) else 0)=(mm:Int):=by rw [hmm];cases ub<;>rfl
     have HEC:Hid (encX c=enc kk++enc mm):=by show encX c=_;unfold encX;rw [hkk,hub,<-hmm];rfl
     have HU1:=aAb (aBa kk (by omega));have HU2:=aAb (aBa mm (by omega));have HMI:=aAb hmi;rw [hkk] at y0;rw [hub] at y1;clear hkk hub hmm hmi;have hbk:=aAe wr (.cells #[.int .i64 (kk:Int),.bool ub] 61);have HV:Hid ((wr.alloc (.cells #[.int .i64 (kk:Int),.bool ub] 61)).heap[wr.heap.size]?=some (.cells #[.int .i64 (kk:Int),.bool ub] 61 (0,0))):=boxed wr _;have HOA:=aAb (HRW.o.later hbk);have HBA:Hid (Below n0 w13 (wr.alloc (.cells #[.int .i64 (kk:Int),.bool ub] 61))):=HBW.o.trans (hbk.mono HNW.o);have HNA:Hid (n0<=(wr.alloc (.cells #[.int .i64 (kk:Int),.bool ub] 61)).heap.size):=nT HNW.o hbk.size;subst ec;clear hcc hcj hbk hbw;go_upto_region 17 with fail;clear y0 y1;generalize wr.alloc (.cells #[.int .i64 (kk:Int),.bool ub] 61)=wa at *
     generalize wr.heap.size=V at *
     have z0:wa.cell? ⟨V,0,none⟩=some (.int .i64 (kk:Int)):=aAa HV.o;have HP17:=aAb (aFy kk wa (by omega));go_wp2_with fail;refine HP17.o.mono ?_;rintro e wp17 ⟨gp17,cq17,rfl,hop17,hbp17⟩;have hbx17:Below wa.heap.size wa wp17:=hbp17;have HOP17:=aAb hop17;have HR17:=aAb (HOA.o.later hbx17);have HVp17:=aAb ((hbx17.block V (aAd HV.o)).trans HV.o);have HZ17:Hid (n0<=wp17.heap.size):=nT HNA.o hbx17.size;have HY17:Hid (Below n0 w13 wp17):=HBA.o.trans (hbx17.mono HNA.o);clear hop17 hbp17 hbx17 HP17;go_upto_region 18 with (at_builtin;refine aAw rfl (.tmp 62) (.tmp 65) rfl rfl rfl HR17.o HOP17.o HZ17.o (by have:=HPZ.o;have:=HU1.o;omega) ?_;intro v17 w17 ho17 hb17 hk17;have HO17:=aAb ho17;have HB17:=aAb hb17;have HK17:=aAb hk17;clear ho17 hb17 hk17);have HVq17:=aAb ((HK17.o V (aAd HVp17.o) (HR17.o.ne HVp17.o (by decide))).trans HVp17.o);have HX17:Hid (Below n0 w13 w17):=HY17.o.trans HB17.o;have HS17:Hid (n0<=w17.heap.size):=nT HZ17.o HB17.o.size;obtain ⟨a17,c17,e17⟩:=HO17.o.form;obtain ⟨k17,hk17⟩:∃ k,(P++enc kk).length=k:=⟨_,rfl⟩;rw [hk17] at e17;subst e17;have HKL17:=aAb hk17;clear hk17 HR17 HOP17 HB17 HK17;have z1:w17.cell? ⟨V,1,none⟩=some (.bool ub):=aAa HVq17.o;clear z0;have HBT:=aAb (bit_any ub w17);rw [HMI.o] at HBT;go_wp2_with fail;refine HBT.o.mono ?_;rintro e wt ⟨rfl,hwt⟩;have hwt:=hwt.symm;subst hwt;clear hwt HBT;have HP18:=aAb (aFy mm w17 (by omega));go_wp2_with fail;refine HP18.o.mono ?_;rintro e wp18 ⟨gp18,cq18,rfl,hop18,hbp18⟩;have hbx18:Below w17.heap.size w17 wp18:=hbp18;have HOP18:=aAb hop18;have HR18:=aAb (HO17.o.later hbx18);have HZ18:Hid (n0<=wp18.heap.size):=nT HS17.o hbx18.size;have HY18:Hid (Below n0 w13 wp18):=HX17.o.trans (hbx18.mono HS17.o);clear hop18 hbp18 hbx18 HP18;go_upto_region 19 with (at_builtin;refine aAw rfl (.tmp 67) (.tmp 71) rfl rfl rfl HR18.o HOP18.o HZ18.o (by have:=HPZ.o;have:=HU1.o;have:=HU2.o;rw [lA];omega) ?_;intro v18 w18 ho18 hb18 hk18;have HO18:=aAb ho18;have HB18:=aAb hb18;have HK18:=aAb hk18;clear ho18 hb18 hk18);have HX18:Hid (Below n0 w13 w18):=HY18.o.trans HB18.o;have HS18:Hid (n0<=w18.heap.size):=nT HZ18.o HB18.o.size;obtain ⟨a18,c18,e18⟩:=HO18.o.form;obtain ⟨k18,hk18⟩:∃ k,((P++enc kk)++enc mm).length=k:=⟨_,rfl⟩;rw [hk18] at e18;subst e18;have HKL18:=aAb hk18;clear hk18 HR18 HOP18 HB18 HK18;go_wp2;go_roundg (gk-1)
     case measure=>omega
     case rel=>exact ⟨j+1,by omega,rfl,a18,k18,c18,P++enc kk++enc mm,rfl,HKL18.o,by rw [HFN.o,HEC.o,HPP.o];simp only [List.append_assoc],HO18.o,HX18.o⟩
    ·have xj:¬ (j:Int)<(xl:Int):=by omega
     have HFULL:Hid (P=encS s):=by
      show P=_;rw [HPP.o,List.take_of_length_le (by rw [HXL.o];omega),HP13.o,HPC.o,HP6.o];unfold encS;rw [HCL.o,HXL.o]
     have HFB:Hid (Below L w wr):=HLW.o;go_wp2;go_ret2;refine ⟨.slice a k c0,rfl,?_,by first | exact HFB.o | (rw [hL];exact HFB.o)⟩;rw [<-HFULL.o]
     first | exact aFb HRW.o (by have:=HL0.o;omega) | (rw [hL];exact aFb HRW.o (by have:=HL0.o;omega))
abbrev RDR (rb:Nat) (a:Option Addr) (n c:Nat) (p:Int) (w:World):Prop:=w.heap[rb]?=some (.cells #[.slice a n c,.int .i64 p] 226 (0,0))
structure RdF (rb:Nat) (w w':World):Prop where
 bel:Below rb w w'
 oth:∀ i,i<w.heap.size->i≠rb->w'.heap[i]?=w.heap[i]?
theorem RdF.trans {w2:World} (h:RdF rb w w') (k:RdF rb w' w2):RdF rb w w2:=⟨h.bel.trans k.bel,fun i hi hn=>(k.oth i (Nat.lt_of_lt_of_le hi h.bel.size) hn).trans (h.oth i hi hn)⟩
theorem RdF.of (h:Below w.heap.size w w') (hr:rb<=w.heap.size):RdF rb w w':=⟨h.mono hr,fun i hi _=>h.block i hi⟩
theorem RdF.set (h:RdF rb w w') (i:Nat) (u:Value):RdF rb w (w'.setCell ⟨rb,i,none⟩ u):=⟨h.bel.setCell (p:=⟨rb,i,none⟩) (nR _) u,fun j hj hn=>(heap_setCell_other _ _ _ _ (show j≠rb from hn)).trans (h.oth j hj hn)⟩
theorem aIe (h:BS w a n c xs) (f:RdF rb w w') (ha:∀ b o,a=some ⟨b,o,none⟩->b≠rb):BS w' a n c xs:=by
 refine ⟨h.hlen,h.hcap,h.hroom,h.hmax,h.hbyte,h.hnil,fun x hx i hi=>?_⟩;rw [<-h.hcell x hx i hi];refine World.cell?_of_block ?_;have hl:(x.add i).block<w.heap.size:=aAm (h.hcell x hx i hi);have e:(x.add i).block=x.block:=by unfold Addr.add;split<;>rfl
 rw [e] at hl ⊢;refine f.oth _ hl fun q=>?_
 obtain ⟨b,o,sp⟩:=x;have hsp:sp=none:=by
  have:=World.cell?_spot (h.hcell _ hx 0 (by omega));simpa [Addr.add] using this
 subst hsp;exact ha b o hx q
theorem aE6 {p:Int} (h:RDR rb a n c p w) (hb:BS w a n c xs) :
  Calls prog 169 #[.pointer (some ⟨rb,0,none⟩)] w fun e w'=>e=.returned (.int .i64 (ruN xs p))/\RDR rb a n c (ruP xs p) w'/\RdF rb w w':=by
 have HR:=aAb h;have HC:=aAb (aBz a n c xs p w.drew (hb.later (Below.refl _ _).drew (nR _)));have HX:Hid ((fun wx=>wx.cell? ⟨rb,0,none⟩=some (.slice a n c)/\wx.cell? ⟨rb,1,none⟩=some (.int .i64 p)) w.drew):=⟨aAa (show w.drew.heap[rb]?=_ from h),aAa (show w.drew.heap[rb]?=_ from h)⟩;obtain ⟨rn,hrn⟩:∃ r:Nat,ruN xs p=r:=⟨_,rfl⟩;obtain ⟨rp,hrp⟩:∃ r:Nat,ruP xs p=r:=⟨_,rfl⟩;rw [hrn,hrp] at HC ⊢;clear h hb hrn hrp;go_enter func169,ntmps169;go_upto_region 1 with fail;refine wp_region_noPanic ?_;refine wp_region_held_drew (S:=fun wx=>wx.cell? ⟨rb,0,none⟩=some (.slice a n c)/\wx.cell? ⟨rb,1,none⟩=some (.int .i64 p)) (by kernel_rfl) HX.o (fun hHeld=>?_);refine aAf (i:=0) (d:=7) (v:=?va0) (by kernel_rfl) (by kernel_rfl) (by kernel_rfl) (by kernel_rfl) (fun _ _ _ h=>h) ?hya0 (by assumption) ?resta0
 case hya0 =>
  intro oi ho;simp only [tG,zG,oI] at ho;subst ho;refine Or.inl ⟨by rfl,?_⟩;intro wx hSw
  try dsimp only at hSw
  obtain ⟨hs1,hs2⟩:=hSw;go_simp
  try rfl
 try simp only [Act.put,siT,scZ,scS]
 refine aAf (i:=1) (d:=8) (v:=?va1) (by kernel_rfl) (by kernel_rfl) (by kernel_rfl) (by kernel_rfl) (fun _ _ _ h=>h) ?hya1 (by assumption) ?resta1
 case hya1 =>
  intro oi ho;simp only [tG,sG,zG,oI] at ho;subst ho;refine Or.inl ⟨by rfl,?_⟩;intro wx hSw
  try dsimp only at hSw
  obtain ⟨hs1,hs2⟩:=hSw;go_simp
  try rfl
 try simp only [Act.put,siT,scZ,scS]
 refine aAf (i:=2) (d:=9) (v:=?va2) (by kernel_rfl) (by kernel_rfl) (by kernel_rfl) (by kernel_rfl) (fun _ _ _ h=>h) ?hya2 (by assumption) ?resta2
 case hya2 =>
  intro oi ho;simp only [tG,sG,zG,oI] at ho;subst ho;refine Or.inl ⟨by rfl,?_⟩;intro wx hSw
  try dsimp only at hSw
  obtain ⟨hs1,hs2⟩:=hSw;go_simp
  try rfl
 try simp only [Act.put,siT,scZ,scS]
 refine aAf (i:=3) (d:=10) (v:=?va3) (by kernel_rfl) (by kernel_rfl) (by kernel_rfl) (by kernel_rfl) (fun _ _ _ h=>h) ?hya3 (by assumption) ?resta3
 case hya3 =>
  intro oi ho;simp only [tG,sG,zG,oI] at ho;subst ho;refine Or.inl ⟨by rfl,?_⟩;intro wx hSw
  try dsimp only at hSw
  obtain ⟨hs1,hs2⟩:=hSw;go_simp
  try rfl
 try simp only [Act.put,siT,scZ,scS]
 refine aAf (i:=4) (d:=11) (v:=?va4) (by kernel_rfl) (by kernel_rfl) (by kernel_rfl) (by kernel_rfl) (fun _ _ _ h=>h) ?hya4 (by assumption) ?resta4
 case hya4 =>
  intro oi ho;simp only [tG,sG,zG,oI] at ho;subst ho;refine Or.inl ⟨by rfl,?_⟩;intro wx hSw
  try dsimp only at hSw
  obtain ⟨hs1,hs2⟩:=hSw;go_simp
  try rfl
 try simp only [Act.put,siT,scZ,scS]
 refine aAf (i:=5) (d:=12) (v:=?va5) (by kernel_rfl) (by kernel_rfl) (by kernel_rfl) (by kernel_rfl) (fun _ _ _ h=>h) ?hya5 (by assumption) ?resta5
 case hya5 =>
  intro oi ho;simp only [tG,sG,zG,oI] at ho;subst ho;refine Or.inl ⟨by rfl,?_⟩;intro wx hSw
  try dsimp only at hSw
  obtain ⟨hs1,hs2⟩:=hSw;go_simp
  try rfl
 try simp only [Act.put,siT,scZ,scS]
 refine aAf (i:=6) (d:=13) (v:=?va6) (by kernel_rfl) (by kernel_rfl) (by kernel_rfl) (by kernel_rfl) (fun _ _ _ h=>h) ?hya6 (by assumption) ?resta6
 case hya6 =>
  intro oi ho;simp only [tG,sG,zG,oI] at ho;subst ho;refine Or.inl ⟨by rfl,?_⟩;intro wx hSw
  try dsimp only at hSw
  obtain ⟨hs1,hs2⟩:=hSw;go_simp
  try rfl
 try simp only [Act.put,siT,scZ,scS]
 refine aAf (i:=7) (d:=14) (v:=?va7) (by kernel_rfl) (by kernel_rfl) (by kernel_rfl) (by kernel_rfl) (fun _ _ _ h=>h) ?hya7 (by assumption) ?resta7
 case hya7 =>
  intro oi ho;simp only [tG,sG,zG,oI] at ho;subst ho;refine Or.inl ⟨by rfl,?_⟩;intro wx hSw
  try dsimp only at hSw
  obtain ⟨hs1,hs2⟩:=hSw;go_simp
  try rfl
 try simp only [Act.put,siT,scZ,scS]
 refine kC 8 ?_;intro K hK;go_simp;refine HC.o.mono ?_;rintro e w2 ⟨rfl,hw2⟩;subst hw2;refine hK.out _ _ HX.o (fun hHeld=>?_);clear hK K
 try simp only [Act.put,siT,scZ,scS]
 refine aAf (i:=9) (d:=6) (v:=?vb9) (by kernel_rfl) (by kernel_rfl) (by kernel_rfl) (by kernel_rfl) (fun _ _ _ h=>h) ?hyb9 (by assumption) ?restb9
 case hyb9 =>
  intro oi ho;simp only [tG,sG,zG,oI] at ho;subst ho;refine Or.inl ⟨by rfl,?_⟩;intro wx hSw
  try dsimp only at hSw
  obtain ⟨hs1,hs2⟩:=hSw;go_simp
  try rfl
 try simp only [Act.put,siT,scZ,scS]
 refine aAf (i:=10) (d:=16) (v:=?vb10) (by kernel_rfl) (by kernel_rfl) (by kernel_rfl) (by kernel_rfl) (fun _ _ _ h=>h) ?hyb10 (by assumption) ?restb10
 case hyb10 =>
  intro oi ho;simp only [tG,sG,zG,oI] at ho;subst ho;refine Or.inl ⟨by rfl,?_⟩;intro wx hSw
  try dsimp only at hSw
  obtain ⟨hs1,hs2⟩:=hSw;go_simp
  try rfl
 try simp only [Act.put,siT,scZ,scS]
 refine aAf (i:=11) (d:=17) (v:=?vb11) (by kernel_rfl) (by kernel_rfl) (by kernel_rfl) (by kernel_rfl) (fun _ _ _ h=>h) ?hyb11 (by assumption) ?restb11
 case hyb11 =>
  intro oi ho;simp only [tG,sG,zG,oI] at ho;subst ho;refine Or.inl ⟨by rfl,?_⟩;intro wx hSw
  try dsimp only at hSw
  obtain ⟨hs1,hs2⟩:=hSw;go_simp
  try rfl
 try simp only [Act.put,siT,scZ,scS]
 refine aAf (i:=12) (d:=18) (v:=?vb12) (by kernel_rfl) (by kernel_rfl) (by kernel_rfl) (by kernel_rfl) (fun _ _ _ h=>h) ?hyb12 (by assumption) ?restb12
 case hyb12 =>
  intro oi ho;simp only [tG,sG,zG,oI] at ho;subst ho;refine Or.inl ⟨by rfl,?_⟩;intro wx hSw
  try dsimp only at hSw
  obtain ⟨hs1,hs2⟩:=hSw;go_simp
  try rfl
 try simp only [Act.put,siT,scZ,scS]
 refine aAf (i:=13) (d:=3) (v:=?vb13) (by kernel_rfl) (by kernel_rfl) (by kernel_rfl) (by kernel_rfl) (fun _ _ _ h=>h) ?hyb13 (by assumption) ?restb13
 case hyb13 =>
  intro oi ho;simp only [tG,sG,zG,oI] at ho;subst ho;refine Or.inl ⟨by rfl,?_⟩;intro wx hSw
  try dsimp only at hSw
  obtain ⟨hs1,hs2⟩:=hSw;go_simp
  try rfl
 try simp only [Act.put,siT,scZ,scS]
 refine aAf (i:=14) (d:=4) (v:=?vb14) (by kernel_rfl) (by kernel_rfl) (by kernel_rfl) (by kernel_rfl) (fun _ _ _ h=>h) ?hyb14 (by assumption) ?restb14
 case hyb14 =>
  intro oi ho;simp only [tG,sG,zG,oI] at ho;subst ho;refine Or.inl ⟨by rfl,?_⟩;intro wx hSw
  try dsimp only at hSw
  obtain ⟨hs1,hs2⟩:=hSw;go_simp
  try rfl
 try simp only [Act.put,siT,scZ,scS]
 refine aAf (i:=15) (d:=5) (v:=?vb15) (by kernel_rfl) (by kernel_rfl) (by kernel_rfl) (by kernel_rfl) (fun _ _ _ h=>h) ?hyb15 (by assumption) ?restb15
 case hyb15 =>
  intro oi ho;simp only [tG,sG,zG,oI] at ho;subst ho;refine Or.inl ⟨by rfl,?_⟩;intro wx hSw
  try dsimp only at hSw
  obtain ⟨hs1,hs2⟩:=hSw;go_simp
  try rfl
 try simp only [Act.put,siT,scZ,scS]
 refine wpAnyH_done (by kernel_rfl) ?_ _;refine NoPanic.normal ?_;have y1:w.drew.cell? ⟨rb,1,none⟩=some (.int .i64 p):=HX.o.2;have yf:w.drew.frozen? ⟨rb,1,none⟩=false:=aAg (show w.drew.heap[rb]?=_ from HR.o);have y1':w.cell? ⟨rb,1,none⟩=some (.int .i64 p):=aAa HR.o;have yf':w.frozen? ⟨rb,1,none⟩=false:=aAg HR.o;clear hHeld;go_wp2;go_ret;refine ⟨rfl,heap_setCell_same _ _ _ _ _ _ (show _ from HR.o),?_⟩;exact (RdF.of (Below.refl _ _).drew (by have:=aAd HR.o;omega)).set 1 _
theorem aIu {p:Int} (h:RDR rb a n c p w) (hb:BS w a n c xs) :
  Calls prog 168 #[.pointer (some ⟨rb,0,none⟩),.int .i64 3] w fun e w'=>e=.returned (.int .i64 ((min (ruN xs p) 3:Nat):Int))/\RDR rb a n c (ruP xs p) w'/\RdF rb w w':=by
 have HC:=aAb (aE6 h hb);obtain ⟨rn,hrn⟩:∃ r:Nat,ruN xs p=r:=⟨_,rfl⟩;obtain ⟨rp,hrp⟩:∃ r:Nat,ruP xs p=r:=⟨_,rfl⟩;rw [hrn,hrp] at HC ⊢;obtain ⟨m,hm⟩:∃ m,m=min rn 3:=⟨_,rfl⟩;rw [<-hm];have em:min (rn:Int) 3=(m:Int):=by omega
 have em':(if (3:Int)<(rn:Int) then (3:Int) else (rn:Int))=(m:Int):=by split<;>omega
 clear h hb hrn hrp hm;go_enter func168,ntmps168;go_wp2_with fail;refine HC.o.mono ?_;rintro e w1 ⟨rfl,h1,h2⟩;have H1:=aAb h1;have H2:=aAb h2;clear h1 h2 HC;go_wp2;go_ret;exact ⟨rfl,H1.o,H2.o⟩
theorem readB {p:Int} (h:BS w a n c xs) :
  Calls prog 206 #[.slice a n c,.int .i64 p,.int .i64 8] w fun e w'=>∃ va vn vc e2,e=.returned (.tuple #[.slice va vn vc,.int .i64 (rbP xs p 8),.int .i64 e2])/\BS w' va vn vc (rbS xs p 8)/\(∀ b o,va=some ⟨b,o,none⟩->w.heap.size<=b)/\Below w.heap.size w w':=by
 by_cases he:rbE xs p 8=0
 ·refine (aGg a n c xs p 8 w h he).mono ?_;rintro e w' ⟨g,m,rfl,h1,h2,_,h4⟩;refine ⟨_,_,_,_,rfl,h2,fun b o q=>?_,h4⟩;simp only [oI,Addr.mk.injEq] at q;omega
 ·refine (readBytes_no a n c xs p 8 w h he).mono ?_;rintro e w' ⟨rfl,hw⟩;subst hw;refine ⟨none,0,0,_,by unfold rbP;rw [if_neg he];rfl,?_,(fun b o q=>by cases q),Below.refl _ _⟩;unfold rbS;rw [if_neg he];exact BS.none _ _ _ (by omega) (fun _=>rfl)
theorem rname_any {p:Int} (h:RDR rb a n c p w) (hb:BS w a n c xs) :
  Calls prog 167 #[.pointer (some ⟨rb,0,none⟩)] w fun e w'=>e=.returned (.string (str (rbS xs p 8)))/\RDR rb a n c (rbP xs p 8) w'/\RdF rb w w':=by
 have HR:=aAb h;have HC:=aAb (readB (p:=p) (hb.later (w':=w.drew) (Below.refl _ _).drew (nR _)));have HX:Hid ((fun wx=>wx.cell? ⟨rb,0,none⟩=some (.slice a n c)/\wx.cell? ⟨rb,1,none⟩=some (.int .i64 p)) w.drew):=⟨aAa (show w.drew.heap[rb]?=_ from h),aAa (show w.drew.heap[rb]?=_ from h)⟩;obtain ⟨rp,hrp⟩:∃ r:Nat,rbP xs p 8=r:=⟨_,rfl⟩;obtain ⟨rs,hrs⟩:∃ r,rbS xs p 8=r:=⟨_,rfl⟩;rw [hrp,hrs] at HC ⊢;clear h hb hrp hrs;go_enter func167,ntmps167;go_upto_region 1 with fail;refine wp_region_noPanic ?_;refine wp_region_held_drew (S:=fun wx=>wx.cell? ⟨rb,0,none⟩=some (.slice a n c)/\wx.cell? ⟨rb,1,none⟩=some (.int .i64 p)) (by kernel_rfl) HX.o (fun hHeld=>?_);refine aAf (i:=0) (d:=7) (v:=?va0) (by kernel_rfl) (by kernel_rfl) (by kernel_rfl) (by kernel_rfl) (fun _ _ _ h=>h) ?hya0 (by assumption) ?resta0
 case hya0 =>
  intro oi ho;simp only [tG,zG,oI] at ho;subst ho;refine Or.inl ⟨by rfl,?_⟩;intro wx hSw
  try dsimp only at hSw
  obtain ⟨hs1,hs2⟩:=hSw;go_simp
  try rfl
 try simp only [Act.put,siT,scZ,scS]
 refine aAf (i:=1) (d:=8) (v:=?va1) (by kernel_rfl) (by kernel_rfl) (by kernel_rfl) (by kernel_rfl) (fun _ _ _ h=>h) ?hya1 (by assumption) ?resta1
 case hya1 =>
  intro oi ho;simp only [tG,sG,zG,oI] at ho;subst ho;refine Or.inl ⟨by rfl,?_⟩;intro wx hSw
  try dsimp only at hSw
  obtain ⟨hs1,hs2⟩:=hSw;go_simp
  try rfl
 try simp only [Act.put,siT,scZ,scS]
 refine aAf (i:=2) (d:=9) (v:=?va2) (by kernel_rfl) (by kernel_rfl) (by kernel_rfl) (by kernel_rfl) (fun _ _ _ h=>h) ?hya2 (by assumption) ?resta2
 case hya2 =>
  intro oi ho;simp only [tG,sG,zG,oI] at ho;subst ho;refine Or.inl ⟨by rfl,?_⟩;intro wx hSw
  try dsimp only at hSw
  obtain ⟨hs1,hs2⟩:=hSw;go_simp
  try rfl
 try simp only [Act.put,siT,scZ,scS]
 refine aAf (i:=3) (d:=10) (v:=?va3) (by kernel_rfl) (by kernel_rfl) (by kernel_rfl) (by kernel_rfl) (fun _ _ _ h=>h) ?hya3 (by assumption) ?resta3
 case hya3 =>
  intro oi ho;simp only [tG,sG,zG,oI] at ho;subst ho;refine Or.inl ⟨by rfl,?_⟩;intro wx hSw
  try dsimp only at hSw
  obtain ⟨hs1,hs2⟩:=hSw;go_simp
  try rfl
 try simp only [Act.put,siT,scZ,scS]
 refine aAf (i:=4) (d:=11) (v:=?va4) (by kernel_rfl) (by kernel_rfl) (by kernel_rfl) (by kernel_rfl) (fun _ _ _ h=>h) ?hya4 (by assumption) ?resta4
 case hya4 =>
  intro oi ho;simp only [tG,sG,zG,oI] at ho;subst ho;refine Or.inl ⟨by rfl,?_⟩;intro wx hSw
  try dsimp only at hSw
  obtain ⟨hs1,hs2⟩:=hSw;go_simp
  try rfl
 try simp only [Act.put,siT,scZ,scS]
 refine aAf (i:=5) (d:=12) (v:=?va5) (by kernel_rfl) (by kernel_rfl) (by kernel_rfl) (by kernel_rfl) (fun _ _ _ h=>h) ?hya5 (by assumption) ?resta5
 case hya5 =>
  intro oi ho;simp only [tG,sG,zG,oI] at ho;subst ho;refine Or.inl ⟨by rfl,?_⟩;intro wx hSw
  try dsimp only at hSw
  obtain ⟨hs1,hs2⟩:=hSw;go_simp
  try rfl
 try simp only [Act.put,siT,scZ,scS]
 refine aAf (i:=6) (d:=13) (v:=?va6) (by kernel_rfl) (by kernel_rfl) (by kernel_rfl) (by kernel_rfl) (fun _ _ _ h=>h) ?hya6 (by assumption) ?resta6
 case hya6 =>
  intro oi ho;simp only [tG,sG,zG,oI] at ho;subst ho;refine Or.inl ⟨by rfl,?_⟩;intro wx hSw
  try dsimp only at hSw
  obtain ⟨hs1,hs2⟩:=hSw;go_simp
  try rfl
 try simp only [Act.put,siT,scZ,scS]
 refine aAf (i:=7) (d:=14) (v:=?va7) (by kernel_rfl) (by kernel_rfl) (by kernel_rfl) (by kernel_rfl) (fun _ _ _ h=>h) ?hya7 (by assumption) ?resta7
 case hya7 =>
  intro oi ho;simp only [tG,sG,zG,oI] at ho;subst ho;refine Or.inl ⟨by rfl,?_⟩;intro wx hSw
  try dsimp only at hSw
  obtain ⟨hs1,hs2⟩:=hSw;go_simp
  try rfl
 try simp only [Act.put,siT,scZ,scS]
 refine kC 8 ?_;intro K hK;go_simp;refine HC.o.mono ?_;rintro e w2 ⟨va,vn,vc,e2,rfl,hbs2,hge2,hb2⟩;have HGE:=aAb hge2;have hb2:Below w.heap.size w w2:=⟨hb2.os,hb2.tape,hb2.output,hb2.size,hb2.block⟩;have HBS:=aAb hbs2;have HB2:=aAb hb2;have hX2:w2.cell? ⟨rb,0,none⟩=some (.slice a n c)/\w2.cell? ⟨rb,1,none⟩=some (.int .i64 p):=⟨(hb2.cell (aAd HR.o)).trans (aAa HR.o),(hb2.cell (aAd HR.o)).trans (aAa HR.o)⟩;clear hbs2 hb2 hHeld hge2;refine hK.out _ _ hX2 (fun hHeld=>?_);clear hX2;clear hK K
 try simp only [Act.put,siT,scZ,scS]
 refine aAf (i:=9) (d:=6) (v:=?vb9) (by kernel_rfl) (by kernel_rfl) (by kernel_rfl) (by kernel_rfl) (fun _ _ _ h=>h) ?hyb9 (by assumption) ?restb9
 case hyb9 =>
  intro oi ho;simp only [tG,sG,zG,oI] at ho;subst ho;refine Or.inl ⟨by rfl,?_⟩;intro wx hSw
  try dsimp only at hSw
  obtain ⟨hs1,hs2⟩:=hSw;go_simp
  try rfl
 try simp only [Act.put,siT,scZ,scS]
 refine aAf (i:=10) (d:=16) (v:=?vb10) (by kernel_rfl) (by kernel_rfl) (by kernel_rfl) (by kernel_rfl) (fun _ _ _ h=>h) ?hyb10 (by assumption) ?restb10
 case hyb10 =>
  intro oi ho;simp only [tG,sG,zG,oI] at ho;subst ho;refine Or.inl ⟨by rfl,?_⟩;intro wx hSw
  try dsimp only at hSw
  obtain ⟨hs1,hs2⟩:=hSw;go_simp
  try rfl
 try simp only [Act.put,siT,scZ,scS]
 refine aAf (i:=11) (d:=17) (v:=?vb11) (by kernel_rfl) (by kernel_rfl) (by kernel_rfl) (by kernel_rfl) (fun _ _ _ h=>h) ?hyb11 (by assumption) ?restb11
 case hyb11 =>
  intro oi ho;simp only [tG,sG,zG,oI] at ho;subst ho;refine Or.inl ⟨by rfl,?_⟩;intro wx hSw
  try dsimp only at hSw
  obtain ⟨hs1,hs2⟩:=hSw;go_simp
  try rfl
 try simp only [Act.put,siT,scZ,scS]
 refine aAf (i:=12) (d:=18) (v:=?vb12) (by kernel_rfl) (by kernel_rfl) (by kernel_rfl) (by kernel_rfl) (fun _ _ _ h=>h) ?hyb12 (by assumption) ?restb12
 case hyb12 =>
  intro oi ho;simp only [tG,sG,zG,oI] at ho;subst ho;refine Or.inl ⟨by rfl,?_⟩;intro wx hSw
  try dsimp only at hSw
  obtain ⟨hs1,hs2⟩:=hSw;go_simp
  try rfl
 try simp only [Act.put,siT,scZ,scS]
 refine aAf (i:=13) (d:=3) (v:=?vb13) (by kernel_rfl) (by kernel_rfl) (by kernel_rfl) (by kernel_rfl) (fun _ _ _ h=>h) ?hyb13 (by assumption) ?restb13
 case hyb13 =>
  intro oi ho;simp only [tG,sG,zG,oI] at ho;subst ho;refine Or.inl ⟨by rfl,?_⟩;intro wx hSw
  try dsimp only at hSw
  obtain ⟨hs1,hs2⟩:=hSw;go_simp
  try rfl
 try simp only [Act.put,siT,scZ,scS]
 refine aAf (i:=14) (d:=4) (v:=?vb14) (by kernel_rfl) (by kernel_rfl) (by kernel_rfl) (by kernel_rfl) (fun _ _ _ h=>h) ?hyb14 (by assumption) ?restb14
 case hyb14 =>
  intro oi ho;simp only [tG,sG,zG,oI] at ho;subst ho;refine Or.inl ⟨by rfl,?_⟩;intro wx hSw
  try dsimp only at hSw
  obtain ⟨hs1,hs2⟩:=hSw;go_simp
  try rfl
 try simp only [Act.put,siT,scZ,scS]
 refine aAf (i:=15) (d:=5) (v:=?vb15) (by kernel_rfl) (by kernel_rfl) (by kernel_rfl) (by kernel_rfl) (fun _ _ _ h=>h) ?hyb15 (by assumption) ?restb15
 case hyb15 =>
  intro oi ho;simp only [tG,sG,zG,oI] at ho;subst ho;refine Or.inl ⟨by rfl,?_⟩;intro wx hSw
  try dsimp only at hSw
  obtain ⟨hs1,hs2⟩:=hSw;go_simp
  try rfl
 try simp only [Act.put,siT,scZ,scS]
 refine wpAnyH_done (by kernel_rfl) ?_ _;refine NoPanic.normal ?_;have HR2:=aAb ((HB2.o.block rb (aAd HR.o)).trans HR.o);have y1:w2.cell? ⟨rb,1,none⟩=some (.int .i64 p):=aAa HR2.o;have yf:w2.frozen? ⟨rb,1,none⟩=false:=aAg HR2.o;have HF2:Hid (RdF rb w2 (w2.setCell ⟨rb,1,none⟩ (.int .i64 (rp:Int)))):=(RdF.of (Below.refl _ _) (by have:=aAd HR2.o;omega)).set 1 _;have hcv:(convert 97 9 (.slice va vn vc)).run prog (w2.setCell ⟨rb,1,none⟩ (.int .i64 (rp:Int)))=.ok (.string (str rs)) (w2.setCell ⟨rb,1,none⟩ (.int .i64 (rp:Int))):=run_text (aIe HBS.o HF2.o fun b o q=>by have h8:w.heap.size<=b:=HGE.o b o q;have:=aAd HR.o;omega);have HR3:Hid (RDR rb a n c (rp:Int) (w2.setCell ⟨rb,1,none⟩ (.int .i64 (rp:Int)))):=heap_setCell_same _ _ _ _ _ _ HR2.o;clear hHeld;go_wp2;go_ret;exact ⟨rfl,HR3.o,(RdF.of HB2.o (by have:=aAd HR.o;omega)).trans HF2.o⟩
theorem aGh (hn:n<9223372036854775808):ruN (pre++(enc n++rest)) (pre.length:Int)=n/\ruP (pre++(enc n++rest)) (pre.length:Int)=pre.length+(enc n).length/\ruE (pre++(enc n++rest)) (pre.length:Int)=0:=by
 have h:=rd_enc n hn pre rest;have hc:(0:Int)<=(pre.length:Int)/\(pre.length:Int)<=((pre++(enc n++rest)).length:Int):=by
  constructor
  ·omega
  ·rw [lA];omega
 have ht:((pre.length:Nat):Int).toNat=pre.length:=rfl;refine ⟨?_,?_,?_⟩
 ·unfold ruN;rw [if_pos hc,ht,h]
 ·unfold ruP;rw [if_pos hc,ht];unfold rdNext;rw [h,if_pos rfl,aAo n (aAp n hn).1]
 ·unfold ruE;rw [if_pos hc,ht,h]
theorem rd_name {s:ByteArray} (hs:s.size<=8):rbS (pre++(wb s++rest)) (pre.length:Int) 8=slK s/\rbP (pre++(wb s++rest)) (pre.length:Int) 8=pre.length+(wb s).length:=by
 have e:pre++(wb s++rest)=pre++(enc s.size++(slK s++rest)):=by unfold wb;simp only [List.append_assoc]
 obtain ⟨h1,h2,h3⟩:=aGh (pre:=pre) (rest:=slK s++rest) (n:=s.size) (by omega);rw [<-e] at h1 h2 h3;have hl:(pre++(wb s++rest)).length=pre.length+(enc s.size).length+s.size+rest.length:=by
  rw [e];simp only [lA,aEo];omega
 have he:rbE (pre++(wb s++rest)) (pre.length:Int) 8=0:=by
  unfold rbE;rw [if_neg (by rw [h3];simp),if_neg (by decide),if_neg (by rw [h1];omega),if_neg (by rw [h1,h2,hl];omega)]
 constructor
 ·unfold rbS;rw [if_pos he,h1,h2,e];rw [show pre++(enc s.size++(slK s++rest))=(pre++enc s.size)++(slK s++rest) from by simp only [List.append_assoc],<-lA,List.drop_left,<-aEo s,List.take_left]
 ·unfold rbP;rw [if_pos he,h1,h2];unfold wb;rw [lA,aEo];omega
def z1:Col:=(⟨#[]⟩,0,0)
def zx:Idx:=(0,false)
theorem mcol0:(madeCells (Value.agg #[.string ⟨#[]⟩,.int .i64 0,.int .i64 0]).cells (0*3)).toList=(List.replicate 0 z1).flatMap fC:=by kernel_rfl
theorem mcol1:(madeCells (Value.agg #[.string ⟨#[]⟩,.int .i64 0,.int .i64 0]).cells (1*3)).toList=(List.replicate 1 z1).flatMap fC:=by kernel_rfl
theorem mcol2:(madeCells (Value.agg #[.string ⟨#[]⟩,.int .i64 0,.int .i64 0]).cells (2*3)).toList=(List.replicate 2 z1).flatMap fC:=by kernel_rfl
theorem mcol3:(madeCells (Value.agg #[.string ⟨#[]⟩,.int .i64 0,.int .i64 0]).cells (3*3)).toList=(List.replicate 3 z1).flatMap fC:=by kernel_rfl
theorem mix0:(madeCells (Value.agg #[.int .i64 0,.bool false]).cells (0*2)).toList=(List.replicate 0 zx).flatMap fX:=by kernel_rfl
theorem mix1:(madeCells (Value.agg #[.int .i64 0,.bool false]).cells (1*2)).toList=(List.replicate 1 zx).flatMap fX:=by kernel_rfl
theorem mix2:(madeCells (Value.agg #[.int .i64 0,.bool false]).cells (2*2)).toList=(List.replicate 2 zx).flatMap fX:=by kernel_rfl
theorem mix3:(madeCells (Value.agg #[.int .i64 0,.bool false]).cells (3*2)).toList=(List.replicate 3 zx).flatMap fX:=by kernel_rfl
theorem made_col (h:n<=3):(madeCells (Value.agg #[.string ⟨#[]⟩,.int .i64 0,.int .i64 0]).cells (n*3)).toList=(List.replicate n z1).flatMap fC:=by
 have:n=0\/n=1\/n=2\/n=3:=by omega
 rcases this with rfl | rfl | rfl | rfl
 ·exact mcol0
 ·exact mcol1
 ·exact mcol2
 ·exact mcol3
theorem made_ix (h:n<=3):(madeCells (Value.agg #[.int .i64 0,.bool false]).cells (n*2)).toList=(List.replicate n zx).flatMap fX:=by
 have:n=0\/n=1\/n=2\/n=3:=by omega
 rcases this with rfl | rfl | rfl | rfl
 ·exact mix0
 ·exact mix1
 ·exact mix2
 ·exact mix3
theorem aGi {xs:List Value} (h:w.ownsRow B te k (.slice (some ⟨g,0,none⟩) n c) n xs) (f:RdF rb w w') (hg:g≠rb):w'.ownsRow B te k (.slice (some ⟨g,0,none⟩) n c) n xs:=by
 refine ⟨h.1,?_⟩;rcases h.2 with ⟨e,_⟩ | ⟨g',cap',cur,e,h5,h6,h7⟩
 ·cases e
 ·simp only [Value.slice.injEq,oI,Addr.mk.injEq] at e;obtain ⟨⟨rfl,_,_⟩,_,rfl⟩:=e;exact Or.inr ⟨g,c,cur,rfl,h5,(f.oth g (aAd h6) hg).trans h6,h7⟩
theorem aCc {α:Type} {f:α->List Value} (hk:∀ x,(f x).length=k) {B te n g c i:Nat} {w:World} {l:List α} {x:α} (h:w.ownsRow B te k (.slice (some ⟨g,0,none⟩) n c) n (l.flatMap f)) (hi:l[i]?=some x):∃ cur,w.heap[g]?=some (.cells cur te (0,0))/\∀ t,t<k->w.cell? ⟨g,i*k+t,none⟩=(f x)[t]?:=by
 rcases h.2 with ⟨e,_⟩ | ⟨g',cap',cur,e,h5,h6,h7,h8,h9,h10⟩
 ·cases e
 ·simp only [Value.slice.injEq,oI,Addr.mk.injEq] at e;obtain ⟨⟨rfl,_,_⟩,_,rfl⟩:=e;refine ⟨cur,h6,fun t ht=>?_⟩;have hg:=fl_get hk hi t ht;obtain ⟨u,hu⟩:∃ u,(f x)[t]?=some u:=⟨_,gE (by rw [hk];exact ht)⟩;rw [hu] at hg ⊢;rw [aAa h6,<-Array.getElem?_toList];rw [<-h10,List.getElem?_take] at hg
  split at hg
  ·exact hg
  ·cases hg
def rowJ {α:Type} (z:α) (l:List α) (j:Nat):List α:=l.take j++List.replicate (l.length-j) z
theorem aJe {α:Type} {z:α} {l:List α} (h:j<l.length):(rowJ z l j)[j]?=some z:=by
 unfold rowJ;rw [List.getElem?_append_right (by rw [List.length_take];omega),List.length_take,Nat.min_eq_left (by omega),Nat.sub_self,List.getElem?_replicate,if_pos (by omega)]
theorem aE4 {α:Type} {z:α} {l:List α} {x:α} (h:l[j]?=some x):(rowJ z l j).set j x=rowJ z l (j+1):=by
 have hl:j<l.length:=(lL h);unfold rowJ;rw [List.set_append_right _ _ (by rw [List.length_take];omega),List.length_take,Nat.min_eq_left (by omega),Nat.sub_self,show l.length-j=(l.length-(j+1))+1 by omega,List.replicate_succ,List.set_cons_zero,List.take_add_one,h];simp
theorem aE3 {α:Type} (z:α) (l:List α):rowJ z l 0=List.replicate l.length z:=by unfold rowJ;simp
theorem aGx {α:Type} (z:α) (l:List α):rowJ z l l.length=l:=by unfold rowJ;simp
end Go.Proofs.YtdpdjpkmndnaaaaGreat
set_option maxRecDepth 100000
set_option maxHeartbeats 16000000
set_option linter.unusedVariables false
namespace Go.Proofs.YtdpdjpkmndnaaaaGreat
open Go.RowKit _root_.Go.Proofs.Tryz
variable {B N b c cl g i j k n rb te xl:Nat} {a:Option Addr} {s:Sch} {v:Value} {w w':World} {xs:List Nat}
theorem aCh {u x:Value} (h:b≠g):(((w.setCell ⟨g,i,none⟩ u).setCell ⟨g,j,none⟩ v).setCell ⟨g,k,none⟩ x).heap[b]?=w.heap[b]?:=by
 rw [heap_setCell_other _ _ _ _ (show b≠g from h),heap_setCell_other _ _ _ _ (show b≠g from h),heap_setCell_other _ _ _ _ (show b≠g from h)]
theorem set_row3 {l:List Col} {x x':Col} (h:w.ownsRow B te 3 (.slice (some ⟨g,0,none⟩) n c) n (l.flatMap fC)) (hx:l[j]?=some x) (hj:j<n):(((w.setCell ⟨g,j*3,none⟩ (.string x'.1)).setCell ⟨g,j*3+1,none⟩ (.int .i64 x'.2.1)).setCell ⟨g,j*3+2,none⟩ (.int .i64 x'.2.2)).ownsRow B te 3 (.slice (some ⟨g,0,none⟩) n c) n ((l.set j x').flatMap fC):=by
 have h1:=aB4 (u:=.string x'.1) (i:=j*3) h (by omega);rw [show (l.flatMap fC).set (j*3) (.string x'.1)=(l.set j (x'.1,x.2.1,x.2.2)).flatMap fC from aCe (j:=0) aEi (by omega) hx rfl] at h1;have hl:=(lL hx);have h2:=aB4 (u:=.int .i64 x'.2.1) (i:=j*3+1) h1 (by omega);rw [show ((l.set j (x'.1,x.2.1,x.2.2)).flatMap fC).set (j*3+1) (.int .i64 x'.2.1)=((l.set j (x'.1,x.2.1,x.2.2)).set j (x'.1,x'.2.1,x.2.2)).flatMap fC from aCe (j:=1) aEi (by omega) (List.getElem?_set_self hl) rfl,List.set_set] at h2;have h3:=aB4 (u:=.int .i64 x'.2.2) (i:=j*3+2) h2 (by omega);rw [show ((l.set j (x'.1,x'.2.1,x.2.2)).flatMap fC).set (j*3+2) (.int .i64 x'.2.2)=((l.set j (x'.1,x'.2.1,x.2.2)).set j x').flatMap fC from aCe (j:=2) aEi (by omega) (List.getElem?_set_self hl) rfl,List.set_set] at h3;exact h3
def preC (s:Sch) (j:Nat):List Nat:=wb s.nm++enc s.cs.length++(s.cs.take j).flatMap encC
def preX (s:Sch) (j:Nat):List Nat:=preC s s.cs.length++enc s.xs.length++(s.xs.take j).flatMap encX
theorem preC_eq {c:Col} (h:s.cs[j]?=some c):∃ rest,encS s=preC s j++(wb c.1++(enc c.2.1.toNat++(enc c.2.2.toNat++rest))):=by
 refine ⟨(s.cs.drop (j+1)).flatMap encC++(enc s.xs.length++s.xs.flatMap encX),?_⟩;have e:s.cs=s.cs.take j++c::s.cs.drop (j+1):=by
  rw [<-(List.getElem?_eq_some_iff.1 h).2,<-List.drop_eq_getElem_cons (lL h),List.take_append_drop]
 have e2:s.cs.flatMap encC=(s.cs.take j).flatMap encC++(encC c++(s.cs.drop (j+1)).flatMap encC):=by
  conv=>lhs;rw [e]
  rw [List.flatMap_append,List.flatMap_cons]
 unfold encS preC;rw [e2];unfold encC;simp only [List.append_assoc]
theorem preC_next {c:Col} (h:s.cs[j]?=some c):(preC s (j+1)).length=(preC s j).length+(wb c.1).length+(enc c.2.1.toNat).length+(enc c.2.2.toNat).length:=by
 unfold preC;rw [aFo h];unfold encC;simp only [lA];omega
theorem aGw {u:Value} (h:b≠g):((w.setCell ⟨g,i,none⟩ u).setCell ⟨g,j,none⟩ v).heap[b]?=w.heap[b]?:=by
 rw [heap_setCell_other _ _ _ _ (show b≠g from h),heap_setCell_other _ _ _ _ (show b≠g from h)]
theorem set_row2 {l:List Idx} {x x':Idx} (h:w.ownsRow B te 2 (.slice (some ⟨g,0,none⟩) n c) n (l.flatMap fX)) (hx:l[j]?=some x) (hj:j<n):((w.setCell ⟨g,j*2,none⟩ (.int .i64 x'.1)).setCell ⟨g,j*2+1,none⟩ (.bool x'.2)).ownsRow B te 2 (.slice (some ⟨g,0,none⟩) n c) n ((l.set j x').flatMap fX):=by
 have h1:=aB4 (u:=.int .i64 x'.1) (i:=j*2) h (by omega);rw [show (l.flatMap fX).set (j*2) (.int .i64 x'.1)=(l.set j (x'.1,x.2)).flatMap fX from aCe (j:=0) aFp (by omega) hx rfl] at h1;have hl:=(lL hx);have h2:=aB4 (u:=.bool x'.2) (i:=j*2+1) h1 (by omega);rw [show ((l.set j (x'.1,x.2)).flatMap fX).set (j*2+1) (.bool x'.2)=((l.set j (x'.1,x.2)).set j x').flatMap fX from aCe (j:=1) aFp (by omega) (List.getElem?_set_self hl) rfl,List.set_set] at h2;exact h2
theorem preX_eq {x:Idx} (h:s.xs[j]?=some x):∃ rest,encS s=preX s j++(enc x.1.toNat++(enc (if x.2 then 1 else 0)++rest)):=by
 refine ⟨(s.xs.drop (j+1)).flatMap encX,?_⟩;have e:s.xs=s.xs.take j++x::s.xs.drop (j+1):=by
  rw [<-(List.getElem?_eq_some_iff.1 h).2,<-List.drop_eq_getElem_cons (lL h),List.take_append_drop]
 have e2:s.xs.flatMap encX=(s.xs.take j).flatMap encX++(encX x++(s.xs.drop (j+1)).flatMap encX):=by
  conv=>lhs;rw [e]
  rw [List.flatMap_append,List.flatMap_cons]
 unfold encS preX preC;rw [e2,List.take_length];unfold encX;simp only [List.append_assoc]
theorem preX_next {x:Idx} (h:s.xs[j]?=some x):(preX s (j+1)).length=(preX s j).length+(enc x.1.toNat).length+(enc (if x.2 then 1 else 0)).length:=by
 unfold preX;rw [aFo h];unfold encX;simp only [lA];omega
theorem RdF.put (h:RdF rb w w') (hb:w.heap.size<=b) (hr:rb<=b) (i:Nat) (u:Value):RdF rb w (w'.setCell ⟨b,i,none⟩ u):=⟨h.bel.setCell (p:=⟨b,i,none⟩) hr u,fun j hj hn=>(heap_setCell_other _ _ _ _ (show j≠b by omega)).trans (h.oth j hj hn)⟩
theorem aIf {u:Value} (h:BS w a n c xs) (ha:∀ b' o,a=some ⟨b',o,none⟩->b'≠b):BS (w.setCell ⟨b,i,none⟩ u) a n c xs:=aIe (rb:=b) h ⟨(Below.refl _ _).setCell (p:=⟨b,i,none⟩) (nR _) u,fun j _ hn=>heap_setCell_other _ _ _ _ (show j≠b from hn)⟩ ha
structure ICK (rb N S0 g cl n c:Nat) (a:Option Addr) (s:Sch) (w:World) (j:Nat) (wx:World):Prop where
 rd:RDR rb a n c ((preC s j).length:Int) wx
 sb:wx.heap[S0]?=some (.cells #[.string s.nm,.slice (some ⟨g,0,none⟩) cl cl,.slice none 0 0] 33 (0,0))
 zb:wx.heap[N]?=some (.cells #[.string ⟨#[]⟩,.slice none 0 0,.slice none 0 0] 33 (0,0))
 ow:wx.ownsRow g 93 3 (.slice (some ⟨g,0,none⟩) cl cl) cl ((rowJ z1 s.cs j).flatMap fC)
 fr:RdF rb w wx
 bs:BS wx a n c (encS s)
theorem ICK.drew {S0:Nat} {wx:World} (h:ICK rb N S0 g cl n c a s w j wx):ICK rb N S0 g cl n c a s w j wx.drew:=⟨h.rd,h.sb,h.zb,aAk h.ow (Below.refl _ _).drew,⟨⟨h.fr.bel.os,h.fr.bel.tape,h.fr.bel.output,h.fr.bel.size,h.fr.bel.block⟩,h.fr.oth⟩,h.bs.later (Below.refl _ _).drew (nR _)⟩
structure IX (rb N S0 g g2 cl xl n c:Nat) (a:Option Addr) (s:Sch) (w:World) (j:Nat) (wx:World):Prop where
 rd:RDR rb a n c ((preX s j).length:Int) wx
 sb:wx.heap[S0]?=some (.cells #[.string s.nm,.slice (some ⟨g,0,none⟩) cl cl,.slice (some ⟨g2,0,none⟩) xl xl] 33 (0,0))
 zb:wx.heap[N]?=some (.cells #[.string ⟨#[]⟩,.slice none 0 0,.slice none 0 0] 33 (0,0))
 oc:wx.ownsRow g 93 3 (.slice (some ⟨g,0,none⟩) cl cl) cl (s.cs.flatMap fC)
 ow:wx.ownsRow g2 61 2 (.slice (some ⟨g2,0,none⟩) xl xl) xl ((rowJ zx s.xs j).flatMap fX)
 fr:RdF rb w wx
 bs:BS wx a n c (encS s)
theorem IX.drew {S0 g2:Nat} {wx:World} (h:IX rb N S0 g g2 cl xl n c a s w j wx):IX rb N S0 g g2 cl xl n c a s w j wx.drew:=⟨h.rd,h.sb,h.zb,aAk h.oc (Below.refl _ _).drew,aAk h.ow (Below.refl _ _).drew,⟨⟨h.fr.bel.os,h.fr.bel.tape,h.fr.bel.output,h.fr.bel.size,h.fr.bel.block⟩,h.fr.oth⟩,h.bs.later (Below.refl _ _).drew (nR _)⟩
theorem rschema_ok (h:RDR rb a n c 0 w) (hb:BS w a n c (encS s)) (hok:s.ok=true) (har:∀ b o,a=some ⟨b,o,none⟩->b≠rb) :
  Calls prog 128 #[.pointer (some ⟨rb,0,none⟩)] w fun e w'=>∃ ca cc xa xc,e=.returned (.agg #[.string s.nm,.slice ca s.cs.length cc,.slice xa s.xs.length xc])/\SC w' ca s.cs.length cc xa s.xs.length xc s/\RdF rb w w'/\(∀ b o,ca=some ⟨b,o,none⟩->w.heap.size<=b)/\∀ b o,xa=some ⟨b,o,none⟩->w.heap.size<=b:=by
 have HPA:=aAb (Sch.parts hok);have HBY:=aAb hb;have HAR:=aAb har;have HAN:Hid (∀ b o,a=some ⟨b,o,none⟩->b<w.heap.size):=by
  intro b o q;have hpos:0<n:=by
   rw [<-hb.hlen];unfold encS wb;have:=aAo s.nm.size (aAp s.nm.size (by have:=HPA.o.1;omega)).1;have:=(aAp s.nm.size (by have:=HPA.o.1;omega)).1;simp only [lA];omega
  have:=aAm (hb.hcell _ q 0 hpos);simpa [Addr.add] using this
 obtain ⟨cl,hcl⟩:∃ k,s.cs.length=k:=⟨_,rfl⟩;obtain ⟨xl,hxl⟩:∃ k,s.xs.length=k:=⟨_,rfl⟩;have HCL:=aAb hcl;have HXL:=aAb hxl;have hcl3:cl<=3:=by rw [<-hcl];exact HPA.o.2.1
 have hxl3:xl<=3:=by rw [<-hxl];exact HPA.o.2.2.1
 have HRB:Hid (rb<w.heap.size):=aAd h;have hbz:=aAe w (.cells #[.string ⟨#[]⟩,.slice none 0 0,.slice none 0 0] 33);have HZ1:Hid ((w.alloc (.cells #[.string ⟨#[]⟩,.slice none 0 0,.slice none 0 0] 33)).heap[w.heap.size]?=some (.cells #[.string ⟨#[]⟩,.slice none 0 0,.slice none 0 0] 33 (0,0))):=boxed w _;have HR1:Hid (RDR rb a n c 0 (w.alloc (.cells #[.string ⟨#[]⟩,.slice none 0 0,.slice none 0 0] 33))):=(hbz.block rb (aAd h)).trans h;have HB1:=aAb (hb.later hbz (nR _));have HF1:Hid (RdF rb w (w.alloc (.cells #[.string ⟨#[]⟩,.slice none 0 0,.slice none 0 0] 33))):=RdF.of hbz (by have:=HRB.o;omega);have HNM0:Hid (rbS (encS s) 0 8=slK s.nm/\rbP (encS s) 0 8=(wb s.nm).length):=by
  have:=rd_name (pre:=[]) (rest:=enc s.cs.length++(s.cs.flatMap encC++(enc s.xs.length++s.xs.flatMap encX))) (s:=s.nm) HPA.o.1;have e:encS s=[]++(wb s.nm++(enc s.cs.length++(s.cs.flatMap encC++(enc s.xs.length++s.xs.flatMap encX)))):=by unfold encS;simp only [List.append_assoc,List.nil_append]
  rw [<-e] at this;have h9:rbS (encS s) 0 8=slK s.nm/\rbP (encS s) 0 8=(wb s.nm).length:=by simpa using this
  exact h9
 have HCN0:Hid (ruN (encS s) ((wb s.nm).length:Int)=cl/\ruP (encS s) ((wb s.nm).length:Int)=(preC s 0).length):=by
  have:=aGh (pre:=wb s.nm) (rest:=s.cs.flatMap encC++(enc s.xs.length++s.xs.flatMap encX)) (n:=s.cs.length) (by omega);have e:encS s=wb s.nm++(enc s.cs.length++(s.cs.flatMap encC++(enc s.xs.length++s.xs.flatMap encX))):=by unfold encS;simp only [List.append_assoc]
  rw [<-e] at this;refine ⟨this.1.trans hcl,this.2.1.trans ?_⟩;unfold preC;simp
 rw [hcl,hxl];clear h hb hok har hbz hcl hxl;go_enter func128,ntmps128;go_upto_region 1 with fail;generalize w.alloc (.cells #[.string ⟨#[]⟩,.slice none 0 0,.slice none 0 0] 33)=w1 at *
 generalize hN:w.heap.size=N at *
 have HC1:=aAb (rname_any HR1.o HB1.o);rw [HNM0.o.1,aI6,HNM0.o.2] at HC1;go_wp2_with fail;refine HC1.o.mono ?_;rintro e w2 ⟨rfl,hr2,hf2⟩;have HF2:=aAb (HF1.o.trans hf2);have HR2:=aAb hr2;have HB2:=aAb (aIe HB1.o hf2 HAR.o);have HZ2:=aAb ((hf2.oth N (aAd HZ1.o) (by have:=HRB.o;omega)).trans HZ1.o);clear hr2 hf2 HC1 HR1 HB1 HZ1;have hb3:=aAe w2 (.cells #[.string s.nm,.slice none 0 0,.slice none 0 0] 33);have HS3:Hid ((w2.alloc (.cells #[.string s.nm,.slice none 0 0,.slice none 0 0] 33)).heap[w2.heap.size]?=some (.cells #[.string s.nm,.slice none 0 0,.slice none 0 0] 33 (0,0))):=boxed w2 _;have HR3:Hid (RDR rb a n c ((wb s.nm).length:Int) (w2.alloc (.cells #[.string s.nm,.slice none 0 0,.slice none 0 0] 33))):=(hb3.block rb (aAd HR2.o)).trans HR2.o;have HZ3:=aAb ((hb3.block N (aAd HZ2.o)).trans HZ2.o);have HB3:=aAb (HB2.o.later hb3 (nR _));have HF3:=aAb (HF2.o.trans (RdF.of hb3 (by have:=aAd HR2.o;omega)));have HNS:Hid (N<w2.heap.size/\rb<w2.heap.size):=⟨aAd HZ2.o,aAd HR2.o⟩;clear hb3 HR2 HB2 HZ2;go_upto_region 2 with fail;generalize w2.alloc (.cells #[.string s.nm,.slice none 0 0,.slice none 0 0] 33)=w3 at *
 generalize w2.heap.size=S0 at *
 have HC3:=aAb (aIu HR3.o HB3.o);rw [HCN0.o.1,HCN0.o.2,Nat.min_eq_left hcl3] at HC3;go_wp2_with fail;refine HC3.o.mono ?_;rintro e w4 ⟨rfl,hr4,hf4⟩;have HF4:=aAb (HF3.o.trans hf4);have HR4:=aAb hr4;have HB4:=aAb (aIe HB3.o hf4 HAR.o);have HS4:=aAb ((hf4.oth S0 (aAd HS3.o) (by have:=HNS.o;omega)).trans HS3.o);have HZ4:=aAb ((hf4.oth N (aAd HZ3.o) (by have:=HRB.o;omega)).trans HZ3.o);clear hr4 hf4 HC3 HR3 HB3 HS3 HZ3;obtain ⟨i0,hi,hz0,hz1',hz2⟩:=info_parts info_col;go_upto_region 3 with (refine wpList_make_full w4 rfl _ _ 30 rfl w4.heap.size 93 i0 (.agg #[.string ⟨#[]⟩,.int .i64 0,.int .i64 0]) 3 underlying30 hi hz0 hz1' .i64 .i64 (cl:Int) (cl:Int) cl rfl rfl rfl rfl (by rw [hz2];omega) (by unfold maxLen;omega) (nR _) ?_;intro w5 ho5 hg5;rw [made_col hcl3] at ho5;have HO5:=aAb ho5;have HG5:=aAb ((Below.refl w4.heap.size w4).grown hg5 (nR _) (fun k hk=>by cases hk));clear ho5 hg5;have x1:w5.cell? ⟨S0,1,none⟩=some (.slice none 0 0):=aAa ((HG5.o.block S0 (aAd HS4.o)).trans HS4.o);have xf1:w5.frozen? ⟨S0,1,none⟩=false:=aAg ((HG5.o.block S0 (aAd HS4.o)).trans HS4.o));clear x1 xf1;have hgs:S0<w4.heap.size:=aAd HS4.o;have hgr:rb<w4.heap.size:=aAd HR4.o;have hgn:N<w4.heap.size:=aAd HZ4.o;have HIC:Hid (ICK rb N S0 w4.heap.size cl n c a s w 0 (w5.setCell ⟨S0,1,none⟩ (.slice (some ⟨w4.heap.size,0,none⟩) cl cl))):=by
  have hg5:=HG5.o;have hns:=HNS.o;refine ⟨?_,heap_setCell_same _ _ _ _ _ _ ((hg5.block S0 hgs).trans HS4.o),?_,?_,?_,?_⟩
  ·exact (heap_setCell_other _ _ _ _ (show rb≠S0 by omega)).trans ((hg5.block rb hgr).trans HR4.o)
  ·exact (heap_setCell_other _ _ _ _ (show N≠S0 by omega)).trans ((hg5.block N hgn).trans HZ4.o)
  ·have h9:=HO5.o;rw [aE3,HCL.o];exact ownsRow_setCell_other h9 (by show some w4.heap.size≠some S0;simp;omega) _
  ·exact (HF4.o.trans (RdF.of hg5 (by omega))).put (by rw [hN];omega) (by omega) 1 _
  ·refine aIf (HB4.o.later hg5 (nR _)) fun b' o q=>?_
   have h8:=HAN.o b' o q
   first | omega | (rw [hN] at h8;omega)
 clear HO5 HG5 HR4 HS4 HZ4 HB4 HF4 hi hz0 hz1' hz2;generalize (w5.setCell ⟨S0,1,none⟩ (.slice (some ⟨w4.heap.size,0,none⟩) cl cl))=w6 at *
 generalize w4.heap.size=g at *
 have HSG:Hid (S0≠g):=by show S0≠g;omega
 have HSR:Hid (S0≠rb):=by show S0≠rb;have:=HNS.o;omega
 have HGR:Hid (rb<g/\N<g/\N<=S0):=⟨hgr,hgn,by have:=HNS.o;omega⟩;have x1:w6.cell? ⟨S0,1,none⟩=some (.slice (some ⟨g,0,none⟩) cl cl):=aAa HIC.o.sb;go_wp2_with fail;clear x1;go_loopg [16] cl (fun gh s16 wx=>∃ j:Nat,j+gh=cl/\s16=.int .i64 (j:Int)/\ICK rb N S0 g cl n c a s w j wx)
 case atStart=>exact ⟨0,by omega,rfl,HIC.o⟩
 case round =>
  obtain ⟨j,hj,rfl,hic⟩:=hrel;have HI:=aAb hic;clear hic;by_cases hjn:j<cl
  ·have xj:(j:Int)<(cl:Int):=by omega
   have xj4:(j:Int)<4:=by omega
   obtain ⟨cj,hcj⟩:∃ c,s.cs[j]?=some c:=⟨_,gE (by rw [HCL.o];exact hjn)⟩;have hco:=HPA.o.2.2.2.1 j cj hcj;obtain ⟨rest,hxs⟩:=preC_eq hcj;have hnx:=preC_next hcj;have HNX:=aAb (aE4 (z:=z1) hcj);have HATZ:Hid ((rowJ z1 s.cs j)[j]?=some z1):=aJe (by rw [HCL.o];exact hjn);obtain ⟨cn,ck,cm⟩:=cj;obtain ⟨kk,hkk⟩:∃ kk:Nat,ck=(kk:Int):=⟨ck.toNat,by have:=hco.k0;dsimp only at this;omega⟩;obtain ⟨mm,hmm⟩:∃ mm:Nat,cm=(mm:Int):=⟨cm.toNat,by have:=hco.m0;dsimp only at this;omega⟩;subst hkk hmm;have hk8:kk<=8:=by have:=hco.k1;dsimp only at this;omega
   have hm8:mm<=8:=by have:=hco.m1;dsimp only at this;omega
   have hn8:cn.size<=8:=hco.nm;simp only [Int.toNat_natCast] at hxs hnx;have HNM:Hid (rbS (encS s) ((preC s j).length:Int) 8=slK cn/\rbP (encS s) ((preC s j).length:Int) 8=(preC s j++wb cn).length):=by
    have:=rd_name (pre:=preC s j) (rest:=enc kk++(enc mm++rest)) hn8;rw [<-hxs] at this;exact ⟨this.1,by rw [this.2,lA]⟩
   have HKN:Hid (ruN (encS s) ((preC s j++wb cn).length:Int)=kk/\ruP (encS s) ((preC s j++wb cn).length:Int)=(preC s j++wb cn++enc kk).length):=by
    have:=aGh (pre:=preC s j++wb cn) (rest:=enc mm++rest) (n:=kk) (by omega);rw [show preC s j++wb cn++(enc kk++(enc mm++rest))=encS s from by rw [hxs];simp only [List.append_assoc]] at this;exact ⟨this.1,by rw [this.2.1,lA (bs:=enc kk)]⟩
   have HMN:Hid (ruN (encS s) ((preC s j++wb cn++enc kk).length:Int)=mm/\ruP (encS s) ((preC s j++wb cn++enc kk).length:Int)=(preC s (j+1)).length):=by
    have:=aGh (pre:=preC s j++wb cn++enc kk) (rest:=rest) (n:=mm) (by omega);rw [show preC s j++wb cn++enc kk++(enc mm++rest)=encS s from by rw [hxs];simp only [List.append_assoc]] at this;exact ⟨this.1,by rw [this.2.1,hnx];simp only [lA];try omega⟩
   have HRD:=aAb HI.o.drew.rd;have HBD:=aAb HI.o.drew.bs;have HSD:=aAb HI.o.drew.sb;have HOD:=aAb HI.o.drew.ow;have HX:Hid ((fun wx=>wx.cell? ⟨S0,1,none⟩=some (.slice (some ⟨g,0,none⟩) cl cl)) wr.drew):=aAa HSD.o;clear hco hxs hnx hcj;go_upto_region 6 with fail;refine wp_region_noPanic ?_;refine wp_region_held_drew (S:=fun wx=>wx.cell? ⟨S0,1,none⟩=some (.slice (some ⟨g,0,none⟩) cl cl)) (by kernel_rfl) HX.o (fun hHeld=>?_);refine kT 0 19 ?_;refine kT 1 20 ?_;refine kT 2 21 ?_;refine kT 3 22 ?_;refine kT 5 24 ?_;refine kT 7 26 ?_;refine kC 4 ?_;intro K hK;go_simp;refine (rname_any HRD.o HBD.o).mono ?_;rintro e w1 ⟨rfl,hr1,hf1⟩;rw [HNM.o.1,aI6];rw [HNM.o.2] at hr1;have HR1:=aAb hr1;have HF1:=aAb hf1;have HS1:=aAb ((hf1.oth S0 (aAd HSD.o) HSR.o).trans HSD.o);have HB1:=aAb (aIe HBD.o hf1 HAR.o);have HO1:=aAb (aGi HOD.o hf1 (by have:=HGR.o;omega));clear hr1 hf1 hHeld;refine hK.out _ _ (aAa HS1.o) (fun hHeld=>?_);clear hK K
   try simp only [Act.put,siT,scZ,scS]
   refine kC 6 ?_;intro K hK;go_simp;refine (aE6 HR1.o HB1.o).mono ?_;rintro e w2 ⟨rfl,hr2,hf2⟩;rw [HKN.o.1];rw [HKN.o.2] at hr2;have HR2:=aAb hr2;have HF2:=aAb (HF1.o.trans hf2);have HS2:=aAb ((hf2.oth S0 (aAd HS1.o) HSR.o).trans HS1.o);have HB2:=aAb (aIe HB1.o hf2 HAR.o);have HO2:=aAb (aGi HO1.o hf2 (by have:=HGR.o;omega));clear hr2 hf2 hHeld;refine hK.out _ _ (aAa HS2.o) (fun hHeld=>?_);clear hK K
   try simp only [Act.put,siT,scZ,scS]
   refine kC 8 ?_;intro K hK;go_simp;refine (aE6 HR2.o HB2.o).mono ?_;rintro e w3 ⟨rfl,hr3,hf3⟩;rw [HMN.o.1];rw [HMN.o.2] at hr3;have HR3:=aAb hr3;have HF3:=aAb (HF2.o.trans hf3);have HS3:=aAb ((hf3.oth S0 (aAd HS2.o) HSR.o).trans HS2.o);have HO3:=aAb (aGi HO2.o hf3 (by have:=HGR.o;omega));have HB3:=aAb (aIe HB2.o hf3 HAR.o);clear hr3 hf3 hHeld;refine hK.out _ _ (aAa HS3.o) (fun hHeld=>?_);clear hK K
   try simp only [Act.put,siT,scZ,scS]
   refine kT 9 28 ?_;refine kT 10 29 ?_;obtain ⟨cur,hcur,hold⟩:=aCc aEi HO3.o HATZ.o;have q0:w3.cell? ⟨g,j*3,none⟩=some (.string ⟨#[]⟩):=hold 0 (by omega);have q1:w3.cell? ⟨g,j*3+1,none⟩=some (.int .i64 0):=hold 1 (by omega);have q2:w3.cell? ⟨g,j*3+2,none⟩=some (.int .i64 0):=hold 2 (by omega);clear hold;have f0:w3.frozen? ⟨g,j*3,none⟩=false:=aAg hcur;have f1:w3.frozen? ⟨g,j*3+1,none⟩=false:=aAg hcur;have f2:w3.frozen? ⟨g,j*3+2,none⟩=false:=aAg hcur;refine kC 11 ?_;intro K hK;go_simp;clear hHeld hcur;refine hK.out _ _ ?_ (fun hHeld=>?_)
   ·exact aAa ((aCh (show S0≠g from HSG.o)).trans HS3.o)
   clear q0 q1 q2 f0 f1 f2;clear hK K
   try simp only [Act.put,siT,scZ,scS]
   refine wpAnyH_done (by kernel_rfl) ?_ _;refine NoPanic.normal ?_;have HIN:Hid (ICK rb N S0 g cl n c a s w (j+1) (((w3.setCell ⟨g,j*3,none⟩ (.string cn)).setCell ⟨g,j*3+1,none⟩ (.int .i64 (kk:Int))).setCell ⟨g,j*3+2,none⟩ (.int .i64 (mm:Int)))):=by
    have hgr:=HGR.o;have hfr:RdF rb w w3:=HI.o.drew.fr.trans HF3.o;have hab:∀ b' o,a=some ⟨b',o,none⟩->b'≠g:=fun b' o q=>by
     have h8:=HAN.o b' o q
     first | omega | (rw [hN] at h8;omega)
    refine ⟨(aCh (show rb≠g by omega)).trans HR3.o,(aCh HSG.o).trans HS3.o,(aCh (show N≠g by omega)).trans ?_,?_,?_,aIf (aIf (aIf HB3.o hab) hab) hab⟩
    ·have h7:=HF3.o.oth N (aAd HI.o.drew.zb) (by have:=HRB.o;omega);exact h7.trans HI.o.drew.zb
    ·have h9:=set_row3 (x':=(cn,(kk:Int),(mm:Int))) HO3.o HATZ.o hjn;rw [HNX.o] at h9;exact h9
    ·exact ((hfr.put (by rw [hN];omega) (by omega) _ _).put (by rw [hN];omega) (by omega) _ _).put (by rw [hN];omega) (by omega) _ _
   clear HR3 HS3 HF3 HO3 HB3 HRD HBD HSD HOD HX hHeld;go_wp2;go_roundg (gk-1)
   case measure=>omega
   case rel=>exact ⟨j+1,by omega,rfl,HIN.o⟩
  ·have xj:¬ (j:Int)<(cl:Int):=by omega
   have ej:j=cl:=by omega
   subst ej;have HCX:Hid (ruN (encS s) ((preC s j).length:Int)=xl/\ruP (encS s) ((preC s j).length:Int)=(preX s 0).length):=by
    have:=aGh (pre:=preC s j) (rest:=s.xs.flatMap encX) (n:=s.xs.length) (by rw [HXL.o];omega);have e:encS s=preC s j++(enc s.xs.length++s.xs.flatMap encX):=by
     unfold encS preC;rw [<-HCL.o,List.take_length];simp only [List.append_assoc]
    rw [<-e] at this;refine ⟨this.1.trans HXL.o,this.2.1.trans ?_⟩;unfold preX;rw [<-HCL.o];simp
   have HOC:Hid (wr.ownsRow g 93 3 (.slice (some ⟨g,0,none⟩) j j) j (s.cs.flatMap fC)):=by
    have h9:=HI.o.ow;rw [show rowJ z1 s.cs j=s.cs from by rw [<-HCL.o];exact aGx _ _] at h9;exact h9
   have HC8:=aAb (aIu HI.o.rd HI.o.bs);rw [HCX.o.1,HCX.o.2,Nat.min_eq_left hxl3] at HC8;go_wp2_with fail;refine HC8.o.mono ?_;rintro e w8 ⟨rfl,hr8,hf8⟩;have HF8:=aAb (HI.o.fr.trans hf8);have HR8:=aAb hr8;have HB8:=aAb (aIe HI.o.bs hf8 HAR.o);have HS8:=aAb ((hf8.oth S0 (aAd HI.o.sb) HSR.o).trans HI.o.sb);have HZ8:=aAb ((hf8.oth N (aAd HI.o.zb) (by have:=HRB.o;omega)).trans HI.o.zb);have HO8:=aAb (aGi HOC.o hf8 (by have:=HGR.o;omega));clear hr8 hf8 HC8 HOC;obtain ⟨i0,hi,hz0,hz1',hz2⟩:=info_parts info_ix;go_upto_region 9 with (refine wpList_make_full w8 rfl _ _ 31 rfl w8.heap.size 61 i0 (.agg #[.int .i64 0,.bool false]) 2 underlying31 hi hz0 hz1' .i64 .i64 (xl:Int) (xl:Int) xl rfl rfl rfl rfl (by rw [hz2];omega) (by unfold maxLen;omega) (nR _) ?_;intro w9 ho9 hg9;rw [made_ix hxl3] at ho9;have HO9:=aAb ho9;have HG9:=aAb ((Below.refl w8.heap.size w8).grown hg9 (nR _) (fun k hk=>by cases hk));clear ho9 hg9;have x1:w9.cell? ⟨S0,2,none⟩=some (.slice none 0 0):=aAa ((HG9.o.block S0 (aAd HS8.o)).trans HS8.o);have xf1:w9.frozen? ⟨S0,2,none⟩=false:=aAg ((HG9.o.block S0 (aAd HS8.o)).trans HS8.o));clear x1 xf1;have hgs2:S0<w8.heap.size:=aAd HS8.o;have hgr2:rb<w8.heap.size:=aAd HR8.o;have hgn2:N<w8.heap.size:=aAd HZ8.o;obtain ⟨hgg,hggx⟩:g<w8.heap.size/\True:=by
    rcases HO8.o.2 with ⟨e,_⟩ | ⟨g',cap',cur,e,_,h6,_⟩
    ·cases e
    ·simp only [Value.slice.injEq,oI,Addr.mk.injEq] at e;rw [e.1.1];exact ⟨aAd h6,trivial⟩
   have HIX:Hid (IX rb N S0 g w8.heap.size j xl n c a s w 0 (w9.setCell ⟨S0,2,none⟩ (.slice (some ⟨w8.heap.size,0,none⟩) xl xl))):=by
    have hg9:=HG9.o;have hns:=HNS.o;have hsg:=HSG.o;refine ⟨?_,heap_setCell_same _ _ _ _ _ _ ((hg9.block S0 hgs2).trans HS8.o),?_,?_,?_,?_,?_⟩
    ·exact (heap_setCell_other _ _ _ _ (show rb≠S0 by omega)).trans ((hg9.block rb hgr2).trans HR8.o)
    ·exact (heap_setCell_other _ _ _ _ (show N≠S0 by omega)).trans ((hg9.block N hgn2).trans HZ8.o)
    ·exact ownsRow_setCell_other (aAk HO8.o hg9) (by show some g≠some S0;simp;omega) _
    ·have h9:=HO9.o;rw [aE3,HXL.o];exact ownsRow_setCell_other h9 (by show some w8.heap.size≠some S0;simp;omega) _
    ·exact (HF8.o.trans (RdF.of hg9 (by omega))).put (by rw [hN];omega) (by omega) 2 _
    ·refine aIf (HB8.o.later hg9 (nR _)) fun b' o q=>?_
     have h8:=HAN.o b' o q
     first | omega | (rw [hN] at h8;omega)
   clear HO9 HG9 HR8 HS8 HZ8 HB8 HF8 HO8 hi hz0 hz1' hz2 HI hggx;generalize (w9.setCell ⟨S0,2,none⟩ (.slice (some ⟨w8.heap.size,0,none⟩) xl xl))=w10 at *
   generalize w8.heap.size=g2 at *
   have HSG2:Hid (S0≠g2):=by show S0≠g2;omega
   have HGR2:Hid (rb<g2/\N<g2/\g<g2):=⟨hgr2,hgn2,hgg⟩;have x1:w10.cell? ⟨S0,2,none⟩=some (.slice (some ⟨g2,0,none⟩) xl xl):=aAa HIX.o.sb;have HCJ:=HCL;generalize hjc:j=cl at *
   go_wp2_with fail;clear x1;go_loopg [38] xl (fun gh s38 wx=>∃ j:Nat,j+gh=xl/\s38=.int .i64 (j:Int)/\IX rb N S0 g g2 cl xl n c a s w j wx)
   case atStart=>exact ⟨0,by omega,rfl,HIX.o⟩
   case round =>
    obtain ⟨j,hj,rfl,hix⟩:=hrel;have HI:=aAb hix;clear hix;by_cases hjn:j<xl
    ·have xj:(j:Int)<(xl:Int):=by omega
     have xj4:(j:Int)<4:=by omega
     obtain ⟨cj,hcj⟩:∃ c,s.xs[j]?=some c:=⟨_,gE (by rw [HXL.o];exact hjn)⟩;have hco:=HPA.o.2.2.2.2 j cj hcj;obtain ⟨rest,hxs⟩:=preX_eq hcj;have hnx:=preX_next hcj;have HNX:=aAb (aE4 (z:=zx) hcj);have HATZ:Hid ((rowJ zx s.xs j)[j]?=some zx):=aJe (by rw [HXL.o];exact hjn);obtain ⟨ck,ub⟩:=cj;obtain ⟨kk,hkk⟩:∃ kk:Nat,ck=(kk:Int):=⟨ck.toNat,by have:=hco.1;dsimp only at this;omega⟩;subst hkk;have hk8:kk<=8:=by have:=hco.2;dsimp only at this;omega
     obtain ⟨mm,hmm⟩:∃ mm:Nat,mm=(if ub then 1 else 0):=⟨_,rfl⟩;have hm8:mm<=8:=by rw [hmm];split<;>omega
     have hbe:((mm:Int) == 1)=ub:=by rw [hmm];cases ub<;>rfl
     simp only [Int.toNat_natCast] at hxs hnx;rw [<-hmm] at hxs hnx;have HKN:Hid (ruN (encS s) ((preX s j).length:Int)=kk/\ruP (encS s) ((preX s j).length:Int)=(preX s j++enc kk).length):=by
      have:=aGh (pre:=preX s j) (rest:=enc mm++rest) (n:=kk) (by omega);rw [<-hxs] at this;exact ⟨this.1,by rw [this.2.1,lA]⟩
     have HMN:Hid (ruN (encS s) ((preX s j++enc kk).length:Int)=mm/\ruP (encS s) ((preX s j++enc kk).length:Int)=(preX s (j+1)).length):=by
      have:=aGh (pre:=preX s j++enc kk) (rest:=rest) (n:=mm) (by omega);rw [show preX s j++enc kk++(enc mm++rest)=encS s from by rw [hxs];simp only [List.append_assoc]] at this;exact ⟨this.1,by rw [this.2.1,hnx];simp only [lA];try omega⟩
     have HRD:=aAb HI.o.drew.rd;have HBD:=aAb HI.o.drew.bs;have HSD:=aAb HI.o.drew.sb;have HOD:=aAb HI.o.drew.ow;have HCD:=aAb HI.o.drew.oc;have HX:Hid ((fun wx=>wx.cell? ⟨S0,2,none⟩=some (.slice (some ⟨g2,0,none⟩) xl xl)) wr.drew):=aAa HSD.o;clear hco hxs hnx hcj hmm;go_upto_region 12 with fail;refine wp_region_noPanic ?_;refine wp_region_held_drew (S:=fun wx=>wx.cell? ⟨S0,2,none⟩=some (.slice (some ⟨g2,0,none⟩) xl xl)) (by kernel_rfl) HX.o (fun hHeld=>?_);refine kT 0 41 ?_;refine kT 1 42 ?_;refine kT 2 43 ?_;refine kT 3 44 ?_;refine kT 5 46 ?_;refine kC 4 ?_;intro K hK;go_simp;refine (aE6 HRD.o HBD.o).mono ?_;rintro e w1 ⟨rfl,hr1,hf1⟩;rw [HKN.o.1];rw [HKN.o.2] at hr1;have HR1:=aAb hr1;have HF1:=aAb hf1;have HS1:=aAb ((hf1.oth S0 (aAd HSD.o) HSR.o).trans HSD.o);have HB1:=aAb (aIe HBD.o hf1 HAR.o);have HO1:=aAb (aGi HOD.o hf1 (by have:=HGR2.o;omega));have HC1:=aAb (aGi HCD.o hf1 (by have:=HGR.o;omega));clear hr1 hf1 hHeld;refine hK.out _ _ (aAa HS1.o) (fun hHeld=>?_);clear hK K
     try simp only [Act.put,siT,scZ,scS]
     refine kC 6 ?_;intro K hK;go_simp;refine (aE6 HR1.o HB1.o).mono ?_;rintro e w2 ⟨rfl,hr2,hf2⟩;rw [HMN.o.1];rw [HMN.o.2] at hr2;have HR3:=aAb hr2;have HF3:=aAb (HF1.o.trans hf2);have HS3:=aAb ((hf2.oth S0 (aAd HS1.o) HSR.o).trans HS1.o);have HB3:=aAb (aIe HB1.o hf2 HAR.o);have HO3:=aAb (aGi HO1.o hf2 (by have:=HGR2.o;omega));have HC3:=aAb (aGi HC1.o hf2 (by have:=HGR.o;omega));clear hr2 hf2 hHeld;refine hK.out _ _ (aAa HS3.o) (fun hHeld=>?_);clear hK K
     try simp only [Act.put,siT,scZ,scS]
     refine kC 7 ?_;intro K hK;go_simp;refine (bit_any true w2).mono ?_;rintro e w3 ⟨rfl,hw3⟩;have hw3:=hw3.symm;subst hw3;clear hw3;refine hK.out _ _ (aAa HS3.o) (fun hHeld=>?_);clear hK K;refine kT 8 49 ?_;refine kT 9 50 ?_;refine kT 10 51 ?_;obtain ⟨cur,hcur,hold⟩:=aCc aFp HO3.o HATZ.o;have q0:w2.cell? ⟨g2,j*2,none⟩=some (.int .i64 0):=hold 0 (by omega);have q1:w2.cell? ⟨g2,j*2+1,none⟩=some (.bool false):=hold 1 (by omega);clear hold;have f0:w2.frozen? ⟨g2,j*2,none⟩=false:=aAg hcur;have f1:w2.frozen? ⟨g2,j*2+1,none⟩=false:=aAg hcur;refine kC 11 ?_;intro K hK;go_simp;clear hHeld hcur;refine hK.out _ _ ?_ (fun hHeld=>?_)
     ·exact aAa ((aGw (show S0≠g2 from HSG2.o)).trans HS3.o)
     clear q0 q1 f0 f1;clear hK K
     try simp only [Act.put,siT,scZ,scS]
     refine wpAnyH_done (by kernel_rfl) ?_ _;refine NoPanic.normal ?_;have HIN:Hid (IX rb N S0 g g2 cl xl n c a s w (j+1) ((w2.setCell ⟨g2,j*2,none⟩ (.int .i64 (kk:Int))).setCell ⟨g2,j*2+1,none⟩ (.bool ub))):=by
      have hgr:=HGR2.o;have hfr:RdF rb w w2:=HI.o.drew.fr.trans HF3.o;have hab:∀ b' o,a=some ⟨b',o,none⟩->b'≠g2:=fun b' o q=>by
       have h8:=HAN.o b' o q
       first | omega | (rw [hN] at h8;omega)
      refine ⟨(aGw (show rb≠g2 by omega)).trans HR3.o,(aGw HSG2.o).trans HS3.o,(aGw (show N≠g2 by omega)).trans ?_,?_,?_,?_,aIf (aIf HB3.o hab) hab⟩
      ·have h7:=HF3.o.oth N (aAd HI.o.drew.zb) (by have:=HRB.o;omega);exact h7.trans HI.o.drew.zb
      ·exact ownsRow_setCell_other (ownsRow_setCell_other HC3.o (by show some g≠some g2;simp;omega) _) (by show some g≠some g2;simp;omega) _
      ·have h9:=set_row2 (x':=((kk:Int),ub)) HO3.o HATZ.o hjn;rw [HNX.o] at h9;exact h9
      ·exact (hfr.put (by rw [hN];omega) (by omega) _ _).put (by rw [hN];omega) (by omega) _ _
     clear HR3 HS3 HF3 HO3 HB3 HC3 HRD HBD HSD HOD HCD HX hHeld;go_wp2;go_roundg (gk-1)
     case measure=>omega
     case rel=>exact ⟨j+1,by omega,rfl,HIN.o⟩
    ·have xj:¬ (j:Int)<(xl:Int):=by omega
     have ex:j=xl:=by omega
     have HRX:Hid (rowJ zx s.xs j=s.xs):=by show _=_;rw [ex,<-HXL.o];exact aGx _ _
     have HZB:=aAb HI.o.zb;have y0:wr.cell? ⟨S0,0,none⟩=some (.string s.nm):=aAa HI.o.sb;have y1:wr.cell? ⟨S0,1,none⟩=some (.slice (some ⟨g,0,none⟩) cl cl):=aAa HI.o.sb;have y2:wr.cell? ⟨S0,2,none⟩=some (.slice (some ⟨g2,0,none⟩) xl xl):=aAa HI.o.sb;have t0:wr.cell? ⟨N,0,none⟩=some (.string ⟨#[]⟩):=aAa HZB.o;have tf0:wr.frozen? ⟨N,0,none⟩=false:=aAg HZB.o;have t1:wr.cell? ⟨N,1,none⟩=some (.slice none 0 0):=aAa HZB.o;have tf1:wr.frozen? ⟨N,1,none⟩=false:=aAg HZB.o;have t2:wr.cell? ⟨N,2,none⟩=some (.slice none 0 0):=aAa HZB.o;have tf2:wr.frozen? ⟨N,2,none⟩=false:=aAg HZB.o;clear ex;go_wp2;(try simp only [Exit.inBlock,Exit.then]);refine bodyPost_ret (results_cell_row results128 _ _ N _ _ _ _ rfl (set3K HZB.o) underlying33 rfl aJu) rfl ?_;have hgr:=HGR.o;have hgr2:=HGR2.o;have hrb:=HRB.o;obtain ⟨ga,gc,ge,hsv⟩:=aA4 aEi HI.o.oc HCL.o;have h9:=HI.o.ow;rw [HRX.o] at h9;obtain ⟨xa,xc,xe,hsx⟩:=aA4 aFp h9 HXL.o;simp only [Value.slice.injEq] at ge xe;obtain ⟨rfl,_,rfl⟩:=ge;obtain ⟨rfl,_,rfl⟩:=xe;have hfr:=((HI.o.fr.put (b:=N) (by omega) (by omega) 0 (.string s.nm)).put (b:=N) (by omega) (by omega) 1 (.slice (some ⟨g,0,none⟩) cl cl)).put (b:=N) (by omega) (by omega) 2 (.slice (some ⟨g2,0,none⟩) xl xl);have hsz:wr.heap.size<=(((wr.setCell ⟨N,0,none⟩ (.string s.nm)).setCell ⟨N,1,none⟩ (.slice (some ⟨g,0,none⟩) cl cl)).setCell ⟨N,2,none⟩ (.slice (some ⟨g2,0,none⟩) xl xl)).heap.size:=((((Below.refl 0 wr).setCell (p:=⟨N,0,none⟩) (Nat.zero_le _) _).setCell (p:=⟨N,1,none⟩) (Nat.zero_le _) _).setCell (p:=⟨N,2,none⟩) (Nat.zero_le _) _).size;refine ⟨some ⟨g,0,none⟩,cl,some ⟨g2,0,none⟩,xl,rfl,⟨hsv.blk hsz fun b o e=>aCh ?_,hsx.blk hsz fun b o e=>aCh ?_⟩,hfr,fun b o e=>?_,fun b o e=>?_⟩
     ·simp only [oI,Addr.mk.injEq] at e;omega
     ·simp only [oI,Addr.mk.injEq] at e;omega
     ·simp only [oI,Addr.mk.injEq] at e;omega
     ·simp only [oI,Addr.mk.injEq] at e;omega
end Go.Proofs.YtdpdjpkmndnaaaaGreat
