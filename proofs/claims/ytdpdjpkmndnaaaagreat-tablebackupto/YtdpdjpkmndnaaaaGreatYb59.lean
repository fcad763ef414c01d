import Derived.Laws.IdiomStrings
import Derived.Test.YtdpdjpkmndnaaaaGreatYb54
import Derived.Test.YtdpdjpkmndnaaaaGreatYb22
set_option maxRecDepth 100000
set_option maxHeartbeats 16000000
set_option linter.unusedVariables false
namespace Go.Proofs.YtdpdjpkmndnaaaaGreat
open Go.RowKit _root_.Go.Proofs.Tryz
variable {B c n:Nat} {Q:Exit->Act->World->Prop} {a:Option Addr} {ops:Array Oper} {rest:List Oper} {v:Value} {w w' wr:World} {xs:List Nat}
abbrev OB (B:Nat) (w:World) (v:Value) (xs:List Nat):Prop:=w.ownsRow B 5 1 v xs.length (cellsOf xs)
def fB (n:Nat):List Value:=[.int .u8 (n:Int)]
theorem aKw (xs:List Nat):xs.flatMap fB=cellsOf xs:=by
 induction xs with
 | nil=>rfl
 | cons x xs ih=>rw [List.flatMap_cons,ih];rfl
theorem bLc (n:Nat):(fB n).length=1:=rfl
theorem bTt (n:Nat):∀ u∈fB n,u.oneCell'=true:=by intro u hu;simp only [fB,kAv,List.not_mem_nil,or_false] at hu;subst hu;rfl
theorem OB.later (h:OB B w v xs) (hb:Below w.heap.size w w'):OB B w' v xs:=aAq h hb
theorem OB.form (h:OB B w v xs):∃ a c,v=.slice a xs.length c:=by
 rcases h.2 with ⟨e,h0⟩ | ⟨g,cap,cur,e,_⟩
 ·exact ⟨none,0,by rw [e,h0]⟩
 ·exact ⟨_,_,e⟩
theorem aA1 {o:Oper} {a:Act} (hgd:o.guard=none) (s x:Operand)
  (ho:o.op=.call { callee:=.builtin .append,args:=#[s,x],argTypes:=#[97,97] })
  {B1 B2:Nat} {v u:Value} {xs ys:List Nat} (hs:a.eval s=v) (hx:a.eval x=u) (hF:OB B1 wr v xs) (hG:OB B2 wr u ys) (hB1:B1<=wr.heap.size) (hsize:xs.length+ys.length<=100000000)
  (h:∀ v' w',OB B1 w' v' (xs++ys)->Below B1 wr w'->(∀ i,i<wr.heap.size->v.ownBlock≠some i->w'.heap[i]?=wr.heap[i]?)->wpList prog ops Q rest (a.put o.dst v') w'):wpList prog ops Q (o::rest) a wr:=by
 have hF':=hF;have hG':=hG;unfold OB at hF' hG';rw [<-aKw] at hF' hG';obtain ⟨ad,c,e,hsv⟩:=aBn bLc hG' rfl;subst e;refine aBq bLc (by omega) bTt underlying97 aF6 rfl (by omega) hgd s x ho (F:=xs) (G:=ys) hs hx hF' hsv hB1 hsize ?_;intro v' w' h1 h2 h3;refine h v' w' ?_ h2 h3;rw [aKw] at h1;exact h1
theorem OB.ne {V:Nat} (h:OB B w v xs) {cs:Array Value} {t:TypeId} {fz:Nat×Nat} (hV:w.heap[V]?=some (.cells cs t fz)) (ht:t≠5):v.ownBlock≠some V:=by
 intro q;rcases h.2 with ⟨e,_⟩ | ⟨g,cap,cur,e,_,h6,_⟩
 ·rw [e] at q;cases q
 ·rw [e] at q;have q:g=V:=by simpa [Value.ownBlock] using q
  subst q;rw [h6] at hV;simp only [oI,cI] at hV;exact ht hV.2.1.symm
def bBj (l:List Val):Int:=if 3<l.length then 2 else if bAd l≠0 then 62 else if l.any (fun x=>decide (8<rcn x.2.2))=true then 62 else 0
def bAm (l:List Val):List Nat:=enc l.length++keyBytes l
theorem aCl:∀ {l:List Val},bAd l=0->∀ x∈l,x.err=0
 | [],_,x,hx=>by simp at hx
 | y::l,h,x,hx=>by
  unfold bAd at h
  by_cases e:y.err=0
  ·rw [kAg e] at h
   rcases kAv.1 hx with rfl | hx
   ·exact e
   ·exact aCl h x hx
  ·rw [kAb e] at h
   exact absurd h e
theorem aBa (x:Val) (hz:x.2.2.size<=1048576):x.bytes.length<=3145732:=by
 unfold Val.bytes
 cases hh:bAa x.1 x.2.1 x.2.2 with
 | text s =>
  simp only [H.bytes,List.length_cons,lA,aC8,aBc]
  cases hr:runes (bl x.2.2) with
  | none=>simp
  | some rs =>
   have:=aD4 hr;rw [aCy] at this;simp only [Option.getD_some];omega
 | _=>simp [H.bytes,aBc]
theorem bU3 {l:List Val} (h:∀ x∈l,x.2.2.size<=1048576):(keyBytes l).length<=l.length*3145732:=by
 unfold keyBytes
 induction l with
 | nil=>simp
 | cons y l ih =>
  have h1:=aBa y (h y kAn);have h2:=ih fun x hx=>h x (kAl _ hx);rw [List.flatMap_cons,lA,List.length_cons,Nat.add_mul];omega
theorem SVK.vs {l:List Val} (h:SVK fV 3 w a n c l) (hn:n<=1000) (hok:∀ x∈l,x.ok):VS w a n c l:=by
 refine ⟨h.hl,h.hc,by omega,h.hm,hok,fun b o e i hi=>?_,fun h0=>?_⟩
 ·obtain ⟨b',o',e',_,h3⟩:=h.pl (by omega);rw [e] at e';simp only [oI,Addr.mk.injEq] at e';obtain ⟨rfl,rfl,_⟩:=e';obtain ⟨x,hx⟩:∃ x,l[i]?=some x:=⟨_,gE (by rw [h.hl];exact hi)⟩;have hg:l.getD i (0,0,⟨#[]⟩)=x:=by rw [kAa,hx];rfl
  rw [hg];exact ⟨h3 i x hx 0 (by omega),h3 i x hx 1 (by omega),h3 i x hx 2 (by omega)⟩
 ·obtain ⟨b,o,e,_⟩:=h.pl h0;exact ⟨b,o,e⟩
def bVq (l:List Val) (B:Nat) (e:Ending) (w':World):Prop:=∃ v,e=.returned (.tuple #[v,.int .i64 (bBj l)])/\(bBj l=0->OB B w' v (bAm l))/\(bBj l≠0->v=.slice none 0 0)
end Go.Proofs.YtdpdjpkmndnaaaaGreat
set_option maxRecDepth 100000
set_option maxHeartbeats 16000000
set_option linter.unusedVariables false
namespace Go.Proofs.YtdpdjpkmndnaaaaGreat
open Go.RowKit _root_.Go.Proofs.Tryz
variable {B c cap cc cl g j k n rb te xc xl:Nat} {a ca xa:Option Addr} {fz:Nat×Nat} {pre xs:List Nat} {s:Sch} {w w' w2:World}
def slK (s:ByteArray):List Nat:=s.data.toList.map UInt8.toNat
theorem aE4 (s:ByteArray):(slK s).length=s.size:=by simp [slK]
theorem bO6 (s:ByteArray):∀ c∈slK s,c<256:=by
 intro c hc;simp only [slK,List.mem_map] at hc;obtain ⟨u,_,rfl⟩:=hc;exact u.toNat_lt
theorem aH2 (s:ByteArray):str (slK s)=s:=by
 apply ByteArray.ext;apply Array.toList_inj.1;rw [str,strOfNums_data,slK,List.map_map,List.map_map]
 conv=>rhs;rw [<-List.map_id s.data.toList]
 apply List.map_congr_left;intro u _;simp
theorem bGi {s:ByteArray} (h:w.heap[g]?=some (.cells (bytesRow s cap) 5 fz)) (h1:s.size<=cap) (h2:cap<=9223372036854775807) (h3:s.size<=140737488355328):BS w (some ⟨g,0,none⟩) s.size cap (slK s):=by
 refine BS.of (aE4 s) h1 h3 h2 (bO6 s) ?_;intro i hi;have hi2:i<s.data.size:=hi;rw [Nat.zero_add,cell_of_row w g i _ _ _ h,bytesRow_at s cap i hi2]
 congr 3
 simp only [slK,kAa,kAq,kBe,Array.getElem?_eq_getElem hi2,Option.map_some,Option.getD_some]
theorem bLr (s:ByteArray) (w:World) (h:s.size<=1000):∃ cap w',(convert 9 97 (.string s)).run prog w=.ok (.slice (some ⟨w.heap.size,0,none⟩) s.size cap) w'/\Below w.heap.size w w'/\BS w' (some ⟨w.heap.size,0,none⟩) s.size cap (slK s):=by
 refine ⟨_,_,run_bytes_of_string w 9 97 5 s underlying9 underlying97 underlying5,(kBh _ _).drew.alloc (nR _) _,?_⟩;have hge:=grownCap_ge w s.size 0 5;have hle:=grownCap_le_maxLen w s.size 0 5 (by unfold maxLen;omega);unfold maxLen at hle;exact bGi (kBm w.drew _) hge (by omega) (by omega)
theorem aGi (n:Nat) (w:World) (h:n<9223372036854775808):Calls prog 101 #[.int .i64 n] w fun e w'=>∃ g c,e=.returned (.slice (some ⟨g,0,none⟩) (grp n) c)/\OB w.heap.size w' (.slice (some ⟨g,0,none⟩) (grp n) c) (enc n)/\Below w.heap.size w w':=by
 refine (aHy n w h).mono ?_;rintro e w' ⟨g,c,rfl,h1,h2⟩;refine ⟨g,c,rfl,?_,h2⟩;show World.ownsRow _ _ _ _ _ _ _;rw [aAs n (aAt n h).1];exact h1
def wb (s:ByteArray):List Nat:=enc s.size++slK s
theorem bB2 (s:ByteArray) (w:World) {cap:Nat} {a:Option Addr} (h:BS w a s.size cap (slK s)) (hs:s.size<=1000):Calls prog 100 #[.slice a s.size cap] w fun e w'=>∃ g c,e=.returned (.slice (some ⟨g,0,none⟩) (grp s.size+s.size) c)/\OB w.heap.size w' (.slice (some ⟨g,0,none⟩) (grp s.size+s.size) c) (wb s)/\Below w.heap.size w w':=by
 refine (bLv a s.size cap (slK s) w h (by omega)).mono ?_;rintro e w' ⟨g,c,rfl,h1,h2⟩;refine ⟨g,c,rfl,?_,h2⟩;show World.ownsRow _ _ _ _ _ _ _;unfold wb;rw [lA,aAs s.size (aAt s.size (by omega)).1,aE4];exact h1
theorem aBd (n:Nat) (h:n<9223372036854775808):(enc n).length<=9:=by rw [aAs n (aAt n h).1];exact (aAt n h).2.1
theorem bEw (s:ByteArray) (h:s.size<=8):(wb s).length<=17:=by
 unfold wb;have:=aBd s.size (by omega);rw [lA,aE4];omega
def bBh (c:Col):List Nat:=wb c.1++enc c.2.1.toNat++enc c.2.2.toNat
def bBd (x:Idx):List Nat:=enc x.1.toNat++enc (if x.2 then 1 else 0)
def encS (s:Sch):List Nat:=wb s.nm++enc s.cs.length++s.cs.flatMap bBh++enc s.xs.length++s.xs.flatMap bBd
theorem bGk {l:List Col}:∀ {n j:Nat} {c:Col},bBl l n=true->j<n->l[j]?=some c->bBp l j c=true
 | 0,j,c,_,hj,_=>by omega
 | n+1,j,c,h,hj,hc=>by
  have h':(bBl l n && (match l[n]? with | some c=>bBp l n c | none=>true))=true:=h
  rw [Bool.and_eq_true] at h'
  by_cases e:j=n
  ·subst e
   have:=h'.2
   rw [hc] at this
   exact this
  ·exact bGk h'.1 (by omega) hc
theorem bEe {m:Nat} {l:List Idx}:∀ {n j:Nat} {c:Idx},bHx m l n=true->j<n->l[j]?=some c->bFt m l j c=true
 | 0,j,c,_,hj,_=>by omega
 | n+1,j,c,h,hj,hc=>by
  have h':(bHx m l n && (match l[n]? with | some c=>bFt m l n c | none=>true))=true:=h
  rw [Bool.and_eq_true] at h'
  by_cases e:j=n
  ·subst e
   have:=h'.2
   rw [hc] at this
   exact this
  ·exact bEe h'.1 (by omega) hc
theorem aF5 {s:ByteArray} (h:bCv s=true):s.size<=8:=by
 unfold bCv at h;simp only [Bool.and_eq_true,decide_eq_true_eq] at h;exact h.1.2
theorem bNz {k m:Int} (h:bN0 k m=true):1<=k/\k<=3/\0<=m/\m<=8:=by
 unfold bN0 at h
 split at h
 ·simp only [Bool.and_eq_true,decide_eq_true_eq] at h;omega
 ·split at h
  ·simp only [beq_iff_eq] at h;omega
  ·cases h
structure ColOk (c:Col):Prop where
 nm:c.1.size<=8
 k0:1<=c.2.1
 k1:c.2.1<=3
 m0:0<=c.2.2
 m1:c.2.2<=8
theorem Sch.parts (h:s.ok=true):s.nm.size<=8/\s.cs.length<=3/\s.xs.length<=3/\(∀ (j:Nat) c,s.cs[j]?=some c->ColOk c)/\(∀ (j:Nat) x,s.xs[j]?=some x->1<=x.1/\x.1<=3):=by
 unfold Sch.ok bAx bBo at h;simp only [Bool.and_eq_true,decide_eq_true_eq] at h;obtain ⟨⟨h1,⟨h2,h3⟩,h4⟩,h5,h6⟩:=h;refine ⟨aF5 h1,h3,h5,fun j c hc=>?_,fun j x hx=>?_⟩
 ·have:=bGk h4 (lL hc) hc;unfold bBp at this;simp only [Bool.and_eq_true] at this;have hm:=bNz this.1.2;exact ⟨aF5 this.1.1,hm.1,hm.2.1,hm.2.2.1,hm.2.2.2⟩
 ·have:=bEe h6 (lL hx) hx;unfold bFt at this;simp only [Bool.and_eq_true,decide_eq_true_eq] at this;omega
theorem aKx {c:Col} (h:ColOk c):(bBh c).length<=35:=by
 unfold bBh;have h1:=bEw c.1 h.nm;have h2:=aBd c.2.1.toNat (by have:=h.k1;omega);have h3:=aBd c.2.2.toNat (by have:=h.m1;omega);simp only [lA];omega
theorem bGd {x:Idx} (h:1<=x.1/\x.1<=3):(bBd x).length<=18:=by
 unfold bBd;have h2:=aBd x.1.toNat (by omega);have h3:=aBd (if x.2 then 1 else 0) (by split<;>omega);simp only [lA];omega
theorem bLf (h:SC w ca cl cc xa xl xc s) (hok:s.ok=false) :
  Calls prog 61 #[.agg #[.string s.nm,.slice ca cl cc,.slice xa xl xc]] w fun e w'=>e=.returned (.tuple #[.slice none 0 0,.int .i64 61])/\Below w.heap.size w w':=by
 have hbx:=aAg w (.cells #[.string s.nm,.slice ca cl cc,.slice xa xl xc] 33);have HR1:Hid ((w.alloc (.cells #[.string s.nm,.slice ca cl cc,.slice xa xl xc] 33)).heap[w.heap.size]?=some (.cells #[.string s.nm,.slice ca cl cc,.slice xa xl xc] 33 (0,0))):=boxed w _;have HW1:=aAc hbx;have HRT:=aAc (aGk (h.later hbx));rw [show s.err=61 from kAb (by rw [hok];decide)] at HRT;clear h hbx hok;go_enter func61,ntmps61;go_upto_region 1 with fail;generalize w.alloc (.cells #[.string s.nm,.slice ca cl cc,.slice xa xl xc] 33)=w1 at *;generalize hL:w.heap.size=L at *;have y0:w1.cell? ⟨L,0,none⟩=some (.string s.nm):=aAa HR1.o;have y1:w1.cell? ⟨L,1,none⟩=some (.slice ca cl cc):=aAa HR1.o;have y2:w1.cell? ⟨L,2,none⟩=some (.slice xa xl xc):=aAa HR1.o;go_wp2_with fail;refine HRT.o.mono ?_;rintro e w2 ⟨rfl,hb2⟩;have HW2:Hid (Below L w w2):=HW1.o.trans (hb2.mono (by have:=aAe HR1.o;omega));clear hb2 HRT;go_wp2;go_ret2;exact ⟨rfl,by first | exact HW2.o | (rw [hL];exact HW2.o)⟩
theorem aGr {α:Type} {f:α->List Nat} {m:Nat} {l:List α} (h:∀ (j:Nat) x,l[j]?=some x->(f x).length<=m):∀ j,((l.take j).flatMap f).length<=m*j
 | 0=>by simp
 | j+1=>by
  have ih:=aGr h j
  rw [kAs,List.flatMap_append,lA,Nat.mul_add]
  cases hx:l[j]? with
  | none =>
   show ((l.take j).flatMap f).length+0<=m*j+m*1
   omega
  | some x =>
   have h1:=h j x hx
   have e:[x].flatMap f=f x:=by simp
   show ((l.take j).flatMap f).length+([x].flatMap f).length<=m*j+m*1;rw [e];omega
theorem aF8 {α:Type} {f:α->List Nat} {l:List α} {x:α} (h:l[j]?=some x):(l.take (j+1)).flatMap f=(l.take j).flatMap f++f x:=by
 rw [kAs,h,List.flatMap_append];simp
theorem bC9 (h:SC w ca cl cc xa xl xc s) (hok:s.ok=true) :
  Calls prog 61 #[.agg #[.string s.nm,.slice ca cl cc,.slice xa xl xc]] w fun e w'=>∃ v,e=.returned (.tuple #[v,.int .i64 0])/\OB w.heap.size w' v (encS s)/\Below w.heap.size w w':=by
 have hbx:=aAg w (.cells #[.string s.nm,.slice ca cl cc,.slice xa xl xc] 33);have HR1:Hid ((w.alloc (.cells #[.string s.nm,.slice ca cl cc,.slice xa xl xc] 33)).heap[w.heap.size]?=some (.cells #[.string s.nm,.slice ca cl cc,.slice xa xl xc] 33 (0,0))):=boxed w _;have HW1:=aAc hbx;have HRT:=aAc (aGk (h.later hbx));rw [show s.err=0 from kAg hok] at HRT;have HPA:=aAc (Sch.parts hok);have H0:=aAc h;have HCL:=aAc h.c.hl;have HXL:=aAc h.x.hl;have HNZ:Hid (s.nm.size<=8):=HPA.o.1;have hcl3:cl<=3:=by rw [<-HCL.o];exact HPA.o.2.1
 have hxl3:xl<=3:=by rw [<-HXL.o];exact HPA.o.2.2.1
 clear h hbx hok;go_enter func61,ntmps61;go_upto_region 1 with fail;generalize w.alloc (.cells #[.string s.nm,.slice ca cl cc,.slice xa xl xc] 33)=w1 at *;generalize hL:w.heap.size=L at *;have y0:w1.cell? ⟨L,0,none⟩=some (.string s.nm):=aAa HR1.o;have y1:w1.cell? ⟨L,1,none⟩=some (.slice ca cl cc):=aAa HR1.o;have y2:w1.cell? ⟨L,2,none⟩=some (.slice xa xl xc):=aAa HR1.o;go_wp2_with fail;refine HRT.o.mono ?_;rintro e w2 ⟨rfl,hb2⟩;have HW2:Hid (Below L w w2):=HW1.o.trans (hb2.mono (by have:=aAe HR1.o;omega));have HR2:=aAc ((hb2.block L (aAe HR1.o)).trans HR1.o);clear hb2 HRT y0 y1 y2 HR1 HW1;have y0:w2.cell? ⟨L,0,none⟩=some (.string s.nm):=aAa HR2.o;obtain ⟨cp3,w3,hcv3,hb3,hbs3⟩:=bLr s.nm w2 (by have:=HNZ.o;omega);have HP4:=aAc (bB2 s.nm w3 hbs3 (by have:=HNZ.o;omega));have HR3:=aAc ((hb3.block L (aAe HR2.o)).trans HR2.o);have HW3:Hid (Below L w w3):=HW2.o.trans (hb3.mono (by have:=aAe HR2.o;omega));clear hb3 hbs3;go_wp2_with fail;refine HP4.o.mono ?_;rintro e w4 ⟨g4,c4,rfl,ho4,hb4⟩;have HO4:=aAc ho4;have HR4:=aAc ((hb4.block L (aAe HR3.o)).trans HR3.o);have HW4:Hid (Below L w w4):=HW3.o.trans (hb4.mono (by have:=aAe HR3.o;omega));have HN0:Hid (w3.heap.size<=w4.heap.size):=hb4.size;have HL0:Hid (L<w3.heap.size):=aAe HR3.o;clear ho4 hb4 HP4 hcv3 y0;generalize w3.heap.size=n0 at *;have y1:w4.cell? ⟨L,1,none⟩=some (.slice ca cl cc):=aAa HR4.o;have HWL:=aAc (bEw s.nm HNZ.o);have HUC:=aAc (aBd cl (by omega));have HP5:=aAc (aGi cl w4 (by omega));go_wp2_with fail;refine HP5.o.mono ?_;rintro e w5 ⟨g5,c5,rfl,ho5,hb5⟩;have HO5:=aAc ho5;have HO5':=aAc (HO4.o.later hb5);have HR5:=aAc ((hb5.block L (aAe HR4.o)).trans HR4.o);have HN5:Hid (n0<=w5.heap.size):=nT HN0.o hb5.size;have HW5:Hid (Below L w w5):=HW4.o.trans (hb5.mono (by have:=aAe HR4.o;omega));clear ho5 hb5 HP5 HO4 y1;go_upto_region 6 with (at_builtin;refine aA1 rfl (.tmp 19) (.tmp 23) rfl rfl rfl HO5'.out HO5.o HN5.o (by have:=HWL.o;have:=HUC.o;omega) ?_;intro v6 w6 ho6 hb6 hk6;have HO6:=aAc ho6;have HB6:=aAc hb6;clear ho6 hb6 hk6);have HR6:=aAc ((HB6.o.block L HL0.o).trans HR5.o);have HW6:Hid (Below L w w6):=HW5.o.trans (HB6.o.mono (by have:=HL0.o;omega));have HN6:Hid (n0<=w6.heap.size):=nT HN5.o HB6.o.size;obtain ⟨a6,c6,e6⟩:=HO6.o.form;obtain ⟨P6,hP6⟩:∃ P,P=wb s.nm++enc cl:=⟨_,rfl⟩;have HP6:=aAc hP6;have HPL:Hid (P6.length<=26):=by show _<=_;rw [hP6,lA];have:=HWL.o;have:=HUC.o;omega
 rw [<-hP6] at HO6 e6;obtain ⟨k6,hk6⟩:∃ k,P6.length=k:=⟨_,rfl⟩;rw [hk6] at e6;subst e6;have HK6:=aAc hk6;have HPLC:=HPL;have HNBC:=HN6;clear hP6 hk6 HO5 HO5' HB6 HR5 HW5 HN5;have y1:w6.cell? ⟨L,1,none⟩=some (.slice ca cl cc):=aAa HR6.o;go_wp2_with fail;clear y1;go_loopg [5,28] cl (fun gh s5 s28 wx=>∃ j:Nat,j+gh=cl/\s28=.int .i64 (j:Int)/\∃ a k c P,s5=.slice a k c/\P.length=k/\P=P6++(s.cs.take j).flatMap bBh/\OB n0 wx (.slice a k c) P/\Below n0 w6 wx)
 case atStart=>exact ⟨0,by omega,rfl,a6,k6,c6,P6,rfl,HK6.o,by simp,HO6.o,kBh _ _⟩
 case round =>
  obtain ⟨j,hj,rfl,a,k,c0,P,rfl,hPk,hP,hO,hB⟩:=hrel;have HRW:=aAc hO;have HBW:=aAc hB;have HPP:=aAc hP;have HPK:=aAc hPk;have HNW:Hid (n0<=wr.heap.size):=nT HNBC.o hB.size;have HLW:Hid (Below L w wr):=HW6.o.trans (hB.mono (by have:=HL0.o;omega));have HPZ:Hid (P.length<=300):=by
   show _<=_;rw [hP,lA];have h9:=aGr (f:=bBh) (m:=35) (l:=s.cs) (fun j c hc=>aKx (HPA.o.2.2.2.1 j c hc)) j;have:=HPLC.o;omega
  clear hPk hP hO hB;by_cases hjn:j<cl
  ·have xj:(j:Int)<(cl:Int):=by omega
   have xj4:(j:Int)<4:=by omega
   obtain ⟨c,hcj⟩:∃ c,s.cs[j]?=some c:=⟨_,gE (by rw [HCL.o];exact hjn)⟩;have HOKC:=aAc (HPA.o.2.2.2.1 j c hcj);have HFN:=aAc (aF8 (f:=bBh) hcj);have hbw:Below w.heap.size w wr:=by rw [hL];exact HLW.o
   obtain ⟨b,o,ec,hb,hcc⟩:=(H0.o.c.later hbw).pl (by omega);have y0:wr.cell? ⟨b,o+j*3,none⟩=some (.string c.1):=hcc j c hcj 0 (by omega);have y1:wr.cell? ⟨b,o+j*3+1,none⟩=some (.int .i64 c.2.1):=hcc j c hcj 1 (by omega);have y2:wr.cell? ⟨b,o+j*3+2,none⟩=some (.int .i64 c.2.2):=hcc j c hcj 2 (by omega);have HNZ:Hid (c.1.size<=8):=HOKC.o.nm;obtain ⟨kk,hkk⟩:∃ kk:Nat,c.2.1=(kk:Int):=⟨c.2.1.toNat,by have:=HOKC.o.k0;omega⟩;obtain ⟨mm,hmm⟩:∃ mm:Nat,c.2.2=(mm:Int):=⟨c.2.2.toNat,by have:=HOKC.o.m0;omega⟩;have hk8:kk<=8:=by have:=HOKC.o.k1;omega
   have hm8:mm<=8:=by have:=HOKC.o.m1;omega
   have HEC:Hid (bBh c=wb c.1++enc kk++enc mm):=by show bBh c=_;unfold bBh;rw [hkk,hmm];rfl
   have HWL:=aAc (bEw c.1 HNZ.o);have HU1:=aAc (aBd kk (by omega));have HU2:=aAc (aBd mm (by omega));rw [hkk] at y1;rw [hmm] at y2;clear hkk hmm;have hbk:=aAg wr (.cells #[.string c.1,.int .i64 (kk:Int),.int .i64 (mm:Int)] 93);have HV:Hid ((wr.alloc (.cells #[.string c.1,.int .i64 (kk:Int),.int .i64 (mm:Int)] 93)).heap[wr.heap.size]?=some (.cells #[.string c.1,.int .i64 (kk:Int),.int .i64 (mm:Int)] 93 (0,0))):=boxed wr _;have HOA:=aAc (HRW.o.later hbk);have HBA:Hid (Below n0 w6 (wr.alloc (.cells #[.string c.1,.int .i64 (kk:Int),.int .i64 (mm:Int)] 93))):=HBW.o.trans (hbk.mono HNW.o);have HNA:Hid (n0<=(wr.alloc (.cells #[.string c.1,.int .i64 (kk:Int),.int .i64 (mm:Int)] 93)).heap.size):=nT HNW.o hbk.size;subst ec;clear hcc hcj hbk hbw;go_upto_region 9 with fail;clear y0 y1 y2;generalize wr.alloc (.cells #[.string c.1,.int .i64 (kk:Int),.int .i64 (mm:Int)] 93)=wa at *;generalize wr.heap.size=V at *;have z0:wa.cell? ⟨V,0,none⟩=some (.string c.1):=aAa HV.o;obtain ⟨cp9,wc9,hcv9,hbc9,hbs9⟩:=bLr c.1 wa (by have:=HNZ.o;omega);have HBC9:=aAc hbc9;have HP9:=aAc (bB2 c.1 wc9 hbs9 (by have:=HNZ.o;omega));clear hbc9 hbs9;go_wp2_with fail;refine HP9.o.mono ?_;rintro e wp9 ⟨gp9,cq9,rfl,hop9,hbp9⟩;have hbx9:Below wa.heap.size wa wp9:=HBC9.o.trans (hbp9.mono HBC9.o.size);clear hcv9;have HOP9:=aAc hop9;have HR9:=aAc (HOA.o.later hbx9);have HVp9:=aAc ((hbx9.block V (aAe HV.o)).trans HV.o);have HZ9:Hid (n0<=wp9.heap.size):=nT HNA.o hbx9.size;have HY9:Hid (Below n0 w6 wp9):=HBA.o.trans (hbx9.mono HNA.o);clear hop9 hbp9 hbx9 HP9;go_upto_region 10 with (at_builtin;refine aA1 rfl (.tmp 32) (.tmp 36) rfl rfl rfl HR9.o HOP9.o HZ9.o (by have:=HPZ.o;have:=HWL.o;omega) ?_;intro v9 w9 ho9 hb9 hk9;have HO9:=aAc ho9;have HB9:=aAc hb9;have HK9:=aAc hk9;clear ho9 hb9 hk9);have HVq9:=aAc ((HK9.o V (aAe HVp9.o) (HR9.o.ne HVp9.o (by decide))).trans HVp9.o);have HX9:Hid (Below n0 w6 w9):=HY9.o.trans HB9.o;have HS9:Hid (n0<=w9.heap.size):=nT HZ9.o HB9.o.size;obtain ⟨a9,c9,e9⟩:=HO9.o.form;obtain ⟨k9,hk9⟩:∃ k,(P++wb c.1).length=k:=⟨_,rfl⟩;rw [hk9] at e9;subst e9;have HKL9:=aAc hk9;clear hk9 HR9 HOP9 HB9 HK9;have z1:w9.cell? ⟨V,1,none⟩=some (.int .i64 (kk:Int)):=aAa HVq9.o;clear z0;have HP10:=aAc (aGi kk w9 (by omega));go_wp2_with fail;refine HP10.o.mono ?_;rintro e wp10 ⟨gp10,cq10,rfl,hop10,hbp10⟩;have hbx10:Below w9.heap.size w9 wp10:=hbp10;have HOP10:=aAc hop10;have HR10:=aAc (HO9.o.later hbx10);have HVq9p10:=aAc ((hbx10.block V (aAe HVq9.o)).trans HVq9.o);have HZ10:Hid (n0<=wp10.heap.size):=nT HS9.o hbx10.size;have HY10:Hid (Below n0 w6 wp10):=HX9.o.trans (hbx10.mono HS9.o);clear hop10 hbp10 hbx10 HP10;go_upto_region 11 with (at_builtin;refine aA1 rfl (.tmp 38) (.tmp 41) rfl rfl rfl HR10.o HOP10.o HZ10.o (by have:=HPZ.o;have:=HWL.o;have:=HU1.o;rw [lA];omega) ?_;intro v10 w10 ho10 hb10 hk10;have HO10:=aAc ho10;have HB10:=aAc hb10;have HK10:=aAc hk10;clear ho10 hb10 hk10);have HVq9q10:=aAc ((HK10.o V (aAe HVq9p10.o) (HR10.o.ne HVq9p10.o (by decide))).trans HVq9p10.o);have HX10:Hid (Below n0 w6 w10):=HY10.o.trans HB10.o;have HS10:Hid (n0<=w10.heap.size):=nT HZ10.o HB10.o.size;obtain ⟨a10,c10,e10⟩:=HO10.o.form;obtain ⟨k10,hk10⟩:∃ k,((P++wb c.1)++enc kk).length=k:=⟨_,rfl⟩;rw [hk10] at e10;subst e10;have HKL10:=aAc hk10;clear hk10 HR10 HOP10 HB10 HK10;have z2:w10.cell? ⟨V,2,none⟩=some (.int .i64 (mm:Int)):=aAa HVq9q10.o;clear z1;have HP11:=aAc (aGi mm w10 (by omega));go_wp2_with fail;refine HP11.o.mono ?_;rintro e wp11 ⟨gp11,cq11,rfl,hop11,hbp11⟩;have hbx11:Below w10.heap.size w10 wp11:=hbp11;have HOP11:=aAc hop11;have HR11:=aAc (HO10.o.later hbx11);have HZ11:Hid (n0<=wp11.heap.size):=nT HS10.o hbx11.size;have HY11:Hid (Below n0 w6 wp11):=HX10.o.trans (hbx11.mono HS10.o);clear hop11 hbp11 hbx11 HP11;go_upto_region 12 with (at_builtin;refine aA1 rfl (.tmp 43) (.tmp 46) rfl rfl rfl HR11.o HOP11.o HZ11.o (by have:=HPZ.o;have:=HWL.o;have:=HU1.o;have:=HU2.o;rw [lA,lA];omega) ?_;intro v11 w11 ho11 hb11 hk11;have HO11:=aAc ho11;have HB11:=aAc hb11;have HK11:=aAc hk11;clear ho11 hb11 hk11);have HX11:Hid (Below n0 w6 w11):=HY11.o.trans HB11.o;have HS11:Hid (n0<=w11.heap.size):=nT HZ11.o HB11.o.size;obtain ⟨a11,c11,e11⟩:=HO11.o.form;obtain ⟨k11,hk11⟩:∃ k,((P++wb c.1++enc kk)++enc mm).length=k:=⟨_,rfl⟩;rw [hk11] at e11;subst e11;have HKL11:=aAc hk11;clear hk11 HR11 HOP11 HB11 HK11;go_wp2;go_roundg (gk-1)
   case measure=>omega
   case rel=>exact ⟨j+1,by omega,rfl,a11,k11,c11,P++wb c.1++enc kk++enc mm,rfl,HKL11.o,by rw [HFN.o,HEC.o,HPP.o];simp only [kAu],HO11.o,HX11.o⟩
  ·have xj:¬ (j:Int)<(cl:Int):=by omega
   have HPE:Hid (P=P6++s.cs.flatMap bBh):=by
    show P=_;rw [HPP.o,kAh (by rw [HCL.o];omega)]
   have HRS:=aAc ((HBW.o.block L HL0.o).trans HR6.o);have y2:wr.cell? ⟨L,2,none⟩=some (.slice xa xl xc):=aAa HRS.o;have HUX:=aAc (aBd xl (by omega));go_upto_region 13 with fail;have HP13:=aAc (aGi xl wr (by omega));go_wp2_with fail;refine HP13.o.mono ?_;rintro e wp13 ⟨gp13,cq13,rfl,hop13,hbp13⟩;have hbx13:Below wr.heap.size wr wp13:=hbp13;have HOP13:=aAc hop13;have HR13:=aAc (HRW.o.later hbx13);have HRSp13:=aAc ((hbx13.block L (aAe HRS.o)).trans HRS.o);have HZ13:Hid (n0<=wp13.heap.size):=nT HNW.o hbx13.size;have HY13:Hid (Below n0 w6 wp13):=HBW.o.trans (hbx13.mono HNW.o);clear hop13 hbp13 hbx13 HP13;go_upto_region 14 with (at_builtin;refine aA1 rfl (.tmp 49) (.tmp 53) rfl rfl rfl HR13.o HOP13.o HZ13.o (by have:=HPZ.o;have:=HUX.o;omega) ?_;intro v13 w13 ho13 hb13 hk13;have HO13:=aAc ho13;have HB13:=aAc hb13;have HK13:=aAc hk13;clear ho13 hb13 hk13);have HRSq13:=aAc ((HK13.o L (aAe HRSp13.o) (HR13.o.ne HRSp13.o (by decide))).trans HRSp13.o);have HX13:Hid (Below n0 w6 w13):=HY13.o.trans HB13.o;have HS13:Hid (n0<=w13.heap.size):=nT HZ13.o HB13.o.size;obtain ⟨a13,c13,e13⟩:=HO13.o.form;obtain ⟨k13,hk13⟩:∃ k,(P++enc xl).length=k:=⟨_,rfl⟩;rw [hk13] at e13;subst e13;have HKL13:=aAc hk13;clear hk13 HR13 HOP13 HB13 HK13;obtain ⟨P13,hP13⟩:∃ P',P'=P++enc xl:=⟨_,rfl⟩;have HP13:=aAc hP13;have HPLX:Hid (P13.length<=240):=by
    show _<=_;have h9:=aGr (f:=bBh) (m:=35) (l:=s.cs) (fun j c hc=>aKx (HPA.o.2.2.2.1 j c hc)) j;have h8:=HPP.o;rw [hP13,lA,h8,lA];have:=HPLC.o;have:=HUX.o;omega
   rw [<-hP13] at HO13 HKL13;have HNBX:Hid (n0<=w13.heap.size):=HS13.o;have HLX:Hid (Below L w w13):=HW6.o.trans (HX13.o.mono (by have:=HL0.o;omega));have y3:w13.cell? ⟨L,2,none⟩=some (.slice xa xl xc):=aAa HRSq13.o;clear y2 hP13;go_wp2_with fail;clear y3;go_loopg [5,58] xl (fun gh s5 s58 wx=>∃ j:Nat,j+gh=xl/\s58=.int .i64 (j:Int)/\∃ a k c P,s5=.slice a k c/\P.length=k/\P=P13++(s.xs.take j).flatMap bBd/\OB n0 wx (.slice a k c) P/\Below n0 w13 wx)
   case atStart=>exact ⟨0,by omega,rfl,a13,k13,c13,P13,rfl,HKL13.o,by simp,HO13.o,kBh _ _⟩
   case round =>
    have HPC:=HPE;clear HPE HPP HPK HRW HBW HNW HLW HPZ xj;obtain ⟨j,hj,rfl,a,k,c0,P,rfl,hPk,hP,hO,hB⟩:=hrel;have HRW:=aAc hO;have HBW:=aAc hB;have HPP:=aAc hP;have HPK:=aAc hPk;have HNW:Hid (n0<=wr.heap.size):=nT HNBX.o hB.size;have HLW:Hid (Below L w wr):=HLX.o.trans (hB.mono (by have:=HL0.o;omega));have HPZ:Hid (P.length<=300):=by
     show _<=_;rw [hP,lA];have h9:=aGr (f:=bBd) (m:=18) (l:=s.xs) (fun j c hc=>bGd (HPA.o.2.2.2.2 j c hc)) j;have:=HPLX.o;omega
    clear hPk hP hO hB;by_cases hjn:j<xl
    ·have xj:(j:Int)<(xl:Int):=by omega
     have xj4:(j:Int)<4:=by omega
     obtain ⟨c,hcj⟩:∃ c,s.xs[j]?=some c:=⟨_,gE (by rw [HXL.o];exact hjn)⟩;have HOKC:=aAc (HPA.o.2.2.2.2 j c hcj);have HFN:=aAc (aF8 (f:=bBd) hcj);have hbw:Below w.heap.size w wr:=by rw [hL];exact HLW.o
     obtain ⟨b,o,ec,hb,hcc⟩:=(H0.o.x.later hbw).pl (by omega);have y0:wr.cell? ⟨b,o+j*2,none⟩=some (.int .i64 c.1):=hcc j c hcj 0 (by omega);have y1:wr.cell? ⟨b,o+j*2+1,none⟩=some (.bool c.2):=hcc j c hcj 1 (by omega);obtain ⟨kk,hkk⟩:∃ kk:Nat,c.1=(kk:Int):=⟨c.1.toNat,by have:=HOKC.o.1;omega⟩;obtain ⟨ub,hub⟩:∃ ub,c.2=ub:=⟨_,rfl⟩;have hk8:kk<=8:=by have:=HOKC.o.2;omega
     obtain ⟨mm,hmm⟩:∃ mm:Nat,mm=(if ub then 1 else 0):=⟨_,rfl⟩;have hm8:mm<=8:=by rw [hmm];split<;>omega
     have hmi:(if ub then (1:Int) else 0)=(mm:Int):=by rw [hmm];cases ub<;>rfl
     have HEC:Hid (bBd c=enc kk++enc mm):=by show bBd c=_;unfold bBd;rw [hkk,hub,<-hmm];rfl
     have HU1:=aAc (aBd kk (by omega));have HU2:=aAc (aBd mm (by omega));have HMI:=aAc hmi;rw [hkk] at y0;rw [hub] at y1;clear hkk hub hmm hmi;have hbk:=aAg wr (.cells #[.int .i64 (kk:Int),.bool ub] 61);have HV:Hid ((wr.alloc (.cells #[.int .i64 (kk:Int),.bool ub] 61)).heap[wr.heap.size]?=some (.cells #[.int .i64 (kk:Int),.bool ub] 61 (0,0))):=boxed wr _;have HOA:=aAc (HRW.o.later hbk);have HBA:Hid (Below n0 w13 (wr.alloc (.cells #[.int .i64 (kk:Int),.bool ub] 61))):=HBW.o.trans (hbk.mono HNW.o);have HNA:Hid (n0<=(wr.alloc (.cells #[.int .i64 (kk:Int),.bool ub] 61)).heap.size):=nT HNW.o hbk.size;subst ec;clear hcc hcj hbk hbw;go_upto_region 17 with fail;clear y0 y1;generalize wr.alloc (.cells #[.int .i64 (kk:Int),.bool ub] 61)=wa at *;generalize wr.heap.size=V at *;have z0:wa.cell? ⟨V,0,none⟩=some (.int .i64 (kk:Int)):=aAa HV.o;have HP17:=aAc (aGi kk wa (by omega));go_wp2_with fail;refine HP17.o.mono ?_;rintro e wp17 ⟨gp17,cq17,rfl,hop17,hbp17⟩;have hbx17:Below wa.heap.size wa wp17:=hbp17;have HOP17:=aAc hop17;have HR17:=aAc (HOA.o.later hbx17);have HVp17:=aAc ((hbx17.block V (aAe HV.o)).trans HV.o);have HZ17:Hid (n0<=wp17.heap.size):=nT HNA.o hbx17.size;have HY17:Hid (Below n0 w13 wp17):=HBA.o.trans (hbx17.mono HNA.o);clear hop17 hbp17 hbx17 HP17;go_upto_region 18 with (at_builtin;refine aA1 rfl (.tmp 62) (.tmp 65) rfl rfl rfl HR17.o HOP17.o HZ17.o (by have:=HPZ.o;have:=HU1.o;omega) ?_;intro v17 w17 ho17 hb17 hk17;have HO17:=aAc ho17;have HB17:=aAc hb17;have HK17:=aAc hk17;clear ho17 hb17 hk17);have HVq17:=aAc ((HK17.o V (aAe HVp17.o) (HR17.o.ne HVp17.o (by decide))).trans HVp17.o);have HX17:Hid (Below n0 w13 w17):=HY17.o.trans HB17.o;have HS17:Hid (n0<=w17.heap.size):=nT HZ17.o HB17.o.size;obtain ⟨a17,c17,e17⟩:=HO17.o.form;obtain ⟨k17,hk17⟩:∃ k,(P++enc kk).length=k:=⟨_,rfl⟩;rw [hk17] at e17;subst e17;have HKL17:=aAc hk17;clear hk17 HR17 HOP17 HB17 HK17;have z1:w17.cell? ⟨V,1,none⟩=some (.bool ub):=aAa HVq17.o;clear z0;have HBT:=aAc (bLx ub w17);rw [HMI.o] at HBT;go_wp2_with fail;refine HBT.o.mono ?_;rintro e wt ⟨rfl,hwt⟩;have hwt:=hwt.symm;subst hwt;clear hwt HBT;have HP18:=aAc (aGi mm w17 (by omega));go_wp2_with fail;refine HP18.o.mono ?_;rintro e wp18 ⟨gp18,cq18,rfl,hop18,hbp18⟩;have hbx18:Below w17.heap.size w17 wp18:=hbp18;have HOP18:=aAc hop18;have HR18:=aAc (HO17.o.later hbx18);have HZ18:Hid (n0<=wp18.heap.size):=nT HS17.o hbx18.size;have HY18:Hid (Below n0 w13 wp18):=HX17.o.trans (hbx18.mono HS17.o);clear hop18 hbp18 hbx18 HP18;go_upto_region 19 with (at_builtin;refine aA1 rfl (.tmp 67) (.tmp 71) rfl rfl rfl HR18.o HOP18.o HZ18.o (by have:=HPZ.o;have:=HU1.o;have:=HU2.o;rw [lA];omega) ?_;intro v18 w18 ho18 hb18 hk18;have HO18:=aAc ho18;have HB18:=aAc hb18;have HK18:=aAc hk18;clear ho18 hb18 hk18);have HX18:Hid (Below n0 w13 w18):=HY18.o.trans HB18.o;have HS18:Hid (n0<=w18.heap.size):=nT HZ18.o HB18.o.size;obtain ⟨a18,c18,e18⟩:=HO18.o.form;obtain ⟨k18,hk18⟩:∃ k,((P++enc kk)++enc mm).length=k:=⟨_,rfl⟩;rw [hk18] at e18;subst e18;have HKL18:=aAc hk18;clear hk18 HR18 HOP18 HB18 HK18;go_wp2;go_roundg (gk-1)
     case measure=>omega
     case rel=>exact ⟨j+1,by omega,rfl,a18,k18,c18,P++enc kk++enc mm,rfl,HKL18.o,by rw [HFN.o,HEC.o,HPP.o];simp only [kAu],HO18.o,HX18.o⟩
    ·have xj:¬ (j:Int)<(xl:Int):=by omega
     have HFULL:Hid (P=encS s):=by
      show P=_;rw [HPP.o,kAh (by rw [HXL.o];omega),HP13.o,HPC.o,HP6.o];unfold encS;rw [HCL.o,HXL.o]
     have HFB:Hid (Below L w wr):=HLW.o;go_wp2;go_ret2;refine ⟨.slice a k c0,rfl,?_,by first | exact HFB.o | (rw [hL];exact HFB.o)⟩;rw [<-HFULL.o]
     first | exact aFv HRW.o (by have:=HL0.o;omega) | (rw [hL];exact aFv HRW.o (by have:=HL0.o;omega))
abbrev RDR (rb:Nat) (a:Option Addr) (n c:Nat) (p:Int) (w:World):Prop:=w.heap[rb]?=some (.cells #[.slice a n c,.int .i64 p] 226 (0,0))
structure RdF (rb:Nat) (w w':World):Prop where
 bel:Below rb w w'
 oth:∀ i,i<w.heap.size->i≠rb->w'.heap[i]?=w.heap[i]?
theorem RdF.trans (h:RdF rb w w') (k:RdF rb w' w2):RdF rb w w2:=⟨h.bel.trans k.bel,fun i hi hn=>(k.oth i (kAi hi h.bel.size) hn).trans (h.oth i hi hn)⟩
theorem RdF.of (h:Below w.heap.size w w') (hr:rb<=w.heap.size):RdF rb w w':=⟨h.mono hr,fun i hi _=>h.block i hi⟩
theorem RdF.set (h:RdF rb w w') (i:Nat) (u:Value):RdF rb w (w'.setCell ⟨rb,i,none⟩ u):=⟨h.bel.setCell (p:=⟨rb,i,none⟩) (nR _) u,fun j hj hn=>(heap_setCell_other _ _ _ _ (show j≠rb from hn)).trans (h.oth j hj hn)⟩
theorem aI1 (h:BS w a n c xs) (f:RdF rb w w') (ha:∀ b o,a=some ⟨b,o,none⟩->b≠rb):BS w' a n c xs:=by
 refine ⟨h.hlen,h.hcap,h.hroom,h.hmax,h.hbyte,h.hnil,fun x hx i hi=>?_⟩;rw [<-h.hcell x hx i hi];refine World.cell?_of_block ?_;have hl:(x.add i).block<w.heap.size:=aAn (h.hcell x hx i hi);have e:(x.add i).block=x.block:=by unfold Addr.add;split<;>rfl
 rw [e] at hl ⊢;refine f.oth _ hl fun q=>?_;obtain ⟨b,o,sp⟩:=x;have hsp:sp=none:=by
  have:=World.cell?_spot (h.hcell _ hx 0 (by omega));simpa [Addr.add] using this
 subst hsp;exact ha b o hx q
theorem aFq {p:Int} (h:RDR rb a n c p w) (hb:BS w a n c xs) :
  Calls prog 169 #[.pointer (some ⟨rb,0,none⟩)] w fun e w'=>e=.returned (.int .i64 (ruN xs p))/\RDR rb a n c (ruP xs p) w'/\RdF rb w w':=by
 have HR:=aAc h;have HC:=aAc (aB6 a n c xs p w.drew (hb.later (kBh _ _).drew (nR _)));have HX:Hid ((fun wx=>wx.cell? ⟨rb,0,none⟩=some (.slice a n c)/\wx.cell? ⟨rb,1,none⟩=some (.int .i64 p)) w.drew):=⟨aAa (show w.drew.heap[rb]?=_ from h),aAa (show w.drew.heap[rb]?=_ from h)⟩;obtain ⟨rn,hrn⟩:∃ r:Nat,ruN xs p=r:=⟨_,rfl⟩;obtain ⟨rp,hrp⟩:∃ r:Nat,ruP xs p=r:=⟨_,rfl⟩;rw [hrn,hrp] at HC ⊢;clear h hb hrn hrp;go_enter func169,ntmps169;go_upto_region 1 with fail;refine wp_region_noPanic ?_;refine wp_region_held_drew (S:=fun wx=>wx.cell? ⟨rb,0,none⟩=some (.slice a n c)/\wx.cell? ⟨rb,1,none⟩=some (.int .i64 p)) (by kernel_rfl) HX.o (fun hHeld=>?_);refine aAi (i:=0) (d:=7) (v:=?va0) (by kernel_rfl) (by kernel_rfl) (by kernel_rfl) (by kernel_rfl) (fun _ _ _ h=>h) ?hya0 (by assumption) ?resta0
 case hya0 =>
  intro oi ho;simp only [tG,zG,oI] at ho;subst ho;refine Or.inl ⟨by rfl,?_⟩;intro wx hSw
  try dsimp only at hSw
  obtain ⟨hs1,hs2⟩:=hSw;go_simp
  try rfl
 try simp only [Act.put,siT,scZ,scS]
 refine aAi (i:=1) (d:=8) (v:=?va1) (by kernel_rfl) (by kernel_rfl) (by kernel_rfl) (by kernel_rfl) (fun _ _ _ h=>h) ?hya1 (by assumption) ?resta1
 case hya1 =>
  intro oi ho;simp only [tG,sG,zG,oI] at ho;subst ho;refine Or.inl ⟨by rfl,?_⟩;intro wx hSw
  try dsimp only at hSw
  obtain ⟨hs1,hs2⟩:=hSw;go_simp
  try rfl
 try simp only [Act.put,siT,scZ,scS]
 refine aAi (i:=2) (d:=9) (v:=?va2) (by kernel_rfl) (by kernel_rfl) (by kernel_rfl) (by kernel_rfl) (fun _ _ _ h=>h) ?hya2 (by assumption) ?resta2
 case hya2 =>
  intro oi ho;simp only [tG,sG,zG,oI] at ho;subst ho;refine Or.inl ⟨by rfl,?_⟩;intro wx hSw
  try dsimp only at hSw
  obtain ⟨hs1,hs2⟩:=hSw;go_simp
  try rfl
 try simp only [Act.put,siT,scZ,scS]
 refine aAi (i:=3) (d:=10) (v:=?va3) (by kernel_rfl) (by kernel_rfl) (by kernel_rfl) (by kernel_rfl) (fun _ _ _ h=>h) ?hya3 (by assumption) ?resta3
 case hya3 =>
  intro oi ho;simp only [tG,sG,zG,oI] at ho;subst ho;refine Or.inl ⟨by rfl,?_⟩;intro wx hSw
  try dsimp only at hSw
  obtain ⟨hs1,hs2⟩:=hSw;go_simp
  try rfl
 try simp only [Act.put,siT,scZ,scS]
 refine aAi (i:=4) (d:=11) (v:=?va4) (by kernel_rfl) (by kernel_rfl) (by kernel_rfl) (by kernel_rfl) (fun _ _ _ h=>h) ?hya4 (by assumption) ?resta4
 case hya4 =>
  intro oi ho;simp only [tG,sG,zG,oI] at ho;subst ho;refine Or.inl ⟨by rfl,?_⟩;intro wx hSw
  try dsimp only at hSw
  obtain ⟨hs1,hs2⟩:=hSw;go_simp
  try rfl
 try simp only [Act.put,siT,scZ,scS]
 refine aAi (i:=5) (d:=12) (v:=?va5) (by kernel_rfl) (by kernel_rfl) (by kernel_rfl) (by kernel_rfl) (fun _ _ _ h=>h) ?hya5 (by assumption) ?resta5
 case hya5 =>
  intro oi ho;simp only [tG,sG,zG,oI] at ho;subst ho;refine Or.inl ⟨by rfl,?_⟩;intro wx hSw
  try dsimp only at hSw
  obtain ⟨hs1,hs2⟩:=hSw;go_simp
  try rfl
 try simp only [Act.put,siT,scZ,scS]
 refine aAi (i:=6) (d:=13) (v:=?va6) (by kernel_rfl) (by kernel_rfl) (by kernel_rfl) (by kernel_rfl) (fun _ _ _ h=>h) ?hya6 (by assumption) ?resta6
 case hya6 =>
  intro oi ho;simp only [tG,sG,zG,oI] at ho;subst ho;refine Or.inl ⟨by rfl,?_⟩;intro wx hSw
  try dsimp only at hSw
  obtain ⟨hs1,hs2⟩:=hSw;go_simp
  try rfl
 try simp only [Act.put,siT,scZ,scS]
 refine aAi (i:=7) (d:=14) (v:=?va7) (by kernel_rfl) (by kernel_rfl) (by kernel_rfl) (by kernel_rfl) (fun _ _ _ h=>h) ?hya7 (by assumption) ?resta7
 case hya7 =>
  intro oi ho;simp only [tG,sG,zG,oI] at ho;subst ho;refine Or.inl ⟨by rfl,?_⟩;intro wx hSw
  try dsimp only at hSw
  obtain ⟨hs1,hs2⟩:=hSw;go_simp
  try rfl
 try simp only [Act.put,siT,scZ,scS]
 refine aAf 8 ?_;intro K hK;go_simp;refine HC.o.mono ?_;rintro e w2 ⟨rfl,hw2⟩;subst hw2;refine hK.out _ _ HX.o (fun hHeld=>?_);clear hK K
 try simp only [Act.put,siT,scZ,scS]
 refine aAi (i:=9) (d:=6) (v:=?vb9) (by kernel_rfl) (by kernel_rfl) (by kernel_rfl) (by kernel_rfl) (fun _ _ _ h=>h) ?hyb9 (by assumption) ?restb9
 case hyb9 =>
  intro oi ho;simp only [tG,sG,zG,oI] at ho;subst ho;refine Or.inl ⟨by rfl,?_⟩;intro wx hSw
  try dsimp only at hSw
  obtain ⟨hs1,hs2⟩:=hSw;go_simp
  try rfl
 try simp only [Act.put,siT,scZ,scS]
 refine aAi (i:=10) (d:=16) (v:=?vb10) (by kernel_rfl) (by kernel_rfl) (by kernel_rfl) (by kernel_rfl) (fun _ _ _ h=>h) ?hyb10 (by assumption) ?restb10
 case hyb10 =>
  intro oi ho;simp only [tG,sG,zG,oI] at ho;subst ho;refine Or.inl ⟨by rfl,?_⟩;intro wx hSw
  try dsimp only at hSw
  obtain ⟨hs1,hs2⟩:=hSw;go_simp
  try rfl
 try simp only [Act.put,siT,scZ,scS]
 refine aAi (i:=11) (d:=17) (v:=?vb11) (by kernel_rfl) (by kernel_rfl) (by kernel_rfl) (by kernel_rfl) (fun _ _ _ h=>h) ?hyb11 (by assumption) ?restb11
 case hyb11 =>
  intro oi ho;simp only [tG,sG,zG,oI] at ho;subst ho;refine Or.inl ⟨by rfl,?_⟩;intro wx hSw
  try dsimp only at hSw
  obtain ⟨hs1,hs2⟩:=hSw;go_simp
  try rfl
 try simp only [Act.put,siT,scZ,scS]
 refine aAi (i:=12) (d:=18) (v:=?vb12) (by kernel_rfl) (by kernel_rfl) (by kernel_rfl) (by kernel_rfl) (fun _ _ _ h=>h) ?hyb12 (by assumption) ?restb12
 case hyb12 =>
  intro oi ho;simp only [tG,sG,zG,oI] at ho;subst ho;refine Or.inl ⟨by rfl,?_⟩;intro wx hSw
  try dsimp only at hSw
  obtain ⟨hs1,hs2⟩:=hSw;go_simp
  try rfl
 try simp only [Act.put,siT,scZ,scS]
 refine aAi (i:=13) (d:=3) (v:=?vb13) (by kernel_rfl) (by kernel_rfl) (by kernel_rfl) (by kernel_rfl) (fun _ _ _ h=>h) ?hyb13 (by assumption) ?restb13
 case hyb13 =>
  intro oi ho;simp only [tG,sG,zG,oI] at ho;subst ho;refine Or.inl ⟨by rfl,?_⟩;intro wx hSw
  try dsimp only at hSw
  obtain ⟨hs1,hs2⟩:=hSw;go_simp
  try rfl
 try simp only [Act.put,siT,scZ,scS]
 refine aAi (i:=14) (d:=4) (v:=?vb14) (by kernel_rfl) (by kernel_rfl) (by kernel_rfl) (by kernel_rfl) (fun _ _ _ h=>h) ?hyb14 (by assumption) ?restb14
 case hyb14 =>
  intro oi ho;simp only [tG,sG,zG,oI] at ho;subst ho;refine Or.inl ⟨by rfl,?_⟩;intro wx hSw
  try dsimp only at hSw
  obtain ⟨hs1,hs2⟩:=hSw;go_simp
  try rfl
 try simp only [Act.put,siT,scZ,scS]
 refine aAi (i:=15) (d:=5) (v:=?vb15) (by kernel_rfl) (by kernel_rfl) (by kernel_rfl) (by kernel_rfl) (fun _ _ _ h=>h) ?hyb15 (by assumption) ?restb15
 case hyb15 =>
  intro oi ho;simp only [tG,sG,zG,oI] at ho;subst ho;refine Or.inl ⟨by rfl,?_⟩;intro wx hSw
  try dsimp only at hSw
  obtain ⟨hs1,hs2⟩:=hSw;go_simp
  try rfl
 try simp only [Act.put,siT,scZ,scS]
 refine wpAnyH_done (by kernel_rfl) ?_ _;refine NoPanic.normal ?_;have y1:w.drew.cell? ⟨rb,1,none⟩=some (.int .i64 p):=HX.o.2;have yf:w.drew.frozen? ⟨rb,1,none⟩=false:=aAh (show w.drew.heap[rb]?=_ from HR.o);have y1':w.cell? ⟨rb,1,none⟩=some (.int .i64 p):=aAa HR.o;have yf':w.frozen? ⟨rb,1,none⟩=false:=aAh HR.o;clear hHeld;go_wp2;go_ret;refine ⟨rfl,kBg _ _ _ _ _ _ (show _ from HR.o),?_⟩;exact (RdF.of (kBh _ _).drew (by have:=aAe HR.o;omega)).set 1 _
theorem aJj {p:Int} (h:RDR rb a n c p w) (hb:BS w a n c xs) :
  Calls prog 168 #[.pointer (some ⟨rb,0,none⟩),.int .i64 3] w fun e w'=>e=.returned (.int .i64 ((min (ruN xs p) 3:Nat):Int))/\RDR rb a n c (ruP xs p) w'/\RdF rb w w':=by
 have HC:=aAc (aFq h hb);obtain ⟨rn,hrn⟩:∃ r:Nat,ruN xs p=r:=⟨_,rfl⟩;obtain ⟨rp,hrp⟩:∃ r:Nat,ruP xs p=r:=⟨_,rfl⟩;rw [hrn,hrp] at HC ⊢;obtain ⟨m,hm⟩:∃ m,m=min rn 3:=⟨_,rfl⟩;rw [<-hm];have em:min (rn:Int) 3=(m:Int):=by omega
 have em':(if (3:Int)<(rn:Int) then (3:Int) else (rn:Int))=(m:Int):=by split<;>omega
 clear h hb hrn hrp hm;go_enter func168,ntmps168;go_wp2_with fail;refine HC.o.mono ?_;rintro e w1 ⟨rfl,h1,h2⟩;have H1:=aAc h1;have H2:=aAc h2;clear h1 h2 HC;go_wp2;go_ret;exact ⟨rfl,H1.o,H2.o⟩
theorem bUf {p:Int} (h:BS w a n c xs) :
  Calls prog 206 #[.slice a n c,.int .i64 p,.int .i64 8] w fun e w'=>∃ va vn vc e2,e=.returned (.tuple #[.slice va vn vc,.int .i64 (rbP xs p 8),.int .i64 e2])/\BS w' va vn vc (rbS xs p 8)/\(∀ b o,va=some ⟨b,o,none⟩->w.heap.size<=b)/\Below w.heap.size w w':=by
 by_cases he:rbE xs p 8=0
 ·refine (aG1 a n c xs p 8 w h he).mono ?_;rintro e w' ⟨g,m,rfl,h1,h2,_,h4⟩;refine ⟨_,_,_,_,rfl,h2,fun b o q=>?_,h4⟩;simp only [oI,Addr.mk.injEq] at q;omega
 ·refine (bCl a n c xs p 8 w h he).mono ?_;rintro e w' ⟨rfl,hw⟩;subst hw;refine ⟨none,0,0,_,by unfold rbP;rw [kAb he];rfl,?_,(fun b o q=>by cases q),kBh _ _⟩;unfold rbS;rw [kAb he];exact BS.none _ _ _ (by omega) (fun _=>rfl)
theorem bCh {p:Int} (h:RDR rb a n c p w) (hb:BS w a n c xs) :
  Calls prog 167 #[.pointer (some ⟨rb,0,none⟩)] w fun e w'=>e=.returned (.string (str (rbS xs p 8)))/\RDR rb a n c (rbP xs p 8) w'/\RdF rb w w':=by
 have HR:=aAc h;have HC:=aAc (bUf (p:=p) (hb.later (w':=w.drew) (kBh _ _).drew (nR _)));have HX:Hid ((fun wx=>wx.cell? ⟨rb,0,none⟩=some (.slice a n c)/\wx.cell? ⟨rb,1,none⟩=some (.int .i64 p)) w.drew):=⟨aAa (show w.drew.heap[rb]?=_ from h),aAa (show w.drew.heap[rb]?=_ from h)⟩;obtain ⟨rp,hrp⟩:∃ r:Nat,rbP xs p 8=r:=⟨_,rfl⟩;obtain ⟨rs,hrs⟩:∃ r,rbS xs p 8=r:=⟨_,rfl⟩;rw [hrp,hrs] at HC ⊢;clear h hb hrp hrs;go_enter func167,ntmps167;go_upto_region 1 with fail;refine wp_region_noPanic ?_;refine wp_region_held_drew (S:=fun wx=>wx.cell? ⟨rb,0,none⟩=some (.slice a n c)/\wx.cell? ⟨rb,1,none⟩=some (.int .i64 p)) (by kernel_rfl) HX.o (fun hHeld=>?_);refine aAi (i:=0) (d:=7) (v:=?va0) (by kernel_rfl) (by kernel_rfl) (by kernel_rfl) (by kernel_rfl) (fun _ _ _ h=>h) ?hya0 (by assumption) ?resta0
 case hya0 =>
  intro oi ho;simp only [tG,zG,oI] at ho;subst ho;refine Or.inl ⟨by rfl,?_⟩;intro wx hSw
  try dsimp only at hSw
  obtain ⟨hs1,hs2⟩:=hSw;go_simp
  try rfl
 try simp only [Act.put,siT,scZ,scS]
 refine aAi (i:=1) (d:=8) (v:=?va1) (by kernel_rfl) (by kernel_rfl) (by kernel_rfl) (by kernel_rfl) (fun _ _ _ h=>h) ?hya1 (by assumption) ?resta1
 case hya1 =>
  intro oi ho;simp only [tG,sG,zG,oI] at ho;subst ho;refine Or.inl ⟨by rfl,?_⟩;intro wx hSw
  try dsimp only at hSw
  obtain ⟨hs1,hs2⟩:=hSw;go_simp
  try rfl
 try simp only [Act.put,siT,scZ,scS]
 refine aAi (i:=2) (d:=9) (v:=?va2) (by kernel_rfl) (by kernel_rfl) (by kernel_rfl) (by kernel_rfl) (fun _ _ _ h=>h) ?hya2 (by assumption) ?resta2
 case hya2 =>
  intro oi ho;simp only [tG,sG,zG,oI] at ho;subst ho;refine Or.inl ⟨by rfl,?_⟩;intro wx hSw
  try dsimp only at hSw
  obtain ⟨hs1,hs2⟩:=hSw;go_simp
  try rfl
 try simp only [Act.put,siT,scZ,scS]
 refine aAi (i:=3) (d:=10) (v:=?va3) (by kernel_rfl) (by kernel_rfl) (by kernel_rfl) (by kernel_rfl) (fun _ _ _ h=>h) ?hya3 (by assumption) ?resta3
 case hya3 =>
  intro oi ho;simp only [tG,sG,zG,oI] at ho;subst ho;refine Or.inl ⟨by rfl,?_⟩;intro wx hSw
  try dsimp only at hSw
  obtain ⟨hs1,hs2⟩:=hSw;go_simp
  try rfl
 try simp only [Act.put,siT,scZ,scS]
 refine aAi (i:=4) (d:=11) (v:=?va4) (by kernel_rfl) (by kernel_rfl) (by kernel_rfl) (by kernel_rfl) (fun _ _ _ h=>h) ?hya4 (by assumption) ?resta4
 case hya4 =>
  intro oi ho;simp only [tG,sG,zG,oI] at ho;subst ho;refine Or.inl ⟨by rfl,?_⟩;intro wx hSw
  try dsimp only at hSw
  obtain ⟨hs1,hs2⟩:=hSw;go_simp
  try rfl
 try simp only [Act.put,siT,scZ,scS]
 refine aAi (i:=5) (d:=12) (v:=?va5) (by kernel_rfl) (by kernel_rfl) (by kernel_rfl) (by kernel_rfl) (fun _ _ _ h=>h) ?hya5 (by assumption) ?resta5
 case hya5 =>
  intro oi ho;simp only [tG,sG,zG,oI] at ho;subst ho;refine Or.inl ⟨by rfl,?_⟩;intro wx hSw
  try dsimp only at hSw
  obtain ⟨hs1,hs2⟩:=hSw;go_simp
  try rfl
 try simp only [Act.put,siT,scZ,scS]
 refine aAi (i:=6) (d:=13) (v:=?va6) (by kernel_rfl) (by kernel_rfl) (by kernel_rfl) (by kernel_rfl) (fun _ _ _ h=>h) ?hya6 (by assumption) ?resta6
 case hya6 =>
  intro oi ho;simp only [tG,sG,zG,oI] at ho;subst ho;refine Or.inl ⟨by rfl,?_⟩;intro wx hSw
  try dsimp only at hSw
  obtain ⟨hs1,hs2⟩:=hSw;go_simp
  try rfl
 try simp only [Act.put,siT,scZ,scS]
 refine aAi (i:=7) (d:=14) (v:=?va7) (by kernel_rfl) (by kernel_rfl) (by kernel_rfl) (by kernel_rfl) (fun _ _ _ h=>h) ?hya7 (by assumption) ?resta7
 case hya7 =>
  intro oi ho;simp only [tG,sG,zG,oI] at ho;subst ho;refine Or.inl ⟨by rfl,?_⟩;intro wx hSw
  try dsimp only at hSw
  obtain ⟨hs1,hs2⟩:=hSw;go_simp
  try rfl
 try simp only [Act.put,siT,scZ,scS]
 refine aAf 8 ?_;intro K hK;go_simp;refine HC.o.mono ?_;rintro e w2 ⟨va,vn,vc,e2,rfl,hbs2,hge2,hb2⟩;have HGE:=aAc hge2;have hb2:Below w.heap.size w w2:=⟨hb2.os,hb2.tape,hb2.output,hb2.size,hb2.block⟩;have HBS:=aAc hbs2;have HB2:=aAc hb2;have hX2:w2.cell? ⟨rb,0,none⟩=some (.slice a n c)/\w2.cell? ⟨rb,1,none⟩=some (.int .i64 p):=⟨(hb2.cell (aAe HR.o)).trans (aAa HR.o),(hb2.cell (aAe HR.o)).trans (aAa HR.o)⟩;clear hbs2 hb2 hHeld hge2;refine hK.out _ _ hX2 (fun hHeld=>?_);clear hX2;clear hK K
 try simp only [Act.put,siT,scZ,scS]
 refine aAi (i:=9) (d:=6) (v:=?vb9) (by kernel_rfl) (by kernel_rfl) (by kernel_rfl) (by kernel_rfl) (fun _ _ _ h=>h) ?hyb9 (by assumption) ?restb9
 case hyb9 =>
  intro oi ho;simp only [tG,sG,zG,oI] at ho;subst ho;refine Or.inl ⟨by rfl,?_⟩;intro wx hSw
  try dsimp only at hSw
  obtain ⟨hs1,hs2⟩:=hSw;go_simp
  try rfl
 try simp only [Act.put,siT,scZ,scS]
 refine aAi (i:=10) (d:=16) (v:=?vb10) (by kernel_rfl) (by kernel_rfl) (by kernel_rfl) (by kernel_rfl) (fun _ _ _ h=>h) ?hyb10 (by assumption) ?restb10
 case hyb10 =>
  intro oi ho;simp only [tG,sG,zG,oI] at ho;subst ho;refine Or.inl ⟨by rfl,?_⟩;intro wx hSw
  try dsimp only at hSw
  obtain ⟨hs1,hs2⟩:=hSw;go_simp
  try rfl
 try simp only [Act.put,siT,scZ,scS]
 refine aAi (i:=11) (d:=17) (v:=?vb11) (by kernel_rfl) (by kernel_rfl) (by kernel_rfl) (by kernel_rfl) (fun _ _ _ h=>h) ?hyb11 (by assumption) ?restb11
 case hyb11 =>
  intro oi ho;simp only [tG,sG,zG,oI] at ho;subst ho;refine Or.inl ⟨by rfl,?_⟩;intro wx hSw
  try dsimp only at hSw
  obtain ⟨hs1,hs2⟩:=hSw;go_simp
  try rfl
 try simp only [Act.put,siT,scZ,scS]
 refine aAi (i:=12) (d:=18) (v:=?vb12) (by kernel_rfl) (by kernel_rfl) (by kernel_rfl) (by kernel_rfl) (fun _ _ _ h=>h) ?hyb12 (by assumption) ?restb12
 case hyb12 =>
  intro oi ho;simp only [tG,sG,zG,oI] at ho;subst ho;refine Or.inl ⟨by rfl,?_⟩;intro wx hSw
  try dsimp only at hSw
  obtain ⟨hs1,hs2⟩:=hSw;go_simp
  try rfl
 try simp only [Act.put,siT,scZ,scS]
 refine aAi (i:=13) (d:=3) (v:=?vb13) (by kernel_rfl) (by kernel_rfl) (by kernel_rfl) (by kernel_rfl) (fun _ _ _ h=>h) ?hyb13 (by assumption) ?restb13
 case hyb13 =>
  intro oi ho;simp only [tG,sG,zG,oI] at ho;subst ho;refine Or.inl ⟨by rfl,?_⟩;intro wx hSw
  try dsimp only at hSw
  obtain ⟨hs1,hs2⟩:=hSw;go_simp
  try rfl
 try simp only [Act.put,siT,scZ,scS]
 refine aAi (i:=14) (d:=4) (v:=?vb14) (by kernel_rfl) (by kernel_rfl) (by kernel_rfl) (by kernel_rfl) (fun _ _ _ h=>h) ?hyb14 (by assumption) ?restb14
 case hyb14 =>
  intro oi ho;simp only [tG,sG,zG,oI] at ho;subst ho;refine Or.inl ⟨by rfl,?_⟩;intro wx hSw
  try dsimp only at hSw
  obtain ⟨hs1,hs2⟩:=hSw;go_simp
  try rfl
 try simp only [Act.put,siT,scZ,scS]
 refine aAi (i:=15) (d:=5) (v:=?vb15) (by kernel_rfl) (by kernel_rfl) (by kernel_rfl) (by kernel_rfl) (fun _ _ _ h=>h) ?hyb15 (by assumption) ?restb15
 case hyb15 =>
  intro oi ho;simp only [tG,sG,zG,oI] at ho;subst ho;refine Or.inl ⟨by rfl,?_⟩;intro wx hSw
  try dsimp only at hSw
  obtain ⟨hs1,hs2⟩:=hSw;go_simp
  try rfl
 try simp only [Act.put,siT,scZ,scS]
 refine wpAnyH_done (by kernel_rfl) ?_ _;refine NoPanic.normal ?_;have HR2:=aAc ((HB2.o.block rb (aAe HR.o)).trans HR.o);have y1:w2.cell? ⟨rb,1,none⟩=some (.int .i64 p):=aAa HR2.o;have yf:w2.frozen? ⟨rb,1,none⟩=false:=aAh HR2.o;have HF2:Hid (RdF rb w2 (w2.setCell ⟨rb,1,none⟩ (.int .i64 (rp:Int)))):=(RdF.of (kBh _ _) (by have:=aAe HR2.o;omega)).set 1 _;have hcv:(convert 97 9 (.slice va vn vc)).run prog (w2.setCell ⟨rb,1,none⟩ (.int .i64 (rp:Int)))=.ok (.string (str rs)) (w2.setCell ⟨rb,1,none⟩ (.int .i64 (rp:Int))):=run_text (aI1 HBS.o HF2.o fun b o q=>by have h8:w.heap.size<=b:=HGE.o b o q;have:=aAe HR.o;omega);have HR3:Hid (RDR rb a n c (rp:Int) (w2.setCell ⟨rb,1,none⟩ (.int .i64 (rp:Int)))):=kBg _ _ _ _ _ _ HR2.o;clear hHeld;go_wp2;go_ret;exact ⟨rfl,HR3.o,(RdF.of HB2.o (by have:=aAe HR.o;omega)).trans HF2.o⟩
theorem aG2 {rest:List Nat} (hn:n<9223372036854775808):ruN (pre++(enc n++rest)) (pre.length:Int)=n/\ruP (pre++(enc n++rest)) (pre.length:Int)=pre.length+(enc n).length/\ruE (pre++(enc n++rest)) (pre.length:Int)=0:=by
 have h:=bPd n hn pre rest;have hc:(0:Int)<=(pre.length:Int)/\(pre.length:Int)<=((pre++(enc n++rest)).length:Int):=by
  constructor
  ·omega
  ·rw [lA];omega
 have ht:((pre.length:Nat):Int).toNat=pre.length:=rfl;refine ⟨?_,?_,?_⟩
 ·unfold ruN;rw [kAg hc,ht,h]
 ·unfold ruP;rw [kAg hc,ht];unfold bAs;rw [h,kAg rfl,aAs n (aAt n hn).1]
 ·unfold ruE;rw [kAg hc,ht,h]
theorem bI5 {rest:List Nat} {s:ByteArray} (hs:s.size<=8):rbS (pre++(wb s++rest)) (pre.length:Int) 8=slK s/\rbP (pre++(wb s++rest)) (pre.length:Int) 8=pre.length+(wb s).length:=by
 have e:pre++(wb s++rest)=pre++(enc s.size++(slK s++rest)):=by unfold wb;simp only [kAu]
 obtain ⟨h1,h2,h3⟩:=aG2 (pre:=pre) (rest:=slK s++rest) (n:=s.size) (by omega);rw [<-e] at h1 h2 h3;have hl:(pre++(wb s++rest)).length=pre.length+(enc s.size).length+s.size+rest.length:=by
  rw [e];simp only [lA,aE4];omega
 have he:rbE (pre++(wb s++rest)) (pre.length:Int) 8=0:=by
  unfold rbE;rw [kAb (by rw [h3];simp),kAb (by decide),kAb (by rw [h1];omega),kAb (by rw [h1,h2,hl];omega)]
 constructor
 ·unfold rbS;rw [kAg he,h1,h2,e];rw [show pre++(enc s.size++(slK s++rest))=(pre++enc s.size)++(slK s++rest) from by simp only [kAu],<-lA,List.drop_left,<-aE4 s,List.take_left]
 ·unfold rbP;rw [kAg he,h1,h2];unfold wb;rw [lA,aE4];omega
def z1:Col:=(⟨#[]⟩,0,0)
def zx:Idx:=(0,false)
theorem bUx:(madeCells (Value.agg #[.string ⟨#[]⟩,.int .i64 0,.int .i64 0]).cells (0*3)).toList=(List.replicate 0 z1).flatMap fC:=by kernel_rfl
theorem bUw:(madeCells (Value.agg #[.string ⟨#[]⟩,.int .i64 0,.int .i64 0]).cells (1*3)).toList=(List.replicate 1 z1).flatMap fC:=by kernel_rfl
theorem bUv:(madeCells (Value.agg #[.string ⟨#[]⟩,.int .i64 0,.int .i64 0]).cells (2*3)).toList=(List.replicate 2 z1).flatMap fC:=by kernel_rfl
theorem bUu:(madeCells (Value.agg #[.string ⟨#[]⟩,.int .i64 0,.int .i64 0]).cells (3*3)).toList=(List.replicate 3 z1).flatMap fC:=by kernel_rfl
theorem bV1:(madeCells (Value.agg #[.int .i64 0,.bool false]).cells (0*2)).toList=(List.replicate 0 zx).flatMap fX:=by kernel_rfl
theorem bV0:(madeCells (Value.agg #[.int .i64 0,.bool false]).cells (1*2)).toList=(List.replicate 1 zx).flatMap fX:=by kernel_rfl
theorem bVz:(madeCells (Value.agg #[.int .i64 0,.bool false]).cells (2*2)).toList=(List.replicate 2 zx).flatMap fX:=by kernel_rfl
theorem bVy:(madeCells (Value.agg #[.int .i64 0,.bool false]).cells (3*2)).toList=(List.replicate 3 zx).flatMap fX:=by kernel_rfl
theorem bNo (h:n<=3):(madeCells (Value.agg #[.string ⟨#[]⟩,.int .i64 0,.int .i64 0]).cells (n*3)).toList=(List.replicate n z1).flatMap fC:=by
 have:n=0\/n=1\/n=2\/n=3:=by omega
 rcases this with rfl | rfl | rfl | rfl
 ·exact bUx
 ·exact bUw
 ·exact bUv
 ·exact bUu
theorem bQ9 (h:n<=3):(madeCells (Value.agg #[.int .i64 0,.bool false]).cells (n*2)).toList=(List.replicate n zx).flatMap fX:=by
 have:n=0\/n=1\/n=2\/n=3:=by omega
 rcases this with rfl | rfl | rfl | rfl
 ·exact bV1
 ·exact bV0
 ·exact bVz
 ·exact bVy
theorem aG3 {xs:List Value} (h:w.ownsRow B te k (.slice (some ⟨g,0,none⟩) n c) n xs) (f:RdF rb w w') (hg:g≠rb):w'.ownsRow B te k (.slice (some ⟨g,0,none⟩) n c) n xs:=by
 refine ⟨h.1,?_⟩;rcases h.2 with ⟨e,_⟩ | ⟨g',cap',cur,e,h5,h6,h7⟩
 ·cases e
 ·simp only [kBl,oI,Addr.mk.injEq] at e;obtain ⟨⟨rfl,_,_⟩,_,rfl⟩:=e;exact Or.inr ⟨g,c,cur,rfl,h5,(f.oth g (aAe h6) hg).trans h6,h7⟩
theorem aD7 {α:Type} {f:α->List Value} (hk:∀ x,(f x).length=k) {B te n g c i:Nat} {w:World} {l:List α} {x:α} (h:w.ownsRow B te k (.slice (some ⟨g,0,none⟩) n c) n (l.flatMap f)) (hi:l[i]?=some x):∃ cur,w.heap[g]?=some (.cells cur te (0,0))/\∀ t,t<k->w.cell? ⟨g,i*k+t,none⟩=(f x)[t]?:=by
 rcases h.2 with ⟨e,_⟩ | ⟨g',cap',cur,e,h5,h6,h7,h8,h9,h10⟩
 ·cases e
 ·simp only [kBl,oI,Addr.mk.injEq] at e;obtain ⟨⟨rfl,_,_⟩,_,rfl⟩:=e;refine ⟨cur,h6,fun t ht=>?_⟩;have hg:=bF9 hk hi t ht;obtain ⟨u,hu⟩:∃ u,(f x)[t]?=some u:=⟨_,gE (by rw [hk];exact ht)⟩;rw [hu] at hg ⊢;rw [aAa h6,<-kBe];rw [<-h10,List.getElem?_take] at hg
  split at hg
  ·exact hg
  ·cases hg
def bBn {α:Type} (z:α) (l:List α) (j:Nat):List α:=l.take j++List.replicate (l.length-j) z
theorem aJ7 {α:Type} {z:α} {l:List α} (h:j<l.length):(bBn z l j)[j]?=some z:=by
 unfold bBn;rw [kAo (by rw [kAt];omega),kAt,Nat.min_eq_left (by omega),Nat.sub_self,List.getElem?_replicate,kAg (by omega)]
theorem aFo {α:Type} {z:α} {l:List α} {x:α} (h:l[j]?=some x):(bBn z l j).set j x=bBn z l (j+1):=by
 have hl:j<l.length:=(lL h);unfold bBn;rw [List.set_append_right _ _ (by rw [kAt];omega),kAt,Nat.min_eq_left (by omega),Nat.sub_self,show l.length-j=(l.length-(j+1))+1 by omega,List.replicate_succ,List.set_cons_zero,kAs,h];simp
theorem aFn {α:Type} (z:α) (l:List α):bBn z l 0=List.replicate l.length z:=by unfold bBn;simp
theorem aHj {α:Type} (z:α) (l:List α):bBn z l l.length=l:=by unfold bBn;simp
end Go.Proofs.YtdpdjpkmndnaaaaGreat
set_option maxRecDepth 100000
set_option maxHeartbeats 16000000
set_option linter.unusedVariables false
namespace Go.Proofs.YtdpdjpkmndnaaaaGreat
open Go.RowKit _root_.Go.Proofs.Tryz
variable {B N b c cl g i j k n rb te xl:Nat} {a:Option Addr} {s:Sch} {v:Value} {w w':World} {xs:List Nat}
theorem aCs {u x:Value} (h:b≠g):(((w.setCell ⟨g,i,none⟩ u).setCell ⟨g,j,none⟩ v).setCell ⟨g,k,none⟩ x).heap[b]?=w.heap[b]?:=by
 rw [heap_setCell_other _ _ _ _ (show b≠g from h),heap_setCell_other _ _ _ _ (show b≠g from h),heap_setCell_other _ _ _ _ (show b≠g from h)]
theorem bM1 {l:List Col} {x x':Col} (h:w.ownsRow B te 3 (.slice (some ⟨g,0,none⟩) n c) n (l.flatMap fC)) (hx:l[j]?=some x) (hj:j<n):(((w.setCell ⟨g,j*3,none⟩ (.string x'.1)).setCell ⟨g,j*3+1,none⟩ (.int .i64 x'.2.1)).setCell ⟨g,j*3+2,none⟩ (.int .i64 x'.2.2)).ownsRow B te 3 (.slice (some ⟨g,0,none⟩) n c) n ((l.set j x').flatMap fC):=by
 have h1:=aCk (u:=.string x'.1) (i:=j*3) h (by omega);rw [show (l.flatMap fC).set (j*3) (.string x'.1)=(l.set j (x'.1,x.2.1,x.2.2)).flatMap fC from aCv (j:=0) aEz (by omega) hx rfl] at h1;have hl:=(lL hx);have h2:=aCk (u:=.int .i64 x'.2.1) (i:=j*3+1) h1 (by omega);rw [show ((l.set j (x'.1,x.2.1,x.2.2)).flatMap fC).set (j*3+1) (.int .i64 x'.2.1)=((l.set j (x'.1,x.2.1,x.2.2)).set j (x'.1,x'.2.1,x.2.2)).flatMap fC from aCv (j:=1) aEz (by omega) (kA3 hl) rfl,List.set_set] at h2;have h3:=aCk (u:=.int .i64 x'.2.2) (i:=j*3+2) h2 (by omega);rw [show ((l.set j (x'.1,x'.2.1,x.2.2)).flatMap fC).set (j*3+2) (.int .i64 x'.2.2)=((l.set j (x'.1,x'.2.1,x.2.2)).set j x').flatMap fC from aCv (j:=2) aEz (by omega) (kA3 hl) rfl,List.set_set] at h3;exact h3
def bA7 (s:Sch) (j:Nat):List Nat:=wb s.nm++enc s.cs.length++(s.cs.take j).flatMap bBh
def bCm (s:Sch) (j:Nat):List Nat:=bA7 s s.cs.length++enc s.xs.length++(s.xs.take j).flatMap bBd
theorem bQs {c:Col} (h:s.cs[j]?=some c):∃ rest,encS s=bA7 s j++(wb c.1++(enc c.2.1.toNat++(enc c.2.2.toNat++rest))):=by
 refine ⟨(s.cs.drop (j+1)).flatMap bBh++(enc s.xs.length++s.xs.flatMap bBd),?_⟩;have e:s.cs=s.cs.take j++c::s.cs.drop (j+1):=by
  rw [<-(kAx.1 h).2,<-kAy (lL h),List.take_append_drop]
 have e2:s.cs.flatMap bBh=(s.cs.take j).flatMap bBh++(bBh c++(s.cs.drop (j+1)).flatMap bBh):=by
  conv=>lhs;rw [e]
  rw [List.flatMap_append,List.flatMap_cons]
 unfold encS bA7;rw [e2];unfold bBh;simp only [kAu]
theorem bJg {c:Col} (h:s.cs[j]?=some c):(bA7 s (j+1)).length=(bA7 s j).length+(wb c.1).length+(enc c.2.1.toNat).length+(enc c.2.2.toNat).length:=by
 unfold bA7;rw [aF8 h];unfold bBh;simp only [lA];omega
theorem aHh {u:Value} (h:b≠g):((w.setCell ⟨g,i,none⟩ u).setCell ⟨g,j,none⟩ v).heap[b]?=w.heap[b]?:=by
 rw [heap_setCell_other _ _ _ _ (show b≠g from h),heap_setCell_other _ _ _ _ (show b≠g from h)]
theorem bM2 {l:List Idx} {x x':Idx} (h:w.ownsRow B te 2 (.slice (some ⟨g,0,none⟩) n c) n (l.flatMap fX)) (hx:l[j]?=some x) (hj:j<n):((w.setCell ⟨g,j*2,none⟩ (.int .i64 x'.1)).setCell ⟨g,j*2+1,none⟩ (.bool x'.2)).ownsRow B te 2 (.slice (some ⟨g,0,none⟩) n c) n ((l.set j x').flatMap fX):=by
 have h1:=aCk (u:=.int .i64 x'.1) (i:=j*2) h (by omega);rw [show (l.flatMap fX).set (j*2) (.int .i64 x'.1)=(l.set j (x'.1,x.2)).flatMap fX from aCv (j:=0) aF9 (by omega) hx rfl] at h1;have hl:=(lL hx);have h2:=aCk (u:=.bool x'.2) (i:=j*2+1) h1 (by omega);rw [show ((l.set j (x'.1,x.2)).flatMap fX).set (j*2+1) (.bool x'.2)=((l.set j (x'.1,x.2)).set j x').flatMap fX from aCv (j:=1) aF9 (by omega) (kA3 hl) rfl,List.set_set] at h2;exact h2
theorem bQr {x:Idx} (h:s.xs[j]?=some x):∃ rest,encS s=bCm s j++(enc x.1.toNat++(enc (if x.2 then 1 else 0)++rest)):=by
 refine ⟨(s.xs.drop (j+1)).flatMap bBd,?_⟩;have e:s.xs=s.xs.take j++x::s.xs.drop (j+1):=by
  rw [<-(kAx.1 h).2,<-kAy (lL h),List.take_append_drop]
 have e2:s.xs.flatMap bBd=(s.xs.take j).flatMap bBd++(bBd x++(s.xs.drop (j+1)).flatMap bBd):=by
  conv=>lhs;rw [e]
  rw [List.flatMap_append,List.flatMap_cons]
 unfold encS bCm bA7;rw [e2,List.take_length];unfold bBd;simp only [kAu]
theorem bJf {x:Idx} (h:s.xs[j]?=some x):(bCm s (j+1)).length=(bCm s j).length+(enc x.1.toNat).length+(enc (if x.2 then 1 else 0)).length:=by
 unfold bCm;rw [aF8 h];unfold bBd;simp only [lA];omega
theorem RdF.put (h:RdF rb w w') (hb:w.heap.size<=b) (hr:rb<=b) (i:Nat) (u:Value):RdF rb w (w'.setCell ⟨b,i,none⟩ u):=⟨h.bel.setCell (p:=⟨b,i,none⟩) hr u,fun j hj hn=>(heap_setCell_other _ _ _ _ (show j≠b by omega)).trans (h.oth j hj hn)⟩
theorem aI2 {u:Value} (h:BS w a n c xs) (ha:∀ b' o,a=some ⟨b',o,none⟩->b'≠b):BS (w.setCell ⟨b,i,none⟩ u) a n c xs:=aI1 (rb:=b) h ⟨(kBh _ _).setCell (p:=⟨b,i,none⟩) (nR _) u,fun j _ hn=>heap_setCell_other _ _ _ _ (show j≠b from hn)⟩ ha
structure ICK (rb N S0 g cl n c:Nat) (a:Option Addr) (s:Sch) (w:World) (j:Nat) (wx:World):Prop where
 rd:RDR rb a n c ((bA7 s j).length:Int) wx
 sb:wx.heap[S0]?=some (.cells #[.string s.nm,.slice (some ⟨g,0,none⟩) cl cl,.slice none 0 0] 33 (0,0))
 zb:wx.heap[N]?=some (.cells #[.string ⟨#[]⟩,.slice none 0 0,.slice none 0 0] 33 (0,0))
 ow:wx.ownsRow g 93 3 (.slice (some ⟨g,0,none⟩) cl cl) cl ((bBn z1 s.cs j).flatMap fC)
 fr:RdF rb w wx
 bs:BS wx a n c (encS s)
theorem ICK.drew {S0:Nat} {wx:World} (h:ICK rb N S0 g cl n c a s w j wx):ICK rb N S0 g cl n c a s w j wx.drew:=⟨h.rd,h.sb,h.zb,aAq h.ow (kBh _ _).drew,⟨⟨h.fr.bel.os,h.fr.bel.tape,h.fr.bel.output,h.fr.bel.size,h.fr.bel.block⟩,h.fr.oth⟩,h.bs.later (kBh _ _).drew (nR _)⟩
structure IX (rb N S0 g g2 cl xl n c:Nat) (a:Option Addr) (s:Sch) (w:World) (j:Nat) (wx:World):Prop where
 rd:RDR rb a n c ((bCm s j).length:Int) wx
 sb:wx.heap[S0]?=some (.cells #[.string s.nm,.slice (some ⟨g,0,none⟩) cl cl,.slice (some ⟨g2,0,none⟩) xl xl] 33 (0,0))
 zb:wx.heap[N]?=some (.cells #[.string ⟨#[]⟩,.slice none 0 0,.slice none 0 0] 33 (0,0))
 oc:wx.ownsRow g 93 3 (.slice (some ⟨g,0,none⟩) cl cl) cl (s.cs.flatMap fC)
 ow:wx.ownsRow g2 61 2 (.slice (some ⟨g2,0,none⟩) xl xl) xl ((bBn zx s.xs j).flatMap fX)
 fr:RdF rb w wx
 bs:BS wx a n c (encS s)
theorem IX.drew {S0 g2:Nat} {wx:World} (h:IX rb N S0 g g2 cl xl n c a s w j wx):IX rb N S0 g g2 cl xl n c a s w j wx.drew:=⟨h.rd,h.sb,h.zb,aAq h.oc (kBh _ _).drew,aAq h.ow (kBh _ _).drew,⟨⟨h.fr.bel.os,h.fr.bel.tape,h.fr.bel.output,h.fr.bel.size,h.fr.bel.block⟩,h.fr.oth⟩,h.bs.later (kBh _ _).drew (nR _)⟩
theorem bGx (h:RDR rb a n c 0 w) (hb:BS w a n c (encS s)) (hok:s.ok=true) (har:∀ b o,a=some ⟨b,o,none⟩->b≠rb) :
  Calls prog 128 #[.pointer (some ⟨rb,0,none⟩)] w fun e w'=>∃ ca cc xa xc,e=.returned (.agg #[.string s.nm,.slice ca s.cs.length cc,.slice xa s.xs.length xc])/\SC w' ca s.cs.length cc xa s.xs.length xc s/\RdF rb w w'/\(∀ b o,ca=some ⟨b,o,none⟩->w.heap.size<=b)/\∀ b o,xa=some ⟨b,o,none⟩->w.heap.size<=b:=by
 have HPA:=aAc (Sch.parts hok);have HBY:=aAc hb;have HAR:=aAc har;have HAN:Hid (∀ b o,a=some ⟨b,o,none⟩->b<w.heap.size):=by
  intro b o q;have hpos:0<n:=by
   rw [<-hb.hlen];unfold encS wb;have:=aAs s.nm.size (aAt s.nm.size (by have:=HPA.o.1;omega)).1;have:=(aAt s.nm.size (by have:=HPA.o.1;omega)).1;simp only [lA];omega
  have:=aAn (hb.hcell _ q 0 hpos);simpa [Addr.add] using this
 obtain ⟨cl,hcl⟩:∃ k,s.cs.length=k:=⟨_,rfl⟩;obtain ⟨xl,hxl⟩:∃ k,s.xs.length=k:=⟨_,rfl⟩;have HCL:=aAc hcl;have HXL:=aAc hxl;have hcl3:cl<=3:=by rw [<-hcl];exact HPA.o.2.1
 have hxl3:xl<=3:=by rw [<-hxl];exact HPA.o.2.2.1
 have HRB:Hid (rb<w.heap.size):=aAe h;have hbz:=aAg w (.cells #[.string ⟨#[]⟩,.slice none 0 0,.slice none 0 0] 33);have HZ1:Hid ((w.alloc (.cells #[.string ⟨#[]⟩,.slice none 0 0,.slice none 0 0] 33)).heap[w.heap.size]?=some (.cells #[.string ⟨#[]⟩,.slice none 0 0,.slice none 0 0] 33 (0,0))):=boxed w _;have HR1:Hid (RDR rb a n c 0 (w.alloc (.cells #[.string ⟨#[]⟩,.slice none 0 0,.slice none 0 0] 33))):=(hbz.block rb (aAe h)).trans h;have HB1:=aAc (hb.later hbz (nR _));have HF1:Hid (RdF rb w (w.alloc (.cells #[.string ⟨#[]⟩,.slice none 0 0,.slice none 0 0] 33))):=RdF.of hbz (by have:=HRB.o;omega);have HNM0:Hid (rbS (encS s) 0 8=slK s.nm/\rbP (encS s) 0 8=(wb s.nm).length):=by
  have:=bI5 (pre:=[]) (rest:=enc s.cs.length++(s.cs.flatMap bBh++(enc s.xs.length++s.xs.flatMap bBd))) (s:=s.nm) HPA.o.1;have e:encS s=[]++(wb s.nm++(enc s.cs.length++(s.cs.flatMap bBh++(enc s.xs.length++s.xs.flatMap bBd)))):=by unfold encS;simp only [kAu,List.nil_append]
  rw [<-e] at this;have h9:rbS (encS s) 0 8=slK s.nm/\rbP (encS s) 0 8=(wb s.nm).length:=by simpa using this
  exact h9
 have HCN0:Hid (ruN (encS s) ((wb s.nm).length:Int)=cl/\ruP (encS s) ((wb s.nm).length:Int)=(bA7 s 0).length):=by
  have:=aG2 (pre:=wb s.nm) (rest:=s.cs.flatMap bBh++(enc s.xs.length++s.xs.flatMap bBd)) (n:=s.cs.length) (by omega);have e:encS s=wb s.nm++(enc s.cs.length++(s.cs.flatMap bBh++(enc s.xs.length++s.xs.flatMap bBd))):=by unfold encS;simp only [kAu]
  rw [<-e] at this;refine ⟨this.1.trans hcl,this.2.1.trans ?_⟩;unfold bA7;simp
 rw [hcl,hxl];clear h hb hok har hbz hcl hxl;go_enter func128,ntmps128;go_upto_region 1 with fail;generalize w.alloc (.cells #[.string ⟨#[]⟩,.slice none 0 0,.slice none 0 0] 33)=w1 at *;generalize hN:w.heap.size=N at *;have HC1:=aAc (bCh HR1.o HB1.o);rw [HNM0.o.1,aH2,HNM0.o.2] at HC1;go_wp2_with fail;refine HC1.o.mono ?_;rintro e w2 ⟨rfl,hr2,hf2⟩;have HF2:=aAc (HF1.o.trans hf2);have HR2:=aAc hr2;have HB2:=aAc (aI1 HB1.o hf2 HAR.o);have HZ2:=aAc ((hf2.oth N (aAe HZ1.o) (by have:=HRB.o;omega)).trans HZ1.o);clear hr2 hf2 HC1 HR1 HB1 HZ1;have hb3:=aAg w2 (.cells #[.string s.nm,.slice none 0 0,.slice none 0 0] 33);have HS3:Hid ((w2.alloc (.cells #[.string s.nm,.slice none 0 0,.slice none 0 0] 33)).heap[w2.heap.size]?=some (.cells #[.string s.nm,.slice none 0 0,.slice none 0 0] 33 (0,0))):=boxed w2 _;have HR3:Hid (RDR rb a n c ((wb s.nm).length:Int) (w2.alloc (.cells #[.string s.nm,.slice none 0 0,.slice none 0 0] 33))):=(hb3.block rb (aAe HR2.o)).trans HR2.o;have HZ3:=aAc ((hb3.block N (aAe HZ2.o)).trans HZ2.o);have HB3:=aAc (HB2.o.later hb3 (nR _));have HF3:=aAc (HF2.o.trans (RdF.of hb3 (by have:=aAe HR2.o;omega)));have HNS:Hid (N<w2.heap.size/\rb<w2.heap.size):=⟨aAe HZ2.o,aAe HR2.o⟩;clear hb3 HR2 HB2 HZ2;go_upto_region 2 with fail;generalize w2.alloc (.cells #[.string s.nm,.slice none 0 0,.slice none 0 0] 33)=w3 at *;generalize w2.heap.size=S0 at *;have HC3:=aAc (aJj HR3.o HB3.o);rw [HCN0.o.1,HCN0.o.2,Nat.min_eq_left hcl3] at HC3;go_wp2_with fail;refine HC3.o.mono ?_;rintro e w4 ⟨rfl,hr4,hf4⟩;have HF4:=aAc (HF3.o.trans hf4);have HR4:=aAc hr4;have HB4:=aAc (aI1 HB3.o hf4 HAR.o);have HS4:=aAc ((hf4.oth S0 (aAe HS3.o) (by have:=HNS.o;omega)).trans HS3.o);have HZ4:=aAc ((hf4.oth N (aAe HZ3.o) (by have:=HRB.o;omega)).trans HZ3.o);clear hr4 hf4 HC3 HR3 HB3 HS3 HZ3;obtain ⟨i0,hi,hz0,hz1',hz2⟩:=info_parts bF0;go_upto_region 3 with (refine wpList_make_full w4 rfl _ _ 30 rfl w4.heap.size 93 i0 (.agg #[.string ⟨#[]⟩,.int .i64 0,.int .i64 0]) 3 underlying30 hi hz0 hz1' .i64 .i64 (cl:Int) (cl:Int) cl rfl rfl rfl rfl (by rw [hz2];omega) (by unfold maxLen;omega) (nR _) ?_;intro w5 ho5 hg5;rw [bNo hcl3] at ho5;have HO5:=aAc ho5;have HG5:=aAc ((kBh w4.heap.size w4).grown hg5 (nR _) (fun k hk=>by cases hk));clear ho5 hg5;have x1:w5.cell? ⟨S0,1,none⟩=some (.slice none 0 0):=aAa ((HG5.o.block S0 (aAe HS4.o)).trans HS4.o);have xf1:w5.frozen? ⟨S0,1,none⟩=false:=aAh ((HG5.o.block S0 (aAe HS4.o)).trans HS4.o));clear x1 xf1;have hgs:S0<w4.heap.size:=aAe HS4.o;have hgr:rb<w4.heap.size:=aAe HR4.o;have hgn:N<w4.heap.size:=aAe HZ4.o;have HIC:Hid (ICK rb N S0 w4.heap.size cl n c a s w 0 (w5.setCell ⟨S0,1,none⟩ (.slice (some ⟨w4.heap.size,0,none⟩) cl cl))):=by
  have hg5:=HG5.o;have hns:=HNS.o;refine ⟨?_,kBg _ _ _ _ _ _ ((hg5.block S0 hgs).trans HS4.o),?_,?_,?_,?_⟩
  ·exact (heap_setCell_other _ _ _ _ (show rb≠S0 by omega)).trans ((hg5.block rb hgr).trans HR4.o)
  ·exact (heap_setCell_other _ _ _ _ (show N≠S0 by omega)).trans ((hg5.block N hgn).trans HZ4.o)
  ·have h9:=HO5.o;rw [aFn,HCL.o];exact ownsRow_setCell_other h9 (by show some w4.heap.size≠some S0;simp;omega) _
  ·exact (HF4.o.trans (RdF.of hg5 (by omega))).put (by rw [hN];omega) (by omega) 1 _
  ·refine aI2 (HB4.o.later hg5 (nR _)) fun b' o q=>?_
   have h8:=HAN.o b' o q
   first | omega | (rw [hN] at h8;omega)
 clear HO5 HG5 HR4 HS4 HZ4 HB4 HF4 hi hz0 hz1' hz2;generalize (w5.setCell ⟨S0,1,none⟩ (.slice (some ⟨w4.heap.size,0,none⟩) cl cl))=w6 at *;generalize w4.heap.size=g at *;have HSG:Hid (S0≠g):=by show S0≠g;omega
 have HSR:Hid (S0≠rb):=by show S0≠rb;have:=HNS.o;omega
 have HGR:Hid (rb<g/\N<g/\N<=S0):=⟨hgr,hgn,by have:=HNS.o;omega⟩;have x1:w6.cell? ⟨S0,1,none⟩=some (.slice (some ⟨g,0,none⟩) cl cl):=aAa HIC.o.sb;go_wp2_with fail;clear x1;go_loopg [16] cl (fun gh s16 wx=>∃ j:Nat,j+gh=cl/\s16=.int .i64 (j:Int)/\ICK rb N S0 g cl n c a s w j wx)
 case atStart=>exact ⟨0,by omega,rfl,HIC.o⟩
 case round =>
  obtain ⟨j,hj,rfl,hic⟩:=hrel;have HI:=aAc hic;clear hic;by_cases hjn:j<cl
  ·have xj:(j:Int)<(cl:Int):=by omega
   have xj4:(j:Int)<4:=by omega
   obtain ⟨cj,hcj⟩:∃ c,s.cs[j]?=some c:=⟨_,gE (by rw [HCL.o];exact hjn)⟩;have hco:=HPA.o.2.2.2.1 j cj hcj;obtain ⟨rest,hxs⟩:=bQs hcj;have hnx:=bJg hcj;have HNX:=aAc (aFo (z:=z1) hcj);have HATZ:Hid ((bBn z1 s.cs j)[j]?=some z1):=aJ7 (by rw [HCL.o];exact hjn);obtain ⟨cn,ck,cm⟩:=cj;obtain ⟨kk,hkk⟩:∃ kk:Nat,ck=(kk:Int):=⟨ck.toNat,by have:=hco.k0;dsimp only at this;omega⟩;obtain ⟨mm,hmm⟩:∃ mm:Nat,cm=(mm:Int):=⟨cm.toNat,by have:=hco.m0;dsimp only at this;omega⟩;subst hkk hmm;have hk8:kk<=8:=by have:=hco.k1;dsimp only at this;omega
   have hm8:mm<=8:=by have:=hco.m1;dsimp only at this;omega
   have hn8:cn.size<=8:=hco.nm;simp only [Int.toNat_natCast] at hxs hnx;have HNM:Hid (rbS (encS s) ((bA7 s j).length:Int) 8=slK cn/\rbP (encS s) ((bA7 s j).length:Int) 8=(bA7 s j++wb cn).length):=by
    have:=bI5 (pre:=bA7 s j) (rest:=enc kk++(enc mm++rest)) hn8;rw [<-hxs] at this;exact ⟨this.1,by rw [this.2,lA]⟩
   have HKN:Hid (ruN (encS s) ((bA7 s j++wb cn).length:Int)=kk/\ruP (encS s) ((bA7 s j++wb cn).length:Int)=(bA7 s j++wb cn++enc kk).length):=by
    have:=aG2 (pre:=bA7 s j++wb cn) (rest:=enc mm++rest) (n:=kk) (by omega);rw [show bA7 s j++wb cn++(enc kk++(enc mm++rest))=encS s from by rw [hxs];simp only [kAu]] at this;exact ⟨this.1,by rw [this.2.1,lA (bs:=enc kk)]⟩
   have HMN:Hid (ruN (encS s) ((bA7 s j++wb cn++enc kk).length:Int)=mm/\ruP (encS s) ((bA7 s j++wb cn++enc kk).length:Int)=(bA7 s (j+1)).length):=by
    have:=aG2 (pre:=bA7 s j++wb cn++enc kk) (rest:=rest) (n:=mm) (by omega);rw [show bA7 s j++wb cn++enc kk++(enc mm++rest)=encS s from by rw [hxs];simp only [kAu]] at this;exact ⟨this.1,by rw [this.2.1,hnx];simp only [lA];try omega⟩
   have HRD:=aAc HI.o.drew.rd;have HBD:=aAc HI.o.drew.bs;have HSD:=aAc HI.o.drew.sb;have HOD:=aAc HI.o.drew.ow;have HX:Hid ((fun wx=>wx.cell? ⟨S0,1,none⟩=some (.slice (some ⟨g,0,none⟩) cl cl)) wr.drew):=aAa HSD.o;clear hco hxs hnx hcj;go_upto_region 6 with fail;refine wp_region_noPanic ?_;refine wp_region_held_drew (S:=fun wx=>wx.cell? ⟨S0,1,none⟩=some (.slice (some ⟨g,0,none⟩) cl cl)) (by kernel_rfl) HX.o (fun hHeld=>?_);refine aAb 0 19 ?_;refine aAb 1 20 ?_;refine aAb 2 21 ?_;refine aAb 3 22 ?_;refine aAb 5 24 ?_;refine aAb 7 26 ?_;refine aAf 4 ?_;intro K hK;go_simp;refine (bCh HRD.o HBD.o).mono ?_;rintro e w1 ⟨rfl,hr1,hf1⟩;rw [HNM.o.1,aH2];rw [HNM.o.2] at hr1;have HR1:=aAc hr1;have HF1:=aAc hf1;have HS1:=aAc ((hf1.oth S0 (aAe HSD.o) HSR.o).trans HSD.o);have HB1:=aAc (aI1 HBD.o hf1 HAR.o);have HO1:=aAc (aG3 HOD.o hf1 (by have:=HGR.o;omega));clear hr1 hf1 hHeld;refine hK.out _ _ (aAa HS1.o) (fun hHeld=>?_);clear hK K
   try simp only [Act.put,siT,scZ,scS]
   refine aAf 6 ?_;intro K hK;go_simp;refine (aFq HR1.o HB1.o).mono ?_;rintro e w2 ⟨rfl,hr2,hf2⟩;rw [HKN.o.1];rw [HKN.o.2] at hr2;have HR2:=aAc hr2;have HF2:=aAc (HF1.o.trans hf2);have HS2:=aAc ((hf2.oth S0 (aAe HS1.o) HSR.o).trans HS1.o);have HB2:=aAc (aI1 HB1.o hf2 HAR.o);have HO2:=aAc (aG3 HO1.o hf2 (by have:=HGR.o;omega));clear hr2 hf2 hHeld;refine hK.out _ _ (aAa HS2.o) (fun hHeld=>?_);clear hK K
   try simp only [Act.put,siT,scZ,scS]
   refine aAf 8 ?_;intro K hK;go_simp;refine (aFq HR2.o HB2.o).mono ?_;rintro e w3 ⟨rfl,hr3,hf3⟩;rw [HMN.o.1];rw [HMN.o.2] at hr3;have HR3:=aAc hr3;have HF3:=aAc (HF2.o.trans hf3);have HS3:=aAc ((hf3.oth S0 (aAe HS2.o) HSR.o).trans HS2.o);have HO3:=aAc (aG3 HO2.o hf3 (by have:=HGR.o;omega));have HB3:=aAc (aI1 HB2.o hf3 HAR.o);clear hr3 hf3 hHeld;refine hK.out _ _ (aAa HS3.o) (fun hHeld=>?_);clear hK K
   try simp only [Act.put,siT,scZ,scS]
   refine aAb 9 28 ?_;refine aAb 10 29 ?_;obtain ⟨cur,hcur,hold⟩:=aD7 aEz HO3.o HATZ.o;have q0:w3.cell? ⟨g,j*3,none⟩=some (.string ⟨#[]⟩):=hold 0 (by omega);have q1:w3.cell? ⟨g,j*3+1,none⟩=some (.int .i64 0):=hold 1 (by omega);have q2:w3.cell? ⟨g,j*3+2,none⟩=some (.int .i64 0):=hold 2 (by omega);clear hold;have f0:w3.frozen? ⟨g,j*3,none⟩=false:=aAh hcur;have f1:w3.frozen? ⟨g,j*3+1,none⟩=false:=aAh hcur;have f2:w3.frozen? ⟨g,j*3+2,none⟩=false:=aAh hcur;refine aAf 11 ?_;intro K hK;go_simp;clear hHeld hcur;refine hK.out _ _ ?_ (fun hHeld=>?_)
   ·exact aAa ((aCs (show S0≠g from HSG.o)).trans HS3.o)
   clear q0 q1 q2 f0 f1 f2;clear hK K
   try simp only [Act.put,siT,scZ,scS]
   refine wpAnyH_done (by kernel_rfl) ?_ _;refine NoPanic.normal ?_;have HIN:Hid (ICK rb N S0 g cl n c a s w (j+1) (((w3.setCell ⟨g,j*3,none⟩ (.string cn)).setCell ⟨g,j*3+1,none⟩ (.int .i64 (kk:Int))).setCell ⟨g,j*3+2,none⟩ (.int .i64 (mm:Int)))):=by
    have hgr:=HGR.o;have hfr:RdF rb w w3:=HI.o.drew.fr.trans HF3.o;have hab:∀ b' o,a=some ⟨b',o,none⟩->b'≠g:=fun b' o q=>by
     have h8:=HAN.o b' o q
     first | omega | (rw [hN] at h8;omega)
    refine ⟨(aCs (show rb≠g by omega)).trans HR3.o,(aCs HSG.o).trans HS3.o,(aCs (show N≠g by omega)).trans ?_,?_,?_,aI2 (aI2 (aI2 HB3.o hab) hab) hab⟩
    ·have h7:=HF3.o.oth N (aAe HI.o.drew.zb) (by have:=HRB.o;omega);exact h7.trans HI.o.drew.zb
    ·have h9:=bM1 (x':=(cn,(kk:Int),(mm:Int))) HO3.o HATZ.o hjn;rw [HNX.o] at h9;exact h9
    ·exact ((hfr.put (by rw [hN];omega) (by omega) _ _).put (by rw [hN];omega) (by omega) _ _).put (by rw [hN];omega) (by omega) _ _
   clear HR3 HS3 HF3 HO3 HB3 HRD HBD HSD HOD HX hHeld;go_wp2;go_roundg (gk-1)
   case measure=>omega
   case rel=>exact ⟨j+1,by omega,rfl,HIN.o⟩
  ·have xj:¬ (j:Int)<(cl:Int):=by omega
   have ej:j=cl:=by omega
   subst ej;have HCX:Hid (ruN (encS s) ((bA7 s j).length:Int)=xl/\ruP (encS s) ((bA7 s j).length:Int)=(bCm s 0).length):=by
    have:=aG2 (pre:=bA7 s j) (rest:=s.xs.flatMap bBd) (n:=s.xs.length) (by rw [HXL.o];omega);have e:encS s=bA7 s j++(enc s.xs.length++s.xs.flatMap bBd):=by
     unfold encS bA7;rw [<-HCL.o,List.take_length];simp only [kAu]
    rw [<-e] at this;refine ⟨this.1.trans HXL.o,this.2.1.trans ?_⟩;unfold bCm;rw [<-HCL.o];simp
   have HOC:Hid (wr.ownsRow g 93 3 (.slice (some ⟨g,0,none⟩) j j) j (s.cs.flatMap fC)):=by
    have h9:=HI.o.ow;rw [show bBn z1 s.cs j=s.cs from by rw [<-HCL.o];exact aHj _ _] at h9;exact h9
   have HC8:=aAc (aJj HI.o.rd HI.o.bs);rw [HCX.o.1,HCX.o.2,Nat.min_eq_left hxl3] at HC8;go_wp2_with fail;refine HC8.o.mono ?_;rintro e w8 ⟨rfl,hr8,hf8⟩;have HF8:=aAc (HI.o.fr.trans hf8);have HR8:=aAc hr8;have HB8:=aAc (aI1 HI.o.bs hf8 HAR.o);have HS8:=aAc ((hf8.oth S0 (aAe HI.o.sb) HSR.o).trans HI.o.sb);have HZ8:=aAc ((hf8.oth N (aAe HI.o.zb) (by have:=HRB.o;omega)).trans HI.o.zb);have HO8:=aAc (aG3 HOC.o hf8 (by have:=HGR.o;omega));clear hr8 hf8 HC8 HOC;obtain ⟨i0,hi,hz0,hz1',hz2⟩:=info_parts bKv;go_upto_region 9 with (refine wpList_make_full w8 rfl _ _ 31 rfl w8.heap.size 61 i0 (.agg #[.int .i64 0,.bool false]) 2 underlying31 hi hz0 hz1' .i64 .i64 (xl:Int) (xl:Int) xl rfl rfl rfl rfl (by rw [hz2];omega) (by unfold maxLen;omega) (nR _) ?_;intro w9 ho9 hg9;rw [bQ9 hxl3] at ho9;have HO9:=aAc ho9;have HG9:=aAc ((kBh w8.heap.size w8).grown hg9 (nR _) (fun k hk=>by cases hk));clear ho9 hg9;have x1:w9.cell? ⟨S0,2,none⟩=some (.slice none 0 0):=aAa ((HG9.o.block S0 (aAe HS8.o)).trans HS8.o);have xf1:w9.frozen? ⟨S0,2,none⟩=false:=aAh ((HG9.o.block S0 (aAe HS8.o)).trans HS8.o));clear x1 xf1;have hgs2:S0<w8.heap.size:=aAe HS8.o;have hgr2:rb<w8.heap.size:=aAe HR8.o;have hgn2:N<w8.heap.size:=aAe HZ8.o;obtain ⟨hgg,hggx⟩:g<w8.heap.size/\True:=by
    rcases HO8.o.2 with ⟨e,_⟩ | ⟨g',cap',cur,e,_,h6,_⟩
    ·cases e
    ·simp only [kBl,oI,Addr.mk.injEq] at e;rw [e.1.1];exact ⟨aAe h6,trivial⟩
   have HIX:Hid (IX rb N S0 g w8.heap.size j xl n c a s w 0 (w9.setCell ⟨S0,2,none⟩ (.slice (some ⟨w8.heap.size,0,none⟩) xl xl))):=by
    have hg9:=HG9.o;have hns:=HNS.o;have hsg:=HSG.o;refine ⟨?_,kBg _ _ _ _ _ _ ((hg9.block S0 hgs2).trans HS8.o),?_,?_,?_,?_,?_⟩
    ·exact (heap_setCell_other _ _ _ _ (show rb≠S0 by omega)).trans ((hg9.block rb hgr2).trans HR8.o)
    ·exact (heap_setCell_other _ _ _ _ (show N≠S0 by omega)).trans ((hg9.block N hgn2).trans HZ8.o)
    ·exact ownsRow_setCell_other (aAq HO8.o hg9) (by show some g≠some S0;simp;omega) _
    ·have h9:=HO9.o;rw [aFn,HXL.o];exact ownsRow_setCell_other h9 (by show some w8.heap.size≠some S0;simp;omega) _
    ·exact (HF8.o.trans (RdF.of hg9 (by omega))).put (by rw [hN];omega) (by omega) 2 _
    ·refine aI2 (HB8.o.later hg9 (nR _)) fun b' o q=>?_
     have h8:=HAN.o b' o q
     first | omega | (rw [hN] at h8;omega)
   clear HO9 HG9 HR8 HS8 HZ8 HB8 HF8 HO8 hi hz0 hz1' hz2 HI hggx;generalize (w9.setCell ⟨S0,2,none⟩ (.slice (some ⟨w8.heap.size,0,none⟩) xl xl))=w10 at *;generalize w8.heap.size=g2 at *;have HSG2:Hid (S0≠g2):=by show S0≠g2;omega
   have HGR2:Hid (rb<g2/\N<g2/\g<g2):=⟨hgr2,hgn2,hgg⟩;have x1:w10.cell? ⟨S0,2,none⟩=some (.slice (some ⟨g2,0,none⟩) xl xl):=aAa HIX.o.sb;have HCJ:=HCL;generalize hjc:j=cl at *;go_wp2_with fail;clear x1;go_loopg [38] xl (fun gh s38 wx=>∃ j:Nat,j+gh=xl/\s38=.int .i64 (j:Int)/\IX rb N S0 g g2 cl xl n c a s w j wx)
   case atStart=>exact ⟨0,by omega,rfl,HIX.o⟩
   case round =>
    obtain ⟨j,hj,rfl,hix⟩:=hrel;have HI:=aAc hix;clear hix;by_cases hjn:j<xl
    ·have xj:(j:Int)<(xl:Int):=by omega
     have xj4:(j:Int)<4:=by omega
     obtain ⟨cj,hcj⟩:∃ c,s.xs[j]?=some c:=⟨_,gE (by rw [HXL.o];exact hjn)⟩;have hco:=HPA.o.2.2.2.2 j cj hcj;obtain ⟨rest,hxs⟩:=bQr hcj;have hnx:=bJf hcj;have HNX:=aAc (aFo (z:=zx) hcj);have HATZ:Hid ((bBn zx s.xs j)[j]?=some zx):=aJ7 (by rw [HXL.o];exact hjn);obtain ⟨ck,ub⟩:=cj;obtain ⟨kk,hkk⟩:∃ kk:Nat,ck=(kk:Int):=⟨ck.toNat,by have:=hco.1;dsimp only at this;omega⟩;subst hkk;have hk8:kk<=8:=by have:=hco.2;dsimp only at this;omega
     obtain ⟨mm,hmm⟩:∃ mm:Nat,mm=(if ub then 1 else 0):=⟨_,rfl⟩;have hm8:mm<=8:=by rw [hmm];split<;>omega
     have hbe:((mm:Int) == 1)=ub:=by rw [hmm];cases ub<;>rfl
     simp only [Int.toNat_natCast] at hxs hnx;rw [<-hmm] at hxs hnx;have HKN:Hid (ruN (encS s) ((bCm s j).length:Int)=kk/\ruP (encS s) ((bCm s j).length:Int)=(bCm s j++enc kk).length):=by
      have:=aG2 (pre:=bCm s j) (rest:=enc mm++rest) (n:=kk) (by omega);rw [<-hxs] at this;exact ⟨this.1,by rw [this.2.1,lA]⟩
     have HMN:Hid (ruN (encS s) ((bCm s j++enc kk).length:Int)=mm/\ruP (encS s) ((bCm s j++enc kk).length:Int)=(bCm s (j+1)).length):=by
      have:=aG2 (pre:=bCm s j++enc kk) (rest:=rest) (n:=mm) (by omega);rw [show bCm s j++enc kk++(enc mm++rest)=encS s from by rw [hxs];simp only [kAu]] at this;exact ⟨this.1,by rw [this.2.1,hnx];simp only [lA];try omega⟩
     have HRD:=aAc HI.o.drew.rd;have HBD:=aAc HI.o.drew.bs;have HSD:=aAc HI.o.drew.sb;have HOD:=aAc HI.o.drew.ow;have HCD:=aAc HI.o.drew.oc;have HX:Hid ((fun wx=>wx.cell? ⟨S0,2,none⟩=some (.slice (some ⟨g2,0,none⟩) xl xl)) wr.drew):=aAa HSD.o;clear hco hxs hnx hcj hmm;go_upto_region 12 with fail;refine wp_region_noPanic ?_;refine wp_region_held_drew (S:=fun wx=>wx.cell? ⟨S0,2,none⟩=some (.slice (some ⟨g2,0,none⟩) xl xl)) (by kernel_rfl) HX.o (fun hHeld=>?_);refine aAb 0 41 ?_;refine aAb 1 42 ?_;refine aAb 2 43 ?_;refine aAb 3 44 ?_;refine aAb 5 46 ?_;refine aAf 4 ?_;intro K hK;go_simp;refine (aFq HRD.o HBD.o).mono ?_;rintro e w1 ⟨rfl,hr1,hf1⟩;rw [HKN.o.1];rw [HKN.o.2] at hr1;have HR1:=aAc hr1;have HF1:=aAc hf1;have HS1:=aAc ((hf1.oth S0 (aAe HSD.o) HSR.o).trans HSD.o);have HB1:=aAc (aI1 HBD.o hf1 HAR.o);have HO1:=aAc (aG3 HOD.o hf1 (by have:=HGR2.o;omega));have HC1:=aAc (aG3 HCD.o hf1 (by have:=HGR.o;omega));clear hr1 hf1 hHeld;refine hK.out _ _ (aAa HS1.o) (fun hHeld=>?_);clear hK K
     try simp only [Act.put,siT,scZ,scS]
     refine aAf 6 ?_;intro K hK;go_simp;refine (aFq HR1.o HB1.o).mono ?_;rintro e w2 ⟨rfl,hr2,hf2⟩;rw [HMN.o.1];rw [HMN.o.2] at hr2;have HR3:=aAc hr2;have HF3:=aAc (HF1.o.trans hf2);have HS3:=aAc ((hf2.oth S0 (aAe HS1.o) HSR.o).trans HS1.o);have HB3:=aAc (aI1 HB1.o hf2 HAR.o);have HO3:=aAc (aG3 HO1.o hf2 (by have:=HGR2.o;omega));have HC3:=aAc (aG3 HC1.o hf2 (by have:=HGR.o;omega));clear hr2 hf2 hHeld;refine hK.out _ _ (aAa HS3.o) (fun hHeld=>?_);clear hK K
     try simp only [Act.put,siT,scZ,scS]
     refine aAf 7 ?_;intro K hK;go_simp;refine (bLx true w2).mono ?_;rintro e w3 ⟨rfl,hw3⟩;have hw3:=hw3.symm;subst hw3;clear hw3;refine hK.out _ _ (aAa HS3.o) (fun hHeld=>?_);clear hK K;refine aAb 8 49 ?_;refine aAb 9 50 ?_;refine aAb 10 51 ?_;obtain ⟨cur,hcur,hold⟩:=aD7 aF9 HO3.o HATZ.o;have q0:w2.cell? ⟨g2,j*2,none⟩=some (.int .i64 0):=hold 0 (by omega);have q1:w2.cell? ⟨g2,j*2+1,none⟩=some (.bool false):=hold 1 (by omega);clear hold;have f0:w2.frozen? ⟨g2,j*2,none⟩=false:=aAh hcur;have f1:w2.frozen? ⟨g2,j*2+1,none⟩=false:=aAh hcur;refine aAf 11 ?_;intro K hK;go_simp;clear hHeld hcur;refine hK.out _ _ ?_ (fun hHeld=>?_)
     ·exact aAa ((aHh (show S0≠g2 from HSG2.o)).trans HS3.o)
     clear q0 q1 f0 f1;clear hK K
     try simp only [Act.put,siT,scZ,scS]
     refine wpAnyH_done (by kernel_rfl) ?_ _;refine NoPanic.normal ?_;have HIN:Hid (IX rb N S0 g g2 cl xl n c a s w (j+1) ((w2.setCell ⟨g2,j*2,none⟩ (.int .i64 (kk:Int))).setCell ⟨g2,j*2+1,none⟩ (.bool ub))):=by
      have hgr:=HGR2.o;have hfr:RdF rb w w2:=HI.o.drew.fr.trans HF3.o;have hab:∀ b' o,a=some ⟨b',o,none⟩->b'≠g2:=fun b' o q=>by
       have h8:=HAN.o b' o q
       first | omega | (rw [hN] at h8;omega)
      refine ⟨(aHh (show rb≠g2 by omega)).trans HR3.o,(aHh HSG2.o).trans HS3.o,(aHh (show N≠g2 by omega)).trans ?_,?_,?_,?_,aI2 (aI2 HB3.o hab) hab⟩
      ·have h7:=HF3.o.oth N (aAe HI.o.drew.zb) (by have:=HRB.o;omega);exact h7.trans HI.o.drew.zb
      ·exact ownsRow_setCell_other (ownsRow_setCell_other HC3.o (by show some g≠some g2;simp;omega) _) (by show some g≠some g2;simp;omega) _
      ·have h9:=bM2 (x':=((kk:Int),ub)) HO3.o HATZ.o hjn;rw [HNX.o] at h9;exact h9
      ·exact (hfr.put (by rw [hN];omega) (by omega) _ _).put (by rw [hN];omega) (by omega) _ _
     clear HR3 HS3 HF3 HO3 HB3 HC3 HRD HBD HSD HOD HCD HX hHeld;go_wp2;go_roundg (gk-1)
     case measure=>omega
     case rel=>exact ⟨j+1,by omega,rfl,HIN.o⟩
    ·have xj:¬ (j:Int)<(xl:Int):=by omega
     have ex:j=xl:=by omega
     have HRX:Hid (bBn zx s.xs j=s.xs):=by show _=_;rw [ex,<-HXL.o];exact aHj _ _
     have HZB:=aAc HI.o.zb;have y0:wr.cell? ⟨S0,0,none⟩=some (.string s.nm):=aAa HI.o.sb;have y1:wr.cell? ⟨S0,1,none⟩=some (.slice (some ⟨g,0,none⟩) cl cl):=aAa HI.o.sb;have y2:wr.cell? ⟨S0,2,none⟩=some (.slice (some ⟨g2,0,none⟩) xl xl):=aAa HI.o.sb;have t0:wr.cell? ⟨N,0,none⟩=some (.string ⟨#[]⟩):=aAa HZB.o;have tf0:wr.frozen? ⟨N,0,none⟩=false:=aAh HZB.o;have t1:wr.cell? ⟨N,1,none⟩=some (.slice none 0 0):=aAa HZB.o;have tf1:wr.frozen? ⟨N,1,none⟩=false:=aAh HZB.o;have t2:wr.cell? ⟨N,2,none⟩=some (.slice none 0 0):=aAa HZB.o;have tf2:wr.frozen? ⟨N,2,none⟩=false:=aAh HZB.o;clear ex;go_wp2;(try simp only [Exit.inBlock,Exit.then]);refine bodyPost_ret (results_cell_row results128 _ _ N _ _ _ _ rfl (bQj HZB.o) underlying33 rfl aKm) rfl ?_;have hgr:=HGR.o;have hgr2:=HGR2.o;have hrb:=HRB.o;obtain ⟨ga,gc,ge,hsv⟩:=aBn aEz HI.o.oc HCL.o;have h9:=HI.o.ow;rw [HRX.o] at h9;obtain ⟨xa,xc,xe,hsx⟩:=aBn aF9 h9 HXL.o;simp only [kBl] at ge xe;obtain ⟨rfl,_,rfl⟩:=ge;obtain ⟨rfl,_,rfl⟩:=xe;have hfr:=((HI.o.fr.put (b:=N) (by omega) (by omega) 0 (.string s.nm)).put (b:=N) (by omega) (by omega) 1 (.slice (some ⟨g,0,none⟩) cl cl)).put (b:=N) (by omega) (by omega) 2 (.slice (some ⟨g2,0,none⟩) xl xl);have hsz:wr.heap.size<=(((wr.setCell ⟨N,0,none⟩ (.string s.nm)).setCell ⟨N,1,none⟩ (.slice (some ⟨g,0,none⟩) cl cl)).setCell ⟨N,2,none⟩ (.slice (some ⟨g2,0,none⟩) xl xl)).heap.size:=((((kBh 0 wr).setCell (p:=⟨N,0,none⟩) (kAm _) _).setCell (p:=⟨N,1,none⟩) (kAm _) _).setCell (p:=⟨N,2,none⟩) (kAm _) _).size;refine ⟨some ⟨g,0,none⟩,cl,some ⟨g2,0,none⟩,xl,rfl,⟨hsv.blk hsz fun b o e=>aCs ?_,hsx.blk hsz fun b o e=>aCs ?_⟩,hfr,fun b o e=>?_,fun b o e=>?_⟩
     ·simp only [oI,Addr.mk.injEq] at e;omega
     ·simp only [oI,Addr.mk.injEq] at e;omega
     ·simp only [oI,Addr.mk.injEq] at e;omega
     ·simp only [oI,Addr.mk.injEq] at e;omega
end Go.Proofs.YtdpdjpkmndnaaaaGreat
