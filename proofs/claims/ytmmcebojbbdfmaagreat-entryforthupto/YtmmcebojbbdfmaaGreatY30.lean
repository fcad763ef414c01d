import Derived.Test.YtmmcebojbbdfmaaGreatY29
import Derived.Laws.IdiomStrings
set_option maxRecDepth 100000
set_option maxHeartbeats 16000000
set_option linter.unusedVariables false
namespace Go.Proofs.YtmmcebojbbdfmaaGreat
open Go.RowKit _root_.Go.Proofs.Tryz
variable {B b c cap cc cl g i j k n rb te xc xl:Nat} {a ca xa:Option Addr} {s:ByteArray} {u v:Value} {w w' w2:World} {xs:List Nat}
def sl (s:ByteArray):List Nat:=s.data.toList.map UInt8.toNat
theorem sl_len (s:ByteArray):(sl s).length=s.size:=by simp [sl]
theorem sl_lt (s:ByteArray):∀ c∈sl s,c<256:=by
 intro c hc;simp only [sl,List.mem_map] at hc;obtain ⟨u,_,rfl⟩:=hc;exact u.toNat_lt
theorem conv_bs {fz:Nat×Nat} (h:w.heap[g]?=some (.cells (bytesRow s cap) 5 fz)) (h1:s.size<=cap) (h2:cap<=9223372036854775807) (h3:s.size<=140737488355328):BS w (some ⟨g,0,none⟩) s.size cap (sl s):=by
 refine BS.of (sl_len s) h1 h3 h2 (sl_lt s) ?_;intro i hi;have hi2:i<s.data.size:=hi;rw [Nat.zero_add,cell_of_row w g i _ _ _ h,bytesRow_at s cap i hi2]
 congr 3
 simp only [sl,List.getD_eq_getElem?_getD,List.getElem?_map,Array.getElem?_toList,Array.getElem?_eq_getElem hi2,Option.map_some,Option.getD_some]
theorem aE4 (s:ByteArray) (w:World) (h:s.size<=1000):∃ cap w',(convert 9 26 (.string s)).run prog w=.ok (.slice (some ⟨w.heap.size,0,none⟩) s.size cap) w'/\Below w.heap.size w w'/\BS w' (some ⟨w.heap.size,0,none⟩) s.size cap (sl s):=by
 refine ⟨_,_,run_bytes_of_string w 9 26 5 s underlying9 underlying26 underlying5,(Below.refl _ _).drew.alloc (nR _) _,?_⟩;have hge:=grownCap_ge w s.size 0 5;have hle:=grownCap_le_maxLen w s.size 0 5 (by unfold maxLen;omega);unfold maxLen at hle;exact conv_bs (heap_alloc_new w.drew _) hge (by omega) (by omega)
theorem aDg (n:Nat) (w:World) (h:n<9223372036854775808):Calls prog 50 #[.int .i64 n] w fun e w'=>∃ g c,e=.returned (.slice (some ⟨g,0,none⟩) (grp n) c)/\OB w.heap.size w' (.slice (some ⟨g,0,none⟩) (grp n) c) (encW n)/\Below w.heap.size w w':=by
 refine (aEm n w h).mono ?_;rintro e w' ⟨g,c,rfl,h1,h2⟩;refine ⟨g,c,rfl,?_,h2⟩;show World.ownsRow _ _ _ _ _ _ _;rw [aA7 n (aA2 n h).1];exact h1
def wb (s:ByteArray):List Nat:=encW s.size++sl s
theorem wire_name (s:ByteArray) (w:World) {cap:Nat} {a:Option Addr} (h:BS w a s.size cap (sl s)) (hs:s.size<=1000):Calls prog 54 #[.slice a s.size cap] w fun e w'=>∃ g c,e=.returned (.slice (some ⟨g,0,none⟩) (grp s.size+s.size) c)/\OB w.heap.size w' (.slice (some ⟨g,0,none⟩) (grp s.size+s.size) c) (wb s)/\Below w.heap.size w w':=by
 refine (bytes_any a s.size cap (sl s) w h (by omega)).mono ?_;rintro e w' ⟨g,c,rfl,h1,h2⟩;refine ⟨g,c,rfl,?_,h2⟩;show World.ownsRow _ _ _ _ _ _ _;unfold wb;rw [lA,aA7 s.size (aA2 s.size (by omega)).1,sl_len];exact h1
theorem aAh (n:Nat) (h:n<9223372036854775808):(encW n).length<=9:=by rw [aA7 n (aA2 n h).1];exact (aA2 n h).2.1
theorem wb_len (s:ByteArray) (h:s.size<=8):(wb s).length<=17:=by
 unfold wb;have:=aAh s.size (by omega);rw [lA,sl_len];omega
def encC (c:Col):List Nat:=wb c.1++encW c.2.1.toNat++encW c.2.2.toNat
def encX (x:Idx):List Nat:=encW x.1.toNat++encW (if x.2 then 1 else 0)
def encS (s:Sch):List Nat:=wb s.nm++encW s.cs.length++s.cs.flatMap encC++encW s.xs.length++s.xs.flatMap encX
theorem colsN_at {l:List Col}:∀ {n j:Nat} {c:Col},colsN l n=true->j<n->l[j]?=some c->colAt l j c=true
 | 0,j,c,_,hj,_=>by omega
 | n+1,j,c,h,hj,hc=>by
  have h':(colsN l n && (match l[n]? with | some c=>colAt l n c | none=>true))=true:=h
  rw [Bool.and_eq_true] at h'
  by_cases e:j=n
  ·subst e
   have:=h'.2
   rw [hc] at this
   exact this
  ·exact colsN_at h'.1 (by omega) hc
theorem ixsN_at {m:Nat} {l:List Idx}:∀ {n j:Nat} {c:Idx},ixsN m l n=true->j<n->l[j]?=some c->ixAt m l j c=true
 | 0,j,c,_,hj,_=>by omega
 | n+1,j,c,h,hj,hc=>by
  have h':(ixsN m l n && (match l[n]? with | some c=>ixAt m l n c | none=>true))=true:=h
  rw [Bool.and_eq_true] at h'
  by_cases e:j=n
  ·subst e
   have:=h'.2
   rw [hc] at this
   exact this
  ·exact ixsN_at h'.1 (by omega) hc
theorem aB1 (h:isNm s=true):s.size<=8:=by
 unfold isNm at h;simp only [Bool.and_eq_true,decide_eq_true_eq] at h;exact h.1.2
theorem isMx_num {k m:Int} (h:isMx k m=true):1<=k/\k<=3/\0<=m/\m<=8:=by
 unfold isMx at h
 split at h
 ·simp only [Bool.and_eq_true,decide_eq_true_eq] at h;omega
 ·split at h
  ·simp only [beq_iff_eq] at h;omega
  ·cases h
structure ColOk (c:Col):Prop where
 nm:c.1.size<=8
 k0:1<=c.2.1
 k1:c.2.1<=3
 m0:0<=c.2.2
 m1:c.2.2<=8
theorem Sch.parts {s:Sch} (h:s.ok=true):s.nm.size<=8/\s.cs.length<=3/\s.xs.length<=3/\(∀ (j:Nat) c,s.cs[j]?=some c->ColOk c)/\(∀ (j:Nat) x,s.xs[j]?=some x->1<=x.1/\x.1<=3):=by
 unfold Sch.ok colsOk ixsOk at h;simp only [Bool.and_eq_true,decide_eq_true_eq] at h;obtain ⟨⟨h1,⟨h2,h3⟩,h4⟩,h5,h6⟩:=h;refine ⟨aB1 h1,h3,h5,fun j c hc=>?_,fun j x hx=>?_⟩
 ·have:=colsN_at h4 (lL hc) hc;unfold colAt at this;simp only [Bool.and_eq_true] at this;have hm:=isMx_num this.1.2;exact ⟨aB1 this.1.1,hm.1,hm.2.1,hm.2.2.1,hm.2.2.2⟩
 ·have:=ixsN_at h6 (lL hx) hx;unfold ixAt at this;simp only [Bool.and_eq_true,decide_eq_true_eq] at this;omega
theorem aF7 {c:Col} (h:ColOk c):(encC c).length<=35:=by
 unfold encC;have h1:=wb_len c.1 h.nm;have h2:=aAh c.2.1.toNat (by have:=h.k1;omega);have h3:=aAh c.2.2.toNat (by have:=h.m1;omega);simp only [lA];omega
theorem encX_len {x:Idx} (h:1<=x.1/\x.1<=3):(encX x).length<=18:=by
 unfold encX;have h2:=aAh x.1.toNat (by omega);have h3:=aAh (if x.2 then 1 else 0) (by split<;>omega);simp only [lA];omega
theorem encode_no {s:Sch} (h:SC w ca cl cc xa xl xc s) (hok:s.ok=false) :
  Calls prog 57 #[.agg #[.string s.nm,.slice ca cl cc,.slice xa xl xc]] w fun e w'=>e=.returned (.tuple #[.slice none 0 0,.int .i64 61])/\Below w.heap.size w w':=by
 have hbx:=aAc w (.cells #[.string s.nm,.slice ca cl cc,.slice xa xl xc] 71);have HR1:Hid ((w.alloc (.cells #[.string s.nm,.slice ca cl cc,.slice xa xl xc] 71)).heap[w.heap.size]?=some (.cells #[.string s.nm,.slice ca cl cc,.slice xa xl xc] 71 (0,0))):=boxed w _;have HW1:=zH hbx;have HRT:=zH (aD0 (h.later hbx));rw [show s.err=61 from if_neg (by rw [hok];decide)] at HRT;clear h hbx hok;go_enter func57,ntmps57;go_upto_region 1 with fail;generalize w.alloc (.cells #[.string s.nm,.slice ca cl cc,.slice xa xl xc] 71)=w1 at *
 generalize hL:w.heap.size=L at *
 have y0:w1.cell? ⟨L,0,none⟩=some (.string s.nm):=aAa HR1.o;have y1:w1.cell? ⟨L,1,none⟩=some (.slice ca cl cc):=aAa HR1.o;have y2:w1.cell? ⟨L,2,none⟩=some (.slice xa xl xc):=aAa HR1.o;go_wp2_with fail;refine HRT.o.mono ?_;rintro e w2 ⟨rfl,hb2⟩;have HW2:Hid (Below L w w2):=HW1.o.trans (hb2.mono (by have:=aAb HR1.o;omega));clear hb2 HRT;go_wp2;go_ret2;exact ⟨rfl,by first | exact HW2.o | (rw [hL];exact HW2.o)⟩
theorem aDj {α:Type} {f:α->List Nat} {m:Nat} {l:List α} (h:∀ (j:Nat) x,l[j]?=some x->(f x).length<=m):∀ j,((l.take j).flatMap f).length<=m*j
 | 0=>by simp
 | j+1=>by
  have ih:=aDj h j
  rw [List.take_add_one,List.flatMap_append,lA,Nat.mul_add]
  cases hx:l[j]? with
  | none =>
   show ((l.take j).flatMap f).length+0<=m*j+m*1
   omega
  | some x =>
   have h1:=h j x hx
   have e:[x].flatMap f=f x:=by simp
   show ((l.take j).flatMap f).length+([x].flatMap f).length<=m*j+m*1;rw [e];omega
theorem aB3 {α:Type} {f:α->List Nat} {l:List α} {x:α} (h:l[j]?=some x):(l.take (j+1)).flatMap f=(l.take j).flatMap f++f x:=by
 rw [List.take_add_one,h,List.flatMap_append];simp
theorem encode_ok {s:Sch} (h:SC w ca cl cc xa xl xc s) (hok:s.ok=true) :
  Calls prog 57 #[.agg #[.string s.nm,.slice ca cl cc,.slice xa xl xc]] w fun e w'=>∃ v,e=.returned (.tuple #[v,.int .i64 0])/\OB w.heap.size w' v (encS s)/\Below w.heap.size w w':=by
 have hbx:=aAc w (.cells #[.string s.nm,.slice ca cl cc,.slice xa xl xc] 71);have HR1:Hid ((w.alloc (.cells #[.string s.nm,.slice ca cl cc,.slice xa xl xc] 71)).heap[w.heap.size]?=some (.cells #[.string s.nm,.slice ca cl cc,.slice xa xl xc] 71 (0,0))):=boxed w _;have HW1:=zH hbx;have HRT:=zH (aD0 (h.later hbx));rw [show s.err=0 from if_pos hok] at HRT;have HPA:=zH (Sch.parts hok);have H0:=zH h;have HCL:=zH h.c.hl;have HXL:=zH h.x.hl;have HNZ:Hid (s.nm.size<=8):=HPA.o.1;have hcl3:cl<=3:=by rw [<-HCL.o];exact HPA.o.2.1
 have hxl3:xl<=3:=by rw [<-HXL.o];exact HPA.o.2.2.1
 clear h hbx hok;go_enter func57,ntmps57;go_upto_region 1 with fail;generalize w.alloc (.cells #[.string s.nm,.slice ca cl cc,.slice xa xl xc] 71)=w1 at *
 generalize hL:w.heap.size=L at *
 have y0:w1.cell? ⟨L,0,none⟩=some (.string s.nm):=aAa HR1.o;have y1:w1.cell? ⟨L,1,none⟩=some (.slice ca cl cc):=aAa HR1.o;have y2:w1.cell? ⟨L,2,none⟩=some (.slice xa xl xc):=aAa HR1.o;go_wp2_with fail;refine HRT.o.mono ?_;rintro e w2 ⟨rfl,hb2⟩;have HW2:Hid (Below L w w2):=HW1.o.trans (hb2.mono (by have:=aAb HR1.o;omega));have HR2:=zH ((hb2.block L (aAb HR1.o)).trans HR1.o);clear hb2 HRT y0 y1 y2 HR1 HW1;have y0:w2.cell? ⟨L,0,none⟩=some (.string s.nm):=aAa HR2.o;obtain ⟨cp3,w3,hcv3,hb3,hbs3⟩:=aE4 s.nm w2 (by have:=HNZ.o;omega);have HP4:=zH (wire_name s.nm w3 hbs3 (by have:=HNZ.o;omega));have HR3:=zH ((hb3.block L (aAb HR2.o)).trans HR2.o);have HW3:Hid (Below L w w3):=HW2.o.trans (hb3.mono (by have:=aAb HR2.o;omega));clear hb3 hbs3;go_wp2_with fail;refine HP4.o.mono ?_;rintro e w4 ⟨g4,c4,rfl,ho4,hb4⟩;have HO4:=zH ho4;have HR4:=zH ((hb4.block L (aAb HR3.o)).trans HR3.o);have HW4:Hid (Below L w w4):=HW3.o.trans (hb4.mono (by have:=aAb HR3.o;omega));have HN0:Hid (w3.heap.size<=w4.heap.size):=hb4.size;have HL0:Hid (L<w3.heap.size):=aAb HR3.o;clear ho4 hb4 HP4 hcv3 y0;generalize w3.heap.size=n0 at *
 have y1:w4.cell? ⟨L,1,none⟩=some (.slice ca cl cc):=aAa HR4.o;have HWL:=zH (wb_len s.nm HNZ.o);have HUC:=zH (aAh cl (by omega));have HP5:=zH (aDg cl w4 (by omega));go_wp2_with fail;refine HP5.o.mono ?_;rintro e w5 ⟨g5,c5,rfl,ho5,hb5⟩;have HO5:=zH ho5;have HO5':=zH (HO4.o.later hb5);have HR5:=zH ((hb5.block L (aAb HR4.o)).trans HR4.o);have HN5:Hid (n0<=w5.heap.size):=nT HN0.o hb5.size;have HW5:Hid (Below L w w5):=HW4.o.trans (hb5.mono (by have:=aAb HR4.o;omega));clear ho5 hb5 HP5 HO4 y1;go_upto_region 6 with (at_builtin;refine aAq rfl (.tmp 19) (.tmp 23) rfl rfl rfl HO5'.out HO5.o HN5.o (by have:=HWL.o;have:=HUC.o;omega) ?_;intro v6 w6 ho6 hb6 hk6;have HO6:=zH ho6;have HB6:=zH hb6;clear ho6 hb6 hk6);have HR6:=zH ((HB6.o.block L HL0.o).trans HR5.o);have HW6:Hid (Below L w w6):=HW5.o.trans (HB6.o.mono (by have:=HL0.o;omega));have HN6:Hid (n0<=w6.heap.size):=nT HN5.o HB6.o.size;obtain ⟨a6,c6,e6⟩:=HO6.o.form;obtain ⟨P6,hP6⟩:∃ P,P=wb s.nm++encW cl:=⟨_,rfl⟩;have HP6:=zH hP6;have HPL:Hid (P6.length<=26):=by show _<=_;rw [hP6,lA];have:=HWL.o;have:=HUC.o;omega
 rw [<-hP6] at HO6 e6;obtain ⟨k6,hk6⟩:∃ k,P6.length=k:=⟨_,rfl⟩;rw [hk6] at e6;subst e6;have HK6:=zH hk6;have HPLC:=HPL;have HNBC:=HN6;clear hP6 hk6 HO5 HO5' HB6 HR5 HW5 HN5;have y1:w6.cell? ⟨L,1,none⟩=some (.slice ca cl cc):=aAa HR6.o;go_wp2_with fail;clear y1;go_loopg [5,28] cl (fun gh s5 s28 wx=>∃ j:Nat,j+gh=cl/\s28=.int .i64 (j:Int)/\∃ a k c P,s5=.slice a k c/\P.length=k/\P=P6++(s.cs.take j).flatMap encC/\OB n0 wx (.slice a k c) P/\Below n0 w6 wx)
 case atStart=>exact ⟨0,by omega,rfl,a6,k6,c6,P6,rfl,HK6.o,by simp,HO6.o,Below.refl _ _⟩
 case round =>
  obtain ⟨j,hj,rfl,a,k,c0,P,rfl,hPk,hP,hO,hB⟩:=hrel;have HRW:=zH hO;have HBW:=zH hB;have HPP:=zH hP;have HPK:=zH hPk;have HNW:Hid (n0<=wr.heap.size):=nT HNBC.o hB.size;have HLW:Hid (Below L w wr):=HW6.o.trans (hB.mono (by have:=HL0.o;omega));have HPZ:Hid (P.length<=300):=by
   show _<=_;rw [hP,lA];have h9:=aDj (f:=encC) (m:=35) (l:=s.cs) (fun j c hc=>aF7 (HPA.o.2.2.2.1 j c hc)) j;have:=HPLC.o;omega
  clear hPk hP hO hB;by_cases hjn:j<cl
  ·have xj:(j:Int)<(cl:Int):=by omega
   have xj4:(j:Int)<4:=by omega
   obtain ⟨c,hcj⟩:∃ c,s.cs[j]?=some c:=⟨_,gE (by rw [HCL.o];exact hjn)⟩;have HOKC:=zH (HPA.o.2.2.2.1 j c hcj);have HFN:=zH (aB3 (f:=encC) hcj);have hbw:Below w.heap.size w wr:=by rw [hL];exact HLW.o
   obtain ⟨b,o,ec,hb,hcc⟩:=(H0.o.c.later hbw).pl (by omega);have y0:wr.cell? ⟨b,o+j*3,none⟩=some (.string c.1):=hcc j c hcj 0 (by omega);have y1:wr.cell? ⟨b,o+j*3+1,none⟩=some (.int .i64 c.2.1):=hcc j c hcj 1 (by omega);have y2:wr.cell? ⟨b,o+j*3+2,none⟩=some (.int .i64 c.2.2):=hcc j c hcj 2 (by omega);have HNZ:Hid (c.1.size<=8):=HOKC.o.nm;obtain ⟨kk,hkk⟩:∃ kk:Nat,c.2.1=(kk:Int):=⟨c.2.1.toNat,by have:=HOKC.o.k0;omega⟩;obtain ⟨mm,hmm⟩:∃ mm:Nat,c.2.2=(mm:Int):=⟨c.2.2.toNat,by have:=HOKC.o.m0;omega⟩;have hk8:kk<=8:=by have:=HOKC.o.k1;omega
   have hm8:mm<=8:=by have:=HOKC.o.m1;omega
   have HEC:Hid (encC c=wb c.1++encW kk++encW mm):=by show encC c=_;unfold encC;rw [hkk,hmm];rfl
   have HWL:=zH (wb_len c.1 HNZ.o);have HU1:=zH (aAh kk (by omega));have HU2:=zH (aAh mm (by omega));rw [hkk] at y1;rw [hmm] at y2;clear hkk hmm;have hbk:=aAc wr (.cells #[.string c.1,.int .i64 (kk:Int),.int .i64 (mm:Int)] 109);have HV:Hid ((wr.alloc (.cells #[.string c.1,.int .i64 (kk:Int),.int .i64 (mm:Int)] 109)).heap[wr.heap.size]?=some (.cells #[.string c.1,.int .i64 (kk:Int),.int .i64 (mm:Int)] 109 (0,0))):=boxed wr _;have HOA:=zH (HRW.o.later hbk);have HBA:Hid (Below n0 w6 (wr.alloc (.cells #[.string c.1,.int .i64 (kk:Int),.int .i64 (mm:Int)] 109))):=HBW.o.trans (hbk.mono HNW.o);have HNA:Hid (n0<=(wr.alloc (.cells #[.string c.1,.int .i64 (kk:Int),.int .i64 (mm:Int)] 109)).heap.size):=nT HNW.o hbk.size;subst ec;clear hcc hcj hbk hbw;go_upto_region 9 with fail;clear y0 y1 y2;generalize wr.alloc (.cells #[.string c.1,.int .i64 (kk:Int),.int .i64 (mm:Int)] 109)=wa at *
   generalize wr.heap.size=V at *
   have z0:wa.cell? ⟨V,0,none⟩=some (.string c.1):=aAa HV.o;obtain ⟨cp9,wc9,hcv9,hbc9,hbs9⟩:=aE4 c.1 wa (by have:=HNZ.o;omega);have HBC9:=zH hbc9;have HP9:=zH (wire_name c.1 wc9 hbs9 (by have:=HNZ.o;omega));clear hbc9 hbs9;go_wp2_with fail;refine HP9.o.mono ?_;rintro e wp9 ⟨gp9,cq9,rfl,hop9,hbp9⟩;have hbx9:Below wa.heap.size wa wp9:=HBC9.o.trans (hbp9.mono HBC9.o.size);clear hcv9;have HOP9:=zH hop9;have HR9:=zH (HOA.o.later hbx9);have HVp9:=zH ((hbx9.block V (aAb HV.o)).trans HV.o);have HZ9:Hid (n0<=wp9.heap.size):=nT HNA.o hbx9.size;have HY9:Hid (Below n0 w6 wp9):=HBA.o.trans (hbx9.mono HNA.o);clear hop9 hbp9 hbx9 HP9;go_upto_region 10 with (at_builtin;refine aAq rfl (.tmp 32) (.tmp 36) rfl rfl rfl HR9.o HOP9.o HZ9.o (by have:=HPZ.o;have:=HWL.o;omega) ?_;intro v9 w9 ho9 hb9 hk9;have HO9:=zH ho9;have HB9:=zH hb9;have HK9:=zH hk9;clear ho9 hb9 hk9);have HVq9:=zH ((HK9.o V (aAb HVp9.o) (HR9.o.ne HVp9.o (by decide))).trans HVp9.o);have HX9:Hid (Below n0 w6 w9):=HY9.o.trans HB9.o;have HS9:Hid (n0<=w9.heap.size):=nT HZ9.o HB9.o.size;obtain ⟨a9,c9,e9⟩:=HO9.o.form;obtain ⟨k9,hk9⟩:∃ k,(P++wb c.1).length=k:=⟨_,rfl⟩;rw [hk9] at e9;subst e9;have HKL9:=zH hk9;clear hk9 HR9 HOP9 HB9 HK9;have z1:w9.cell? ⟨V,1,none⟩=some (.int .i64 (kk:Int)):=aAa HVq9.o;clear z0;have HP10:=zH (aDg kk w9 (by omega));go_wp2_with fail;refine HP10.o.mono ?_;rintro e wp10 ⟨gp10,cq10,rfl,hop10,hbp10⟩;have hbx10:Below w9.heap.size w9 wp10:=hbp10;have HOP10:=zH hop10;have HR10:=zH (HO9.o.later hbx10);have HVq9p10:=zH ((hbx10.block V (aAb HVq9.o)).trans HVq9.o);have HZ10:Hid (n0<=wp10.heap.size):=nT HS9.o hbx10.size;have HY10:Hid (Below n0 w6 wp10):=HX9.o.trans (hbx10.mono HS9.o);clear hop10 hbp10 hbx10 HP10;go_upto_region 11 with (at_builtin;refine aAq rfl (.tmp 38) (.tmp 41) rfl rfl rfl HR10.o HOP10.o HZ10.o (by have:=HPZ.o;have:=HWL.o;have:=HU1.o;rw [lA];omega) ?_;intro v10 w10 ho10 hb10 hk10;have HO10:=zH ho10;have HB10:=zH hb10;have HK10:=zH hk10;clear ho10 hb10 hk10);have HVq9q10:=zH ((HK10.o V (aAb HVq9p10.o) (HR10.o.ne HVq9p10.o (by decide))).trans HVq9p10.o);have HX10:Hid (Below n0 w6 w10):=HY10.o.trans HB10.o;have HS10:Hid (n0<=w10.heap.size):=nT HZ10.o HB10.o.size;obtain ⟨a10,c10,e10⟩:=HO10.o.form;obtain ⟨k10,hk10⟩:∃ k,((P++wb c.1)++encW kk).length=k:=⟨_,rfl⟩;rw [hk10] at e10;subst e10;have HKL10:=zH hk10;clear hk10 HR10 HOP10 HB10 HK10;have z2:w10.cell? ⟨V,2,none⟩=some (.int .i64 (mm:Int)):=aAa HVq9q10.o;clear z1;have HP11:=zH (aDg mm w10 (by omega));go_wp2_with fail;refine HP11.o.mono ?_;rintro e wp11 ⟨gp11,cq11,rfl,hop11,hbp11⟩;have hbx11:Below w10.heap.size w10 wp11:=hbp11;have HOP11:=zH hop11;have HR11:=zH (HO10.o.later hbx11);have HZ11:Hid (n0<=wp11.heap.size):=nT HS10.o hbx11.size;have HY11:Hid (Below n0 w6 wp11):=HX10.o.trans (hbx11.mono HS10.o);clear hop11 hbp11 hbx11 HP11;go_upto_region 12 with (at_builtin;refine aAq rfl (.tmp 43) (.tmp 46) rfl rfl rfl HR11.o HOP11.o HZ11.o (by have:=HPZ.o;have:=HWL.o;have:=HU1.o;have:=HU2.o;rw [lA,lA];omega) ?_;intro v11 w11 ho11 hb11 hk11;have HO11:=zH ho11;have HB11:=zH hb11;have HK11:=zH hk11;clear ho11 hb11 hk11);have HX11:Hid (Below n0 w6 w11):=HY11.o.trans HB11.o;have HS11:Hid (n0<=w11.heap.size):=nT HZ11.o HB11.o.size;obtain ⟨a11,c11,e11⟩:=HO11.o.form;obtain ⟨k11,hk11⟩:∃ k,((P++wb c.1++encW kk)++encW mm).length=k:=⟨_,rfl⟩;rw [hk11] at e11;subst e11;have HKL11:=zH hk11;clear hk11 HR11 HOP11 HB11 HK11;go_wp2;go_roundg (gk-1)
   case measure=>omega
   case rel=>exact ⟨j+1,by omega,rfl,a11,k11,c11,P++wb c.1++encW kk++encW mm,rfl,HKL11.o,by rw [HFN.o,HEC.o,HPP.o];simp only [List.append_assoc],HO11.o,HX11.o⟩
  ·have xj:¬ (j:Int)<(cl:Int):=by omega
   have HPE:Hid (P=P6++s.cs.flatMap encC):=by
    show P=_;rw [HPP.o,List.take_of_length_le (by rw [HCL.o];omega)]
   have HRS:=zH ((HBW.o.block L HL0.o).trans HR6.o);have y2:wr.cell? ⟨L,2,none⟩=some (.slice xa xl xc):=aAa HRS.o;have HUX:=zH (aAh xl (by omega));go_upto_region 13 with fail;have HP13:=zH (aDg xl wr (by omega));go_wp2_with fail;refine HP13.o.mono ?_;rintro e wp13 ⟨gp13,cq13,rfl,hop13,hbp13⟩;have hbx13:Below wr.heap.size wr wp13:=hbp13;have HOP13:=zH hop13;have HR13:=zH (HRW.o.later hbx13);have HRSp13:=zH ((hbx13.block L (aAb HRS.o)).trans HRS.o);have HZ13:Hid (n0<=wp13.heap.size):=nT HNW.o hbx13.size;have HY13:Hid (Below n0 w6 wp13):=HBW.o.trans (hbx13.mono HNW.o);clear hop13 hbp13 hbx13 HP13;go_upto_region 14 with (at_builtin;refine aAq rfl (.tmp 49) (.tmp 53) rfl rfl rfl HR13.o HOP13.o HZ13.o (by have:=HPZ.o;have:=HUX.o;omega) ?_;intro v13 w13 ho13 hb13 hk13;have HO13:=zH ho13;have HB13:=zH hb13;have HK13:=zH hk13;clear ho13 hb13 hk13);have HRSq13:=zH ((HK13.o L (aAb HRSp13.o) (HR13.o.ne HRSp13.o (by decide))).trans HRSp13.o);have HX13:Hid (Below n0 w6 w13):=HY13.o.trans HB13.o;have HS13:Hid (n0<=w13.heap.size):=nT HZ13.o HB13.o.size;obtain ⟨a13,c13,e13⟩:=HO13.o.form;obtain ⟨k13,hk13⟩:∃ k,(P++encW xl).length=k:=⟨_,rfl⟩;rw [hk13] at e13;subst e13;have HKL13:=zH hk13;clear hk13 HR13 HOP13 HB13 HK13;obtain ⟨P13,hP13⟩:∃ P',P'=P++encW xl:=⟨_,rfl⟩;have HP13:=zH hP13;have HPLX:Hid (P13.length<=240):=by
    show _<=_;have h9:=aDj (f:=encC) (m:=35) (l:=s.cs) (fun j c hc=>aF7 (HPA.o.2.2.2.1 j c hc)) j;have h8:=HPP.o;rw [hP13,lA,h8,lA];have:=HPLC.o;have:=HUX.o;omega
   rw [<-hP13] at HO13 HKL13;have HNBX:Hid (n0<=w13.heap.size):=HS13.o;have HLX:Hid (Below L w w13):=HW6.o.trans (HX13.o.mono (by have:=HL0.o;omega));have y3:w13.cell? ⟨L,2,none⟩=some (.slice xa xl xc):=aAa HRSq13.o;clear y2 hP13;go_wp2_with fail;clear y3;go_loopg [5,58] xl (fun gh s5 s58 wx=>∃ j:Nat,j+gh=xl/\s58=.int .i64 (j:Int)/\∃ a k c P,s5=.slice a k c/\P.length=k/\P=P13++(s.xs.take j).flatMap encX/\OB n0 wx (.slice a k c) P/\Below n0 w13 wx)
   case atStart=>exact ⟨0,by omega,rfl,a13,k13,c13,P13,rfl,HKL13.o,by simp,HO13.o,Below.refl _ _⟩
   case round =>
    have HPC:=HPE;clear HPE HPP HPK HRW HBW HNW HLW HPZ xj;obtain ⟨j,hj,rfl,a,k,c0,P,rfl,hPk,hP,hO,hB⟩:=hrel;have HRW:=zH hO;have HBW:=zH hB;have HPP:=zH hP;have HPK:=zH hPk;have HNW:Hid (n0<=wr.heap.size):=nT HNBX.o hB.size;have HLW:Hid (Below L w wr):=HLX.o.trans (hB.mono (by have:=HL0.o;omega));have HPZ:Hid (P.length<=300):=by
     show _<=_;rw [hP,lA];have h9:=aDj (f:=encX) (m:=18) (l:=s.xs) (fun j c hc=>encX_len (HPA.o.2.2.2.2 j c hc)) j;have:=HPLX.o;omega
    clear hPk hP hO hB;by_cases hjn:j<xl
    ·have xj:(j:Int)<(xl:Int):=by omega
     have xj4:(j:Int)<4:=by omega
     obtain ⟨c,hcj⟩:∃ c,s.xs[j]?=some c:=⟨_,gE (by rw [HXL.o];exact hjn)⟩;have HOKC:=zH (HPA.o.2.2.2.2 j c hcj);have HFN:=zH (aB3 (f:=encX) hcj);have hbw:Below w.heap.size w wr:=by rw [hL];exact HLW.o
     obtain ⟨b,o,ec,hb,hcc⟩:=(H0.o.x.later hbw).pl (by omega);have y0:wr.cell? ⟨b,o+j*2,none⟩=some (.int .i64 c.1):=hcc j c hcj 0 (by omega);have y1:wr.cell? ⟨b,o+j*2+1,none⟩=some (.bool c.2):=hcc j c hcj 1 (by omega);obtain ⟨kk,hkk⟩:∃ kk:Nat,c.1=(kk:Int):=⟨c.1.toNat,by have:=HOKC.o.1;omega⟩;obtain ⟨ub,hub⟩:∃ ub,c.2=ub:=⟨_,rfl⟩;have hk8:kk<=8:=by have:=HOKC.o.2;omega
     obtain ⟨mm,hmm⟩:∃ mm:Nat,mm=(if ub then 1 else 0):=⟨_,rfl⟩;have hm8:mm<=8:=by rw [hmm];split<;>omega
     have hmi:(if ub then (1:Int) else 0)=(mm:Int):=by rw [hmm];cases ub<;>rfl
     have HEC:Hid (encX c=encW kk++encW mm):=by show encX c=_;unfold encX;rw [hkk,hub,<-hmm];rfl
     have HU1:=zH (aAh kk (by omega));have HU2:=zH (aAh mm (by omega));have HMI:=zH hmi;rw [hkk] at y0;rw [hub] at y1;clear hkk hub hmm hmi;have hbk:=aAc wr (.cells #[.int .i64 (kk:Int),.bool ub] 111);have HV:Hid ((wr.alloc (.cells #[.int .i64 (kk:Int),.bool ub] 111)).heap[wr.heap.size]?=some (.cells #[.int .i64 (kk:Int),.bool ub] 111 (0,0))):=boxed wr _;have HOA:=zH (HRW.o.later hbk);have HBA:Hid (Below n0 w13 (wr.alloc (.cells #[.int .i64 (kk:Int),.bool ub] 111))):=HBW.o.trans (hbk.mono HNW.o);have HNA:Hid (n0<=(wr.alloc (.cells #[.int .i64 (kk:Int),.bool ub] 111)).heap.size):=nT HNW.o hbk.size;subst ec;clear hcc hcj hbk hbw;go_upto_region 17 with fail;clear y0 y1;generalize wr.alloc (.cells #[.int .i64 (kk:Int),.bool ub] 111)=wa at *
     generalize wr.heap.size=V at *
     have z0:wa.cell? ⟨V,0,none⟩=some (.int .i64 (kk:Int)):=aAa HV.o;have HP17:=zH (aDg kk wa (by omega));go_wp2_with fail;refine HP17.o.mono ?_;rintro e wp17 ⟨gp17,cq17,rfl,hop17,hbp17⟩;have hbx17:Below wa.heap.size wa wp17:=hbp17;have HOP17:=zH hop17;have HR17:=zH (HOA.o.later hbx17);have HVp17:=zH ((hbx17.block V (aAb HV.o)).trans HV.o);have HZ17:Hid (n0<=wp17.heap.size):=nT HNA.o hbx17.size;have HY17:Hid (Below n0 w13 wp17):=HBA.o.trans (hbx17.mono HNA.o);clear hop17 hbp17 hbx17 HP17;go_upto_region 18 with (at_builtin;refine aAq rfl (.tmp 62) (.tmp 65) rfl rfl rfl HR17.o HOP17.o HZ17.o (by have:=HPZ.o;have:=HU1.o;omega) ?_;intro v17 w17 ho17 hb17 hk17;have HO17:=zH ho17;have HB17:=zH hb17;have HK17:=zH hk17;clear ho17 hb17 hk17);have HVq17:=zH ((HK17.o V (aAb HVp17.o) (HR17.o.ne HVp17.o (by decide))).trans HVp17.o);have HX17:Hid (Below n0 w13 w17):=HY17.o.trans HB17.o;have HS17:Hid (n0<=w17.heap.size):=nT HZ17.o HB17.o.size;obtain ⟨a17,c17,e17⟩:=HO17.o.form;obtain ⟨k17,hk17⟩:∃ k,(P++encW kk).length=k:=⟨_,rfl⟩;rw [hk17] at e17;subst e17;have HKL17:=zH hk17;clear hk17 HR17 HOP17 HB17 HK17;have z1:w17.cell? ⟨V,1,none⟩=some (.bool ub):=aAa HVq17.o;clear z0;have HBT:=zH (bit_any ub w17);rw [HMI.o] at HBT;go_wp2_with fail;refine HBT.o.mono ?_;rintro e wt ⟨rfl,hwt⟩;have hwt:=hwt.symm;subst hwt;clear hwt HBT;have HP18:=zH (aDg mm w17 (by omega));go_wp2_with fail;refine HP18.o.mono ?_;rintro e wp18 ⟨gp18,cq18,rfl,hop18,hbp18⟩;have hbx18:Below w17.heap.size w17 wp18:=hbp18;have HOP18:=zH hop18;have HR18:=zH (HO17.o.later hbx18);have HZ18:Hid (n0<=wp18.heap.size):=nT HS17.o hbx18.size;have HY18:Hid (Below n0 w13 wp18):=HX17.o.trans (hbx18.mono HS17.o);clear hop18 hbp18 hbx18 HP18;go_upto_region 19 with (at_builtin;refine aAq rfl (.tmp 67) (.tmp 71) rfl rfl rfl HR18.o HOP18.o HZ18.o (by have:=HPZ.o;have:=HU1.o;have:=HU2.o;rw [lA];omega) ?_;intro v18 w18 ho18 hb18 hk18;have HO18:=zH ho18;have HB18:=zH hb18;have HK18:=zH hk18;clear ho18 hb18 hk18);have HX18:Hid (Below n0 w13 w18):=HY18.o.trans HB18.o;have HS18:Hid (n0<=w18.heap.size):=nT HZ18.o HB18.o.size;obtain ⟨a18,c18,e18⟩:=HO18.o.form;obtain ⟨k18,hk18⟩:∃ k,((P++encW kk)++encW mm).length=k:=⟨_,rfl⟩;rw [hk18] at e18;subst e18;have HKL18:=zH hk18;clear hk18 HR18 HOP18 HB18 HK18;go_wp2;go_roundg (gk-1)
     case measure=>omega
     case rel=>exact ⟨j+1,by omega,rfl,a18,k18,c18,P++encW kk++encW mm,rfl,HKL18.o,by rw [HFN.o,HEC.o,HPP.o];simp only [List.append_assoc],HO18.o,HX18.o⟩
    ·have xj:¬ (j:Int)<(xl:Int):=by omega
     have HFULL:Hid (P=encS s):=by
      show P=_;rw [HPP.o,List.take_of_length_le (by rw [HXL.o];omega),HP13.o,HPC.o,HP6.o];unfold encS;rw [HCL.o,HXL.o]
     have HFB:Hid (Below L w wr):=HLW.o;go_wp2;go_ret2;refine ⟨.slice a k c0,rfl,?_,by first | exact HFB.o | (rw [hL];exact HFB.o)⟩;rw [<-HFULL.o]
     first | exact aB9 HRW.o (by have:=HL0.o;omega) | (rw [hL];exact aB9 HRW.o (by have:=HL0.o;omega))
abbrev RDR (rb:Nat) (a:Option Addr) (n c:Nat) (p:Int) (w:World):Prop:=w.heap[rb]?=some (.cells #[.slice a n c,.int .i64 p] 168 (0,0))
structure RdF (rb:Nat) (w w':World):Prop where
 bel:Below rb w w'
 oth:∀ i,i<w.heap.size->i≠rb->w'.heap[i]?=w.heap[i]?
theorem RdF.trans (h:RdF rb w w') (k:RdF rb w' w2):RdF rb w w2:=⟨h.bel.trans k.bel,fun i hi hn=>(k.oth i (Nat.lt_of_lt_of_le hi h.bel.size) hn).trans (h.oth i hi hn)⟩
theorem RdF.of (h:Below w.heap.size w w') (hr:rb<=w.heap.size):RdF rb w w':=⟨h.mono hr,fun i hi _=>h.block i hi⟩
theorem RdF.set (h:RdF rb w w') (i:Nat) (u:Value):RdF rb w (w'.setCell ⟨rb,i,none⟩ u):=⟨h.bel.setCell (p:=⟨rb,i,none⟩) (nR _) u,fun j hj hn=>(heap_setCell_other _ _ _ _ (show j≠rb from hn)).trans (h.oth j hj hn)⟩
theorem bs_rd (h:BS w a n c xs) (f:RdF rb w w') (ha:∀ b o,a=some ⟨b,o,none⟩->b≠rb):BS w' a n c xs:=by
 refine ⟨h.hlen,h.hcap,h.hroom,h.hmax,h.hbyte,h.hnil,fun x hx i hi=>?_⟩;rw [<-h.hcell x hx i hi];refine World.cell?_of_block ?_;have hl:(x.add i).block<w.heap.size:=aBe (h.hcell x hx i hi);have e:(x.add i).block=x.block:=by unfold Addr.add;split<;>rfl
 rw [e] at hl ⊢;refine f.oth _ hl fun q=>?_
 obtain ⟨b,o,sp⟩:=x;have hsp:sp=none:=by
  have:=World.cell?_spot (h.hcell _ hx 0 (by omega));simpa [Addr.add] using this
 subst hsp;exact ha b o hx q
theorem aDw {p:Int} (h:RDR rb a n c p w) (hb:BS w a n c xs) :
  Calls prog 123 #[.pointer (some ⟨rb,0,none⟩)] w fun e w'=>e=.returned (.int .i64 (ruN xs p))/\RDR rb a n c (ruP xs p) w'/\RdF rb w w':=by
 have HR:=zH h;have HC:=zH (aBh a n c xs p w.drew (hb.later (Below.refl _ _).drew (nR _)));have HX:Hid ((fun wx=>wx.cell? ⟨rb,0,none⟩=some (.slice a n c)/\wx.cell? ⟨rb,1,none⟩=some (.int .i64 p)) w.drew):=⟨aAa (show w.drew.heap[rb]?=_ from h),aAa (show w.drew.heap[rb]?=_ from h)⟩;obtain ⟨rn,hrn⟩:∃ r:Nat,ruN xs p=r:=⟨_,rfl⟩;obtain ⟨rp,hrp⟩:∃ r:Nat,ruP xs p=r:=⟨_,rfl⟩;rw [hrn,hrp] at HC ⊢;clear h hb hrn hrp;go_enter func123,ntmps123;go_upto_region 1 with fail;refine wp_region_noPanic ?_;refine wp_region_held_drew (S:=fun wx=>wx.cell? ⟨rb,0,none⟩=some (.slice a n c)/\wx.cell? ⟨rb,1,none⟩=some (.int .i64 p)) (by kernel_rfl) HX.o (fun hHeld=>?_);refine aAd (i:=0) (d:=7) (v:=?va0) (by kernel_rfl) (by kernel_rfl) (by kernel_rfl) (by kernel_rfl) (fun _ _ _ h=>h) ?hya0 (by assumption) ?resta0
 case hya0 =>
  intro oi ho;simp only [tG,zG,oI] at ho;subst ho;refine Or.inl ⟨by rfl,?_⟩;intro wx hSw
  try dsimp only at hSw
  obtain ⟨hs1,hs2⟩:=hSw;go_simp
  try rfl
 try simp only [Act.put,siT,scZ,scS]
 refine aAd (i:=1) (d:=8) (v:=?va1) (by kernel_rfl) (by kernel_rfl) (by kernel_rfl) (by kernel_rfl) (fun _ _ _ h=>h) ?hya1 (by assumption) ?resta1
 case hya1 =>
  intro oi ho;simp only [tG,sG,zG,oI] at ho;subst ho;refine Or.inl ⟨by rfl,?_⟩;intro wx hSw
  try dsimp only at hSw
  obtain ⟨hs1,hs2⟩:=hSw;go_simp
  try rfl
 try simp only [Act.put,siT,scZ,scS]
 refine aAd (i:=2) (d:=9) (v:=?va2) (by kernel_rfl) (by kernel_rfl) (by kernel_rfl) (by kernel_rfl) (fun _ _ _ h=>h) ?hya2 (by assumption) ?resta2
 case hya2 =>
  intro oi ho;simp only [tG,sG,zG,oI] at ho;subst ho;refine Or.inl ⟨by rfl,?_⟩;intro wx hSw
  try dsimp only at hSw
  obtain ⟨hs1,hs2⟩:=hSw;go_simp
  try rfl
 try simp only [Act.put,siT,scZ,scS]
 refine aAd (i:=3) (d:=10) (v:=?va3) (by kernel_rfl) (by kernel_rfl) (by kernel_rfl) (by kernel_rfl) (fun _ _ _ h=>h) ?hya3 (by assumption) ?resta3
 case hya3 =>
  intro oi ho;simp only [tG,sG,zG,oI] at ho;subst ho;refine Or.inl ⟨by rfl,?_⟩;intro wx hSw
  try dsimp only at hSw
  obtain ⟨hs1,hs2⟩:=hSw;go_simp
  try rfl
 try simp only [Act.put,siT,scZ,scS]
 refine aAd (i:=4) (d:=11) (v:=?va4) (by kernel_rfl) (by kernel_rfl) (by kernel_rfl) (by kernel_rfl) (fun _ _ _ h=>h) ?hya4 (by assumption) ?resta4
 case hya4 =>
  intro oi ho;simp only [tG,sG,zG,oI] at ho;subst ho;refine Or.inl ⟨by rfl,?_⟩;intro wx hSw
  try dsimp only at hSw
  obtain ⟨hs1,hs2⟩:=hSw;go_simp
  try rfl
 try simp only [Act.put,siT,scZ,scS]
 refine aAd (i:=5) (d:=12) (v:=?va5) (by kernel_rfl) (by kernel_rfl) (by kernel_rfl) (by kernel_rfl) (fun _ _ _ h=>h) ?hya5 (by assumption) ?resta5
 case hya5 =>
  intro oi ho;simp only [tG,sG,zG,oI] at ho;subst ho;refine Or.inl ⟨by rfl,?_⟩;intro wx hSw
  try dsimp only at hSw
  obtain ⟨hs1,hs2⟩:=hSw;go_simp
  try rfl
 try simp only [Act.put,siT,scZ,scS]
 refine aAd (i:=6) (d:=13) (v:=?va6) (by kernel_rfl) (by kernel_rfl) (by kernel_rfl) (by kernel_rfl) (fun _ _ _ h=>h) ?hya6 (by assumption) ?resta6
 case hya6 =>
  intro oi ho;simp only [tG,sG,zG,oI] at ho;subst ho;refine Or.inl ⟨by rfl,?_⟩;intro wx hSw
  try dsimp only at hSw
  obtain ⟨hs1,hs2⟩:=hSw;go_simp
  try rfl
 try simp only [Act.put,siT,scZ,scS]
 refine aAd (i:=7) (d:=14) (v:=?va7) (by kernel_rfl) (by kernel_rfl) (by kernel_rfl) (by kernel_rfl) (fun _ _ _ h=>h) ?hya7 (by assumption) ?resta7
 case hya7 =>
  intro oi ho;simp only [tG,sG,zG,oI] at ho;subst ho;refine Or.inl ⟨by rfl,?_⟩;intro wx hSw
  try dsimp only at hSw
  obtain ⟨hs1,hs2⟩:=hSw;go_simp
  try rfl
 try simp only [Act.put,siT,scZ,scS]
 refine aAf 8 ?_;intro K hK;go_simp;refine HC.o.mono ?_;rintro e w2 ⟨rfl,hw2⟩;subst hw2;refine hK.out _ _ HX.o (fun hHeld=>?_);clear hK K
 try simp only [Act.put,siT,scZ,scS]
 refine aAd (i:=9) (d:=6) (v:=?vb9) (by kernel_rfl) (by kernel_rfl) (by kernel_rfl) (by kernel_rfl) (fun _ _ _ h=>h) ?hyb9 (by assumption) ?restb9
 case hyb9 =>
  intro oi ho;simp only [tG,sG,zG,oI] at ho;subst ho;refine Or.inl ⟨by rfl,?_⟩;intro wx hSw
  try dsimp only at hSw
  obtain ⟨hs1,hs2⟩:=hSw;go_simp
  try rfl
 try simp only [Act.put,siT,scZ,scS]
 refine aAd (i:=10) (d:=16) (v:=?vb10) (by kernel_rfl) (by kernel_rfl) (by kernel_rfl) (by kernel_rfl) (fun _ _ _ h=>h) ?hyb10 (by assumption) ?restb10
 case hyb10 =>
  intro oi ho;simp only [tG,sG,zG,oI] at ho;subst ho;refine Or.inl ⟨by rfl,?_⟩;intro wx hSw
  try dsimp only at hSw
  obtain ⟨hs1,hs2⟩:=hSw;go_simp
  try rfl
 try simp only [Act.put,siT,scZ,scS]
 refine aAd (i:=11) (d:=17) (v:=?vb11) (by kernel_rfl) (by kernel_rfl) (by kernel_rfl) (by kernel_rfl) (fun _ _ _ h=>h) ?hyb11 (by assumption) ?restb11
 case hyb11 =>
  intro oi ho;simp only [tG,sG,zG,oI] at ho;subst ho;refine Or.inl ⟨by rfl,?_⟩;intro wx hSw
  try dsimp only at hSw
  obtain ⟨hs1,hs2⟩:=hSw;go_simp
  try rfl
 try simp only [Act.put,siT,scZ,scS]
 refine aAd (i:=12) (d:=18) (v:=?vb12) (by kernel_rfl) (by kernel_rfl) (by kernel_rfl) (by kernel_rfl) (fun _ _ _ h=>h) ?hyb12 (by assumption) ?restb12
 case hyb12 =>
  intro oi ho;simp only [tG,sG,zG,oI] at ho;subst ho;refine Or.inl ⟨by rfl,?_⟩;intro wx hSw
  try dsimp only at hSw
  obtain ⟨hs1,hs2⟩:=hSw;go_simp
  try rfl
 try simp only [Act.put,siT,scZ,scS]
 refine aAd (i:=13) (d:=3) (v:=?vb13) (by kernel_rfl) (by kernel_rfl) (by kernel_rfl) (by kernel_rfl) (fun _ _ _ h=>h) ?hyb13 (by assumption) ?restb13
 case hyb13 =>
  intro oi ho;simp only [tG,sG,zG,oI] at ho;subst ho;refine Or.inl ⟨by rfl,?_⟩;intro wx hSw
  try dsimp only at hSw
  obtain ⟨hs1,hs2⟩:=hSw;go_simp
  try rfl
 try simp only [Act.put,siT,scZ,scS]
 refine aAd (i:=14) (d:=4) (v:=?vb14) (by kernel_rfl) (by kernel_rfl) (by kernel_rfl) (by kernel_rfl) (fun _ _ _ h=>h) ?hyb14 (by assumption) ?restb14
 case hyb14 =>
  intro oi ho;simp only [tG,sG,zG,oI] at ho;subst ho;refine Or.inl ⟨by rfl,?_⟩;intro wx hSw
  try dsimp only at hSw
  obtain ⟨hs1,hs2⟩:=hSw;go_simp
  try rfl
 try simp only [Act.put,siT,scZ,scS]
 refine aAd (i:=15) (d:=5) (v:=?vb15) (by kernel_rfl) (by kernel_rfl) (by kernel_rfl) (by kernel_rfl) (fun _ _ _ h=>h) ?hyb15 (by assumption) ?restb15
 case hyb15 =>
  intro oi ho;simp only [tG,sG,zG,oI] at ho;subst ho;refine Or.inl ⟨by rfl,?_⟩;intro wx hSw
  try dsimp only at hSw
  obtain ⟨hs1,hs2⟩:=hSw;go_simp
  try rfl
 try simp only [Act.put,siT,scZ,scS]
 refine wpAnyH_done (by kernel_rfl) ?_ _;refine NoPanic.normal ?_;have y1:w.drew.cell? ⟨rb,1,none⟩=some (.int .i64 p):=HX.o.2;have yf:w.drew.frozen? ⟨rb,1,none⟩=false:=aAg (show w.drew.heap[rb]?=_ from HR.o);have y1':w.cell? ⟨rb,1,none⟩=some (.int .i64 p):=aAa HR.o;have yf':w.frozen? ⟨rb,1,none⟩=false:=aAg HR.o;clear hHeld;go_wp2;go_ret;refine ⟨rfl,heap_setCell_same _ _ _ _ _ _ (show _ from HR.o),?_⟩;exact (RdF.of (Below.refl _ _).drew (by have:=aAb HR.o;omega)).set 1 _
theorem aFi {p:Int} (h:RDR rb a n c p w) (hb:BS w a n c xs) :
  Calls prog 122 #[.pointer (some ⟨rb,0,none⟩),.int .i64 3] w fun e w'=>e=.returned (.int .i64 ((min (ruN xs p) 3:Nat):Int))/\RDR rb a n c (ruP xs p) w'/\RdF rb w w':=by
 have HC:=zH (aDw h hb);obtain ⟨rn,hrn⟩:∃ r:Nat,ruN xs p=r:=⟨_,rfl⟩;obtain ⟨rp,hrp⟩:∃ r:Nat,ruP xs p=r:=⟨_,rfl⟩;rw [hrn,hrp] at HC ⊢;obtain ⟨m,hm⟩:∃ m,m=min rn 3:=⟨_,rfl⟩;rw [<-hm];have em:min (rn:Int) 3=(m:Int):=by omega
 have em':(if (3:Int)<(rn:Int) then (3:Int) else (rn:Int))=(m:Int):=by split<;>omega
 clear h hb hrn hrp hm;go_enter func122,ntmps122;go_wp2_with fail;refine HC.o.mono ?_;rintro e w1 ⟨rfl,h1,h2⟩;have H1:=zH h1;have H2:=zH h2;clear h1 h2 HC;go_wp2;go_ret;exact ⟨rfl,H1.o,H2.o⟩
theorem readB {p:Int} (h:BS w a n c xs) :
  Calls prog 96 #[.slice a n c,.int .i64 p,.int .i64 8] w fun e w'=>∃ va vn vc e2,e=.returned (.tuple #[.slice va vn vc,.int .i64 (rbP xs p 8),.int .i64 e2])/\BS w' va vn vc (rbS xs p 8)/\(∀ b o,va=some ⟨b,o,none⟩->w.heap.size<=b)/\Below w.heap.size w w':=by
 by_cases he:rbE xs p 8=0
 ·refine (aD7 a n c xs p 8 w h he).mono ?_;rintro e w' ⟨g,m,rfl,h1,h2,_,h4⟩;refine ⟨_,_,_,_,rfl,h2,fun b o q=>?_,h4⟩;simp only [oI,Addr.mk.injEq] at q;omega
 ·refine (aD8 a n c xs p 8 w h he).mono ?_;rintro e w' ⟨rfl,hw⟩;subst hw;refine ⟨none,0,0,_,by unfold rbP;rw [if_neg he];rfl,?_,(fun b o q=>by cases q),Below.refl _ _⟩;unfold rbS;rw [if_neg he];exact BS.none _ _ _ (by omega) (fun _=>rfl)
theorem rname_any {p:Int} (h:RDR rb a n c p w) (hb:BS w a n c xs) :
  Calls prog 121 #[.pointer (some ⟨rb,0,none⟩)] w fun e w'=>e=.returned (.string (str (rbS xs p 8)))/\RDR rb a n c (rbP xs p 8) w'/\RdF rb w w':=by
 have HR:=zH h;have HC:=zH (readB (p:=p) (hb.later (w':=w.drew) (Below.refl _ _).drew (nR _)));have HX:Hid ((fun wx=>wx.cell? ⟨rb,0,none⟩=some (.slice a n c)/\wx.cell? ⟨rb,1,none⟩=some (.int .i64 p)) w.drew):=⟨aAa (show w.drew.heap[rb]?=_ from h),aAa (show w.drew.heap[rb]?=_ from h)⟩;obtain ⟨rp,hrp⟩:∃ r:Nat,rbP xs p 8=r:=⟨_,rfl⟩;obtain ⟨rs,hrs⟩:∃ r,rbS xs p 8=r:=⟨_,rfl⟩;rw [hrp,hrs] at HC ⊢;clear h hb hrp hrs;go_enter func121,ntmps121;go_upto_region 1 with fail;refine wp_region_noPanic ?_;refine wp_region_held_drew (S:=fun wx=>wx.cell? ⟨rb,0,none⟩=some (.slice a n c)/\wx.cell? ⟨rb,1,none⟩=some (.int .i64 p)) (by kernel_rfl) HX.o (fun hHeld=>?_);refine aAd (i:=0) (d:=7) (v:=?va0) (by kernel_rfl) (by kernel_rfl) (by kernel_rfl) (by kernel_rfl) (fun _ _ _ h=>h) ?hya0 (by assumption) ?resta0
 case hya0 =>
  intro oi ho;simp only [tG,zG,oI] at ho;subst ho;refine Or.inl ⟨by rfl,?_⟩;intro wx hSw
  try dsimp only at hSw
  obtain ⟨hs1,hs2⟩:=hSw;go_simp
  try rfl
 try simp only [Act.put,siT,scZ,scS]
 refine aAd (i:=1) (d:=8) (v:=?va1) (by kernel_rfl) (by kernel_rfl) (by kernel_rfl) (by kernel_rfl) (fun _ _ _ h=>h) ?hya1 (by assumption) ?resta1
 case hya1 =>
  intro oi ho;simp only [tG,sG,zG,oI] at ho;subst ho;refine Or.inl ⟨by rfl,?_⟩;intro wx hSw
  try dsimp only at hSw
  obtain ⟨hs1,hs2⟩:=hSw;go_simp
  try rfl
 try simp only [Act.put,siT,scZ,scS]
 refine aAd (i:=2) (d:=9) (v:=?va2) (by kernel_rfl) (by kernel_rfl) (by kernel_rfl) (by kernel_rfl) (fun _ _ _ h=>h) ?hya2 (by assumption) ?resta2
 case hya2 =>
  intro oi ho;simp only [tG,sG,zG,oI] at ho;subst ho;refine Or.inl ⟨by rfl,?_⟩;intro wx hSw
  try dsimp only at hSw
  obtain ⟨hs1,hs2⟩:=hSw;go_simp
  try rfl
 try simp only [Act.put,siT,scZ,scS]
 refine aAd (i:=3) (d:=10) (v:=?va3) (by kernel_rfl) (by kernel_rfl) (by kernel_rfl) (by kernel_rfl) (fun _ _ _ h=>h) ?hya3 (by assumption) ?resta3
 case hya3 =>
  intro oi ho;simp only [tG,sG,zG,oI] at ho;subst ho;refine Or.inl ⟨by rfl,?_⟩;intro wx hSw
  try dsimp only at hSw
  obtain ⟨hs1,hs2⟩:=hSw;go_simp
  try rfl
 try simp only [Act.put,siT,scZ,scS]
 refine aAd (i:=4) (d:=11) (v:=?va4) (by kernel_rfl) (by kernel_rfl) (by kernel_rfl) (by kernel_rfl) (fun _ _ _ h=>h) ?hya4 (by assumption) ?resta4
 case hya4 =>
  intro oi ho;simp only [tG,sG,zG,oI] at ho;subst ho;refine Or.inl ⟨by rfl,?_⟩;intro wx hSw
  try dsimp only at hSw
  obtain ⟨hs1,hs2⟩:=hSw;go_simp
  try rfl
 try simp only [Act.put,siT,scZ,scS]
 refine aAd (i:=5) (d:=12) (v:=?va5) (by kernel_rfl) (by kernel_rfl) (by kernel_rfl) (by kernel_rfl) (fun _ _ _ h=>h) ?hya5 (by assumption) ?resta5
 case hya5 =>
  intro oi ho;simp only [tG,sG,zG,oI] at ho;subst ho;refine Or.inl ⟨by rfl,?_⟩;intro wx hSw
  try dsimp only at hSw
  obtain ⟨hs1,hs2⟩:=hSw;go_simp
  try rfl
 try simp only [Act.put,siT,scZ,scS]
 refine aAd (i:=6) (d:=13) (v:=?va6) (by kernel_rfl) (by kernel_rfl) (by kernel_rfl) (by kernel_rfl) (fun _ _ _ h=>h) ?hya6 (by assumption) ?resta6
 case hya6 =>
  intro oi ho;simp only [tG,sG,zG,oI] at ho;subst ho;refine Or.inl ⟨by rfl,?_⟩;intro wx hSw
  try dsimp only at hSw
  obtain ⟨hs1,hs2⟩:=hSw;go_simp
  try rfl
 try simp only [Act.put,siT,scZ,scS]
 refine aAd (i:=7) (d:=14) (v:=?va7) (by kernel_rfl) (by kernel_rfl) (by kernel_rfl) (by kernel_rfl) (fun _ _ _ h=>h) ?hya7 (by assumption) ?resta7
 case hya7 =>
  intro oi ho;simp only [tG,sG,zG,oI] at ho;subst ho;refine Or.inl ⟨by rfl,?_⟩;intro wx hSw
  try dsimp only at hSw
  obtain ⟨hs1,hs2⟩:=hSw;go_simp
  try rfl
 try simp only [Act.put,siT,scZ,scS]
 refine aAf 8 ?_;intro K hK;go_simp;refine HC.o.mono ?_;rintro e w2 ⟨va,vn,vc,e2,rfl,hbs2,hge2,hb2⟩;have HGE:=zH hge2;have hb2:Below w.heap.size w w2:=⟨hb2.os,hb2.tape,hb2.output,hb2.size,hb2.block⟩;have HBS:=zH hbs2;have HB2:=zH hb2;have hX2:w2.cell? ⟨rb,0,none⟩=some (.slice a n c)/\w2.cell? ⟨rb,1,none⟩=some (.int .i64 p):=⟨(hb2.cell (aAb HR.o)).trans (aAa HR.o),(hb2.cell (aAb HR.o)).trans (aAa HR.o)⟩;clear hbs2 hb2 hHeld hge2;refine hK.out _ _ hX2 (fun hHeld=>?_);clear hX2;clear hK K
 try simp only [Act.put,siT,scZ,scS]
 refine aAd (i:=9) (d:=6) (v:=?vb9) (by kernel_rfl) (by kernel_rfl) (by kernel_rfl) (by kernel_rfl) (fun _ _ _ h=>h) ?hyb9 (by assumption) ?restb9
 case hyb9 =>
  intro oi ho;simp only [tG,sG,zG,oI] at ho;subst ho;refine Or.inl ⟨by rfl,?_⟩;intro wx hSw
  try dsimp only at hSw
  obtain ⟨hs1,hs2⟩:=hSw;go_simp
  try rfl
 try simp only [Act.put,siT,scZ,scS]
 refine aAd (i:=10) (d:=16) (v:=?vb10) (by kernel_rfl) (by kernel_rfl) (by kernel_rfl) (by kernel_rfl) (fun _ _ _ h=>h) ?hyb10 (by assumption) ?restb10
 case hyb10 =>
  intro oi ho;simp only [tG,sG,zG,oI] at ho;subst ho;refine Or.inl ⟨by rfl,?_⟩;intro wx hSw
  try dsimp only at hSw
  obtain ⟨hs1,hs2⟩:=hSw;go_simp
  try rfl
 try simp only [Act.put,siT,scZ,scS]
 refine aAd (i:=11) (d:=17) (v:=?vb11) (by kernel_rfl) (by kernel_rfl) (by kernel_rfl) (by kernel_rfl) (fun _ _ _ h=>h) ?hyb11 (by assumption) ?restb11
 case hyb11 =>
  intro oi ho;simp only [tG,sG,zG,oI] at ho;subst ho;refine Or.inl ⟨by rfl,?_⟩;intro wx hSw
  try dsimp only at hSw
  obtain ⟨hs1,hs2⟩:=hSw;go_simp
  try rfl
 try simp only [Act.put,siT,scZ,scS]
 refine aAd (i:=12) (d:=18) (v:=?vb12) (by kernel_rfl) (by kernel_rfl) (by kernel_rfl) (by kernel_rfl) (fun _ _ _ h=>h) ?hyb12 (by assumption) ?restb12
 case hyb12 =>
  intro oi ho;simp only [tG,sG,zG,oI] at ho;subst ho;refine Or.inl ⟨by rfl,?_⟩;intro wx hSw
  try dsimp only at hSw
  obtain ⟨hs1,hs2⟩:=hSw;go_simp
  try rfl
 try simp only [Act.put,siT,scZ,scS]
 refine aAd (i:=13) (d:=3) (v:=?vb13) (by kernel_rfl) (by kernel_rfl) (by kernel_rfl) (by kernel_rfl) (fun _ _ _ h=>h) ?hyb13 (by assumption) ?restb13
 case hyb13 =>
  intro oi ho;simp only [tG,sG,zG,oI] at ho;subst ho;refine Or.inl ⟨by rfl,?_⟩;intro wx hSw
  try dsimp only at hSw
  obtain ⟨hs1,hs2⟩:=hSw;go_simp
  try rfl
 try simp only [Act.put,siT,scZ,scS]
 refine aAd (i:=14) (d:=4) (v:=?vb14) (by kernel_rfl) (by kernel_rfl) (by kernel_rfl) (by kernel_rfl) (fun _ _ _ h=>h) ?hyb14 (by assumption) ?restb14
 case hyb14 =>
  intro oi ho;simp only [tG,sG,zG,oI] at ho;subst ho;refine Or.inl ⟨by rfl,?_⟩;intro wx hSw
  try dsimp only at hSw
  obtain ⟨hs1,hs2⟩:=hSw;go_simp
  try rfl
 try simp only [Act.put,siT,scZ,scS]
 refine aAd (i:=15) (d:=5) (v:=?vb15) (by kernel_rfl) (by kernel_rfl) (by kernel_rfl) (by kernel_rfl) (fun _ _ _ h=>h) ?hyb15 (by assumption) ?restb15
 case hyb15 =>
  intro oi ho;simp only [tG,sG,zG,oI] at ho;subst ho;refine Or.inl ⟨by rfl,?_⟩;intro wx hSw
  try dsimp only at hSw
  obtain ⟨hs1,hs2⟩:=hSw;go_simp
  try rfl
 try simp only [Act.put,siT,scZ,scS]
 refine wpAnyH_done (by kernel_rfl) ?_ _;refine NoPanic.normal ?_;have HR2:=zH ((HB2.o.block rb (aAb HR.o)).trans HR.o);have y1:w2.cell? ⟨rb,1,none⟩=some (.int .i64 p):=aAa HR2.o;have yf:w2.frozen? ⟨rb,1,none⟩=false:=aAg HR2.o;have HF2:Hid (RdF rb w2 (w2.setCell ⟨rb,1,none⟩ (.int .i64 (rp:Int)))):=(RdF.of (Below.refl _ _) (by have:=aAb HR2.o;omega)).set 1 _;have hcv:(convert 26 9 (.slice va vn vc)).run prog (w2.setCell ⟨rb,1,none⟩ (.int .i64 (rp:Int)))=.ok (.string (str rs)) (w2.setCell ⟨rb,1,none⟩ (.int .i64 (rp:Int))):=run_text (bs_rd HBS.o HF2.o fun b o q=>by have h8:w.heap.size<=b:=HGE.o b o q;have:=aAb HR.o;omega);have HR3:Hid (RDR rb a n c (rp:Int) (w2.setCell ⟨rb,1,none⟩ (.int .i64 (rp:Int)))):=heap_setCell_same _ _ _ _ _ _ HR2.o;clear hHeld;go_wp2;go_ret;exact ⟨rfl,HR3.o,(RdF.of HB2.o (by have:=aAb HR.o;omega)).trans HF2.o⟩
def z1:Col:=(⟨#[]⟩,0,0)
def zx:Idx:=(0,false)
theorem mcol0:(madeCells (Value.agg #[.string ⟨#[]⟩,.int .i64 0,.int .i64 0]).cells (0*3)).toList=(List.replicate 0 z1).flatMap fC:=by kernel_rfl
theorem mcol1:(madeCells (Value.agg #[.string ⟨#[]⟩,.int .i64 0,.int .i64 0]).cells (1*3)).toList=(List.replicate 1 z1).flatMap fC:=by kernel_rfl
theorem mcol2:(madeCells (Value.agg #[.string ⟨#[]⟩,.int .i64 0,.int .i64 0]).cells (2*3)).toList=(List.replicate 2 z1).flatMap fC:=by kernel_rfl
theorem mcol3:(madeCells (Value.agg #[.string ⟨#[]⟩,.int .i64 0,.int .i64 0]).cells (3*3)).toList=(List.replicate 3 z1).flatMap fC:=by kernel_rfl
theorem mix0:(madeCells (Value.agg #[.int .i64 0,.bool false]).cells (0*2)).toList=(List.replicate 0 zx).flatMap fX:=by kernel_rfl
theorem mix1:(madeCells (Value.agg #[.int .i64 0,.bool false]).cells (1*2)).toList=(List.replicate 1 zx).flatMap fX:=by kernel_rfl
theorem mix2:(madeCells (Value.agg #[.int .i64 0,.bool false]).cells (2*2)).toList=(List.replicate 2 zx).flatMap fX:=by kernel_rfl
theorem mix3:(madeCells (Value.agg #[.int .i64 0,.bool false]).cells (3*2)).toList=(List.replicate 3 zx).flatMap fX:=by kernel_rfl
theorem made_col (h:n<=3):(madeCells (Value.agg #[.string ⟨#[]⟩,.int .i64 0,.int .i64 0]).cells (n*3)).toList=(List.replicate n z1).flatMap fC:=by
 have:n=0\/n=1\/n=2\/n=3:=by omega
 rcases this with rfl | rfl | rfl | rfl
 ·exact mcol0
 ·exact mcol1
 ·exact mcol2
 ·exact mcol3
theorem made_ix (h:n<=3):(madeCells (Value.agg #[.int .i64 0,.bool false]).cells (n*2)).toList=(List.replicate n zx).flatMap fX:=by
 have:n=0\/n=1\/n=2\/n=3:=by omega
 rcases this with rfl | rfl | rfl | rfl
 ·exact mix0
 ·exact mix1
 ·exact mix2
 ·exact mix3
theorem aD9 {xs:List Value} (h:w.ownsRow B te k (.slice (some ⟨g,0,none⟩) n c) n xs) (f:RdF rb w w') (hg:g≠rb):w'.ownsRow B te k (.slice (some ⟨g,0,none⟩) n c) n xs:=by
 refine ⟨h.1,?_⟩;rcases h.2 with ⟨e,_⟩ | ⟨g',cap',cur,e,h5,h6,h7⟩
 ·cases e
 ·simp only [Value.slice.injEq,oI,Addr.mk.injEq] at e;obtain ⟨⟨rfl,_,_⟩,_,rfl⟩:=e;exact Or.inr ⟨g,c,cur,rfl,h5,(f.oth g (aAb h6) hg).trans h6,h7⟩
theorem own_cells {α:Type} {f:α->List Value} (hk:∀ x,(f x).length=k) {B te n g c i:Nat} {w:World} {l:List α} {x:α} (h:w.ownsRow B te k (.slice (some ⟨g,0,none⟩) n c) n (l.flatMap f)) (hi:l[i]?=some x):∃ cur,w.heap[g]?=some (.cells cur te (0,0))/\∀ t,t<k->w.cell? ⟨g,i*k+t,none⟩=(f x)[t]?:=by
 rcases h.2 with ⟨e,_⟩ | ⟨g',cap',cur,e,h5,h6,h7,h8,h9,h10⟩
 ·cases e
 ·simp only [Value.slice.injEq,oI,Addr.mk.injEq] at e;obtain ⟨⟨rfl,_,_⟩,_,rfl⟩:=e;refine ⟨cur,h6,fun t ht=>?_⟩;have hg:=fl_get hk hi t ht;obtain ⟨u,hu⟩:∃ u,(f x)[t]?=some u:=⟨_,gE (by rw [hk];exact ht)⟩;rw [hu] at hg ⊢;rw [aAa h6,<-Array.getElem?_toList];rw [<-h10,List.getElem?_take] at hg
  split at hg
  ·exact hg
  ·cases hg
def rowJ {α:Type} (z:α) (l:List α) (j:Nat):List α:=l.take j++List.replicate (l.length-j) z
theorem rowJ_at {α:Type} {z:α} {l:List α} (h:j<l.length):(rowJ z l j)[j]?=some z:=by
 unfold rowJ;rw [List.getElem?_append_right (by rw [List.length_take];omega),List.length_take,Nat.min_eq_left (by omega),Nat.sub_self,List.getElem?_replicate,if_pos (by omega)]
theorem rowJ_next {α:Type} {z:α} {l:List α} {x:α} (h:l[j]?=some x):(rowJ z l j).set j x=rowJ z l (j+1):=by
 have hl:j<l.length:=(lL h);unfold rowJ;rw [List.set_append_right _ _ (by rw [List.length_take];omega),List.length_take,Nat.min_eq_left (by omega),Nat.sub_self,show l.length-j=(l.length-(j+1))+1 by omega,List.replicate_succ,List.set_cons_zero,List.take_add_one,h];simp
theorem rowJ_zero {α:Type} (z:α) (l:List α):rowJ z l 0=List.replicate l.length z:=by unfold rowJ;simp
theorem rowJ_all {α:Type} (z:α) (l:List α):rowJ z l l.length=l:=by unfold rowJ;simp
theorem aA6 {x:Value} (h:b≠g):(((w.setCell ⟨g,i,none⟩ u).setCell ⟨g,j,none⟩ v).setCell ⟨g,k,none⟩ x).heap[b]?=w.heap[b]?:=by
 rw [heap_setCell_other _ _ _ _ (show b≠g from h),heap_setCell_other _ _ _ _ (show b≠g from h),heap_setCell_other _ _ _ _ (show b≠g from h)]
theorem set_row3 {l:List Col} {x x':Col} (h:w.ownsRow B te 3 (.slice (some ⟨g,0,none⟩) n c) n (l.flatMap fC)) (hx:l[j]?=some x) (hj:j<n):(((w.setCell ⟨g,j*3,none⟩ (.string x'.1)).setCell ⟨g,j*3+1,none⟩ (.int .i64 x'.2.1)).setCell ⟨g,j*3+2,none⟩ (.int .i64 x'.2.2)).ownsRow B te 3 (.slice (some ⟨g,0,none⟩) n c) n ((l.set j x').flatMap fC):=by
 have h1:=aEp (u:=.string x'.1) (i:=j*3) h (by omega);rw [show (l.flatMap fC).set (j*3) (.string x'.1)=(l.set j (x'.1,x.2.1,x.2.2)).flatMap fC from aFl (j:=0) aEa (by omega) hx rfl] at h1;have hl:=(lL hx);have h2:=aEp (u:=.int .i64 x'.2.1) (i:=j*3+1) h1 (by omega);rw [show ((l.set j (x'.1,x.2.1,x.2.2)).flatMap fC).set (j*3+1) (.int .i64 x'.2.1)=((l.set j (x'.1,x.2.1,x.2.2)).set j (x'.1,x'.2.1,x.2.2)).flatMap fC from aFl (j:=1) aEa (by omega) (List.getElem?_set_self hl) rfl,List.set_set] at h2;have h3:=aEp (u:=.int .i64 x'.2.2) (i:=j*3+2) h2 (by omega);rw [show ((l.set j (x'.1,x'.2.1,x.2.2)).flatMap fC).set (j*3+2) (.int .i64 x'.2.2)=((l.set j (x'.1,x'.2.1,x.2.2)).set j x').flatMap fC from aFl (j:=2) aEa (by omega) (List.getElem?_set_self hl) rfl,List.set_set] at h3;exact h3
theorem aEg (h:b≠g):((w.setCell ⟨g,i,none⟩ u).setCell ⟨g,j,none⟩ v).heap[b]?=w.heap[b]?:=by
 rw [heap_setCell_other _ _ _ _ (show b≠g from h),heap_setCell_other _ _ _ _ (show b≠g from h)]
theorem set_row2 {l:List Idx} {x x':Idx} (h:w.ownsRow B te 2 (.slice (some ⟨g,0,none⟩) n c) n (l.flatMap fX)) (hx:l[j]?=some x) (hj:j<n):((w.setCell ⟨g,j*2,none⟩ (.int .i64 x'.1)).setCell ⟨g,j*2+1,none⟩ (.bool x'.2)).ownsRow B te 2 (.slice (some ⟨g,0,none⟩) n c) n ((l.set j x').flatMap fX):=by
 have h1:=aEp (u:=.int .i64 x'.1) (i:=j*2) h (by omega);rw [show (l.flatMap fX).set (j*2) (.int .i64 x'.1)=(l.set j (x'.1,x.2)).flatMap fX from aFl (j:=0) aEw (by omega) hx rfl] at h1;have hl:=(lL hx);have h2:=aEp (u:=.bool x'.2) (i:=j*2+1) h1 (by omega);rw [show ((l.set j (x'.1,x.2)).flatMap fX).set (j*2+1) (.bool x'.2)=((l.set j (x'.1,x.2)).set j x').flatMap fX from aFl (j:=1) aEw (by omega) (List.getElem?_set_self hl) rfl,List.set_set] at h2;exact h2
theorem RdF.put (h:RdF rb w w') (hb:w.heap.size<=b) (hr:rb<=b) (i:Nat) (u:Value):RdF rb w (w'.setCell ⟨b,i,none⟩ u):=⟨h.bel.setCell (p:=⟨b,i,none⟩) hr u,fun j hj hn=>(heap_setCell_other _ _ _ _ (show j≠b by omega)).trans (h.oth j hj hn)⟩
theorem bs_put (h:BS w a n c xs) (ha:∀ b' o,a=some ⟨b',o,none⟩->b'≠b):BS (w.setCell ⟨b,i,none⟩ u) a n c xs:=bs_rd (rb:=b) h ⟨(Below.refl _ _).setCell (p:=⟨b,i,none⟩) (nR _) u,fun j _ hn=>heap_setCell_other _ _ _ _ (show j≠b from hn)⟩ ha
end Go.Proofs.YtmmcebojbbdfmaaGreat
