import Derived.Test.YtmmcebojbbdfmaaGreatY25
import Derived.Laws.StructEq
import Derived.Deep.LoopGhost
set_option maxRecDepth 100000
set_option maxHeartbeats 16000000
set_option linter.unusedVariables false
namespace Go.Proofs.YtmmcebojbbdfmaaGreat
open Go.RowKit _root_.Go.Proofs.Tryz
variable {a ca xa:Option Addr} {bx cap cc cl len n xc xl:Nat} {w w':World}
abbrev Col:=ByteArray×Int×Int
abbrev Idx:=Int×Bool
def fC (x:Col):List Value:=[.string x.1,.int .i64 x.2.1,.int .i64 x.2.2]
def fX (x:Idx):List Value:=[.int .i64 x.1,.bool x.2]
structure SV {α:Type} (f:α->List Value) (k:Nat) (w:World) (a:Option Addr) (len cap:Nat) (l:List α):Prop where
 hl:l.length=len
 hc:len<=cap
 hm:cap<=9223372036854775807
 hn:a=none->cap=0
 pl:0<len->∃ b o,a=some ⟨b,o,none⟩/\b<w.heap.size/\∀ (i:Nat) x,l[i]?=some x->∀ t,t<k->w.cell? ⟨b,o+i*k+t,none⟩=(f x)[t]?
section
variable {α:Type} {f:α->List Value} {k:Nat} {w w':World} {a:Option Addr} {len cap:Nat} {l:List α}
theorem SV.later (h:SV f k w a len cap l) (hb:Below w.heap.size w w'):SV f k w' a len cap l:=by
 refine ⟨h.hl,h.hc,h.hm,h.hn,fun h0=>?_⟩;obtain ⟨b,o,h1,h2,h3⟩:=h.pl h0;exact ⟨b,o,h1,Nat.lt_of_lt_of_le h2 hb.size,fun i x hx t ht=>(hb.cell h2).trans (h3 i x hx t ht)⟩
theorem SV.take (h:SV f k w a len cap l) {n:Nat} (hn:n<=len):SV f k w a n cap (l.take n):=by
 refine ⟨by rw [List.length_take,h.hl];omega,by have:=h.hc;omega,h.hm,h.hn,fun h0=>?_⟩;obtain ⟨b,o,h1,h2,h3⟩:=h.pl (by omega);refine ⟨b,o,h1,h2,fun i x hx t ht=>h3 i x ?_ t ht⟩;rw [List.getElem?_take] at hx
 split at hx
 ·exact hx
 ·cases hx
theorem SV.nil (f:α->List Value) (k:Nat) (w:World):SV f k w none 0 0 []:=⟨rfl,by omega,by omega,fun _=>rfl,fun h=>by omega⟩
end
theorem col_clo {nm:ByteArray} {k2 m2:Int} (x:Col) (hc:w.heap[bx]?=some (.cells #[.string nm,.int .i64 k2,.int .i64 m2] 109 (0,0))) :
  Calls prog 108 #[.agg #[.string x.1,.int .i64 x.2.1,.int .i64 x.2.2],.pointer (some ⟨bx,0,none⟩)] w fun e w'=>e=.returned (.bool (x.1.toList == nm.toList))/\Below w.heap.size w w':=by
 have HB:=zH (aAc w (.cells #[.string x.1,.int .i64 x.2.1,.int .i64 x.2.2] 109));have y0:(w.alloc (.cells #[.string x.1,.int .i64 x.2.1,.int .i64 x.2.2] 109)).cell? ⟨bx,0,none⟩=some (.string nm):=aAa ((HB.o.block bx (lO hc)).trans hc);clear hc;go_enter func108,ntmps108;go_wp2;go_ret;exact ⟨rfl,HB.o⟩
theorem ix_clo {cc:Int} {u2:Bool} (x:Idx) (hc:w.heap[bx]?=some (.cells #[.int .i64 cc,.bool u2] 111 (0,0))) :
  Calls prog 111 #[.agg #[.int .i64 x.1,.bool x.2],.pointer (some ⟨bx,0,none⟩)] w fun e w'=>e=.returned (.bool (x.1 == cc))/\Below w.heap.size w w':=by
 have HB:=zH (aAc w (.cells #[.int .i64 x.1,.bool x.2] 111));have y0:(w.alloc (.cells #[.int .i64 x.1,.bool x.2] 111)).cell? ⟨bx,0,none⟩=some (.int .i64 cc):=aAa ((HB.o.block bx (lO hc)).trans hc);clear hc;go_enter func111,ntmps111;go_wp2;go_ret;exact ⟨rfl,HB.o⟩
theorem col_idx {nm:ByteArray} {k2 m2:Int} {l:List Col} (h:SV fC 3 w a len cap l) (hlen:len<=1000) (hc:w.heap[bx]?=some (.cells #[.string nm,.int .i64 k2,.int .i64 m2] 109 (0,0))) :
  Calls prog 118 #[.slice a len cap,.func (Fn.func 108) #[] #[.pointer (some ⟨bx,0,none⟩)]] w fun e w'=>∃ i:Int,e=.returned (.int .i64 i)/\(decide (0<=i)=l.any (fun x=>x.1.toList == nm.toList))/\Below w.heap.size w w':=by
 have H:=zH h;have hx:=h.hl;have HL:=zH hx;clear h hx;have HC:=zH hc;clear hc;go_enter func118,ntmps118;go_wp2_with fail;go_loopg [8] len (fun gh s8 wx=>∃ j:Nat,j+gh=len/\s8=.int .i64 (j:Int)/\(l.take j).any (fun x=>x.1.toList == nm.toList)=false/\Below w.heap.size w wx)
 case atStart=>exact ⟨0,by omega,rfl,by simp,Below.refl _ _⟩
 case round =>
  obtain ⟨j,hj,rfl,hno,hbr⟩:=hrel;have HNO:=zH hno;have HBR:=zH hbr;clear hno hbr;by_cases hjn:j<len
  ·have xj:(j:Int)<(len:Int):=by omega
   obtain ⟨x,hxj⟩:∃ x,l[j]?=some x:=⟨_,gE (by rw [HL.o];exact hjn)⟩;have HTK:Hid ((l.take (j+1)).any (fun x=>x.1.toList == nm.toList)=(x.1.toList == nm.toList)):=by
    show _=_;rw [List.take_add_one,hxj,List.any_append,HNO.o];simp
   have HYES:Hid ((x.1.toList == nm.toList)=true->l.any (fun x=>x.1.toList == nm.toList)=true):=fun q=>List.any_eq_true.2 ⟨x,mG hxj,q⟩
   obtain ⟨b,o,e0,hb,hcs⟩:=H.out.pl (by omega);have hcell:=fun t (ht:t<3)=>hcs j x hxj t ht
   subst e0;have y0:wr.cell? ⟨b,o+j*3,none⟩=some (.string x.1):=(HBR.o.cell hb).trans (hcell 0 (by omega));have y1:wr.cell? ⟨b,o+j*3+1,none⟩=some (.int .i64 x.2.1):=(HBR.o.cell hb).trans (hcell 1 (by omega));have y2:wr.cell? ⟨b,o+j*3+2,none⟩=some (.int .i64 x.2.2):=(HBR.o.cell hb).trans (hcell 2 (by omega));have hc2:=(HBR.o.block bx (lO HC.o)).trans HC.o;have HCL:=zH (col_clo  (w:=wr) x hc2);obtain ⟨pb,hpb⟩:∃ pb:Bool,pb=(x.1.toList == nm.toList):=⟨_,rfl⟩;rw [<-hpb] at HTK HYES HCL;clear hcs hcell hxj hpb;go_wp2_with fail;refine HCL.o.mono ?_;rintro e w1 ⟨rfl,hb1⟩;have HB1:Hid (Below w.heap.size w w1):=HBR.o.trans (hb1.mono HBR.o.size);clear hb1 HCL
   cases pb with
   | true =>
    have HY:=zH (HYES.o rfl);go_wp2_with fail;go_ret;exact ⟨(j:Int),rfl,by rw [HY.o];exact decide_eq_true (by omega),HB1.o⟩
   | false =>
    go_wp2_with fail;go_roundg (gk-1)
    case measure=>omega
    case rel=>exact ⟨j+1,by omega,rfl,HTK.o,HB1.o⟩
  ·have xj:¬ (j:Int)<(len:Int):=by omega
   have HN:Hid (l.any (fun x=>x.1.toList == nm.toList)=false):=by
    have h9:=HNO.o;rw [List.take_of_length_le (by rw [HL.o];omega)] at h9;exact h9
   go_wp2;go_ret;exact ⟨-1,rfl,by rw [HN.o];rfl,HBR.o⟩
theorem col_has {nm:ByteArray} {k2 m2:Int} {l:List Col} (h:SV fC 3 w a len cap l) (hlen:len<=1000) (hc:w.heap[bx]?=some (.cells #[.string nm,.int .i64 k2,.int .i64 m2] 109 (0,0))) :
  Calls prog 110 #[.slice a len cap,.func (Fn.func 108) #[] #[.pointer (some ⟨bx,0,none⟩)]] w fun e w'=>e=.returned (.bool (l.any (fun x=>x.1.toList == nm.toList)))/\Below w.heap.size w w':=by
 have HI:=zH (col_idx h hlen hc);clear h hc;generalize l.any (fun x=>x.1.toList == nm.toList)=bb at *
 go_enter func110,ntmps110;go_wp2_with fail;refine HI.o.mono ?_;rintro e w1 ⟨i,rfl,hi,hb1⟩;have HB1:=zH hb1;have HE:=zH hi;clear hb1 HI hi;go_wp2;go_ret;exact ⟨by rw [<-HE.o];rfl,HB1.o⟩
theorem ix_idx {cc:Int} {u2:Bool} {l:List Idx} (h:SV fX 2 w a len cap l) (hlen:len<=1000) (hc:w.heap[bx]?=some (.cells #[.int .i64 cc,.bool u2] 111 (0,0))) :
  Calls prog 119 #[.slice a len cap,.func (Fn.func 111) #[] #[.pointer (some ⟨bx,0,none⟩)]] w fun e w'=>∃ i:Int,e=.returned (.int .i64 i)/\(decide (0<=i)=l.any (fun x=>x.1 == cc))/\Below w.heap.size w w':=by
 have H:=zH h;have hx:=h.hl;have HL:=zH hx;clear h hx;have HC:=zH hc;clear hc;go_enter func119,ntmps119;go_wp2_with fail;go_loopg [8] len (fun gh s8 wx=>∃ j:Nat,j+gh=len/\s8=.int .i64 (j:Int)/\(l.take j).any (fun x=>x.1 == cc)=false/\Below w.heap.size w wx)
 case atStart=>exact ⟨0,by omega,rfl,by simp,Below.refl _ _⟩
 case round =>
  obtain ⟨j,hj,rfl,hno,hbr⟩:=hrel;have HNO:=zH hno;have HBR:=zH hbr;clear hno hbr;by_cases hjn:j<len
  ·have xj:(j:Int)<(len:Int):=by omega
   obtain ⟨x,hxj⟩:∃ x,l[j]?=some x:=⟨_,gE (by rw [HL.o];exact hjn)⟩;have HTK:Hid ((l.take (j+1)).any (fun x=>x.1 == cc)=(x.1 == cc)):=by
    show _=_;rw [List.take_add_one,hxj,List.any_append,HNO.o];simp
   have HYES:Hid ((x.1 == cc)=true->l.any (fun x=>x.1 == cc)=true):=fun q=>List.any_eq_true.2 ⟨x,mG hxj,q⟩
   obtain ⟨b,o,e0,hb,hcs⟩:=H.out.pl (by omega);have hcell:=fun t (ht:t<2)=>hcs j x hxj t ht
   subst e0;have y0:wr.cell? ⟨b,o+j*2,none⟩=some (.int .i64 x.1):=(HBR.o.cell hb).trans (hcell 0 (by omega));have y1:wr.cell? ⟨b,o+j*2+1,none⟩=some (.bool x.2):=(HBR.o.cell hb).trans (hcell 1 (by omega));have hc2:=(HBR.o.block bx (lO HC.o)).trans HC.o;have HCL:=zH (ix_clo  (w:=wr) x hc2);obtain ⟨pb,hpb⟩:∃ pb:Bool,pb=(x.1 == cc):=⟨_,rfl⟩;rw [<-hpb] at HTK HYES HCL;clear hcs hcell hxj hpb;go_wp2_with fail;refine HCL.o.mono ?_;rintro e w1 ⟨rfl,hb1⟩;have HB1:Hid (Below w.heap.size w w1):=HBR.o.trans (hb1.mono HBR.o.size);clear hb1 HCL
   cases pb with
   | true =>
    have HY:=zH (HYES.o rfl);go_wp2_with fail;go_ret;exact ⟨(j:Int),rfl,by rw [HY.o];exact decide_eq_true (by omega),HB1.o⟩
   | false =>
    go_wp2_with fail;go_roundg (gk-1)
    case measure=>omega
    case rel=>exact ⟨j+1,by omega,rfl,HTK.o,HB1.o⟩
  ·have xj:¬ (j:Int)<(len:Int):=by omega
   have HN:Hid (l.any (fun x=>x.1 == cc)=false):=by
    have h9:=HNO.o;rw [List.take_of_length_le (by rw [HL.o];omega)] at h9;exact h9
   go_wp2;go_ret;exact ⟨-1,rfl,by rw [HN.o];rfl,HBR.o⟩
theorem ix_has {cc:Int} {u2:Bool} {l:List Idx} (h:SV fX 2 w a len cap l) (hlen:len<=1000) (hc:w.heap[bx]?=some (.cells #[.int .i64 cc,.bool u2] 111 (0,0))) :
  Calls prog 112 #[.slice a len cap,.func (Fn.func 111) #[] #[.pointer (some ⟨bx,0,none⟩)]] w fun e w'=>e=.returned (.bool (l.any (fun x=>x.1 == cc)))/\Below w.heap.size w w':=by
 have HI:=zH (ix_idx h hlen hc);clear h hc;generalize l.any (fun x=>x.1 == cc)=bb at *
 go_enter func112,ntmps112;go_wp2_with fail;refine HI.o.mono ?_;rintro e w1 ⟨i,rfl,hi,hb1⟩;have HB1:=zH hb1;have HE:=zH hi;clear hb1 HI hi;go_wp2;go_ret;exact ⟨by rw [<-HE.o];rfl,HB1.o⟩
def colAt (l:List Col) (j:Nat) (c:Col):Bool:=isNm c.1 && isMx c.2.1 c.2.2 && !(l.take j).any (fun y=>y.1.toList == c.1.toList)
def colsN (l:List Col):Nat->Bool
 | 0=>true
 | j+1=>colsN l j && (match l[j]? with | some c=>colAt l j c | none=>true)
def colsOk (l:List Col):Bool:=decide (1<=l.length) && decide (l.length<=3) && colsN l l.length
def ixAt (n:Nat) (l:List Idx) (j:Nat) (c:Idx):Bool:=decide (1<=c.1) && decide (c.1<(n:Int)) && !(l.take j).any (fun y=>y.1 == c.1)
def ixsN (n:Nat) (l:List Idx):Nat->Bool
 | 0=>true
 | j+1=>ixsN n l j && (match l[j]? with | some c=>ixAt n l j c | none=>true)
def ixsOk (n:Nat) (l:List Idx):Bool:=decide (l.length<=3) && ixsN n l l.length
theorem colsN_no {l:List Col} {j:Nat} (h:colsN l j=false):∀ {n:Nat},j<=n->colsN l n=false
 | 0,hn=>by rw [<-show j=0 by omega];exact h
 | n+1,hn=>by
  by_cases e:j=n+1
  ·rw [<-e];exact h
  ·show (colsN l n && _)=false
   rw [colsN_no h (show j<=n by omega),Bool.false_and]
theorem ixsN_no {m:Nat} {l:List Idx} {j:Nat} (h:ixsN m l j=false):∀ {n:Nat},j<=n->ixsN m l n=false
 | 0,hn=>by rw [<-show j=0 by omega];exact h
 | n+1,hn=>by
  by_cases e:j=n+1
  ·rw [<-e];exact h
  ·show (ixsN m l n && _)=false
   rw [ixsN_no h (show j<=n by omega),Bool.false_and]
theorem areCols_any {l:List Col} (h:SV fC 3 w a len cap l) :
  Calls prog 98 #[.slice a len cap] w fun e w'=>e=.returned (.bool (colsOk l))/\Below w.heap.size w w':=by
 have H:=zH h;have HL:=zH h.hl;have HCP:=zH h.hc;have hcm:(cap:Int)<=9223372036854775807:=by have:=h.hm;omega
 have hlc:(len:Int)<=(cap:Int):=by have:=h.hc;omega
 clear h;by_cases h0:len=0
 ·have HE:Hid (colsOk l=false):=by show _=_;unfold colsOk;rw [HL.o,h0];rfl
  subst h0;go_enter func98,ntmps98;go_wp2;go_ret;exact ⟨by rw [HE.o];rfl,Below.refl _ _⟩
 have c0:((len:Int) == 0)=false:=by simp;omega
 by_cases h3:3<len
 ·have HE:Hid (colsOk l=false):=by
   show _=_;unfold colsOk;rw [HL.o,decide_eq_false (show ¬ len<=3 by omega)];simp
  have x3:(3:Int)<(len:Int):=by omega
  clear h3;go_enter func98,ntmps98;go_wp2;go_ret;exact ⟨by rw [HE.o];rfl,Below.refl _ _⟩
 have x3:¬ (3:Int)<(len:Int):=by omega
 have HLE:Hid (len<=3):=by show len<=3;omega
 have HOK:Hid (colsOk l=colsN l len):=by
  show _=_;unfold colsOk;rw [HL.o,decide_eq_true (show len<=3 by omega),decide_eq_true (show 1<=len by omega)];rfl
 generalize colsOk l=ok at *
 clear h3;go_enter func98,ntmps98;go_wp2_with fail;go_loopg [16] len (fun gh s wx=>∃ j:Nat,j+gh=len/\s=.int .i64 (j:Int)/\colsN l j=true/\Below w.heap.size w wx)
 case atStart=>exact ⟨0,by omega,rfl,rfl,Below.refl _ _⟩
 case round =>
  obtain ⟨j,hj,rfl,hyes,hbr⟩:=hrel;have HY:=zH hyes;have HBR:=zH hbr;clear hyes hbr;by_cases hjn:j<len
  ·have xj:(j:Int)<(len:Int):=by omega
   have xj0:(0:Int)<=(j:Int):=by omega
   have xjc:(j:Int)<=(cap:Int):=by omega
   obtain ⟨x,hxj⟩:∃ x,l[j]?=some x:=⟨_,gE (by rw [HL.o];exact hjn)⟩;have HNX:Hid (colsN l (j+1)=colAt l j x):=by
    show (colsN l j && (match l[j]? with | some c=>colAt l j c | none=>true))=_;rw [HY.o,hxj,Bool.true_and]
   have HNO:Hid (colAt l j x=false->ok=false):=fun q=>HOK.o.trans (colsN_no (HNX.o.trans q) (by omega))
   obtain ⟨b,o,e0,hb,hcs⟩:=H.out.pl (by omega);have y0:wr.cell? ⟨b,o+j*3,none⟩=some (.string x.1):=(HBR.o.cell hb).trans (hcs j x hxj 0 (by omega));have y1:wr.cell? ⟨b,o+j*3+1,none⟩=some (.int .i64 x.2.1):=(HBR.o.cell hb).trans (hcs j x hxj 1 (by omega));have y2:wr.cell? ⟨b,o+j*3+2,none⟩=some (.int .i64 x.2.2):=(HBR.o.cell hb).trans (hcs j x hxj 2 (by omega));have HB2:=zH (aAc wr (.cells #[.string x.1,.int .i64 x.2.1,.int .i64 x.2.2] 109));have HR2:Hid ((wr.alloc (.cells #[.string x.1,.int .i64 x.2.1,.int .i64 x.2.2] 109)).heap[wr.heap.size]?=some (.cells #[.string x.1,.int .i64 x.2.1,.int .i64 x.2.2] 109 (0,0))):=boxed wr _;have HV2:=zH (((H.out.take (n:=j) (by omega)).later HBR.o).later HB2.o);have HW2:Hid (Below w.heap.size w (wr.alloc (.cells #[.string x.1,.int .i64 x.2.1,.int .i64 x.2.2] 109))):=HBR.o.trans (HB2.o.mono HBR.o.size);subst e0;clear hcs hxj HB2;go_upto_region 7 with fail;clear y0 y1 y2;generalize wr.alloc (.cells #[.string x.1,.int .i64 x.2.1,.int .i64 x.2.2] 109)=w2 at *
   generalize wr.heap.size=L2 at *
   have z0:w2.cell? ⟨L2,0,none⟩=some (.string x.1):=aAa HR2.o;have z1:w2.cell? ⟨L2,1,none⟩=some (.int .i64 x.2.1):=aAa HR2.o;have z2:w2.cell? ⟨L2,2,none⟩=some (.int .i64 x.2.2):=aAa HR2.o;have HNM:=zH (aCa x.1 w2)
   cases hn:isNm x.1 with
   | false =>
    have HF:Hid (ok=false):=HNO.o (by unfold colAt;rw [hn];rfl);rw [hn] at HNM;go_wp2_with fail;refine HNM.o.mono ?_;rintro e w3 ⟨rfl,hb3⟩;have HW3:Hid (Below w.heap.size w w3):=HW2.o.trans (hb3.mono HW2.o.size);clear hb3;go_wp2;go_ret;exact ⟨by rw [HF.o];rfl,HW3.o⟩
   | true =>
    rw [hn] at HNM;have HN:=zH hn;clear hn;go_wp2_with fail;refine HNM.o.mono ?_;rintro e w3 ⟨rfl,hb3⟩;have HW3:Hid (Below w.heap.size w w3):=HW2.o.trans (hb3.mono HW2.o.size);have HR3:=zH ((hb3.block L2 (aAb HR2.o)).trans HR2.o);have HV3:=zH (HV2.o.later hb3);have u0:w3.cell? ⟨L2,0,none⟩=some (.string x.1):=aAa HR3.o;have u1:w3.cell? ⟨L2,1,none⟩=some (.int .i64 x.2.1):=aAa HR3.o;have u2:w3.cell? ⟨L2,2,none⟩=some (.int .i64 x.2.2):=aAa HR3.o;have HMX:=zH (ismax_any x.1 x.2.1 x.2.2 w3);clear hb3 z0 z1 z2 HNM
    cases hm:isMx x.2.1 x.2.2 with
    | false =>
     have HF:Hid (ok=false):=HNO.o (by unfold colAt;rw [hm,Bool.and_false];rfl);rw [hm] at HMX;go_wp2_with fail;refine HMX.o.mono ?_;rintro e w4 ⟨rfl,hb4⟩;have HW4:Hid (Below w.heap.size w w4):=HW3.o.trans (hb4.mono HW3.o.size);clear hb4;go_wp2;go_ret;exact ⟨by rw [HF.o];rfl,HW4.o⟩
    | true =>
     rw [hm] at HMX;have HM:=zH hm;clear hm;go_wp2_with fail;refine HMX.o.mono ?_;rintro e w4 ⟨rfl,hb4⟩;have HW4:Hid (Below w.heap.size w w4):=HW3.o.trans (hb4.mono HW3.o.size);have HR4:=zH ((hb4.block L2 (aAb HR3.o)).trans HR3.o);have HV4:=zH (HV3.o.later hb4);have HHS:=zH (col_has HV4.o (by omega) HR4.o);clear hb4 u0 u1 u2 HMX
     cases hh:(l.take j).any (fun y=>y.1.toList == x.1.toList) with
     | true =>
      have HF:Hid (ok=false):=HNO.o (by unfold colAt;rw [hh];simp);rw [hh] at HHS;go_wp2_with fail;refine HHS.o.mono ?_;rintro e w5 ⟨rfl,hb5⟩;have HW5:Hid (Below w.heap.size w w5):=HW4.o.trans (hb5.mono HW4.o.size);clear hb5;go_wp2;go_ret;exact ⟨by rw [HF.o];rfl,HW5.o⟩
     | false =>
      have HF:Hid (colsN l (j+1)=true):=HNX.o.trans (by unfold colAt;rw [hh,HN.o,HM.o];rfl);rw [hh] at HHS;clear hh;go_wp2_with fail;refine HHS.o.mono ?_;rintro e w5 ⟨rfl,hb5⟩;have HW5:Hid (Below w.heap.size w w5):=HW4.o.trans (hb5.mono HW4.o.size);clear hb5;go_wp2;go_roundg (gk-1)
      case measure=>omega
      case rel=>exact ⟨j+1,by omega,rfl,HF.o,HW5.o⟩
  ·have xj:¬ (j:Int)<(len:Int):=by omega
   have HE:Hid (ok=true):=HOK.o.trans (by rw [<-show j=len by omega];exact HY.o);go_wp2;go_ret;exact ⟨by rw [HE.o];rfl,HBR.o⟩
theorem areIxs_any {l:List Idx} (h:SV fX 2 w a len cap l) :
  Calls prog 99 #[.slice a len cap,.int .i64 (n:Int)] w fun e w'=>e=.returned (.bool (ixsOk n l))/\Below w.heap.size w w':=by
 have H:=zH h;have HL:=zH h.hl;have HCP:=zH h.hc;have hcm:(cap:Int)<=9223372036854775807:=by have:=h.hm;omega
 have hlc:(len:Int)<=(cap:Int):=by have:=h.hc;omega
 clear h;by_cases h3:3<len
 ·have HE:Hid (ixsOk n l=false):=by
   show _=_;unfold ixsOk;rw [HL.o,decide_eq_false (show ¬ len<=3 by omega)];simp
  have x3:(3:Int)<(len:Int):=by omega
  clear h3;go_enter func99,ntmps99;go_wp2;go_ret;exact ⟨by rw [HE.o];rfl,Below.refl _ _⟩
 have x3:¬ (3:Int)<(len:Int):=by omega
 have HLE:Hid (len<=3):=by show len<=3;omega
 have HOK:Hid (ixsOk n l=ixsN n l len):=by
  show _=_;unfold ixsOk;rw [HL.o,decide_eq_true (show len<=3 by omega)];rfl
 generalize ixsOk n l=ok at *
 clear h3;go_enter func99,ntmps99;go_wp2_with fail;go_loopg [13] len (fun gh s wx=>∃ j:Nat,j+gh=len/\s=.int .i64 (j:Int)/\ixsN n l j=true/\Below w.heap.size w wx)
 case atStart=>exact ⟨0,by omega,rfl,rfl,Below.refl _ _⟩
 case round =>
  obtain ⟨j,hj,rfl,hyes,hbr⟩:=hrel;have HY:=zH hyes;have HBR:=zH hbr;clear hyes hbr;by_cases hjn:j<len
  ·have xj:(j:Int)<(len:Int):=by omega
   have xj0:(0:Int)<=(j:Int):=by omega
   have xjc:(j:Int)<=(cap:Int):=by omega
   obtain ⟨x,hxj⟩:∃ x,l[j]?=some x:=⟨_,gE (by rw [HL.o];exact hjn)⟩;have HNX:Hid (ixsN n l (j+1)=ixAt n l j x):=by
    show (ixsN n l j && (match l[j]? with | some c=>ixAt n l j c | none=>true))=_;rw [HY.o,hxj,Bool.true_and]
   have HNO:Hid (ixAt n l j x=false->ok=false):=fun q=>HOK.o.trans (ixsN_no (HNX.o.trans q) (by omega))
   obtain ⟨b,o,e0,hb,hcs⟩:=H.out.pl (by omega);have y0:wr.cell? ⟨b,o+j*2,none⟩=some (.int .i64 x.1):=(HBR.o.cell hb).trans (hcs j x hxj 0 (by omega));have y1:wr.cell? ⟨b,o+j*2+1,none⟩=some (.bool x.2):=(HBR.o.cell hb).trans (hcs j x hxj 1 (by omega));have HB2:=zH (aAc wr (.cells #[.int .i64 x.1,.bool x.2] 111));have HR2:Hid ((wr.alloc (.cells #[.int .i64 x.1,.bool x.2] 111)).heap[wr.heap.size]?=some (.cells #[.int .i64 x.1,.bool x.2] 111 (0,0))):=boxed wr _;have HV2:=zH (((H.out.take (n:=j) (by omega)).later HBR.o).later HB2.o);have HW2:Hid (Below w.heap.size w (wr.alloc (.cells #[.int .i64 x.1,.bool x.2] 111))):=HBR.o.trans (HB2.o.mono HBR.o.size);subst e0;clear hcs hxj HB2;go_upto_region 7 with fail;clear y0 y1;generalize wr.alloc (.cells #[.int .i64 x.1,.bool x.2] 111)=w2 at *
   generalize wr.heap.size=L2 at *
   have z0:w2.cell? ⟨L2,0,none⟩=some (.int .i64 x.1):=aAa HR2.o;have z1:w2.cell? ⟨L2,1,none⟩=some (.bool x.2):=aAa HR2.o;by_cases h1:x.1<1
   ·have HF:Hid (ok=false):=HNO.o (by unfold ixAt;rw [decide_eq_false (show ¬ 1<=x.1 by omega)];rfl);go_wp2;go_ret;exact ⟨by rw [HF.o];rfl,HW2.o⟩
   ·by_cases h2:x.1≥(n:Int)
    ·have HF:Hid (ok=false):=HNO.o (by unfold ixAt;rw [decide_eq_false (show ¬ x.1<(n:Int) by omega),Bool.and_false];rfl);go_wp2;go_ret;exact ⟨by rw [HF.o];rfl,HW2.o⟩
    ·have HHS:=zH (ix_has HV2.o (by omega) HR2.o);have HD1:Hid (decide (1<=x.1)=true):=decide_eq_true (by omega);have HD2:Hid (decide (x.1<(n:Int))=true):=decide_eq_true (by omega)
     cases hh:(l.take j).any (fun y=>y.1 == x.1) with
     | true =>
      have HF:Hid (ok=false):=HNO.o (by unfold ixAt;rw [hh];simp);rw [hh] at HHS;go_wp2_with fail;refine HHS.o.mono ?_;rintro e w5 ⟨rfl,hb5⟩;have HW5:Hid (Below w.heap.size w w5):=HW2.o.trans (hb5.mono HW2.o.size);clear hb5;go_wp2;go_ret;exact ⟨by rw [HF.o];rfl,HW5.o⟩
     | false =>
      have HF:Hid (ixsN n l (j+1)=true):=HNX.o.trans (by unfold ixAt;rw [hh,HD1.o,HD2.o];rfl);rw [hh] at HHS;clear hh;go_wp2_with fail;refine HHS.o.mono ?_;rintro e w5 ⟨rfl,hb5⟩;have HW5:Hid (Below w.heap.size w w5):=HW2.o.trans (hb5.mono HW2.o.size);clear hb5;go_wp2;go_roundg (gk-1)
      case measure=>omega
      case rel=>exact ⟨j+1,by omega,rfl,HF.o,HW5.o⟩
  ·have xj:¬ (j:Int)<(len:Int):=by omega
   have HE:Hid (ok=true):=HOK.o.trans (by rw [<-show j=len by omega];exact HY.o);go_wp2;go_ret;exact ⟨by rw [HE.o];rfl,HBR.o⟩
structure Sch where
 nm:ByteArray
 cs:List Col
 xs:List Idx
def Sch.ok (s:Sch):Bool:=isNm s.nm && colsOk s.cs && ixsOk s.cs.length s.xs
structure SC (w:World) (ca:Option Addr) (cl cc:Nat) (xa:Option Addr) (xl xc:Nat) (s:Sch):Prop where
 c:SV fC 3 w ca cl cc s.cs
 x:SV fX 2 w xa xl xc s.xs
theorem SC.later {s:Sch} (h:SC w ca cl cc xa xl xc s) (hb:Below w.heap.size w w'):SC w' ca cl cc xa xl xc s:=⟨h.c.later hb,h.x.later hb⟩
def Sch.err (s:Sch):Int:=if s.ok then 0 else 61
theorem aD0 {s:Sch} (h:SC w ca cl cc xa xl xc s) :
  Calls prog 77 #[.agg #[.string s.nm,.slice ca cl cc,.slice xa xl xc]] w fun e w'=>e=.returned (.int .i64 s.err)/\Below w.heap.size w w':=by
 have hbx:=aAc w (.cells #[.string s.nm,.slice ca cl cc,.slice xa xl xc] 71);have HR1:Hid ((w.alloc (.cells #[.string s.nm,.slice ca cl cc,.slice xa xl xc] 71)).heap[w.heap.size]?=some (.cells #[.string s.nm,.slice ca cl cc,.slice xa xl xc] 71 (0,0))):=boxed w _;have H1:=zH (h.later hbx);have HW1:=zH hbx;have HNM:=zH (aCa s.nm (w.alloc (.cells #[.string s.nm,.slice ca cl cc,.slice xa xl xc] 71)));have HCL:=zH h.c.hl;clear h hbx;go_enter func77,ntmps77;go_upto_region 1 with fail;generalize w.alloc (.cells #[.string s.nm,.slice ca cl cc,.slice xa xl xc] 71)=w1 at *
 generalize hL:w.heap.size=L at *
 have z0:w1.cell? ⟨L,0,none⟩=some (.string s.nm):=aAa HR1.o;have z1:w1.cell? ⟨L,1,none⟩=some (.slice ca cl cc):=aAa HR1.o
 cases hn:isNm s.nm with
 | false =>
  have HE:Hid (s.err=61):=if_neg (by unfold Sch.ok;rw [hn];simp);rw [hn] at HNM;go_wp2_with fail;refine HNM.o.mono ?_;rintro e w2 ⟨rfl,hb2⟩;have HW2:Hid (Below L w w2):=HW1.o.trans (hb2.mono (by have:=aAb HR1.o;omega));clear hb2;go_wp2;go_ret;exact ⟨by rw [HE.o];rfl,by first | exact HW2.o | (rw [hL];exact HW2.o)⟩
 | true =>
  have HN:=zH hn;rw [hn] at HNM;clear hn;go_wp2_with fail;refine HNM.o.mono ?_;rintro e w2 ⟨rfl,hb2⟩;have HW2:Hid (Below L w w2):=HW1.o.trans (hb2.mono (by have:=aAb HR1.o;omega));have HR2:=zH ((hb2.block L (aAb HR1.o)).trans HR1.o);have H2:=zH (H1.o.later hb2);have u1:w2.cell? ⟨L,1,none⟩=some (.slice ca cl cc):=aAa HR2.o;have HCO:=zH (areCols_any H2.o.c);clear hb2 z0 z1 HNM H1 HR1
  cases hc:colsOk s.cs with
  | false =>
   have HE:Hid (s.err=61):=if_neg (by unfold Sch.ok;rw [hc];simp);rw [hc] at HCO;go_wp2_with fail;refine HCO.o.mono ?_;rintro e w3 ⟨rfl,hb3⟩;have HW3:Hid (Below L w w3):=HW2.o.trans (hb3.mono (by have:=aAb HR2.o;omega));clear hb3;go_wp2;go_ret;exact ⟨by rw [HE.o];rfl,by first | exact HW3.o | (rw [hL];exact HW3.o)⟩
  | true =>
   have HC:=zH hc;rw [hc] at HCO;clear hc;go_wp2_with fail;refine HCO.o.mono ?_;rintro e w3 ⟨rfl,hb3⟩;have HW3:Hid (Below L w w3):=HW2.o.trans (hb3.mono (by have:=aAb HR2.o;omega));have HR3:=zH ((hb3.block L (aAb HR2.o)).trans HR2.o);have H3:=zH (H2.o.later hb3);have t1:w3.cell? ⟨L,1,none⟩=some (.slice ca cl cc):=aAa HR3.o;have t2:w3.cell? ⟨L,2,none⟩=some (.slice xa xl xc):=aAa HR3.o;have HXO:=zH (areIxs_any (n:=cl) H3.o.x);rw [<-HCL.o] at HXO;have HOK:Hid (s.ok=ixsOk s.cs.length s.xs):=by show _=_;unfold Sch.ok;rw [HN.o,HC.o];rfl
   generalize ixsOk s.cs.length s.xs=okx at *
   rw [HCL.o] at HXO;clear hb3 u1 HCO
   cases okx with
   | false =>
    have HE:Hid (s.err=61):=if_neg (by rw [HOK.o];decide);go_wp2_with fail;refine HXO.o.mono ?_;rintro e w4 ⟨rfl,hb4⟩;have HW4:Hid (Below L w w4):=HW3.o.trans (hb4.mono (by have:=aAb HR3.o;omega));clear hb4;go_wp2;go_ret;exact ⟨by rw [HE.o];rfl,by first | exact HW4.o | (rw [hL];exact HW4.o)⟩
   | true =>
    have HE:Hid (s.err=0):=if_pos HOK.o;go_wp2_with fail;refine HXO.o.mono ?_;rintro e w4 ⟨rfl,hb4⟩;have HW4:Hid (Below L w w4):=HW3.o.trans (hb4.mono (by have:=aAb HR3.o;omega));clear hb4;go_wp2;go_ret;exact ⟨by rw [HE.o];rfl,by first | exact HW4.o | (rw [hL];exact HW4.o)⟩
def fV (x:Val):List Value:=[.int .i64 x.1,.int .i64 x.2.1,.string x.2.2]
end Go.Proofs.YtmmcebojbbdfmaaGreat
