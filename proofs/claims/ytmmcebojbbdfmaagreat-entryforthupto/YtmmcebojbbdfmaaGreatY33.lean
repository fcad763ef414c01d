import Derived.Test.YtmmcebojbbdfmaaGreatY31
import Derived.Test.YtmmcebojbbdfmaaGreatY32
set_option maxRecDepth 100000
set_option maxHeartbeats 16000000
set_option linter.unusedVariables false
namespace Go.Proofs.YtmmcebojbbdfmaaGreat
open Go.RowKit _root_.Go.Proofs.Tryz
variable {B cap cc cl k len m rb te xc xl:Nat} {ca xa:Option Addr} {w w':World} {xs:List Nat}
theorem hiB_lt (n s:Nat):∀ c∈hiB n s,c<256:=by
 intro c hc;simp only [hiB,List.mem_map] at hc;obtain ⟨i,_,rfl⟩:=hc;omega
theorem vbytes_lt (x:Val):∀ c∈x.bytes,c<256:=by
 unfold Val.bytes
 cases holdOf x.1 x.2.1 x.2.2 with
 | nothing=>simp [H.bytes]
 | number n =>
  intro c hc;simp only [H.bytes,List.mem_cons] at hc;rcases hc with rfl | hc
  ·omega
  ·exact hiB_lt _ _ c hc
 | text s =>
  intro c hc;simp only [H.bytes,List.mem_cons,List.mem_append,runeB,List.mem_flatMap] at hc;rcases hc with rfl | ⟨r,_,hc⟩ | hc
  ·omega
  ·exact hiB_lt _ _ c hc
  ·exact hiB_lt _ _ c hc
 | truth b=>intro c hc;cases b<;>simp [H.bytes,bi] at hc<;>omega
 | none=>simp [H.bytes]
theorem kbytes_lt (a:List Val):∀ c∈keyBytes a,c<256:=by
 intro c hc;simp only [keyBytes,List.mem_flatMap] at hc;obtain ⟨x,_,hx⟩:=hc;exact vbytes_lt x c hx
theorem aCn (l:List Val):∀ c∈rowB l,c<256:=by
 intro c hc;unfold rowB at hc;rcases List.mem_append.1 hc with h | h
 ·exact aAr _ c h
 ·exact kbytes_lt l c h
theorem aDu {l:List Val} (h:rowE l=0):l.length<=3/\keyErr l=0:=by
 unfold rowE at h
 split at h
 ·omega
 ·split at h
  ·omega
  ·rename_i h1 h2
   exact ⟨by omega,by simpa using h2⟩
theorem encode5 {s:Sch} (h:SC w ca cl cc xa xl xc s) :
  Calls prog 57 #[.agg #[.string s.nm,.slice ca cl cc,.slice xa xl xc]] w fun e w'=>∃ ax nx cx,e=.returned (.tuple #[.slice ax nx cx,.int .i64 s.err])/\(s.ok=true->BS w' ax nx cx (encS s))/\Below w.heap.size w w':=by
 cases hok:s.ok with
 | false =>
  refine (encode_no h hok).mono ?_;rintro e w' ⟨he,hb⟩;exact ⟨none,0,0,by rw [he];unfold Sch.err;rw [hok];rfl,(fun q=>nomatch q),hb⟩
 | true =>
  refine (encode_ok h hok).mono ?_;rintro e w' ⟨v,he,ho,hb⟩;obtain ⟨a,c,e1⟩:=OB.form ho;subst e1;exact ⟨a,_,c,by rw [he];unfold Sch.err;rw [hok];rfl,fun _=>OB.bs ho (encS_lt s) (by have:=aF6 hok;omega),hb⟩
theorem val_clo4 (x:Val) (h:x.err=0/\x.2.2.size<=4194304):Calls prog 53 #[.agg #[.int .i64 x.1,.int .i64 x.2.1,.string x.2.2]] w fun e w'=>e=.returned (.bool (decide (8<rcn x.2.2)))/\Below w.heap.size w w':=islong_ok x w (by have:=h.2;omega) h.1
theorem val_idx4 {a:Option Addr} {l:List Val} (h:SV fV 3 w a len cap l) (hlen:len<=1000) (hr:∀ x∈l,x.err=0/\x.2.2.size<=4194304) :
  Calls prog 71 #[.slice a len cap,.func (Fn.func 53) #[] #[]] w fun e w'=>∃ i:Int,e=.returned (.int .i64 i)/\(decide (0<=i)=l.any (fun x=>decide (8<rcn x.2.2)))/\Below w.heap.size w w':=by
 have H:=zH h;have hx:=h.hl;have HL:=zH hx;clear h hx;have HR:=zH hr;clear hr;go_enter func71,ntmps71;go_wp2_with fail;go_loopg [8] len (fun gh s8 wx=>∃ j:Nat,j+gh=len/\s8=.int .i64 (j:Int)/\(l.take j).any (fun x=>decide (8<rcn x.2.2))=false/\Below w.heap.size w wx)
 case atStart=>exact ⟨0,by omega,rfl,by simp,Below.refl _ _⟩
 case round =>
  obtain ⟨j,hj,rfl,hno,hbr⟩:=hrel;have HNO:=zH hno;have HBR:=zH hbr;clear hno hbr;by_cases hjn:j<len
  ·have xj:(j:Int)<(len:Int):=by omega
   obtain ⟨x,hxj⟩:∃ x,l[j]?=some x:=⟨_,gE (by rw [HL.o];exact hjn)⟩;have HTK:Hid ((l.take (j+1)).any (fun x=>decide (8<rcn x.2.2))=(decide (8<rcn x.2.2))):=by
    show _=_;rw [List.take_add_one,hxj,List.any_append,HNO.o];simp
   have HYES:Hid ((decide (8<rcn x.2.2))=true->l.any (fun x=>decide (8<rcn x.2.2))=true):=fun q=>List.any_eq_true.2 ⟨x,mG hxj,q⟩
   obtain ⟨b,o,e0,hb,hcs⟩:=H.out.pl (by omega);have hcell:=fun t (ht:t<3)=>hcs j x hxj t ht
   subst e0;have y0:wr.cell? ⟨b,o+j*3,none⟩=some (.int .i64 x.1):=(HBR.o.cell hb).trans (hcell 0 (by omega));have y1:wr.cell? ⟨b,o+j*3+1,none⟩=some (.int .i64 x.2.1):=(HBR.o.cell hb).trans (hcell 1 (by omega));have y2:wr.cell? ⟨b,o+j*3+2,none⟩=some (.string x.2.2):=(HBR.o.cell hb).trans (hcell 2 (by omega));have hrx:=HR.o x (mG hxj);have HCL:=zH (val_clo4 (w:=wr) x hrx);obtain ⟨pb,hpb⟩:∃ pb:Bool,pb=(decide (8<rcn x.2.2)):=⟨_,rfl⟩;rw [<-hpb] at HTK HYES HCL;clear hcs hcell hxj hpb;go_wp2_with fail;refine HCL.o.mono ?_;rintro e w1 ⟨rfl,hb1⟩;have HB1:Hid (Below w.heap.size w w1):=HBR.o.trans (hb1.mono HBR.o.size);clear hb1 HCL
   cases pb with
   | true =>
    have HY:=zH (HYES.o rfl);go_wp2_with fail;go_ret;exact ⟨(j:Int),rfl,by rw [HY.o];exact decide_eq_true (by omega),HB1.o⟩
   | false =>
    go_wp2_with fail;go_roundg (gk-1)
    case measure=>omega
    case rel=>exact ⟨j+1,by omega,rfl,HTK.o,HB1.o⟩
  ·have xj:¬ (j:Int)<(len:Int):=by omega
   have HN:Hid (l.any (fun x=>decide (8<rcn x.2.2))=false):=by
    have h9:=HNO.o;rw [List.take_of_length_le (by rw [HL.o];omega)] at h9;exact h9
   go_wp2;go_ret;exact ⟨-1,rfl,by rw [HN.o];rfl,HBR.o⟩
theorem val_has4 {a:Option Addr} {l:List Val} (h:SV fV 3 w a len cap l) (hlen:len<=1000) (hr:∀ x∈l,x.err=0/\x.2.2.size<=4194304) :
  Calls prog 52 #[.slice a len cap,.func (Fn.func 53) #[] #[]] w fun e w'=>e=.returned (.bool (l.any (fun x=>decide (8<rcn x.2.2))))/\Below w.heap.size w w':=by
 have HI:=zH (val_idx4 h hlen hr);clear h hr;generalize l.any (fun x=>decide (8<rcn x.2.2))=bb at *
 go_enter func52,ntmps52;go_wp2_with fail;refine HI.o.mono ?_;rintro e w1 ⟨i,rfl,hi,hb1⟩;have HB1:=zH hb1;have HE:=zH hi;clear hb1 HI hi;go_wp2;go_ret;exact ⟨by rw [<-HE.o];rfl,HB1.o⟩
theorem bytes_len4 (x:Val) (hz:x.2.2.size<=4194304):x.bytes.length<=12582916:=by
 unfold Val.bytes
 cases hh:holdOf x.1 x.2.1 x.2.2 with
 | text s =>
  simp only [H.bytes,List.length_cons,lA,aCm,aCp]
  cases hr:runes (bl x.2.2) with
  | none=>simp
  | some rs =>
   have:=runes_len hr;rw [aDc] at this;simp only [Option.getD_some];omega
 | _=>simp [H.bytes,aCp]
theorem kb_le4 {l:List Val} (h:∀ x∈l,x.2.2.size<=4194304):(keyBytes l).length<=l.length*12582916:=by
 unfold keyBytes
 induction l with
 | nil=>simp
 | cons y l ih =>
  have h1:=bytes_len4 y (h y List.mem_cons_self);have h2:=ih fun x hx=>h x (List.mem_cons_of_mem _ hx)
  rw [List.flatMap_cons,lA,List.length_cons,Nat.add_mul];omega
theorem aDl {a:Option Addr} {n c:Nat} {l:List Val} (h:SV fV 3 w a n c l) (hok:∀ x∈l,x.ok) (hs:∀ x∈l,x.2.2.size<=4194304) :
  Calls prog 32 #[.slice a n c] w fun e w'=>EncR l w.heap.size e w'/\Below w.heap.size w w':=by
 have HL:=zH h.hl;by_cases h3:3<n
 ·have HE:Hid (rowE l=2):=if_pos (by rw [h.hl];exact h3);have x3:(3:Int)<(n:Int):=by omega
  clear h h3;go_enter func32,ntmps32;go_wp2;go_ret2;exact ⟨⟨_,by rw [HE.o];rfl,fun q=>absurd (HE.o.symm.trans q) (by decide),fun _=>rfl⟩,Below.refl _ _⟩
 ·have hn:n<=1000:=by omega
  have x3:¬ (3:Int)<(n:Int):=by omega
  have HE0:Hid (rowE l=if keyErr l≠0 then 62 else if l.any (fun x=>decide (8<rcn x.2.2))=true then 62 else 0):=if_neg (by rw [h.hl];exact h3);have HKL:Hid ((keyBytes l).length<=37748748):=by show _<=_;have:=kb_le4 hs;rw [h.hl] at this;have:n*12582916<=3*12582916:=Nat.mul_le_mul_right _ (by omega);omega
  have HKY:=zH (key_any a n c l w (h.vs hn hok) (by have:=HKL.o;omega));have HV:=zH h;have HS:=zH hs;have HN3:Hid (n<=3):=by show n<=3;omega
  clear h hs hok h3;go_enter func32,ntmps32;go_wp2_with fail;refine HKY.o.mono ?_;rintro e w1 ⟨hk,hb1⟩;have HB1:=zH hb1;unfold KeyR at hk;by_cases hke:keyErr l=0
  ·rw [if_pos hke] at hk;obtain ⟨v1,rfl,ho1⟩:=hk;have HO1:Hid (OB w.heap.size w1 v1 (keyBytes l)):=ho1;have HR:Hid (∀ x∈l,x.err=0/\x.2.2.size<=4194304):=fun x hx=>⟨aBo hke x hx,HS.o x hx⟩
   rw [if_neg (by rw [hke];simp)] at HE0;have HHS:=zH (val_has4 (HV.o.later hb1) hn HR.o);clear ho1 hb1 hke HKY;obtain ⟨bb,hbb⟩:∃ bb,l.any (fun x=>decide (8<rcn x.2.2))=bb:=⟨_,rfl⟩;rw [hbb] at HHS HE0;clear hbb;go_wp2_with fail;refine HHS.o.mono ?_;rintro e w2 ⟨rfl,hb2⟩;have HB2:Hid (Below w.heap.size w w2):=HB1.o.trans (hb2.mono HB1.o.size);have HO2:=zH (HO1.o.later hb2);clear hb2 HHS HO1
   cases bb with
   | true =>
    have HE:Hid (rowE l=62):=HE0.o;go_wp2;go_ret2;exact ⟨⟨_,by rw [HE.o];rfl,fun q=>absurd (HE.o.symm.trans q) (by decide),fun _=>rfl⟩,HB2.o⟩
   | false =>
    have HE:Hid (rowE l=0):=HE0.o;have HUI:=zH (aEm n w2 (by omega));go_wp2_with fail;refine HUI.o.mono ?_;rintro e w3 ⟨g3,c3,rfl,ho3,hb3⟩;have HG3:Hid ((encW n).length=grp n/\grp n<=9):=⟨aA7 n (aA2 n (by omega)).1,(aA2 n (by omega)).2.1⟩;have HO3:Hid (OB w2.heap.size w3 (.slice (some ⟨g3,0,none⟩) (grp n) c3) (encW n)):=by
     show World.ownsRow _ _ _ _ _ _ _;rw [HG3.o.1];exact ho3
    have HO2':=zH (HO2.o.later hb3);have HB3:Hid (Below w.heap.size w w3):=HB2.o.trans (hb3.mono HB2.o.size);have HZ3:Hid (w2.heap.size<=w3.heap.size):=hb3.size;have HZ2:Hid (w.heap.size<=w2.heap.size):=HB2.o.size;clear ho3 hb3 HUI HO2;go_wp2_with (at_builtin;refine aAq rfl (.tmp 22) (.tmp 23) rfl rfl rfl HO3.o HO2'.out HZ3.o (by have:=HG3.o;have:=HKL.o;omega) ?_;intro v4 w4 ho4 hb4 _;have HO4:=zH ho4;have HB4:=zH hb4;clear ho4 hb4);go_ret2;refine ⟨⟨v4,by rw [HE.o];rfl,fun _=>?_,fun q=>absurd HE.o q⟩,HB3.o.trans (HB4.o.mono HZ2.o)⟩;have h9:=HO4.o;unfold rowB;rw [HL.o];exact aB9 h9 HZ2.o
  ·rw [if_neg hke] at hk;subst hk;rw [if_pos hke] at HE0;have HE:Hid (rowE l=62):=HE0.o;have q0:(keyErr l != 0)=true:=by simp [hke]
   clear hke hb1 HKY;generalize keyErr l=ke at *
   go_wp2;go_ret2;exact ⟨⟨_,by rw [HE.o];rfl,fun q=>absurd (HE.o.symm.trans q) (by decide),fun _=>rfl⟩,HB1.o⟩
theorem rowB_len4 {l:List Val} (hl:l.length<=3) (h:∀ x∈l,x.2.2.size<=4194304):(rowB l).length<=100000000:=by
 have h1:=kb_le4 h;have h2:=aAh l.length (by omega);unfold rowB;rw [lA];have:l.length*12582916<=3*12582916:=Nat.mul_le_mul_right _ hl;omega
theorem encrow54 {a:Option Addr} {n c:Nat} {l:List Val} (h:SV fV 3 w a n c l) (hok:∀ x∈l,x.ok) (hs:∀ x∈l,x.2.2.size<=4194304) :
  Calls prog 32 #[.slice a n c] w fun e w'=>∃ ax nx cx,e=.returned (.tuple #[.slice ax nx cx,.int .i64 (rowE l)])/\(rowE l=0->BS w' ax nx cx (rowB l))/\Below w.heap.size w w':=by
 refine (aDl h hok hs).mono ?_;rintro e w' ⟨⟨v,he,h0,h1⟩,hb⟩;by_cases hz:rowE l=0
 ·have ho:=h0 hz;obtain ⟨a,c,e1⟩:=OB.form ho;subst e1;exact ⟨a,_,c,he,fun _=>OB.bs ho (aCn l) (rowB_len4 (aDu hz).1 hs),hb⟩
 ·have e1:=h1 hz;subst e1;exact ⟨none,0,0,he,fun q=>absurd q hz,hb⟩
theorem aEl {x:Val} (he:x.err=0) (hl:x.bytes.length<=m):x.2.2.size<=4*m:=by
 obtain ⟨k,n,s⟩:=x;have h1:rightOf k n s=0:=he;dsimp only;have key:s.toList.isEmpty=true->s.size<=4*m:=fun q=>by
  have:=aBi q;subst this;exact Nat.zero_le _
 by_cases k0:k=0
 ·subst k0;rw [r0] at h1
  split at h1
  ·rename_i q;exact key q.2
  ·cases h1
 by_cases k1:k=1
 ·subst k1;rw [r1] at h1
  split at h1
  ·rename_i q;exact key q
  ·cases h1
 by_cases k3:k=3
 ·subst k3;rw [r3] at h1
  split at h1
  ·rename_i q;exact key q.1
  ·cases h1
 by_cases k2:k=2
 ·subst k2;obtain ⟨rs,hr⟩:=aDh h1;have hb:(Val.bytes (2,n,s))=(H.text s).bytes rs:=by
   unfold Val.bytes;rw [hr];simp [holdOf]
  rw [hb] at hl;simp only [H.bytes,List.length_cons,lA,aCm,aCp] at hl;have e1:bl s=encs rs:=((runes_iff (bl s) rs).1 hr).1;have e2:=encs_le rs;rw [<-e1,aDc] at e2;omega
 ·rw [r4 n s k0 k1 k2 k3] at h1;cases h1
theorem kb_mem {l:List Val} {x:Val} (hx:x∈l):x.bytes.length<=(keyBytes l).length:=by
 unfold keyBytes
 induction l with
 | nil=>cases hx
 | cons y l ih =>
  rw [List.flatMap_cons,lA];rcases List.mem_cons.1 hx with rfl | h
  ·omega
  ·have:=ih h;omega
def drow (xs:List Nat):Option (List Val):=if ruE xs 0=0 then (match rd (xs.drop (ruP xs 0)) with | none=>none | some l=>if rowE l=0/\rowB l=xs then some l else none) else none
theorem drow_some {l:List Val} (h:drow xs=some l):rowE l=0/\rowB l=xs:=by
 unfold drow at h
 split at h
 ·split at h
  ·cases h
  ·split at h
   ·rename_i q
    cases h;exact q
   ·cases h
 ·cases h
theorem rdFW_le:∀ (k i:Nat) (l:List Nat) (n:Nat),(rdFW k i l n).2.2=0->(rdFW k i l n).2.1<=i+l.length
 | 0,_,_,_,h=>by cases h
 | _+1,_,[],_,h=>by cases h
 | k+1,i,c::r,n,h=>by
  rw [aC2] at h ⊢
  rw [List.length_cons]
  split at h
  ·cases h
  ·rename_i h1
   rw [if_neg h1]
   split at h
   ·rename_i h2
    rw [if_pos h2]
    dsimp only
    omega
   ·rename_i h2
    rw [if_neg h2]
    have:=rdFW_le k (i+1) r _ h
    omega
theorem ruP_0 (h:ruE xs 0=0):ruP xs 0<=xs.length:=by
 unfold ruE at h;unfold ruP;rw [if_pos ⟨by omega,by omega⟩] at h ⊢;have e:(0:Int).toNat=0:=rfl;rw [e] at h ⊢;unfold rdNext;rw [if_pos h];unfold rdN at h ⊢;have:=rdFW_le 9 0 (xs.drop 0) 0 h;simpa using this
theorem BS.none' {a:Option Addr}:BS w a 0 0 []:=⟨rfl,by omega,by omega,by omega,by simp,fun _=>rfl,fun x hx i hi=>by omega⟩
def DrRn (B:Nat) (o:Option (List Val)) (e:Ending) (w':World):Prop:=match o with
 | none=>e=.returned (.tuple #[.slice none 0 0,.int .i64 11])
 | some l=>(∀ x∈l,x.ok/\x.2.2.size<=4194304)/\∃ a' c',e=.returned (.tuple #[.slice a' l.length c',.int .i64 0])/\SV fV 3 w' a' l.length c' l/\(∀ ad,a'=some ad->B<=ad.block)/\w'.ownsRow B 73 3 (.slice a' l.length c') l.length (l.flatMap fV)
theorem own_fr {n c:Nat} {a:Option Addr} {xs:List Value} (h:w.ownsRow B te k (.slice a m c) n xs):∀ ad,a=some ad->B<=ad.block:=by
 intro ad had;rcases h.2 with ⟨e,_⟩ | ⟨g,cap,cur,e,h5,_⟩
 ·simp only [Value.slice.injEq] at e;rw [e.1] at had;cases had
 ·simp only [Value.slice.injEq] at e;rw [e.1] at had;cases had;exact h5
theorem aF8 {n c:Nat} {a:Option Addr} (hb:BS w a n c xs) (hn:n<=1048576) :
  Calls prog 75 #[.slice a n c] w fun e w'=>DrRn w.heap.size (drow xs) e w'/\Below w.heap.size w w':=by
 have HB:=zH hb;have hlen:=hb.hlen;have HLN:=zH hlen;have HU:=zH (aBh a n c xs 0 w hb);obtain ⟨z,hz⟩:∃ z,ruE xs 0=z:=⟨_,rfl⟩;obtain ⟨v,hv⟩:∃ v,ruN xs 0=v:=⟨_,rfl⟩;obtain ⟨p,hp⟩:∃ p,ruP xs 0=p:=⟨_,rfl⟩;rw [hz,hv,hp] at HU;by_cases h0:z=0
 ·have hpn:p<=n:=by rw [<-hlen,<-hp];exact ruP_0 (by rw [hz];exact h0)
  have HD:Hid (drow xs=match rd (xs.drop p) with | none=>none | some l=>if rowE l=0/\rowB l=xs then some l else none):=by
   show _=_;unfold drow;rw [hz,if_pos h0,hp]
  have hpos:0<n:=by
   rw [<-hlen];rcases Nat.eq_zero_or_pos xs.length with q | q
   ·have e:xs=[]:=List.eq_nil_of_length_eq_zero q;subst e;rw [h0] at hz;cases hz
   ·exact q
  obtain ⟨b,o,e1,hbl,_⟩:=hb.place hpos;subst e1;subst h0;have hcap:=hb.hcap;have hmax:=hb.hmax;have HDR:=zH (aEb hb p hpn);clear hz hv hp hlen hb;have k0:(0:Int)<=(p:Int):=by omega
  have k1:(p:Int)<=(n:Int):=by omega
  have k2:(n:Int)<=(c:Int):=by omega
  have k3:(c:Int)<=9223372036854775807:=by omega
  by_cases hpc:p<c
  ·have k4:(p:Int)<(c:Int):=by omega
   have HBD:Hid (BS w (some ⟨b,o+p,none⟩) (n-p) (c-p) (xs.drop p)):=HDR.o;clear HDR;go_enter func75,ntmps75;go_wp2_with fail;refine HU.o.mono ?_;rintro e w1 ⟨rfl,hw⟩;have hw:=hw.symm;subst hw;clear HU hw;have HRA:=zH (read_any _ _ _ (xs.drop p) w HBD.o (by omega));go_wp2_with fail;refine HRA.o.mono ?_;rintro e w2 ⟨hr,hb2⟩;have HB2:=zH hb2;clear hb2 HRA
   cases hq:rd (xs.drop p) with
   | none =>
    rw [hq] at hr HD;have hr':e=.returned (.tuple #[.slice none 0 0,.int .i64 11]):=hr;subst hr';clear hr hq;go_wp2;go_ret2;exact ⟨by unfold DrRn;rw [HD.o];exact rfl,HB2.o⟩
   | some l =>
    have hbk:=rd_back _ _ l (nR _) (by rw [List.length_drop,HLN.o];omega) (fun c hc=>HB.o.hbyte c (List.mem_of_mem_drop hc)) hq;rw [hq] at hr HD;obtain ⟨v7,e7,ho7⟩:∃ v,e=.returned (.tuple #[v,.int .i64 0])/\w2.ownsRow w.heap.size 73 3 v l.length (l.flatMap fV):=hr;subst e7;obtain ⟨a7,c7,e8,hsv⟩:=aAo aDa ho7 rfl;subst e8;have HFA:Hid (∀ ad,a7=some ad->w.heap.size<=ad.block):=own_fr ho7;have HOW2:=zH ho7;have HSV:=zH hsv;have HOKL:Hid (∀ x∈l,x.ok):=hbk.2.2.1;have HSM:Hid (∀ x∈l,x.2.2.size<=4194304):=by
     intro x hx;have h1:=kb_mem hx;rw [hbk.2.1,List.length_drop,HLN.o] at h1;have:=aEl (m:=1048576) (aBo hbk.1 x hx) (by omega);omega
    have HEN:=zH (encrow54 HSV.o HOKL.o HSM.o);clear hbk ho7 hsv hq;go_wp2_with fail;refine HEN.o.mono ?_;rintro e w3 ⟨ax,nx,cx,rfl,hx,hb3⟩;have HX3:=zH hx;have HB3:Hid (Below w.heap.size w w3):=HB2.o.trans (hb3.mono HB2.o.size);have HSV3:=zH (HSV.o.later hb3);have HOW3:=zH (aAm HOW2.o hb3);clear hx hb3 HEN HSV;by_cases hz:rowE l=0
    ·have HEQ:=zH (aBn ax _ nx cx n c (rowB l) xs w3 (HX3.o hz) (HB.o.later HB3.o (nR _)));have HZ:=zH hz;rw [hz];clear hz;go_wp2_with fail;refine HEQ.o.mono ?_;rintro e w9 ⟨rfl,hw⟩;have hw:=hw.symm;subst hw;clear hw HEQ;by_cases hq:rowB l=xs
     ·have HN:Hid (drow xs=some l):=by show _=_;rw [HD.o];exact if_pos ⟨HZ.o,hq⟩
      rw [decide_eq_true hq];clear hq;go_wp2;go_ret2;exact ⟨by unfold DrRn;rw [HN.o];exact ⟨fun x hx=>⟨HOKL.o x hx,HSM.o x hx⟩,a7,c7,rfl,HSV3.o,HFA.o,HOW3.o⟩,HB3.o⟩
     ·have HN:Hid (drow xs=none):=by show _=_;rw [HD.o];exact if_neg fun q=>hq q.2
      rw [decide_eq_false hq];clear hq;go_wp2;go_ret2;exact ⟨by unfold DrRn;rw [HN.o];exact rfl,HB3.o⟩
    ·have HN:Hid (drow xs=none):=by show _=_;rw [HD.o];exact if_neg fun q=>hz q.1
     have dz:(rowE l != 0)=true:=by simp [hz]
     clear hz;go_wp2;go_ret2;exact ⟨by unfold DrRn;rw [HN.o];exact rfl,HB3.o⟩
  ·have e1:n=c:=by omega
   have e2:p=c:=by omega
   subst e1 e2;have HBD:Hid (BS w (some ⟨b,o,none⟩) 0 0 (xs.drop p)):=by
    show BS _ _ _ _ _;rw [List.drop_of_length_le (by rw [HLN.o];omega)];exact BS.none'
   clear HDR;go_enter func75,ntmps75;go_wp2_with fail;refine HU.o.mono ?_;rintro e w1 ⟨rfl,hw⟩;have hw:=hw.symm;subst hw;clear HU hw;have HRA:=zH (read_any _ _ _ (xs.drop p) w HBD.o (by omega));go_wp2_with fail;refine HRA.o.mono ?_;rintro e w2 ⟨hr,hb2⟩;have HB2:=zH hb2;clear hb2 HRA
   cases hq:rd (xs.drop p) with
   | none =>
    rw [hq] at hr HD;have hr':e=.returned (.tuple #[.slice none 0 0,.int .i64 11]):=hr;subst hr';clear hr hq;go_wp2;go_ret2;exact ⟨by unfold DrRn;rw [HD.o];exact rfl,HB2.o⟩
   | some l =>
    have hbk:=rd_back _ _ l (nR _) (by rw [List.length_drop,HLN.o];omega) (fun c hc=>HB.o.hbyte c (List.mem_of_mem_drop hc)) hq;rw [hq] at hr HD;obtain ⟨v7,e7,ho7⟩:∃ v,e=.returned (.tuple #[v,.int .i64 0])/\w2.ownsRow w.heap.size 73 3 v l.length (l.flatMap fV):=hr;subst e7;obtain ⟨a7,c7,e8,hsv⟩:=aAo aDa ho7 rfl;subst e8;have HFA:Hid (∀ ad,a7=some ad->w.heap.size<=ad.block):=own_fr ho7;have HOW2:=zH ho7;have HSV:=zH hsv;have HOKL:Hid (∀ x∈l,x.ok):=hbk.2.2.1;have HSM:Hid (∀ x∈l,x.2.2.size<=4194304):=by
     intro x hx;have h1:=kb_mem hx;rw [hbk.2.1,List.length_drop,HLN.o] at h1;have:=aEl (m:=1048576) (aBo hbk.1 x hx) (by omega);omega
    have HEN:=zH (encrow54 HSV.o HOKL.o HSM.o);clear hbk ho7 hsv hq;go_wp2_with fail;refine HEN.o.mono ?_;rintro e w3 ⟨ax,nx,cx,rfl,hx,hb3⟩;have HX3:=zH hx;have HB3:Hid (Below w.heap.size w w3):=HB2.o.trans (hb3.mono HB2.o.size);have HSV3:=zH (HSV.o.later hb3);have HOW3:=zH (aAm HOW2.o hb3);clear hx hb3 HEN HSV;by_cases hz:rowE l=0
    ·have HEQ:=zH (aBn ax _ nx cx p p (rowB l) xs w3 (HX3.o hz) (HB.o.later HB3.o (nR _)));have HZ:=zH hz;rw [hz];clear hz;go_wp2_with fail;refine HEQ.o.mono ?_;rintro e w9 ⟨rfl,hw⟩;have hw:=hw.symm;subst hw;clear hw HEQ;by_cases hq:rowB l=xs
     ·have HN:Hid (drow xs=some l):=by show _=_;rw [HD.o];exact if_pos ⟨HZ.o,hq⟩
      rw [decide_eq_true hq];clear hq;go_wp2;go_ret2;exact ⟨by unfold DrRn;rw [HN.o];exact ⟨fun x hx=>⟨HOKL.o x hx,HSM.o x hx⟩,a7,c7,rfl,HSV3.o,HFA.o,HOW3.o⟩,HB3.o⟩
     ·have HN:Hid (drow xs=none):=by show _=_;rw [HD.o];exact if_neg fun q=>hq q.2
      rw [decide_eq_false hq];clear hq;go_wp2;go_ret2;exact ⟨by unfold DrRn;rw [HN.o];exact rfl,HB3.o⟩
    ·have HN:Hid (drow xs=none):=by show _=_;rw [HD.o];exact if_neg fun q=>hz q.1
     have dz:(rowE l != 0)=true:=by simp [hz]
     clear hz;go_wp2;go_ret2;exact ⟨by unfold DrRn;rw [HN.o];exact rfl,HB3.o⟩
 ·have HD:Hid (drow xs=none):=by
   show _=_;unfold drow;rw [hz,if_neg h0]
  have hz0:((z:Int) != 0)=true:=by simp;omega
  clear hz hv hp hlen h0 hb;go_enter func75,ntmps75;go_wp2_with fail;refine HU.o.mono ?_;rintro e w1 ⟨rfl,hw⟩;have hw:=hw.symm;subst hw;clear HU hw;go_wp2;go_ret2;exact ⟨by unfold DrRn;rw [HD.o];exact rfl,Below.refl _ _⟩
theorem encW_one {n:Nat} (h:n<128):(encW n).length=1:=by
 have h1:=aA2 n (by omega);rw [aA7 n h1.1];rcases Nat.eq_zero_or_pos n with q | q
 ·exact h1.2.2.2.2 q
 ·have h2:=h1.2.2.2.1 (by omega);rcases Nat.lt_or_ge 1 (grp n) with h3 | h3
  ·have h4:128 ^ 1<=128 ^ (grp n-1):=Nat.pow_le_pow_right (by omega) (by omega);omega
  ·omega
theorem aBs {α:Type} {f:α->List Nat} {m:Nat}:∀ {l:List α},(∀ x∈l,(f x).length<=m)->(l.flatMap f).length<=l.length*m
 | [],_=>by simp
 | x::l,h=>by
  rw [List.flatMap_cons,lA,List.length_cons,Nat.add_mul]
  have h1:=h x List.mem_cons_self
  have h2:=aBs (l:=l) (fun y hy=>h y (List.mem_cons_of_mem _ hy))
  omega
theorem val_28 {x:Val} (he:x.err=0) (hr:rcn x.2.2<=8):x.bytes.length<=28:=by
 unfold Val.bytes
 cases hh:holdOf x.1 x.2.1 x.2.2 with
 | text s =>
  simp only [H.bytes,List.length_cons,lA,aCm,aCp];have:((runes (bl x.2.2)).getD []).length<=8:=hr;omega
 | number n=>simp [H.bytes,aCp]
 | truth b=>simp [H.bytes]
 | nothing=>simp [H.bytes]
 | none=>simp [H.bytes]
theorem aFt {l:List Val} (h:rowE l=0):∀ x∈l,x.err=0/\rcn x.2.2<=8:=by
 intro x hx;have h1:=aDu h;refine ⟨aBo h1.2 x hx,?_⟩;unfold rowE at h;rw [if_neg (by omega),if_neg (by rw [h1.2];simp)] at h
 split at h
 ·cases h
 ·rename_i q
  by_cases c:rcn x.2.2<=8
  ·exact c
  ·exact absurd (List.any_eq_true.2 ⟨x,hx,by simp;omega⟩) q
theorem aDv {l:List Val} (h:rowE l=0):(rowB l).length<=120:=by
 have h1:=aDu h;have h2:(keyBytes l).length<=l.length*28:=aBs (f:=Val.bytes) fun x hx=>val_28 (aFt h x hx).1 (aFt h x hx).2
 have h3:(encW l.length).length=1:=encW_one (by omega);unfold rowB;rw [lA];have:l.length*28<=3*28:=Nat.mul_le_mul_right _ h1.1;omega
abbrev EDR (rb:Nat) (a:Option Addr) (n c:Nat) (p:Int) (w:World):Prop:=w.heap[rb]?=some (.cells #[.slice a n c,.int .i64 p] 56 (0,0))
theorem aAp {n c:Nat} {a:Option Addr} {p:Int} (h:EDR rb a n c p w) (hb:BS w a n c xs) :
  Calls prog 47 #[.pointer (some ⟨rb,0,none⟩)] w fun e w'=>e=.returned (.int .i64 (ruN xs p))/\EDR rb a n c (ruP xs p) w'/\RdF rb w w':=by
 have HR:=zH h;have HC:=zH (aBh a n c xs p w.drew (hb.later (Below.refl _ _).drew (nR _)));have HX:Hid ((fun wx=>wx.cell? ⟨rb,0,none⟩=some (.slice a n c)/\wx.cell? ⟨rb,1,none⟩=some (.int .i64 p)) w.drew):=⟨aAa (show w.drew.heap[rb]?=_ from h),aAa (show w.drew.heap[rb]?=_ from h)⟩;obtain ⟨rn,hrn⟩:∃ r:Nat,ruN xs p=r:=⟨_,rfl⟩;obtain ⟨rp,hrp⟩:∃ r:Nat,ruP xs p=r:=⟨_,rfl⟩;rw [hrn,hrp] at HC ⊢;clear h hb hrn hrp;go_enter func47,ntmps47;go_upto_region 1 with fail;refine wp_region_noPanic ?_;refine wp_region_held_drew (S:=fun wx=>wx.cell? ⟨rb,0,none⟩=some (.slice a n c)/\wx.cell? ⟨rb,1,none⟩=some (.int .i64 p)) (by kernel_rfl) HX.o (fun hHeld=>?_);refine aAd (i:=0) (d:=7) (v:=?va0) (by kernel_rfl) (by kernel_rfl) (by kernel_rfl) (by kernel_rfl) (fun _ _ _ h=>h) ?hya0 (by assumption) ?resta0
 case hya0 =>
  intro oi ho;simp only [tG,zG,oI] at ho;subst ho;refine Or.inl ⟨by rfl,?_⟩;intro wx hSw
  try dsimp only at hSw
  obtain ⟨hs1,hs2⟩:=hSw;go_simp
  try rfl
 try simp only [Act.put,siT,scZ,scS]
 refine aAd (i:=1) (d:=8) (v:=?va1) (by kernel_rfl) (by kernel_rfl) (by kernel_rfl) (by kernel_rfl) (fun _ _ _ h=>h) ?hya1 (by assumption) ?resta1
 case hya1 =>
  intro oi ho;simp only [tG,sG,zG,oI] at ho;subst ho;refine Or.inl ⟨by rfl,?_⟩;intro wx hSw
  try dsimp only at hSw
  obtain ⟨hs1,hs2⟩:=hSw;go_simp
  try rfl
 try simp only [Act.put,siT,scZ,scS]
 refine aAd (i:=2) (d:=9) (v:=?va2) (by kernel_rfl) (by kernel_rfl) (by kernel_rfl) (by kernel_rfl) (fun _ _ _ h=>h) ?hya2 (by assumption) ?resta2
 case hya2 =>
  intro oi ho;simp only [tG,sG,zG,oI] at ho;subst ho;refine Or.inl ⟨by rfl,?_⟩;intro wx hSw
  try dsimp only at hSw
  obtain ⟨hs1,hs2⟩:=hSw;go_simp
  try rfl
 try simp only [Act.put,siT,scZ,scS]
 refine aAd (i:=3) (d:=10) (v:=?va3) (by kernel_rfl) (by kernel_rfl) (by kernel_rfl) (by kernel_rfl) (fun _ _ _ h=>h) ?hya3 (by assumption) ?resta3
 case hya3 =>
  intro oi ho;simp only [tG,sG,zG,oI] at ho;subst ho;refine Or.inl ⟨by rfl,?_⟩;intro wx hSw
  try dsimp only at hSw
  obtain ⟨hs1,hs2⟩:=hSw;go_simp
  try rfl
 try simp only [Act.put,siT,scZ,scS]
 refine aAd (i:=4) (d:=11) (v:=?va4) (by kernel_rfl) (by kernel_rfl) (by kernel_rfl) (by kernel_rfl) (fun _ _ _ h=>h) ?hya4 (by assumption) ?resta4
 case hya4 =>
  intro oi ho;simp only [tG,sG,zG,oI] at ho;subst ho;refine Or.inl ⟨by rfl,?_⟩;intro wx hSw
  try dsimp only at hSw
  obtain ⟨hs1,hs2⟩:=hSw;go_simp
  try rfl
 try simp only [Act.put,siT,scZ,scS]
 refine aAd (i:=5) (d:=12) (v:=?va5) (by kernel_rfl) (by kernel_rfl) (by kernel_rfl) (by kernel_rfl) (fun _ _ _ h=>h) ?hya5 (by assumption) ?resta5
 case hya5 =>
  intro oi ho;simp only [tG,sG,zG,oI] at ho;subst ho;refine Or.inl ⟨by rfl,?_⟩;intro wx hSw
  try dsimp only at hSw
  obtain ⟨hs1,hs2⟩:=hSw;go_simp
  try rfl
 try simp only [Act.put,siT,scZ,scS]
 refine aAd (i:=6) (d:=13) (v:=?va6) (by kernel_rfl) (by kernel_rfl) (by kernel_rfl) (by kernel_rfl) (fun _ _ _ h=>h) ?hya6 (by assumption) ?resta6
 case hya6 =>
  intro oi ho;simp only [tG,sG,zG,oI] at ho;subst ho;refine Or.inl ⟨by rfl,?_⟩;intro wx hSw
  try dsimp only at hSw
  obtain ⟨hs1,hs2⟩:=hSw;go_simp
  try rfl
 try simp only [Act.put,siT,scZ,scS]
 refine aAd (i:=7) (d:=14) (v:=?va7) (by kernel_rfl) (by kernel_rfl) (by kernel_rfl) (by kernel_rfl) (fun _ _ _ h=>h) ?hya7 (by assumption) ?resta7
 case hya7 =>
  intro oi ho;simp only [tG,sG,zG,oI] at ho;subst ho;refine Or.inl ⟨by rfl,?_⟩;intro wx hSw
  try dsimp only at hSw
  obtain ⟨hs1,hs2⟩:=hSw;go_simp
  try rfl
 try simp only [Act.put,siT,scZ,scS]
 refine aAf 8 ?_;intro K hK;go_simp;refine HC.o.mono ?_;rintro e w2 ⟨rfl,hw2⟩;subst hw2;refine hK.out _ _ HX.o (fun hHeld=>?_);clear hK K
 try simp only [Act.put,siT,scZ,scS]
 refine aAd (i:=9) (d:=6) (v:=?vb9) (by kernel_rfl) (by kernel_rfl) (by kernel_rfl) (by kernel_rfl) (fun _ _ _ h=>h) ?hyb9 (by assumption) ?restb9
 case hyb9 =>
  intro oi ho;simp only [tG,sG,zG,oI] at ho;subst ho;refine Or.inl ⟨by rfl,?_⟩;intro wx hSw
  try dsimp only at hSw
  obtain ⟨hs1,hs2⟩:=hSw;go_simp
  try rfl
 try simp only [Act.put,siT,scZ,scS]
 refine aAd (i:=10) (d:=16) (v:=?vb10) (by kernel_rfl) (by kernel_rfl) (by kernel_rfl) (by kernel_rfl) (fun _ _ _ h=>h) ?hyb10 (by assumption) ?restb10
 case hyb10 =>
  intro oi ho;simp only [tG,sG,zG,oI] at ho;subst ho;refine Or.inl ⟨by rfl,?_⟩;intro wx hSw
  try dsimp only at hSw
  obtain ⟨hs1,hs2⟩:=hSw;go_simp
  try rfl
 try simp only [Act.put,siT,scZ,scS]
 refine aAd (i:=11) (d:=17) (v:=?vb11) (by kernel_rfl) (by kernel_rfl) (by kernel_rfl) (by kernel_rfl) (fun _ _ _ h=>h) ?hyb11 (by assumption) ?restb11
 case hyb11 =>
  intro oi ho;simp only [tG,sG,zG,oI] at ho;subst ho;refine Or.inl ⟨by rfl,?_⟩;intro wx hSw
  try dsimp only at hSw
  obtain ⟨hs1,hs2⟩:=hSw;go_simp
  try rfl
 try simp only [Act.put,siT,scZ,scS]
 refine aAd (i:=12) (d:=18) (v:=?vb12) (by kernel_rfl) (by kernel_rfl) (by kernel_rfl) (by kernel_rfl) (fun _ _ _ h=>h) ?hyb12 (by assumption) ?restb12
 case hyb12 =>
  intro oi ho;simp only [tG,sG,zG,oI] at ho;subst ho;refine Or.inl ⟨by rfl,?_⟩;intro wx hSw
  try dsimp only at hSw
  obtain ⟨hs1,hs2⟩:=hSw;go_simp
  try rfl
 try simp only [Act.put,siT,scZ,scS]
 refine aAd (i:=13) (d:=3) (v:=?vb13) (by kernel_rfl) (by kernel_rfl) (by kernel_rfl) (by kernel_rfl) (fun _ _ _ h=>h) ?hyb13 (by assumption) ?restb13
 case hyb13 =>
  intro oi ho;simp only [tG,sG,zG,oI] at ho;subst ho;refine Or.inl ⟨by rfl,?_⟩;intro wx hSw
  try dsimp only at hSw
  obtain ⟨hs1,hs2⟩:=hSw;go_simp
  try rfl
 try simp only [Act.put,siT,scZ,scS]
 refine aAd (i:=14) (d:=4) (v:=?vb14) (by kernel_rfl) (by kernel_rfl) (by kernel_rfl) (by kernel_rfl) (fun _ _ _ h=>h) ?hyb14 (by assumption) ?restb14
 case hyb14 =>
  intro oi ho;simp only [tG,sG,zG,oI] at ho;subst ho;refine Or.inl ⟨by rfl,?_⟩;intro wx hSw
  try dsimp only at hSw
  obtain ⟨hs1,hs2⟩:=hSw;go_simp
  try rfl
 try simp only [Act.put,siT,scZ,scS]
 refine aAd (i:=15) (d:=5) (v:=?vb15) (by kernel_rfl) (by kernel_rfl) (by kernel_rfl) (by kernel_rfl) (fun _ _ _ h=>h) ?hyb15 (by assumption) ?restb15
 case hyb15 =>
  intro oi ho;simp only [tG,sG,zG,oI] at ho;subst ho;refine Or.inl ⟨by rfl,?_⟩;intro wx hSw
  try dsimp only at hSw
  obtain ⟨hs1,hs2⟩:=hSw;go_simp
  try rfl
 try simp only [Act.put,siT,scZ,scS]
 refine wpAnyH_done (by kernel_rfl) ?_ _;refine NoPanic.normal ?_;have y1:w.drew.cell? ⟨rb,1,none⟩=some (.int .i64 p):=HX.o.2;have yf:w.drew.frozen? ⟨rb,1,none⟩=false:=aAg (show w.drew.heap[rb]?=_ from HR.o);have y1':w.cell? ⟨rb,1,none⟩=some (.int .i64 p):=aAa HR.o;have yf':w.frozen? ⟨rb,1,none⟩=false:=aAg HR.o;clear hHeld;go_wp2;go_ret;refine ⟨rfl,heap_setCell_same _ _ _ _ _ _ (show _ from HR.o),?_⟩;exact (RdF.of (Below.refl _ _).drew (by have:=aAb HR.o;omega)).set 1 _
theorem aC9 {n c:Nat} {m0:Nat} {a:Option Addr} {p:Int} (h:EDR rb a n c p w) (hb:BS w a n c xs) :
  Calls prog 48 #[.pointer (some ⟨rb,0,none⟩),.int .i64 (m0:Int)] w fun e w'=>e=.returned (.int .i64 ((min (ruN xs p) m0:Nat):Int))/\EDR rb a n c (ruP xs p) w'/\RdF rb w w':=by
 have HC:=zH (aAp h hb);obtain ⟨rn,hrn⟩:∃ r:Nat,ruN xs p=r:=⟨_,rfl⟩;obtain ⟨rp,hrp⟩:∃ r:Nat,ruP xs p=r:=⟨_,rfl⟩;rw [hrn,hrp] at HC ⊢;obtain ⟨m,hm⟩:∃ m,m=min rn m0:=⟨_,rfl⟩;rw [<-hm];have em:min (rn:Int) (m0:Int)=(m:Int):=by omega
 have em':(if (m0:Int)<(rn:Int) then (m0:Int) else (rn:Int))=(m:Int):=by split<;>omega
 clear h hb hrn hrp hm;go_enter func48,ntmps48;go_wp2_with fail;refine HC.o.mono ?_;rintro e w1 ⟨rfl,h1,h2⟩;have H1:=zH h1;have H2:=zH h2;clear h1 h2 HC;go_wp2;go_ret;exact ⟨rfl,H1.o,H2.o⟩
theorem readB120 {a:Option Addr} {n c:Nat} {p:Int} (h:BS w a n c xs) :
  Calls prog 96 #[.slice a n c,.int .i64 p,.int .i64 120] w fun e w'=>∃ va vn vc e2,e=.returned (.tuple #[.slice va vn vc,.int .i64 (rbP xs p 120),.int .i64 e2])/\BS w' va vn vc (rbS xs p 120)/\(∀ b o,va=some ⟨b,o,none⟩->w.heap.size<=b)/\Below w.heap.size w w':=by
 by_cases he:rbE xs p 120=0
 ·refine (aD7 a n c xs p 120 w h he).mono ?_;rintro e w' ⟨g,m,rfl,h1,h2,_,h4⟩;refine ⟨_,_,_,_,rfl,h2,fun b o q=>?_,h4⟩;simp only [oI,Addr.mk.injEq] at q;omega
 ·refine (aD8 a n c xs p 120 w h he).mono ?_;rintro e w' ⟨rfl,hw⟩;subst hw;refine ⟨none,0,0,_,by unfold rbP;rw [if_neg he];rfl,?_,(fun b o q=>by cases q),Below.refl _ _⟩;unfold rbS;rw [if_neg he];exact BS.none _ _ _ (by omega) (fun _=>rfl)
theorem aEx {n c:Nat} {a:Option Addr} {p:Int} (h:EDR rb a n c p w) (hb:BS w a n c xs) :
  Calls prog 76 #[.pointer (some ⟨rb,0,none⟩)] w fun e w'=>∃ va vn vc,e=.returned (.slice va vn vc)/\BS w' va vn vc (rbS xs p 120)/\(∀ b o,va=some ⟨b,o,none⟩->w.heap.size<=b)/\EDR rb a n c (rbP xs p 120) w'/\RdF rb w w':=by
 have HR:=zH h;have HC:=zH (readB120 (p:=p) (hb.later (w':=w.drew) (Below.refl _ _).drew (nR _)));have HX:Hid ((fun wx=>wx.cell? ⟨rb,0,none⟩=some (.slice a n c)/\wx.cell? ⟨rb,1,none⟩=some (.int .i64 p)) w.drew):=⟨aAa (show w.drew.heap[rb]?=_ from h),aAa (show w.drew.heap[rb]?=_ from h)⟩;obtain ⟨rp,hrp⟩:∃ r:Nat,rbP xs p 120=r:=⟨_,rfl⟩;obtain ⟨rs,hrs⟩:∃ r,rbS xs p 120=r:=⟨_,rfl⟩;rw [hrp,hrs] at HC ⊢;clear h hb hrp hrs;go_enter func76,ntmps76;go_upto_region 1 with fail;refine wp_region_noPanic ?_;refine wp_region_held_drew (S:=fun wx=>wx.cell? ⟨rb,0,none⟩=some (.slice a n c)/\wx.cell? ⟨rb,1,none⟩=some (.int .i64 p)) (by kernel_rfl) HX.o (fun hHeld=>?_);refine aAd (i:=0) (d:=7) (v:=?va0) (by kernel_rfl) (by kernel_rfl) (by kernel_rfl) (by kernel_rfl) (fun _ _ _ h=>h) ?hya0 (by assumption) ?resta0
 case hya0 =>
  intro oi ho;simp only [tG,zG,oI] at ho;subst ho;refine Or.inl ⟨by rfl,?_⟩;intro wx hSw
  try dsimp only at hSw
  obtain ⟨hs1,hs2⟩:=hSw;go_simp
  try rfl
 try simp only [Act.put,siT,scZ,scS]
 refine aAd (i:=1) (d:=8) (v:=?va1) (by kernel_rfl) (by kernel_rfl) (by kernel_rfl) (by kernel_rfl) (fun _ _ _ h=>h) ?hya1 (by assumption) ?resta1
 case hya1 =>
  intro oi ho;simp only [tG,sG,zG,oI] at ho;subst ho;refine Or.inl ⟨by rfl,?_⟩;intro wx hSw
  try dsimp only at hSw
  obtain ⟨hs1,hs2⟩:=hSw;go_simp
  try rfl
 try simp only [Act.put,siT,scZ,scS]
 refine aAd (i:=2) (d:=9) (v:=?va2) (by kernel_rfl) (by kernel_rfl) (by kernel_rfl) (by kernel_rfl) (fun _ _ _ h=>h) ?hya2 (by assumption) ?resta2
 case hya2 =>
  intro oi ho;simp only [tG,sG,zG,oI] at ho;subst ho;refine Or.inl ⟨by rfl,?_⟩;intro wx hSw
  try dsimp only at hSw
  obtain ⟨hs1,hs2⟩:=hSw;go_simp
  try rfl
 try simp only [Act.put,siT,scZ,scS]
 refine aAd (i:=3) (d:=10) (v:=?va3) (by kernel_rfl) (by kernel_rfl) (by kernel_rfl) (by kernel_rfl) (fun _ _ _ h=>h) ?hya3 (by assumption) ?resta3
 case hya3 =>
  intro oi ho;simp only [tG,sG,zG,oI] at ho;subst ho;refine Or.inl ⟨by rfl,?_⟩;intro wx hSw
  try dsimp only at hSw
  obtain ⟨hs1,hs2⟩:=hSw;go_simp
  try rfl
 try simp only [Act.put,siT,scZ,scS]
 refine aAd (i:=4) (d:=11) (v:=?va4) (by kernel_rfl) (by kernel_rfl) (by kernel_rfl) (by kernel_rfl) (fun _ _ _ h=>h) ?hya4 (by assumption) ?resta4
 case hya4 =>
  intro oi ho;simp only [tG,sG,zG,oI] at ho;subst ho;refine Or.inl ⟨by rfl,?_⟩;intro wx hSw
  try dsimp only at hSw
  obtain ⟨hs1,hs2⟩:=hSw;go_simp
  try rfl
 try simp only [Act.put,siT,scZ,scS]
 refine aAd (i:=5) (d:=12) (v:=?va5) (by kernel_rfl) (by kernel_rfl) (by kernel_rfl) (by kernel_rfl) (fun _ _ _ h=>h) ?hya5 (by assumption) ?resta5
 case hya5 =>
  intro oi ho;simp only [tG,sG,zG,oI] at ho;subst ho;refine Or.inl ⟨by rfl,?_⟩;intro wx hSw
  try dsimp only at hSw
  obtain ⟨hs1,hs2⟩:=hSw;go_simp
  try rfl
 try simp only [Act.put,siT,scZ,scS]
 refine aAd (i:=6) (d:=13) (v:=?va6) (by kernel_rfl) (by kernel_rfl) (by kernel_rfl) (by kernel_rfl) (fun _ _ _ h=>h) ?hya6 (by assumption) ?resta6
 case hya6 =>
  intro oi ho;simp only [tG,sG,zG,oI] at ho;subst ho;refine Or.inl ⟨by rfl,?_⟩;intro wx hSw
  try dsimp only at hSw
  obtain ⟨hs1,hs2⟩:=hSw;go_simp
  try rfl
 try simp only [Act.put,siT,scZ,scS]
 refine aAd (i:=7) (d:=14) (v:=?va7) (by kernel_rfl) (by kernel_rfl) (by kernel_rfl) (by kernel_rfl) (fun _ _ _ h=>h) ?hya7 (by assumption) ?resta7
 case hya7 =>
  intro oi ho;simp only [tG,sG,zG,oI] at ho;subst ho;refine Or.inl ⟨by rfl,?_⟩;intro wx hSw
  try dsimp only at hSw
  obtain ⟨hs1,hs2⟩:=hSw;go_simp
  try rfl
 try simp only [Act.put,siT,scZ,scS]
 refine aAf 8 ?_;intro K hK;go_simp;refine HC.o.mono ?_;rintro e w2 ⟨va,vn,vc,e2,rfl,hbs2,hge2,hb2⟩;have HGE:=zH hge2;have hb2:Below w.heap.size w w2:=⟨hb2.os,hb2.tape,hb2.output,hb2.size,hb2.block⟩;have HBS:=zH hbs2;have HB2:=zH hb2;have hX2:w2.cell? ⟨rb,0,none⟩=some (.slice a n c)/\w2.cell? ⟨rb,1,none⟩=some (.int .i64 p):=⟨(hb2.cell (aAb HR.o)).trans (aAa HR.o),(hb2.cell (aAb HR.o)).trans (aAa HR.o)⟩;clear hbs2 hb2 hHeld hge2;refine hK.out _ _ hX2 (fun hHeld=>?_);clear hX2;clear hK K
 try simp only [Act.put,siT,scZ,scS]
 refine aAd (i:=9) (d:=6) (v:=?vb9) (by kernel_rfl) (by kernel_rfl) (by kernel_rfl) (by kernel_rfl) (fun _ _ _ h=>h) ?hyb9 (by assumption) ?restb9
 case hyb9 =>
  intro oi ho;simp only [tG,sG,zG,oI] at ho;subst ho;refine Or.inl ⟨by rfl,?_⟩;intro wx hSw
  try dsimp only at hSw
  obtain ⟨hs1,hs2⟩:=hSw;go_simp
  try rfl
 try simp only [Act.put,siT,scZ,scS]
 refine aAd (i:=10) (d:=16) (v:=?vb10) (by kernel_rfl) (by kernel_rfl) (by kernel_rfl) (by kernel_rfl) (fun _ _ _ h=>h) ?hyb10 (by assumption) ?restb10
 case hyb10 =>
  intro oi ho;simp only [tG,sG,zG,oI] at ho;subst ho;refine Or.inl ⟨by rfl,?_⟩;intro wx hSw
  try dsimp only at hSw
  obtain ⟨hs1,hs2⟩:=hSw;go_simp
  try rfl
 try simp only [Act.put,siT,scZ,scS]
 refine aAd (i:=11) (d:=17) (v:=?vb11) (by kernel_rfl) (by kernel_rfl) (by kernel_rfl) (by kernel_rfl) (fun _ _ _ h=>h) ?hyb11 (by assumption) ?restb11
 case hyb11 =>
  intro oi ho;simp only [tG,sG,zG,oI] at ho;subst ho;refine Or.inl ⟨by rfl,?_⟩;intro wx hSw
  try dsimp only at hSw
  obtain ⟨hs1,hs2⟩:=hSw;go_simp
  try rfl
 try simp only [Act.put,siT,scZ,scS]
 refine aAd (i:=12) (d:=18) (v:=?vb12) (by kernel_rfl) (by kernel_rfl) (by kernel_rfl) (by kernel_rfl) (fun _ _ _ h=>h) ?hyb12 (by assumption) ?restb12
 case hyb12 =>
  intro oi ho;simp only [tG,sG,zG,oI] at ho;subst ho;refine Or.inl ⟨by rfl,?_⟩;intro wx hSw
  try dsimp only at hSw
  obtain ⟨hs1,hs2⟩:=hSw;go_simp
  try rfl
 try simp only [Act.put,siT,scZ,scS]
 refine aAd (i:=13) (d:=3) (v:=?vb13) (by kernel_rfl) (by kernel_rfl) (by kernel_rfl) (by kernel_rfl) (fun _ _ _ h=>h) ?hyb13 (by assumption) ?restb13
 case hyb13 =>
  intro oi ho;simp only [tG,sG,zG,oI] at ho;subst ho;refine Or.inl ⟨by rfl,?_⟩;intro wx hSw
  try dsimp only at hSw
  obtain ⟨hs1,hs2⟩:=hSw;go_simp
  try rfl
 try simp only [Act.put,siT,scZ,scS]
 refine aAd (i:=14) (d:=4) (v:=?vb14) (by kernel_rfl) (by kernel_rfl) (by kernel_rfl) (by kernel_rfl) (fun _ _ _ h=>h) ?hyb14 (by assumption) ?restb14
 case hyb14 =>
  intro oi ho;simp only [tG,sG,zG,oI] at ho;subst ho;refine Or.inl ⟨by rfl,?_⟩;intro wx hSw
  try dsimp only at hSw
  obtain ⟨hs1,hs2⟩:=hSw;go_simp
  try rfl
 try simp only [Act.put,siT,scZ,scS]
 refine aAd (i:=15) (d:=5) (v:=?vb15) (by kernel_rfl) (by kernel_rfl) (by kernel_rfl) (by kernel_rfl) (fun _ _ _ h=>h) ?hyb15 (by assumption) ?restb15
 case hyb15 =>
  intro oi ho;simp only [tG,sG,zG,oI] at ho;subst ho;refine Or.inl ⟨by rfl,?_⟩;intro wx hSw
  try dsimp only at hSw
  obtain ⟨hs1,hs2⟩:=hSw;go_simp
  try rfl
 try simp only [Act.put,siT,scZ,scS]
 refine wpAnyH_done (by kernel_rfl) ?_ _;refine NoPanic.normal ?_;have HR2:=zH ((HB2.o.block rb (aAb HR.o)).trans HR.o);have y1:w2.cell? ⟨rb,1,none⟩=some (.int .i64 p):=aAa HR2.o;have yf:w2.frozen? ⟨rb,1,none⟩=false:=aAg HR2.o;have HF2:Hid (RdF rb w2 (w2.setCell ⟨rb,1,none⟩ (.int .i64 (rp:Int)))):=(RdF.of (Below.refl _ _) (by have:=aAb HR2.o;omega)).set 1 _;have HBS3:=zH (bs_rd HBS.o HF2.o fun b o q=>by have h8:w.heap.size<=b:=HGE.o b o q;have:=aAb HR.o;omega);have HR3:Hid (EDR rb a n c (rp:Int) (w2.setCell ⟨rb,1,none⟩ (.int .i64 (rp:Int)))):=heap_setCell_same _ _ _ _ _ _ HR2.o;clear hHeld;go_wp2;go_ret;exact ⟨va,vn,vc,rfl,HBS3.o,HGE.o,HR3.o,(RdF.of HB2.o (by have:=aAb HR.o;omega)).trans HF2.o⟩
def dR (xs:List Nat):List Val:=(drow xs).getD []
theorem rbS_120 (xs:List Nat) (p:Int):(rbS xs p 120).length<=120:=by
 unfold rbS;split
 ·rename_i h
  unfold rbE at h
  split at h
  ·rename_i h1
   exact absurd h h1
  ·split at h
   ·cases h
   ·split at h
    ·cases h
    ·rename_i _ _ h2
     rw [List.length_take];omega
 ·simp
theorem aEk {n c:Nat} {a:Option Addr} {p:Int} (h:EDR rb a n c p w) (hb:BS w a n c xs) :
  Calls prog 56 #[.pointer (some ⟨rb,0,none⟩)] w fun e w'=>∃ va vc,e=.returned (.slice va (dR (rbS xs p 120)).length vc)/\SV fV 3 w' va (dR (rbS xs p 120)).length vc (dR (rbS xs p 120))/\(∀ x∈dR (rbS xs p 120),x.ok/\x.2.2.size<=4194304)/\w'.ownsRow w.heap.size 73 3 (.slice va (dR (rbS xs p 120)).length vc) (dR (rbS xs p 120)).length ((dR (rbS xs p 120)).flatMap fV)/\EDR rb a n c (rbP xs p 120) w'/\RdF rb w w':=by
 have HRB:Hid (rb<w.heap.size):=aAb h;have HP:=zH (aEx h hb);have HL:=zH (rbS_120 xs p);obtain ⟨ys,hys⟩:∃ r,rbS xs p 120=r:=⟨_,rfl⟩;obtain ⟨rp,hrp⟩:∃ r:Nat,rbP xs p 120=r:=⟨_,rfl⟩;rw [hys,hrp] at HP;rw [hys] at HL;rw [hys,hrp];obtain ⟨L,hL⟩:∃ r,dR ys=r:=⟨_,rfl⟩;rw [hL];have HLL:=zH hL;clear h hb hys hrp hL;go_enter func56,ntmps56;go_wp2_with fail;refine HP.o.mono ?_;rintro e w1 ⟨va,vn,vc,rfl,hb1,hg1,hr1,hf1⟩;have HR1:=zH hr1;have HF1:=zH hf1;have HC:=zH (aF8 hb1 (by have:=hb1.hlen;have:=HL.o;omega));clear hb1 hg1 hr1 hf1 HP;go_wp2_with fail;refine HC.o.mono ?_;rintro e w2 ⟨hd,hb2⟩;have HB2:=zH hb2;have HR2:Hid (EDR rb a n c (rp:Int) w2):=(hb2.block rb (aAb HR1.o)).trans HR1.o;have HF2:Hid (RdF rb w w2):=HF1.o.trans (RdF.of hb2 (by have:=aAb HR1.o;omega));have HS1:Hid (w.heap.size<=w1.heap.size):=HF1.o.bel.size;unfold DrRn at hd
 cases ho:drow ys with
 | none =>
  rw [ho] at hd;have e9:e=.returned (.tuple #[.slice none 0 0,.int .i64 11]):=hd;have e8:dR ys=[]:=by unfold dR;rw [ho];rfl
  subst e9;have e7:L=[]:=by rw [<-HLL.o];exact e8
  clear HLL;subst e7;clear hd hb2 HC ho e8;go_wp2;go_ret;exact ⟨none,0,rfl,SV.nil _ _ _,by simp,aBu _ _ _ _,HR2.o,HF2.o⟩
 | some l =>
  rw [ho] at hd;obtain ⟨hok,a',c',rfl,hsv,hnew,hown⟩:=hd;have e8:dR ys=l:=by unfold dR;rw [ho];rfl
  have e7:l=L:=by rw [<-HLL.o];exact e8.symm
  clear HLL;subst e7;have HOK:=zH hok;have HSV:=zH hsv;have HOW:=zH hown;clear hok hsv hnew hown hb2 HC ho e8;go_wp2;go_ret;exact ⟨a',c',rfl,HSV.o,HOK.o,aB9 HOW.o HS1.o,HR2.o,HF2.o⟩
def posA {α:Type} (st:Nat->α×Nat) (p:Nat):Nat->Nat
 | 0=>p
 | j+1=>(st (posA st p j)).2
def rowsA {α:Type} (st:Nat->α×Nat) (p:Nat):Nat->List α
 | 0=>[]
 | j+1=>rowsA st p j++[(st (posA st p j)).1]
theorem aDt {α:Type} (st:Nat->α×Nat) (p:Nat):∀ j,(rowsA st p j).length=j
 | 0=>rfl
 | j+1=>by simp [rowsA,aDt st p j]
structure OwnR {α:Type} (f:α->List Value) (k te:Nat) (blks:α->List Nat) (M:World->α->Prop) (B:Nat) (w:World) (v:Value) (l:List α):Prop where
 own:w.ownsRow B te k v l.length (l.flatMap f)
 mem:∀ x∈l,M w x
 ap:∀ x∈l,∀ b∈blks x,v.ownBlock≠some b/\b<w.heap.size
theorem OwnR.nil {α:Type} (f:α->List Value) (k te:Nat) (blks:α->List Nat) (M:World->α->Prop) (B:Nat) (w:World):OwnR f k te blks M B w (.slice none 0 0) []:=⟨aBu _ _ _ _,by simp,by simp⟩
def Stay {α:Type} (blks:α->List Nat) (M:World->α->Prop):Prop:=∀ (w w':World) (x:α),M w x->w.heap.size<=w'.heap.size->(∀ b∈blks x,b<w.heap.size->w'.heap[b]?=w.heap[b]?)->M w' x
section
variable {α:Type} {f:α->List Value} {k te:Nat} {blks:α->List Nat} {M:World->α->Prop} {B:Nat} {w w':World} {v:Value} {l:List α}
theorem OwnR.keep (hM:Stay blks M) (h:OwnR f k te blks M B w v l) (hs:w.heap.size<=w'.heap.size) (ho:w'.ownsRow B te k v l.length (l.flatMap f)) (hb:∀ i,i<w.heap.size->(∃ x∈l,i∈blks x)->w'.heap[i]?=w.heap[i]?):OwnR f k te blks M B w' v l :=
 ⟨ho,fun x hx=>hM w w' x (h.mem x hx) hs (fun b hb1 hb2=>hb b hb2 ⟨x,hx,hb1⟩),fun x hx b hb1=>⟨(h.ap x hx b hb1).1,Nat.lt_of_lt_of_le (h.ap x hx b hb1).2 hs⟩⟩
theorem OwnR.later (hM:Stay blks M) (h:OwnR f k te blks M B w v l) (hb:Below w.heap.size w w'):OwnR f k te blks M B w' v l :=
 h.keep hM hb.size (aAm h.own hb) (fun i hi _=>hb.block i hi)
theorem OwnR.add {x:α} {v':Value} (hM:Stay blks M) (h:OwnR f k te blks M B w v l) (hx:M w x) (hxb:∀ b∈blks x,v.ownBlock≠some b/\b<w.heap.size) (ho:w'.ownsRow B te k v' (l++[x]).length ((l++[x]).flatMap f)) (hs:w.heap.size<=w'.heap.size)
  (hk:∀ i,i<w.heap.size->v.ownBlock≠some i->w'.heap[i]?=w.heap[i]?) (hv:v'.ownBlock=v.ownBlock\/v'.ownBlock=some w.heap.size):OwnR f k te blks M B w' v' (l++[x]):=by
 have key:∀ y∈l++[x],M w y/\∀ b∈blks y,v.ownBlock≠some b/\b<w.heap.size:=by
  intro y hy;rcases List.mem_append.1 hy with hy | hy
  ·exact ⟨h.mem y hy,h.ap y hy⟩
  ·obtain rfl:y=x:=by simpa using hy
   exact ⟨hx,hxb⟩
 refine ⟨ho,fun y hy=>hM w w' y (key y hy).1 hs (fun b hb1 hb2=>hk b hb2 ((key y hy).2 b hb1).1),fun y hy b hb1=>?_⟩;have hb2:=(key y hy).2 b hb1;refine ⟨fun e=>?_,Nat.lt_of_lt_of_le hb2.2 hs⟩;rcases hv with q | q
 ·rw [q] at e;exact hb2.1 e
 ·rw [q] at e;have:=Option.some.inj e;omega
end
def oblk (a:Option Addr):List Nat:=match a with
 | none=>[]
 | some ad=>[ad.block]
theorem SV.stay {α:Type} {f:α->List Value} {a:Option Addr} {l:List α} (h:SV f k w a len cap l) (hs:w.heap.size<=w'.heap.size) (hb:∀ b∈oblk a,b<w.heap.size->w'.heap[b]?=w.heap[b]?):SV f k w' a len cap l:=by
 refine ⟨h.hl,h.hc,h.hm,h.hn,fun h0=>?_⟩;obtain ⟨b,o,e,hlt,hc⟩:=h.pl h0;subst e;refine ⟨b,o,rfl,Nat.lt_of_lt_of_le hlt hs,fun i x hx t ht=>?_⟩;rw [<-hc i x hx t ht];exact World.cell?_of_block (hb b (by simp [oblk]) hlt)
structure RwV where
 a:Option Addr
 n:Nat
 c:Nat
 l:List Val
def fR (x:RwV):List Value:=[.slice x.a x.n x.c]
def RwM (w:World) (x:RwV):Prop:=SV fV 3 w x.a x.n x.c x.l
def RwV.blks (x:RwV):List Nat:=oblk x.a
theorem aA9:Stay RwV.blks RwM:=fun w w' x h hs hb=>SV.stay h hs hb
theorem aCq (x:RwV):(fR x).length=1:=rfl
theorem fR_one (x:RwV):∀ u∈fR x,u.oneCell'=true:=by
 intro u hu;simp only [fR,List.mem_cons,List.not_mem_nil,or_false] at hu;subst hu;rfl
theorem aEs:(prog.info? 62).map (fun i=>(i.zero,i.size,i.bytes))=some (some (.slice none 0 0),1,24):=by kernel_rfl
structure Rws (w:World) (a:Option Addr) (n c:Nat) (rs:List RwV):Prop where
 sv:SV fR 1 w a n c rs
 mem:∀ x∈rs,RwM w x
theorem Rws.later {a:Option Addr} {n c:Nat} {rs:List RwV} (h:Rws w a n c rs) (hb:Below w.heap.size w w'):Rws w' a n c rs:=⟨h.sv.later hb,fun x hx=>SV.later (h.mem x hx) hb⟩
def ValQ (x:Val):Prop:=x.ok/\x.2.2.size<=4194304
theorem aAl {n l m:Int} (w:World) (h1:l<=n) (h2:n<=m):Calls prog 22 #[.int .i64 n,.int .i64 l,.int .i64 m] w fun e w'=>e=.returned (.bool true)/\w'=w:=by
 go_enter func22,ntmps22;go_wp2;go_ret;exact ⟨rfl,rfl⟩
theorem aA4 {n l m:Int} (w:World) (h:¬ (l<=n/\n<=m)):Calls prog 22 #[.int .i64 n,.int .i64 l,.int .i64 m] w fun e w'=>e=.returned (.bool false)/\w'=w:=by
 by_cases h1:l<=n
 ·have h2:¬ n<=m:=fun q=>h ⟨h1,q⟩
  clear h;go_enter func22,ntmps22;go_wp2;go_ret;exact ⟨rfl,rfl⟩
 ·clear h;go_enter func22,ntmps22;go_wp2;go_ret;exact ⟨rfl,rfl⟩
end Go.Proofs.YtmmcebojbbdfmaaGreat
set_option linter.unusedVariables false
namespace Go.Proofs.YtmmcebojbbdfmaaGreat
open Go.ChangeShapes Go.WideShapes Go.ChangeAt Go.RowKit _root_.Go.Proofs.Tryz
structure OpV where
 kind:Int
 nm:ByteArray
 s:Sch
 ca:Option Addr
 cl:Nat
 cc:Nat
 xa:Option Addr
 xl:Nat
 xc:Nat
 ra:Option Addr
 rl:Nat
 rc:Nat
 row:List Val
 key:Val
 col:Int
 lo:Val
 hi:Val
 lim:Int
instance:Inhabited OpV:=⟨⟨0,⟨#[]⟩,⟨⟨#[]⟩,[],[]⟩,none,0,0,none,0,0,none,0,0,[],(0,0,⟨#[]⟩),0,(0,0,⟨#[]⟩),(0,0,⟨#[]⟩),0⟩⟩
def fO (y:OpV):List Value:=[.int .i64 y.kind,.string y.nm,.string y.s.nm,.slice y.ca y.cl y.cc,.slice y.xa y.xl y.xc,.slice y.ra y.rl y.rc,.int .i64 y.key.1,.int .i64 y.key.2.1,.string y.key.2.2,.int .i64 y.col,.int .i64 y.lo.1,.int .i64 y.lo.2.1,.string y.lo.2.2,.int .i64 y.hi.1,.int .i64 y.hi.2.1,.string y.hi.2.2,.int .i64 y.lim]
theorem aBl (y:OpV):(fO y).length=17:=rfl
structure OpP (W:World) (y:OpV):Prop where
 k:-9223372036854775808<=y.kind/\y.kind<=9223372036854775807
 n:y.nm.size<=1048576
 sc:SC W y.ca y.cl y.cc y.xa y.xl y.xc y.s
 sp:SchP y.s
 rw_:SV fV 3 W y.ra y.rl y.rc y.row
 rp:∀ x∈y.row,ValP x
 key:ValP y.key
 c:-9223372036854775808<=y.col/\y.col<=9223372036854775807
 lo:ValP y.lo
 hi:ValP y.hi
 l:-9223372036854775808<=y.lim/\y.lim<=9223372036854775807
theorem OpP.later {W W':World} {y:OpV} (h:OpP W y) (hb:Below W.heap.size W W'):OpP W' y:=⟨h.k,h.n,h.sc.later hb,h.sp,h.rw_.later hb,h.rp,h.key,h.c,h.lo,h.hi,h.l⟩
theorem aA5:(prog.fieldsOf 75).toList.map (fun f=>(f.type,f.offset))=[(3,0),(9,1),(71,2),(62,5),(73,6),(3,9),(73,10),(73,13),(3,16)]:=by kernel_rfl
theorem under_op:prog.underlying 75=some (.struct (prog.fieldsOf 75)):=by kernel_rfl
theorem lst9 {α:Type} {l:List α} (h:l.length=9):∃ a b c d e f g i j,l=[a,b,c,d,e,f,g,i,j]:=by
 match l,h with
 | [a,b,c,d,e,f,g,i,j],_=>exact ⟨a,b,c,d,e,f,g,i,j,rfl⟩
theorem lst17 {α:Type} {l:List α} (h:l.length=17):∃ a b c d e f g i j k m n o p q r s,l=[a,b,c,d,e,f,g,i,j,k,m,n,o,p,q,r,s]:=by
 match l,h with
 | [a,b,c,d,e,f,g,i,j,k,m,n,o,p,q,r,s],_=>exact ⟨a,b,c,d,e,f,g,i,j,k,m,n,o,p,q,r,s,rfl⟩
structure CmdV where
 sess:Int
 seq:Int
 oa:Option Addr
 on:Nat
 oc:Nat
 ops:List OpV
def fCm (c:CmdV):List Value:=[.int .i64 c.sess,.int .i64 c.seq,.slice c.oa c.on c.oc]
theorem aAy (c:CmdV):(fCm c).length=3:=rfl
instance:Inhabited CmdV:=⟨⟨0,0,none,0,0,[]⟩⟩
structure CmdP (W:World) (c:CmdV):Prop where
 s:-9223372036854775808<=c.sess/\c.sess<=9223372036854775807
 q:-9223372036854775808<=c.seq/\c.seq<=9223372036854775807
 sv:SV fO 17 W c.oa c.on c.oc c.ops
 ops:∀ y∈c.ops,OpP W y
theorem CmdP.later {W W':World} {c:CmdV} (h:CmdP W c) (hb:Below W.heap.size W W'):CmdP W' c:=⟨h.s,h.q,h.sv.later hb,fun y hy=>(h.ops y hy).later hb⟩
structure EntV where
 kind:Int
 srv:Int
 ca:Option Addr
 cl:Nat
 cc:Nat
 cmds:List CmdV
 n:Int
structure EntP (W:World) (e:EntV):Prop where
 k:-9223372036854775808<=e.kind/\e.kind<=9223372036854775807
 s:-9223372036854775808<=e.srv/\e.srv<=9223372036854775807
 m:-9223372036854775808<=e.n/\e.n<=9223372036854775807
 sv:SV fCm 3 W e.ca e.cl e.cc e.cmds
 cmds:∀ c∈e.cmds,CmdP W c
theorem EntP.later {W W':World} {e:EntV} (h:EntP W e) (hb:Below W.heap.size W W'):EntP W' e:=⟨h.k,h.s,h.m,h.sv.later hb,fun c hc=>(h.cmds c hc).later hb⟩
theorem aC6:(prog.fieldsOf 46).toList.map (fun f=>(f.type,f.offset))=[(3,0),(3,1),(44,2)]:=by kernel_rfl
theorem under_cmd:prog.underlying 46=some (.struct (prog.fieldsOf 46)):=by kernel_rfl
theorem aB4:(prog.fieldsOf 24).toList.map (fun f=>(f.type,f.offset))=[(3,0),(3,1),(22,2),(3,3)]:=by kernel_rfl
theorem under_ent:prog.underlying 24=some (.struct (prog.fieldsOf 24)):=by kernel_rfl
theorem lst4 {α:Type} {l:List α} (h:l.length=4):∃ a b c d,l=[a,b,c,d]:=by
 match l,h with
 | [a,b,c,d],_=>exact ⟨a,b,c,d,rfl⟩
instance:Inhabited RwV:=⟨⟨none,0,0,[]⟩⟩
end Go.Proofs.YtmmcebojbbdfmaaGreat
set_option linter.unusedVariables false
namespace Go.Proofs.YtmmcebojbbdfmaaGreat
open Go.RowKit _root_.Go.Proofs.Tryz
variable {B x z:Nat} {v:Value} {w w':World}
def rpHd (er at_:Int) (n:Nat):Bool:=decide (0<=er/\er<=65536) && decide (0<=at_/\at_<=2) && decide (n<=12)
def rpOk (er at_:Int) (ls:List RwV):Bool:=rpHd er at_ ls.length && ls.all (fun x=>decide (rowE x.l=0))
def encRow (x:RwV):List Nat:=pt (rowB x.l)
def encR (er at_:Int) (ls:List RwV):List Nat:=encW er.toNat++(encW at_.toNat++encW ls.length)++ls.flatMap encRow
def EncP (ok:Bool) (bs:List Nat) (B:Nat) (e:Ending) (w':World):Prop:=if ok=true then ∃ v,e=.returned (.tuple #[v,.int .i64 0])/\OB B w' v bs else e=.returned (.tuple #[.slice none 0 0,.int .i64 1])
theorem EncP.no {bs:List Nat}:EncP false bs B (.returned (.tuple #[.slice none 0 0,.int .i64 1])) w':=by unfold EncP;rw [if_neg (by decide)]
theorem EncP.yes {bs:List Nat} (h:OB B w' v bs):EncP true bs B (.returned (.tuple #[v,.int .i64 0])) w':=by unfold EncP;rw [if_pos rfl];exact ⟨v,rfl,h⟩
theorem aFn {x:RwV} (h:rowE x.l=0):(encRow x).length<=129:=by
 have h1:=aDv h;have h2:=pt_len (l:=rowB x.l) (by omega);unfold encRow;omega
theorem ir3 {y:Nat} (hx:x<9223372036854775808) (hy:y<9223372036854775808) (hz:z<9223372036854775808):IR (w.alloc (.cells #[.int .i64 (x:Int),.int .i64 (y:Int),.int .i64 (z:Int)] 3)) (some ⟨w.heap.size,0,none⟩) 3 3 [x,y,z]:=by
 refine ⟨SV.whole (f:=fI) (fun _=>rfl) rfl (by omega) (boxed w _),fun b o e=>?_,?_⟩
 ·simp only [oI,Addr.mk.injEq] at e;obtain ⟨rfl,_,_⟩:=e;exact ⟨_,_,boxed w _⟩
 ·intro v hv;simp only [List.mem_cons,List.not_mem_nil,or_false] at hv;rcases hv with rfl | rfl | rfl<;>assumption
theorem encreply_any {er at_:Int} {ra:Option Addr} {rl rc:Nat} {rs:List RwV} (h:Rws w ra rl rc rs) (hv:∀ x∈rs,∀ y∈x.l,ValQ y) :
  Calls prog 14 #[.agg #[.int .i64 er,.int .i64 at_,.slice ra rl rc]] w fun e w'=>EncP (rpOk er at_ rs) (encR er at_ rs) w.heap.size e w'/\Below w.heap.size w w':=by
 have hbx:=aAc w (.cells #[.int .i64 er,.int .i64 at_,.slice ra rl rc] 37);have HR1:Hid ((w.alloc (.cells #[.int .i64 er,.int .i64 at_,.slice ra rl rc] 37)).heap[w.heap.size]?=some (.cells #[.int .i64 er,.int .i64 at_,.slice ra rl rc] 37 (0,0))):=boxed w _;have HW1:=zH hbx;have HS0:=zH h;have HS1:=zH (h.later hbx);have HRL:Hid (rs.length=rl):=h.sv.hl;have HV:=zH hv;clear h hbx hv;by_cases h1:0<=er/\er<=65536
 ·by_cases h2:0<=at_/\at_<=2
  ·by_cases h3:rl<=12
   ·have HH:Hid (rpHd er at_ rs.length=true):=by
     show _=_;unfold rpHd;rw [decide_eq_true h1,decide_eq_true h2,HRL.o,decide_eq_true h3];rfl
    obtain ⟨en,hen⟩:∃ k:Nat,er=(k:Int):=⟨er.toNat,by omega⟩;obtain ⟨an,han⟩:∃ k:Nat,at_=(k:Int):=⟨at_.toNat,by omega⟩;subst hen han;have hen:en<=65536:=by omega
    have han:an<=2:=by omega
    have x3:¬ (12:Int)<(rl:Int):=by omega
    have HY1:Hid ((0:Int)<=(en:Int)/\(en:Int)<=65536):=h1;have HY2:Hid ((0:Int)<=(an:Int)/\(an:Int)<=2):=h2;clear h1 h2;go_enter func14,ntmps14;go_upto_region 1 with fail;generalize w.alloc (.cells #[.int .i64 (en:Int),.int .i64 (an:Int),.slice ra rl rc] 37)=w1 at *
    generalize hL:w.heap.size=L at *
    have y0:w1.cell? ⟨L,0,none⟩=some (.int .i64 (en:Int)):=aAa HR1.o;have y1:w1.cell? ⟨L,1,none⟩=some (.int .i64 (an:Int)):=aAa HR1.o;have y2:w1.cell? ⟨L,2,none⟩=some (.slice ra rl rc):=aAa HR1.o;go_wp2_with fail;refine (aAl w1 HY1.o.1 HY1.o.2).mono ?_;rintro e w2 ⟨rfl,hw⟩;have hw:=hw.symm;subst hw;clear hw;go_wp2_with fail;refine (aAl w1 HY2.o.1 HY2.o.2).mono ?_;rintro e w2 ⟨rfl,hw⟩;have hw:=hw.symm;subst hw;clear hw;go_upto_region 4 with fail;have HWM:Hid (WR w1.heap.size w1.heap.size [] (w1.alloc (.cells #[.slice none 0 0] 60))):=WR.made (nR _);have hb2:=aAc w1 (.cells #[.slice none 0 0] 60);have HW2:Hid (Below L w (w1.alloc (.cells #[.slice none 0 0] 60))):=HW1.o.trans (hb2.mono (by have:=aAb HR1.o;omega));have HR2:=zH ((hb2.block L (aAb HR1.o)).trans HR1.o);have HS2:=zH (HS1.o.later hb2);have HLB:Hid (L<w1.heap.size):=aAb HR1.o;clear hb2 y0 y1 y2;generalize w1.alloc (.cells #[.slice none 0 0] 60)=w2 at *
    generalize w1.heap.size=Bb at *
    have y0:w2.cell? ⟨L,0,none⟩=some (.int .i64 (en:Int)):=aAa HR2.o;have y1:w2.cell? ⟨L,1,none⟩=some (.int .i64 (an:Int)):=aAa HR2.o;have y2:w2.cell? ⟨L,2,none⟩=some (.slice ra rl rc):=aAa HR2.o;have HIR:=zH (ir3 (w:=w2) (x:=en) (y:=an) (z:=rl) (by omega) (by omega) (by omega));have hb3:=aAc w2 (.cells #[.int .i64 (en:Int),.int .i64 (an:Int),.int .i64 (rl:Int)] 3);have HNM:=zH (aBa (HWM.o.later hb3) HIR.o (by decide));have HR3:=zH ((hb3.block L (aAb HR2.o)).trans HR2.o);have HS3:=zH (HS2.o.later hb3);have HW3:=zH (HW2.o.trans (hb3.mono (by have:=aAb HR2.o;omega)));have HB3:Hid (Bb<=w2.heap.size):=by show _<=_;have:=HWM.o.lt;omega
    clear hb3;go_wp2_with fail;refine HNM.o.mono ?_;rintro e w4 ⟨rfl,hw4,hf4⟩;have HX4:=zH hw4;have HR4:=zH (hf4.oth L _ _ _ (by have:=HLB.o;omega) (by decide) HR3.o);have HW4:Hid (Below L w w4):=HW3.o.trans (hf4.bel.mono (by have:=HLB.o;omega));have HL4:Hid (L<w4.heap.size):=aAb HR4.o;obtain ⟨P0,hP0⟩:∃ P,P=encW en++(encW an++encW rl):=⟨_,rfl⟩;have HP0:=zH hP0;have HPL:Hid (P0.length<=27):=by
     show _<=_;rw [hP0,lA,lA];have:=aAh en (by omega);have:=aAh an (by omega);have:=aAh rl (by omega);omega
    have e4:[]++[en,an,rl].flatMap encW=P0:=by rw [hP0];simp
    rw [e4] at hw4;have HWR:=zH hw4;clear hw4 hf4 HX4 HNM HIR HWM HR2 HR3 HS2 HS3 HW2 HW3 HS1 HR1 HW1 e4 hP0 y0 y1 y2;have y2:w4.cell? ⟨L,2,none⟩=some (.slice ra rl rc):=aAa HR4.o;go_wp2_with fail;clear y2;go_loopg [37] rl (fun gh s37 wx=>∃ j:Nat,j+gh=rl/\s37=.int .i64 (j:Int)/\(∀ x∈rs.take j,rowE x.l=0)/\WR Bb Bb (P0++(rs.take j).flatMap encRow) wx/\Below L w wx/\w4.heap.size<=wx.heap.size)
    case atStart=>exact ⟨0,by omega,rfl,by simp,by simpa using HWR.o,HW4.o,nR _⟩
    case round =>
     obtain ⟨j,hj,rfl,hall,hw,hb,hsz⟩:=hrel;have HAL:=zH hall;have HWJ:=zH hw;have HBJ:=zH hb;have HSZ:=zH hsz;clear hall hw hb hsz;have HSJ:=zH (HS0.o.later (w':=wr) (by rw [hL];exact HBJ.o));by_cases hjn:j<rl
     ·have xj:(j:Int)<(rl:Int):=by omega
      have xj4:(j:Int)<1000000:=by omega
      obtain ⟨x,hx⟩:∃ x,rs[j]?=some x:=⟨_,gE (by rw [HRL.o];exact hjn)⟩;have HX:=zH hx;obtain ⟨b,o,ea,hb,hcc⟩:=HSJ.o.sv.pl (by omega);have y0:wr.cell? ⟨b,o+j,none⟩=some (.slice x.a x.n x.c):=by have:=hcc j x hx 0 (by omega);simpa [fR] using this
      have HEN:=zH (aDl (HSJ.o.mem x (mG hx)) (fun y hy=>(HV.o x (mG hx) y hy).1) (fun y hy=>(HV.o x (mG hx) y hy).2));subst ea;clear hcc hx hb;go_wp2_with fail;refine HEN.o.mono ?_;rintro e w5 ⟨⟨v,rfl,hyes,hno⟩,hb5⟩;have HB5:Hid (Below L w w5):=HBJ.o.trans (hb5.mono (by have:=HSZ.o;have:=HL4.o;omega));have HS5:Hid (wr.heap.size<=w5.heap.size):=hb5.size;have HWR5:=zH (HWJ.o.later hb5);clear y0 hb5 HEN;by_cases hz:rowE x.l=0
      ·have HZ:=zH hz;have hob:=hyes hz;obtain ⟨a5,c5,e5⟩:=hob.form;subst e5;have HBS:=zH (OB.bs hob (aCn x.l) (by have:=aDv hz;omega));have HLR:Hid ((rowB x.l).length<=120):=aDv hz;have HFN:=zH (aB3 (f:=encRow) HX.o);rw [hz];clear hyes hno hz hob;have HTK:Hid (rs.take (j+1)=rs.take j++[x]):=by show _=_;rw [List.take_add_one,HX.o];rfl
       have HPP:Hid ((P0++(rs.take j).flatMap encRow).length<=2000):=by
        show _<=_;rw [lA];have h9:=aBs (f:=encRow) (m:=129) (l:=rs.take j) (fun y hy=>aFn (HAL.o y hy));have h8:=HPL.o;have h7:(rs.take j).length<=12:=by rw [List.length_take];omega
        have h6:(rs.take j).length*129<=12*129:=Nat.mul_le_mul_right _ h7;omega
       have HPT:=zH (aCz HWR5.o HBS.o (by have:=HLR.o;omega) (by have:=HPP.o;omega));go_wp2_with fail;refine HPT.o.mono ?_;rintro e w6 ⟨rfl,hw6,hf6⟩;have HW6:=zH hw6;have HB6:Hid (Below L w w6):=HB5.o.trans (hf6.bel.mono (by have:=HLB.o;omega));have HS6:Hid (w5.heap.size<=w6.heap.size):=hf6.bel.size;clear hw6 hf6 HPT;go_wp2;go_roundg (gk-1)
       case measure=>omega
       case rel =>
        refine ⟨j+1,by omega,rfl,?_,?_,HB6.o,by have:=HSZ.o;have:=HS5.o;have:=HS6.o;omega⟩
        ·intro y hy;rw [HTK.o] at hy;rcases List.mem_append.1 hy with hy | hy
         ·exact HAL.o y hy
         ·obtain rfl:y=x:=by simpa using hy
          exact HZ.o
        ·rw [HFN.o,<-List.append_assoc];exact HW6.o
      ·have hn:=hno hz;subst hn;have dz:(rowE x.l != 0)=true:=by simp [hz]
       have HN:Hid (rpOk (en:Int) (an:Int) rs=false):=by
        show _=_;unfold rpOk;have:rs.all (fun x=>decide (rowE x.l=0))=false:=by
         rw [Bool.eq_false_iff];intro q;have:=List.all_eq_true.1 q x (mG HX.o);simp at this;exact hz this
        rw [this];simp
       clear hyes hno hz;go_wp2;go_ret2;exact ⟨by rw [HN.o];exact EncP.no,by first | exact HB5.o | (rw [hL];exact HB5.o)⟩
     ·have xj:¬ (j:Int)<(rl:Int):=by omega
      have ex:j=rl:=by omega
      have HRX:Hid (rs.take j=rs):=by show _=_;rw [ex];exact List.take_of_length_le (by rw [HRL.o];omega)
      obtain ⟨v9,h91,h92⟩:=HWJ.o.cell;rw [HRX.o] at h92;have HO9:Hid (OB Bb wr v9 (P0++rs.flatMap encRow)):=h92;have y9:wr.cell? ⟨Bb,0,none⟩=some v9:=aAa h91;have HN:Hid (rpOk (en:Int) (an:Int) rs=true):=by
       show _=_;unfold rpOk;rw [HH.o,Bool.true_and,List.all_eq_true];intro y hy;have:=HAL.o y (by rw [HRX.o];exact hy);simpa using this
      have HEQ:Hid (P0++rs.flatMap encRow=encR (en:Int) (an:Int) rs):=by
       show _=_;unfold encR;rw [HP0.o,HRL.o];rfl
      clear h91 h92;go_wp2;go_ret2;refine ⟨?_,by first | exact HBJ.o | (rw [hL];exact HBJ.o)⟩;rw [HN.o,<-HEQ.o];exact EncP.yes (aB9 HO9.o (by have:=HLB.o;omega))
   ·have x3:(12:Int)<(rl:Int):=by omega
    have HH:Hid (rpOk er at_ rs=false):=by
     show _=_;unfold rpOk rpHd;rw [HRL.o,decide_eq_false h3];simp
    have HY1:=zH h1;have HY2:=zH h2;clear h1 h2 h3;go_enter func14,ntmps14;go_upto_region 1 with fail;generalize w.alloc (.cells #[.int .i64 er,.int .i64 at_,.slice ra rl rc] 37)=w1 at *
    generalize hL:w.heap.size=L at *
    have y0:w1.cell? ⟨L,0,none⟩=some (.int .i64 er):=aAa HR1.o;have y1:w1.cell? ⟨L,1,none⟩=some (.int .i64 at_):=aAa HR1.o;have y2:w1.cell? ⟨L,2,none⟩=some (.slice ra rl rc):=aAa HR1.o;go_wp2_with fail;refine (aAl w1 HY1.o.1 HY1.o.2).mono ?_;rintro e w2 ⟨rfl,hw⟩;have hw:=hw.symm;subst hw;clear hw;go_wp2_with fail;refine (aAl w1 HY2.o.1 HY2.o.2).mono ?_;rintro e w2 ⟨rfl,hw⟩;have hw:=hw.symm;subst hw;clear hw;go_wp2;go_ret2;exact ⟨by rw [HH.o];exact EncP.no,by first | exact HW1.o | (rw [hL];exact HW1.o)⟩
  ·have HH:Hid (rpOk er at_ rs=false):=by
    show _=_;unfold rpOk rpHd;rw [decide_eq_false h2];simp
   have HY1:=zH h1;have HY2:=zH h2;clear h1 h2;go_enter func14,ntmps14;go_upto_region 1 with fail;generalize w.alloc (.cells #[.int .i64 er,.int .i64 at_,.slice ra rl rc] 37)=w1 at *
   generalize hL:w.heap.size=L at *
   have y0:w1.cell? ⟨L,0,none⟩=some (.int .i64 er):=aAa HR1.o;have y1:w1.cell? ⟨L,1,none⟩=some (.int .i64 at_):=aAa HR1.o;have y2:w1.cell? ⟨L,2,none⟩=some (.slice ra rl rc):=aAa HR1.o;go_wp2_with fail;refine (aAl w1 HY1.o.1 HY1.o.2).mono ?_;rintro e w2 ⟨rfl,hw⟩;have hw:=hw.symm;subst hw;clear hw;go_wp2_with fail;refine (aA4 w1 HY2.o).mono ?_;rintro e w2 ⟨rfl,hw⟩;have hw:=hw.symm;subst hw;clear hw;go_wp2;go_ret2;exact ⟨by rw [HH.o];exact EncP.no,by first | exact HW1.o | (rw [hL];exact HW1.o)⟩
 ·have HH:Hid (rpOk er at_ rs=false):=by
   show _=_;unfold rpOk rpHd;rw [decide_eq_false h1];simp
  have HY1:=zH h1;clear h1;go_enter func14,ntmps14;go_upto_region 1 with fail;generalize w.alloc (.cells #[.int .i64 er,.int .i64 at_,.slice ra rl rc] 37)=w1 at *
  generalize hL:w.heap.size=L at *
  have y0:w1.cell? ⟨L,0,none⟩=some (.int .i64 er):=aAa HR1.o;have y1:w1.cell? ⟨L,1,none⟩=some (.int .i64 at_):=aAa HR1.o;have y2:w1.cell? ⟨L,2,none⟩=some (.slice ra rl rc):=aAa HR1.o;go_wp2_with fail;refine (aA4 w1 HY1.o).mono ?_;rintro e w2 ⟨rfl,hw⟩;have hw:=hw.symm;subst hw;clear hw;go_wp2;go_ret2;exact ⟨by rw [HH.o];exact EncP.no,by first | exact HW1.o | (rw [hL];exact HW1.o)⟩
end Go.Proofs.YtmmcebojbbdfmaaGreat
