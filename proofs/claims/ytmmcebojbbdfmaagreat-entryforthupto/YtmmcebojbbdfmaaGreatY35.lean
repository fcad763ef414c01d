import Derived.Test.YtmmcebojbbdfmaaGreatY33
import Derived.Deep.CutRange
import Derived.Test.YtmmcebojbbdfmaaGreatY23
set_option maxRecDepth 100000
set_option maxHeartbeats 16000000
set_option linter.unusedVariables false
namespace Go.Proofs.YtmmcebojbbdfmaaGreat
open Go.RowKit _root_.Go.Proofs.Tryz
variable {a ca xa:Option Addr} {c cap cc cl len n xc xl:Nat} {l:List Val} {w w':World} {y:OpV}
theorem rcn_text {v:Val} (h:v.err=0):countOf (runes (bl v.2.2))=(rcn v.2.2:Int):=by
 obtain ⟨rs,hr⟩:=aDh (k:=v.1) (n:=v.2.1) (s:=v.2.2) h;unfold rcn;rw [hr];rfl
def smallB (v:Val):Bool:=decide (v.err=0) && decide (rcn v.2.2<=8)
theorem small_all (l:List Val):l.all smallB=true↔keyErr l=0/\l.any (fun x=>decide (8<rcn x.2.2))=false:=by
 induction l with
 | nil=>simp [keyErr]
 | cons x l ih =>
  rw [List.all_cons,Bool.and_eq_true,ih,List.any_cons,Bool.or_eq_false_iff];rw [show keyErr (x::l)=if x.err=0 then keyErr l else x.err from rfl];unfold smallB;simp only [Bool.and_eq_true,decide_eq_true_eq,decide_eq_false_iff_not];constructor
  ·rintro ⟨⟨a,b⟩,c,d⟩;exact ⟨by rw [if_pos a];exact c,by omega,d⟩
  ·rintro ⟨a,b,c⟩
   split at a
   ·rename_i q;exact ⟨⟨q,by omega⟩,a,c⟩
   ·rename_i q;exact absurd a q
theorem rowE_small (l:List Val):rowE l=if 3<l.length then 2 else if l.all smallB=true then 0 else 62:=by
 unfold rowE;split
 ·rfl
 ·have h1:=small_all l;by_cases hk:keyErr l=0
  ·rw [if_neg (by simpa using hk)];by_cases ha:l.any (fun x=>decide (8<rcn x.2.2))=true
   ·rw [if_pos ha,if_neg (by rw [h1];rintro ⟨_,q⟩;rw [ha] at q;cases q)]
   ·rw [if_neg ha,if_pos (h1.2 ⟨hk,by simpa using ha⟩)]
  ·rw [if_pos hk,if_neg (by rw [h1];rintro ⟨q,_⟩;exact hk q)]
theorem col_eqL {a':Option Addr} {len' cap':Nat} {l l':List Col} (h:SV fC 3 w a len cap l) (h':SV fC 3 w a' len' cap' l') (hlen:len=len'->len<=100000000) :
  Calls prog 81 #[.slice a len cap,.slice a' len' cap'] w fun e w'=>e=.returned (.bool (decide (l=l')))/\Below w.heap.size w w':=by
 have H:=zH h;have H':=zH h';have HL:=zH h.hl;have HL':=zH h'.hl;clear h h';by_cases hne:len=len'
 ·subst hne;have hlen:=hlen rfl;go_enter func81,ntmps81;go_wp2_with fail;go_loopg [13] len (fun gh s13 wx=>∃ j:Nat,j+gh=len/\s13=.int .i64 (j:Int)/\l.take j=l'.take j/\Below w.heap.size w wx)
  case atStart=>exact ⟨0,by omega,rfl,by simp,Below.refl _ _⟩
  case round =>
   obtain ⟨j,hj,rfl,htk,hbr⟩:=hrel;have HTK:=zH htk;have HBR:=zH hbr;clear htk hbr;by_cases hjn:j<len
   ·have xj:(j:Int)<(len:Int):=by omega
    obtain ⟨x,hxj⟩:∃ x,l[j]?=some x:=⟨_,gE (by rw [HL.o];exact hjn)⟩;obtain ⟨y,hyj⟩:∃ y,l'[j]?=some y:=⟨_,gE (by rw [HL'.out];exact hjn)⟩;have HS:Hid (x=y->l.take (j+1)=l'.take (j+1)):=by
     intro q;rw [List.take_add_one,List.take_add_one,hxj,hyj,HTK.o,q]
    have HD:Hid (x≠y->l≠l'):=by
     intro q e;rw [e,hyj] at hxj;simp only [oI] at hxj;exact q hxj.symm
    obtain ⟨b,o,e0,hb,hcs⟩:=H.out.pl (by omega);obtain ⟨b',o',e0',hb',hcs'⟩:=H'.out.pl (by omega);have hc1:=fun t (ht:t<3)=>(HBR.o.cell hb (p:=⟨b,o+j*3+t,none⟩)).trans (hcs j x hxj t ht)
    have hc2:=fun t (ht:t<3)=>(HBR.o.cell hb' (p:=⟨b',o'+j*3+t,none⟩)).trans (hcs' j y hyj t ht)
    subst e0 e0';have y0:wr.cell? ⟨b,o+j*3,none⟩=some (.string x.1):=hc1 0 (by omega);have y1:wr.cell? ⟨b,o+j*3+1,none⟩=some (.int .i64 x.2.1):=hc1 1 (by omega);have y2:wr.cell? ⟨b,o+j*3+2,none⟩=some (.int .i64 x.2.2):=hc1 2 (by omega);have z0:wr.cell? ⟨b',o'+j*3,none⟩=some (.string y.1):=hc2 0 (by omega);have z1:wr.cell? ⟨b',o'+j*3+1,none⟩=some (.int .i64 y.2.1):=hc2 1 (by omega);have z2:wr.cell? ⟨b',o'+j*3+2,none⟩=some (.int .i64 y.2.2):=hc2 2 (by omega);clear hcs hcs' hc1 hc2 hxj hyj;by_cases hxy:x=y
    ·have HN:=zH (HS.o hxy);subst hxy;go_wp2_with fail;go_quiet (fail);go_wp2;go_roundg (gk-1)
     case measure=>omega
     case rel=>exact ⟨j+1,by omega,rfl,HN.o,aA1 HBR.o _⟩
    ·have HN:Hid (decide (l=l')=false):=decide_eq_false (HD.o hxy);by_cases e0:x.1=y.1
     ·have f0:(x.1.toList == y.1.toList)=true:=by rw [e0];exact beq_self_eq_true _
      by_cases e1:x.2.1=y.2.1
      ·have f1:(x.2.1 == y.2.1)=true:=by rw [e1];exact beq_self_eq_true _
       have f2:(x.2.2 == y.2.2)=false:=by simp;intro q;exact hxy (Prod.ext e0 (Prod.ext e1 q))
       go_wp2_with fail;go_quiet (fail);go_wp2;go_ret;exact ⟨by rw [HN.o];rfl,aA1 HBR.o _⟩
      ·have f1:(x.2.1 == y.2.1)=false:=by simp [e1]
       go_wp2_with fail;go_quiet (fail);go_wp2;go_ret;exact ⟨by rw [HN.o];rfl,aA1 HBR.o _⟩
     ·have f0:(x.1.toList == y.1.toList)=false:=by rw [ba_beq];exact decide_eq_false e0
      go_wp2_with fail;go_quiet (fail);go_wp2;go_ret;exact ⟨by rw [HN.o];rfl,aA1 HBR.o _⟩
   ·have xj:¬ (j:Int)<(len:Int):=by omega
    have HE:Hid (l=l'):=by
     have h9:=HTK.o;rw [List.take_of_length_le (by rw [HL.o];omega),List.take_of_length_le (by rw [HL'.out];omega)] at h9;exact h9
    go_wp2;go_ret;exact ⟨by rw [decide_eq_true HE.o];rfl,HBR.o⟩
 ·have HE:Hid (decide (l=l')=false):=decide_eq_false fun e=>hne (by rw [<-HL.o,<-HL'.out,e])
  have hn:((len:Int) != (len':Int))=true:=by simp;omega
  go_enter func81,ntmps81;go_wp2;go_ret;exact ⟨by rw [HE.o];rfl,Below.refl _ _⟩
theorem ix_eqL {a':Option Addr} {len' cap':Nat} {l l':List Idx} (h:SV fX 2 w a len cap l) (h':SV fX 2 w a' len' cap' l') (hlen:len=len'->len<=100000000) :
  Calls prog 82 #[.slice a len cap,.slice a' len' cap'] w fun e w'=>e=.returned (.bool (decide (l=l')))/\Below w.heap.size w w':=by
 have H:=zH h;have H':=zH h';have HL:=zH h.hl;have HL':=zH h'.hl;clear h h';by_cases hne:len=len'
 ·subst hne;have hlen:=hlen rfl;go_enter func82,ntmps82;go_wp2_with fail;go_loopg [13] len (fun gh s13 wx=>∃ j:Nat,j+gh=len/\s13=.int .i64 (j:Int)/\l.take j=l'.take j/\Below w.heap.size w wx)
  case atStart=>exact ⟨0,by omega,rfl,by simp,Below.refl _ _⟩
  case round =>
   obtain ⟨j,hj,rfl,htk,hbr⟩:=hrel;have HTK:=zH htk;have HBR:=zH hbr;clear htk hbr;by_cases hjn:j<len
   ·have xj:(j:Int)<(len:Int):=by omega
    obtain ⟨x,hxj⟩:∃ x,l[j]?=some x:=⟨_,gE (by rw [HL.o];exact hjn)⟩;obtain ⟨y,hyj⟩:∃ y,l'[j]?=some y:=⟨_,gE (by rw [HL'.out];exact hjn)⟩;have HS:Hid (x=y->l.take (j+1)=l'.take (j+1)):=by
     intro q;rw [List.take_add_one,List.take_add_one,hxj,hyj,HTK.o,q]
    have HD:Hid (x≠y->l≠l'):=by
     intro q e;rw [e,hyj] at hxj;simp only [oI] at hxj;exact q hxj.symm
    obtain ⟨b,o,e0,hb,hcs⟩:=H.out.pl (by omega);obtain ⟨b',o',e0',hb',hcs'⟩:=H'.out.pl (by omega);have hc1:=fun t (ht:t<2)=>(HBR.o.cell hb (p:=⟨b,o+j*2+t,none⟩)).trans (hcs j x hxj t ht)
    have hc2:=fun t (ht:t<2)=>(HBR.o.cell hb' (p:=⟨b',o'+j*2+t,none⟩)).trans (hcs' j y hyj t ht)
    subst e0 e0';have y0:wr.cell? ⟨b,o+j*2,none⟩=some (.int .i64 x.1):=hc1 0 (by omega);have y1:wr.cell? ⟨b,o+j*2+1,none⟩=some (.bool x.2):=hc1 1 (by omega);have z0:wr.cell? ⟨b',o'+j*2,none⟩=some (.int .i64 y.1):=hc2 0 (by omega);have z1:wr.cell? ⟨b',o'+j*2+1,none⟩=some (.bool y.2):=hc2 1 (by omega);clear hcs hcs' hc1 hc2 hxj hyj;by_cases hxy:x=y
    ·have HN:=zH (HS.o hxy);subst hxy;go_wp2_with fail;go_quiet (fail);go_wp2;go_roundg (gk-1)
     case measure=>omega
     case rel=>exact ⟨j+1,by omega,rfl,HN.o,aA1 HBR.o _⟩
    ·have HN:Hid (decide (l=l')=false):=decide_eq_false (HD.o hxy);by_cases e0:x.1=y.1
     ·have f0:(x.1 == y.1)=true:=by rw [e0];exact beq_self_eq_true _
      have f1:(x.2 == y.2)=false:=by simp;intro q;exact hxy (Prod.ext e0 q)
      go_wp2_with fail;go_quiet (fail);go_wp2;go_ret;exact ⟨by rw [HN.o];rfl,aA1 HBR.o _⟩
     ·have f0:(x.1 == y.1)=false:=by simp [e0]
      go_wp2_with fail;go_quiet (fail);go_wp2;go_ret;exact ⟨by rw [HN.o];rfl,aA1 HBR.o _⟩
   ·have xj:¬ (j:Int)<(len:Int):=by omega
    have HE:Hid (l=l'):=by
     have h9:=HTK.o;rw [List.take_of_length_le (by rw [HL.o];omega),List.take_of_length_le (by rw [HL'.out];omega)] at h9;exact h9
    go_wp2;go_ret;exact ⟨by rw [decide_eq_true HE.o];rfl,HBR.o⟩
 ·have HE:Hid (decide (l=l')=false):=decide_eq_false fun e=>hne (by rw [<-HL.o,<-HL'.out,e])
  have hn:((len:Int) != (len':Int))=true:=by simp;omega
  go_enter func82,ntmps82;go_wp2;go_ret;exact ⟨by rw [HE.o];rfl,Below.refl _ _⟩
theorem val_eqL {a':Option Addr} {len' cap':Nat} {l':List Val} (h:SV fV 3 w a len cap l) (h':SV fV 3 w a' len' cap' l') (hlen:len=len'->len<=100000000) :
  Calls prog 83 #[.slice a len cap,.slice a' len' cap'] w fun e w'=>e=.returned (.bool (decide (l=l')))/\Below w.heap.size w w':=by
 have H:=zH h;have H':=zH h';have HL:=zH h.hl;have HL':=zH h'.hl;clear h h';by_cases hne:len=len'
 ·subst hne;have hlen:=hlen rfl;go_enter func83,ntmps83;go_wp2_with fail;go_loopg [13] len (fun gh s13 wx=>∃ j:Nat,j+gh=len/\s13=.int .i64 (j:Int)/\l.take j=l'.take j/\Below w.heap.size w wx)
  case atStart=>exact ⟨0,by omega,rfl,by simp,Below.refl _ _⟩
  case round =>
   obtain ⟨j,hj,rfl,htk,hbr⟩:=hrel;have HTK:=zH htk;have HBR:=zH hbr;clear htk hbr;by_cases hjn:j<len
   ·have xj:(j:Int)<(len:Int):=by omega
    obtain ⟨x,hxj⟩:∃ x,l[j]?=some x:=⟨_,gE (by rw [HL.o];exact hjn)⟩;obtain ⟨y,hyj⟩:∃ y,l'[j]?=some y:=⟨_,gE (by rw [HL'.out];exact hjn)⟩;have HS:Hid (x=y->l.take (j+1)=l'.take (j+1)):=by
     intro q;rw [List.take_add_one,List.take_add_one,hxj,hyj,HTK.o,q]
    have HD:Hid (x≠y->l≠l'):=by
     intro q e;rw [e,hyj] at hxj;simp only [oI] at hxj;exact q hxj.symm
    obtain ⟨b,o,e0,hb,hcs⟩:=H.out.pl (by omega);obtain ⟨b',o',e0',hb',hcs'⟩:=H'.out.pl (by omega);have hc1:=fun t (ht:t<3)=>(HBR.o.cell hb (p:=⟨b,o+j*3+t,none⟩)).trans (hcs j x hxj t ht)
    have hc2:=fun t (ht:t<3)=>(HBR.o.cell hb' (p:=⟨b',o'+j*3+t,none⟩)).trans (hcs' j y hyj t ht)
    subst e0 e0';have y0:wr.cell? ⟨b,o+j*3,none⟩=some (.int .i64 x.1):=hc1 0 (by omega);have y1:wr.cell? ⟨b,o+j*3+1,none⟩=some (.int .i64 x.2.1):=hc1 1 (by omega);have y2:wr.cell? ⟨b,o+j*3+2,none⟩=some (.string x.2.2):=hc1 2 (by omega);have z0:wr.cell? ⟨b',o'+j*3,none⟩=some (.int .i64 y.1):=hc2 0 (by omega);have z1:wr.cell? ⟨b',o'+j*3+1,none⟩=some (.int .i64 y.2.1):=hc2 1 (by omega);have z2:wr.cell? ⟨b',o'+j*3+2,none⟩=some (.string y.2.2):=hc2 2 (by omega);clear hcs hcs' hc1 hc2 hxj hyj;by_cases hxy:x=y
    ·have HN:=zH (HS.o hxy);subst hxy;go_wp2_with fail;go_quiet (fail);go_wp2;go_roundg (gk-1)
     case measure=>omega
     case rel=>exact ⟨j+1,by omega,rfl,HN.o,aA1 HBR.o _⟩
    ·have HN:Hid (decide (l=l')=false):=decide_eq_false (HD.o hxy);by_cases e0:x.1=y.1
     ·have f0:(x.1 == y.1)=true:=by rw [e0];exact beq_self_eq_true _
      by_cases e1:x.2.1=y.2.1
      ·have f1:(x.2.1 == y.2.1)=true:=by rw [e1];exact beq_self_eq_true _
       have f2:(x.2.2.toList == y.2.2.toList)=false:=by rw [ba_beq];exact decide_eq_false fun q=>hxy (Prod.ext e0 (Prod.ext e1 q))
       go_wp2_with fail;go_quiet (fail);go_wp2;go_ret;exact ⟨by rw [HN.o];rfl,aA1 HBR.o _⟩
      ·have f1:(x.2.1 == y.2.1)=false:=by simp [e1]
       go_wp2_with fail;go_quiet (fail);go_wp2;go_ret;exact ⟨by rw [HN.o];rfl,aA1 HBR.o _⟩
     ·have f0:(x.1 == y.1)=false:=by simp [e0]
      go_wp2_with fail;go_quiet (fail);go_wp2;go_ret;exact ⟨by rw [HN.o];rfl,aA1 HBR.o _⟩
   ·have xj:¬ (j:Int)<(len:Int):=by omega
    have HE:Hid (l=l'):=by
     have h9:=HTK.o;rw [List.take_of_length_le (by rw [HL.o];omega),List.take_of_length_le (by rw [HL'.out];omega)] at h9;exact h9
    go_wp2;go_ret;exact ⟨by rw [decide_eq_true HE.o];rfl,HBR.o⟩
 ·have HE:Hid (decide (l=l')=false):=decide_eq_false fun e=>hne (by rw [<-HL.o,<-HL'.out,e])
  have hn:((len:Int) != (len':Int))=true:=by simp;omega
  go_enter func83,ntmps83;go_wp2;go_ret;exact ⟨by rw [HE.o];rfl,Below.refl _ _⟩
theorem samerow_anyL {a':Option Addr} {len' cap':Nat} {l':List Val} (h:SV fV 3 w a len cap l) (h':SV fV 3 w a' len' cap' l') (hlen:len=len'->len<=100000000) :
  Calls prog 65 #[.slice a len cap,.slice a' len' cap'] w fun e w'=>e=.returned (.bool (decide (l=l')))/\Below w.heap.size w w':=by
 have HC:=zH (val_eqL h h' hlen);clear h h';generalize decide (l=l')=bb at *
 go_enter func65,ntmps65;go_wp2_with fail;refine HC.o.mono ?_;rintro e w1 ⟨rfl,hb1⟩;have HB1:=zH hb1;clear hb1 HC;go_wp2;go_ret;exact ⟨rfl,HB1.o⟩
theorem ssame_anyL {ca' xa':Option Addr} {cl' cc' xl' xc':Nat} {s t:Sch} (h:SC w ca cl cc xa xl xc s) (h':SC w ca' cl' cc' xa' xl' xc' t) (h1:cl=cl'->cl<=100000000) (h2:xl=xl'->xl<=100000000) :
  Calls prog 64 #[.agg #[.string s.nm,.slice ca cl cc,.slice xa xl xc],.agg #[.string t.nm,.slice ca' cl' cc',.slice xa' xl' xc']] w fun e w'=>e=.returned (.bool (s.same t))/\Below w.heap.size w w':=by
 obtain ⟨w1,hw1⟩:∃ w1,w1=(w.alloc (.cells #[.string s.nm,.slice ca cl cc,.slice xa xl xc] 71)).alloc (.cells #[.string t.nm,.slice ca' cl' cc',.slice xa' xl' xc'] 71):=⟨_,rfl⟩;obtain ⟨L,hL⟩:∃ L,w.heap.size=L:=⟨_,rfl⟩;have HR1:Hid (w1.heap[L]?=some (.cells #[.string s.nm,.slice ca cl cc,.slice xa xl xc] 71 (0,0))):=by show _=_;rw [hw1,<-hL];exact heap_alloc2_old w _ _
 have HA1:Hid (w1.heap[L+1]?=some (.cells #[.string t.nm,.slice ca' cl' cc',.slice xa' xl' xc'] 71 (0,0))):=by show _=_;rw [hw1,<-hL];exact heap_alloc2_new w _ _
 have hb1:Below w.heap.size w w1:=by rw [hw1];exact (aAc w _).trans ((aAc _ _).mono (aAc w _).size)
 have H1:=zH (h.later hb1);have H1':=zH (h'.later hb1);have HW1:=zH hw1;have HB1:Hid (Below L w w1):=by show Below L w w1;rw [<-hL];exact hb1
 rw [hL];clear h h' hb1 hw1;go_enter func64,ntmps64;go_upto_region 1 with fail;rw [<-HW1.o]
 try simp only [hL]
 have y0:w1.cell? ⟨L,0,none⟩=some (.string s.nm):=aAa HR1.o;have y1:w1.cell? ⟨L,1,none⟩=some (.slice ca cl cc):=aAa HR1.o;have z0:w1.cell? ⟨L+1,0,none⟩=some (.string t.nm):=aAa HA1.o;have z1:w1.cell? ⟨L+1,1,none⟩=some (.slice ca' cl' cc'):=aAa HA1.o
 cases hn:(s.nm.toList == t.nm.toList) with
 | false =>
  have HE:Hid (s.same t=false):=by show _=_;unfold Sch.same;rw [hn];rfl
  go_wp2;go_ret;exact ⟨by rw [HE.o];rfl,HB1.o⟩
 | true =>
  have HE:Hid (s.same t=(decide (s.cs=t.cs) && decide (s.xs=t.xs))):=by show _=_;unfold Sch.same;rw [hn];rfl
  have HC:=zH (col_eqL H1.o.c H1'.out.c h1);go_wp2_with fail;refine HC.o.mono ?_;rintro e w2 ⟨rfl,hb2⟩;have HB2:Hid (Below L w w2):=HB1.o.trans (hb2.mono (by have:=aAb HR1.o;omega));have HR2:=zH ((hb2.block L (aAb HR1.o)).trans HR1.o);have HA2:=zH ((hb2.block (L+1) (aAb HA1.o)).trans HA1.o);have HX:=zH (ix_eqL (H1.o.x.later hb2) (H1'.out.x.later hb2) h2);have u2:w2.cell? ⟨L,2,none⟩=some (.slice xa xl xc):=aAa HR2.o;have v2:w2.cell? ⟨L+1,2,none⟩=some (.slice xa' xl' xc'):=aAa HA2.o;clear hb2 y0 y1 z0 z1 HC hn H1 H1';generalize decide (s.cs=t.cs)=bc at *
  generalize decide (s.xs=t.xs)=bx at *
  cases bc with
  | false =>
   go_wp2;go_ret;exact ⟨by rw [HE.o];rfl,HB2.o⟩
  | true =>
   go_wp2_with fail;refine HX.o.mono ?_;rintro e w3 ⟨rfl,hb3⟩;have HB3:Hid (Below L w w3):=HB2.o.trans (hb3.mono (by have:=aAb HR2.o;omega));clear hb3 HX;go_wp2;go_ret;exact ⟨by rw [HE.o];rfl,HB3.o⟩
theorem wrongv_any (v:Val) (hs:v.2.2.size<=1048576) (w:World):Calls prog 113 #[.agg #[.int .i64 v.1,.int .i64 v.2.1,.string v.2.2]] w fun e w'=>e=.returned (.bool (!smallB v))/\Below w.heap.size w w':=by
 have hbx:=aAc w (.cells #[.int .i64 v.1,.int .i64 v.2.1,.string v.2.2] 73);have HR1:Hid ((w.alloc (.cells #[.int .i64 v.1,.int .i64 v.2.1,.string v.2.2] 73)).heap[w.heap.size]?=some (.cells #[.int .i64 v.1,.int .i64 v.2.1,.string v.2.2] 73 (0,0))):=boxed w _;have HW1:=zH hbx;have HS:=zH hs;clear hs hbx;obtain ⟨k,n,s⟩:=v;dsimp only at *
 go_enter func113,ntmps113;go_upto_region 1 with fail;generalize w.alloc (.cells #[.int .i64 k,.int .i64 n,.string s] 73)=w1 at *
 generalize hL:w.heap.size=L at *
 have y0:w1.cell? ⟨L,0,none⟩=some (.int .i64 k):=aAa HR1.o;have y1:w1.cell? ⟨L,1,none⟩=some (.int .i64 n):=aAa HR1.o;have y2:w1.cell? ⟨L,2,none⟩=some (.string s):=aAa HR1.o;have HRT:=zH (right_any k n s w1 HS.o);go_wp2_with fail;refine HRT.o.mono ?_;rintro e w2 ⟨rfl,hb2⟩;have HW2:Hid (Below L w w2):=HW1.o.trans (hb2.mono (by have:=aAb HR1.o;omega));have z2:w2.cell? ⟨L,2,none⟩=some (.string s):=aAa ((hb2.block L (aAb HR1.o)).trans HR1.o);have HL2:Hid (L<=w2.heap.size):=by show _<=_;have:=aAb HR1.o;have:=hb2.size;omega
 clear hb2 HRT y0 y1 y2;by_cases hz:rightOf k n s=0
 ·have d1:(rightOf k n s != 0)=false:=by rw [hz];rfl
  have HRN:=zH (aEn s w2 (by have:=HS.o;omega));have HCO:Hid (countOf (runes (bl s))=(rcn s:Int)):=rcn_text (v:=(k,n,s)) hz;rw [HCO.o] at HRN;rw [hz];go_wp2_with fail;refine HRN.o.mono ?_;rintro e w3 ⟨rfl,hb3⟩;have HW3:Hid (Below L w w3):=HW2.o.trans (hb3.mono HL2.o);clear hb3 HRN;by_cases h8:rcn s<=8
  ·have x8:¬ (8:Int)<(rcn s:Int):=by omega
   have HN:Hid (smallB (k,n,s)=true):=by
    show _=_;unfold smallB;rw [decide_eq_true (show Val.err (k,n,s)=0 from hz),decide_eq_true h8];rfl
   clear hz d1;go_wp2;go_ret;exact ⟨by rw [HN.o,decide_eq_false (show ¬ (8:Int)<(rcn s:Int) by omega)];rfl,by first | exact HW3.o | (rw [hL];exact HW3.o)⟩
  ·have x8:(8:Int)<(rcn s:Int):=by omega
   have HN:Hid (smallB (k,n,s)=false):=by
    show _=_;unfold smallB;rw [decide_eq_false h8,Bool.and_false]
   clear hz d1;go_wp2;go_ret;exact ⟨by rw [HN.o];rfl,by first | exact HW3.o | (rw [hL];exact HW3.o)⟩
 ·have d1:(rightOf k n s != 0)=true:=by simp [hz]
  have HN:Hid (smallB (k,n,s)=false):=by
   show _=_;unfold smallB;rw [decide_eq_false (show ¬ Val.err (k,n,s)=0 from hz),Bool.false_and]
  clear hz;go_wp2;go_ret;exact ⟨by rw [HN.o];rfl,by first | exact HW2.o | (rw [hL];exact HW2.o)⟩
theorem wval_idx (h:SV fV 3 w a len cap l) (hlen:len<=1000) (hr:∀ x∈l,x.2.2.size<=1048576) :
  Calls prog 71 #[.slice a len cap,.func (Fn.func 113) #[] #[]] w fun e w'=>∃ i:Int,e=.returned (.int .i64 i)/\(decide (0<=i)=l.any (fun x=>!smallB x))/\Below w.heap.size w w':=by
 have H:=zH h;have hx:=h.hl;have HL:=zH hx;clear h hx;have HR:=zH hr;clear hr;go_enter func71,ntmps71;go_wp2_with fail;go_loopg [8] len (fun gh s8 wx=>∃ j:Nat,j+gh=len/\s8=.int .i64 (j:Int)/\(l.take j).any (fun x=>!smallB x)=false/\Below w.heap.size w wx)
 case atStart=>exact ⟨0,by omega,rfl,by simp,Below.refl _ _⟩
 case round =>
  obtain ⟨j,hj,rfl,hno,hbr⟩:=hrel;have HNO:=zH hno;have HBR:=zH hbr;clear hno hbr;by_cases hjn:j<len
  ·have xj:(j:Int)<(len:Int):=by omega
   obtain ⟨x,hxj⟩:∃ x,l[j]?=some x:=⟨_,gE (by rw [HL.o];exact hjn)⟩;have HTK:Hid ((l.take (j+1)).any (fun x=>!smallB x)=(!smallB x)):=by
    show _=_;rw [List.take_add_one,hxj,List.any_append,HNO.o];simp
   have HYES:Hid ((!smallB x)=true->l.any (fun x=>!smallB x)=true):=fun q=>List.any_eq_true.2 ⟨x,mG hxj,q⟩
   obtain ⟨b,o,e0,hb,hcs⟩:=H.out.pl (by omega);have hcell:=fun t (ht:t<3)=>hcs j x hxj t ht
   subst e0;have y0:wr.cell? ⟨b,o+j*3,none⟩=some (.int .i64 x.1):=(HBR.o.cell hb).trans (hcell 0 (by omega));have y1:wr.cell? ⟨b,o+j*3+1,none⟩=some (.int .i64 x.2.1):=(HBR.o.cell hb).trans (hcell 1 (by omega));have y2:wr.cell? ⟨b,o+j*3+2,none⟩=some (.string x.2.2):=(HBR.o.cell hb).trans (hcell 2 (by omega));have hrx:=HR.o x (mG hxj);have HCL:=zH (wrongv_any x hrx wr);obtain ⟨pb,hpb⟩:∃ pb:Bool,pb=(!smallB x):=⟨_,rfl⟩;rw [<-hpb] at HTK HYES HCL;clear hcs hcell hxj hpb;go_wp2_with fail;refine HCL.o.mono ?_;rintro e w1 ⟨rfl,hb1⟩;have HB1:Hid (Below w.heap.size w w1):=HBR.o.trans (hb1.mono HBR.o.size);clear hb1 HCL
   cases pb with
   | true =>
    have HY:=zH (HYES.o rfl);go_wp2_with fail;go_ret;exact ⟨(j:Int),rfl,by rw [HY.o];exact decide_eq_true (by omega),HB1.o⟩
   | false =>
    go_wp2_with fail;go_roundg (gk-1)
    case measure=>omega
    case rel=>exact ⟨j+1,by omega,rfl,HTK.o,HB1.o⟩
  ·have xj:¬ (j:Int)<(len:Int):=by omega
   have HN:Hid (l.any (fun x=>!smallB x)=false):=by
    have h9:=HNO.o;rw [List.take_of_length_le (by rw [HL.o];omega)] at h9;exact h9
   go_wp2;go_ret;exact ⟨-1,rfl,by rw [HN.o];rfl,HBR.o⟩
theorem wval_has (h:SV fV 3 w a len cap l) (hlen:len<=1000) (hr:∀ x∈l,x.2.2.size<=1048576) :
  Calls prog 52 #[.slice a len cap,.func (Fn.func 113) #[] #[]] w fun e w'=>e=.returned (.bool (l.any (fun x=>!smallB x)))/\Below w.heap.size w w':=by
 have HI:=zH (wval_idx h hlen hr);clear h hr;generalize l.any (fun x=>!smallB x)=bb at *
 go_enter func52,ntmps52;go_wp2_with fail;refine HI.o.mono ?_;rintro e w1 ⟨i,rfl,hi,hb1⟩;have HB1:=zH hb1;have HE:=zH hi;clear hb1 HI hi;go_wp2;go_ret;exact ⟨by rw [<-HE.o];rfl,HB1.o⟩
theorem aGd (l:List Val):l.any (fun x=>!smallB x)=!(l.all smallB):=by
 induction l with
 | nil=>rfl
 | cons x l ih=>simp [List.any_cons,List.all_cons,ih,Bool.not_and]
def rowRt (l:List Val):Bool:=decide (rowE l=0)
theorem aC1 (l:List Val):rowRt l=(decide (l.length<=3) && l.all smallB):=by
 unfold rowRt;rw [rowE_small];by_cases h:3<l.length
 ·rw [if_pos h,decide_eq_false (show ¬ l.length<=3 by omega)];rfl
 ·rw [if_neg h,decide_eq_true (show l.length<=3 by omega)]
  cases l.all smallB<;>rfl
theorem aBj (h:SV fV 3 w a n c l) (hr:∀ x∈l,x.2.2.size<=1048576) :
  Calls prog 101 #[.slice a n c] w fun e w'=>e=.returned (.bool (rowRt l))/\Below w.heap.size w w':=by
 have HL:=zH h.hl;rw [aC1];by_cases h3:n<=3
 ·have x3:(n:Int)<=3:=by omega
  have HI:=zH (wval_has h (by omega) hr);rw [aGd] at HI;rw [decide_eq_true (show l.length<=3 by rw [HL.o];exact h3),Bool.true_and];generalize l.all smallB=bb at *
  clear h hr;go_enter func101,ntmps101;go_wp2_with fail;refine HI.o.mono ?_;rintro e w1 ⟨rfl,hb1⟩;have HB1:=zH hb1;clear hb1 HI
  cases bb with
  | true =>
   go_wp2;go_ret;exact ⟨rfl,HB1.o⟩
  | false =>
   go_wp2;go_ret;exact ⟨rfl,HB1.o⟩
 ·have x3:¬ (n:Int)<=3:=by omega
  rw [decide_eq_false (show ¬ l.length<=3 by rw [HL.o];exact h3),Bool.false_and];clear h hr;go_enter func101,ntmps101;go_wp2;go_ret;exact ⟨rfl,Below.refl _ _⟩
def veq (u v:Val):Bool:=(u.1 == v.1) && ((u.2.1 == v.2.1) && (u.2.2.toList == v.2.2.toList))
def onlyB (y z:OpV):Bool:=(y.nm.toList == z.nm.toList) && (y.s.same z.s && (decide (y.row=z.row) && (veq y.key z.key && ((y.col == z.col) && (veq y.lo z.lo && (veq y.hi z.hi && (y.lim == z.lim)))))))
structure OpM (w:World) (y:OpV):Prop where
 sc:SC w y.ca y.cl y.cc y.xa y.xl y.xc y.s
 rw_:SV fV 3 w y.ra y.rl y.rc y.row
theorem OpM.later (h:OpM w y) (hb:Below w.heap.size w w'):OpM w' y:=⟨h.sc.later hb,h.rw_.later hb⟩
theorem OpP.m (h:OpP w y):OpM w y:=⟨h.sc,h.rw_⟩
def prS (y:OpV):OpV:=⟨0,⟨#[]⟩,y.s,y.ca,y.cl,y.cc,y.xa,y.xl,y.xc,none,0,0,[],(0,0,⟨#[]⟩),0,(0,0,⟨#[]⟩),(0,0,⟨#[]⟩),0⟩
def prR (y:OpV):OpV:=⟨0,y.nm,⟨⟨#[]⟩,[],[]⟩,none,0,0,none,0,0,y.ra,y.rl,y.rc,y.row,(0,0,⟨#[]⟩),0,(0,0,⟨#[]⟩),(0,0,⟨#[]⟩),0⟩
def prK (y:OpV):OpV:=⟨0,y.nm,⟨⟨#[]⟩,[],[]⟩,none,0,0,none,0,0,none,0,0,[],y.key,0,(0,0,⟨#[]⟩),(0,0,⟨#[]⟩),0⟩
def prX (y:OpV):OpV:=⟨0,y.nm,⟨⟨#[]⟩,[],[]⟩,none,0,0,none,0,0,none,0,0,[],(0,0,⟨#[]⟩),y.col,y.lo,y.hi,y.lim⟩
theorem scNil (w:World):SC w none 0 0 none 0 0 ⟨⟨#[]⟩,[],[]⟩:=⟨SV.nil _ _ _,SV.nil _ _ _⟩
theorem OpM.prS {w:World} {y:OpV} (h:OpM w y):OpM w (prS y):=⟨h.sc,SV.nil _ _ _⟩
theorem OpM.prR {w:World} {y:OpV} (h:OpM w y):OpM w (prR y):=⟨scNil w,h.rw_⟩
theorem OpM.prK {w:World} {y:OpV} (h:OpM w y):OpM w (prK y):=⟨scNil w,SV.nil _ _ _⟩
theorem OpM.prX {w:World} {y:OpV} (h:OpM w y):OpM w (prX y):=⟨scNil w,SV.nil _ _ _⟩
theorem aBd {z:OpV} (h:OpM w y) (h':OpM w z) (hc:y.cl=z.cl->y.cl<=100000000) (hx:y.xl=z.xl->y.xl<=100000000) (hr:y.rl=z.rl->y.rl<=100000000) :
  Calls prog 100 #[.agg #[.int .i64 y.kind,.string y.nm,.string y.s.nm,.slice y.ca y.cl y.cc,.slice y.xa y.xl y.xc,.slice y.ra y.rl y.rc,.int .i64 y.key.1,.int .i64 y.key.2.1,.string y.key.2.2,.int .i64 y.col,.int .i64 y.lo.1,.int .i64 y.lo.2.1,.string y.lo.2.2,.int .i64 y.hi.1,.int .i64 y.hi.2.1,.string y.hi.2.2,.int .i64 y.lim],.agg #[.int .i64 z.kind,.string z.nm,.string z.s.nm,.slice z.ca z.cl z.cc,.slice z.xa z.xl z.xc,.slice z.ra z.rl z.rc,.int .i64 z.key.1,.int .i64 z.key.2.1,.string z.key.2.2,.int .i64 z.col,.int .i64 z.lo.1,.int .i64 z.lo.2.1,.string z.lo.2.2,.int .i64 z.hi.1,.int .i64 z.hi.2.1,.string z.hi.2.2,.int .i64 z.lim]] w fun e w'=>e=.returned (.bool (onlyB y z))/\Below w.heap.size w w':=by
 obtain ⟨L,hL⟩:∃ L,w.heap.size=L:=⟨_,rfl⟩;obtain ⟨w1,hw1⟩:∃ w1,w1=(w.alloc (.cells #[.int .i64 y.kind,.string y.nm,.string y.s.nm,.slice y.ca y.cl y.cc,.slice y.xa y.xl y.xc,.slice y.ra y.rl y.rc,.int .i64 y.key.1,.int .i64 y.key.2.1,.string y.key.2.2,.int .i64 y.col,.int .i64 y.lo.1,.int .i64 y.lo.2.1,.string y.lo.2.2,.int .i64 y.hi.1,.int .i64 y.hi.2.1,.string y.hi.2.2,.int .i64 y.lim] 75)).alloc (.cells #[.int .i64 z.kind,.string z.nm,.string z.s.nm,.slice z.ca z.cl z.cc,.slice z.xa z.xl z.xc,.slice z.ra z.rl z.rc,.int .i64 z.key.1,.int .i64 z.key.2.1,.string z.key.2.2,.int .i64 z.col,.int .i64 z.lo.1,.int .i64 z.lo.2.1,.string z.lo.2.2,.int .i64 z.hi.1,.int .i64 z.hi.2.1,.string z.hi.2.2,.int .i64 z.lim] 75):=⟨_,rfl⟩;have HY1:Hid (w1.heap[L]?=some (.cells #[.int .i64 y.kind,.string y.nm,.string y.s.nm,.slice y.ca y.cl y.cc,.slice y.xa y.xl y.xc,.slice y.ra y.rl y.rc,.int .i64 y.key.1,.int .i64 y.key.2.1,.string y.key.2.2,.int .i64 y.col,.int .i64 y.lo.1,.int .i64 y.lo.2.1,.string y.lo.2.2,.int .i64 y.hi.1,.int .i64 y.hi.2.1,.string y.hi.2.2,.int .i64 y.lim] 75 (0,0))):=by show _=_;rw [hw1,<-hL];exact heap_alloc2_old w _ _
 have HZ1:Hid (w1.heap[L+1]?=some (.cells #[.int .i64 z.kind,.string z.nm,.string z.s.nm,.slice z.ca z.cl z.cc,.slice z.xa z.xl z.xc,.slice z.ra z.rl z.rc,.int .i64 z.key.1,.int .i64 z.key.2.1,.string z.key.2.2,.int .i64 z.col,.int .i64 z.lo.1,.int .i64 z.lo.2.1,.string z.lo.2.2,.int .i64 z.hi.1,.int .i64 z.hi.2.1,.string z.hi.2.2,.int .i64 z.lim] 75 (0,0))):=by show _=_;rw [hw1,<-hL];exact heap_alloc2_new w _ _
 have hb1:Below w.heap.size w w1:=by rw [hw1];exact (aAc w _).trans ((aAc _ _).mono (aAc w _).size)
 have HW1:Hid (Below L w w1):=by show Below L w w1;rw [<-hL];exact hb1
 have HM:=zH (h.later hb1);have HM':=zH (h'.later hb1);have HC:=zH hc;have HX:=zH hx;have HRR:=zH hr;have HE1:=zH hw1;rw [hL];clear h h' hb1 hw1 hc hx hr;go_enter func100,ntmps100;go_upto_region 1 with fail;rw [<-HE1.o]
 try simp only [hL]
 clear HE1 hL;have y1:w1.cell? ⟨L,1,none⟩=some (.string y.nm):=aAa HY1.o;have y2:w1.cell? ⟨L,2,none⟩=some (.string y.s.nm):=aAa HY1.o;have y3:w1.cell? ⟨L,3,none⟩=some (.slice y.ca y.cl y.cc):=aAa HY1.o;have y4:w1.cell? ⟨L,4,none⟩=some (.slice y.xa y.xl y.xc):=aAa HY1.o;have y5:w1.cell? ⟨L,5,none⟩=some (.slice y.ra y.rl y.rc):=aAa HY1.o;have y6:w1.cell? ⟨L,6,none⟩=some (.int .i64 y.key.1):=aAa HY1.o;have y7:w1.cell? ⟨L,7,none⟩=some (.int .i64 y.key.2.1):=aAa HY1.o;have y8:w1.cell? ⟨L,8,none⟩=some (.string y.key.2.2):=aAa HY1.o;have y9:w1.cell? ⟨L,9,none⟩=some (.int .i64 y.col):=aAa HY1.o;have y10:w1.cell? ⟨L,10,none⟩=some (.int .i64 y.lo.1):=aAa HY1.o;have y11:w1.cell? ⟨L,11,none⟩=some (.int .i64 y.lo.2.1):=aAa HY1.o;have y12:w1.cell? ⟨L,12,none⟩=some (.string y.lo.2.2):=aAa HY1.o;have y13:w1.cell? ⟨L,13,none⟩=some (.int .i64 y.hi.1):=aAa HY1.o;have y14:w1.cell? ⟨L,14,none⟩=some (.int .i64 y.hi.2.1):=aAa HY1.o;have y15:w1.cell? ⟨L,15,none⟩=some (.string y.hi.2.2):=aAa HY1.o;have y16:w1.cell? ⟨L,16,none⟩=some (.int .i64 y.lim):=aAa HY1.o;have z1:w1.cell? ⟨(L+1),1,none⟩=some (.string z.nm):=aAa HZ1.o;have z2:w1.cell? ⟨(L+1),2,none⟩=some (.string z.s.nm):=aAa HZ1.o;have z3:w1.cell? ⟨(L+1),3,none⟩=some (.slice z.ca z.cl z.cc):=aAa HZ1.o;have z4:w1.cell? ⟨(L+1),4,none⟩=some (.slice z.xa z.xl z.xc):=aAa HZ1.o;have z5:w1.cell? ⟨(L+1),5,none⟩=some (.slice z.ra z.rl z.rc):=aAa HZ1.o;have z6:w1.cell? ⟨(L+1),6,none⟩=some (.int .i64 z.key.1):=aAa HZ1.o;have z7:w1.cell? ⟨(L+1),7,none⟩=some (.int .i64 z.key.2.1):=aAa HZ1.o;have z8:w1.cell? ⟨(L+1),8,none⟩=some (.string z.key.2.2):=aAa HZ1.o;have z9:w1.cell? ⟨(L+1),9,none⟩=some (.int .i64 z.col):=aAa HZ1.o;have z10:w1.cell? ⟨(L+1),10,none⟩=some (.int .i64 z.lo.1):=aAa HZ1.o;have z11:w1.cell? ⟨(L+1),11,none⟩=some (.int .i64 z.lo.2.1):=aAa HZ1.o;have z12:w1.cell? ⟨(L+1),12,none⟩=some (.string z.lo.2.2):=aAa HZ1.o;have z13:w1.cell? ⟨(L+1),13,none⟩=some (.int .i64 z.hi.1):=aAa HZ1.o;have z14:w1.cell? ⟨(L+1),14,none⟩=some (.int .i64 z.hi.2.1):=aAa HZ1.o;have z15:w1.cell? ⟨(L+1),15,none⟩=some (.string z.hi.2.2):=aAa HZ1.o;have z16:w1.cell? ⟨(L+1),16,none⟩=some (.int .i64 z.lim):=aAa HZ1.o
 cases enm:(y.nm.toList == z.nm.toList) with
 | false =>
  have HN:Hid (onlyB y z=false):=by
   show _=_;unfold onlyB veq;rw [enm];simp only [Bool.false_and]
  go_wp2;go_ret;exact ⟨by rw [HN.o];rfl,HW1.o⟩
 | true =>
  have HCL:=zH (ssame_anyL HM.o.sc HM'.out.sc HC.o HX.o);obtain ⟨bb,eS⟩:∃ b,y.s.same z.s=b:=⟨_,rfl⟩;rw [eS] at HCL;go_wp2_with fail;refine HCL.o.mono ?_;rintro e w2 ⟨rfl,hb⟩;have HM2:=zH (HM.o.later hb);have HM'2:=zH (HM'.out.later hb);have HY2:=zH ((hb.block L (aAb HY1.o)).trans HY1.o);have HZ2:=zH ((hb.block (L+1) (aAb HZ1.o)).trans HZ1.o);have HW2:Hid (Below L w w2):=HW1.o.trans (hb.mono (by have:=aAb HY1.o;omega));clear hb HCL y1 y2 y3 y4 y5 y6 y7 y8 y9 y10 y11 y12 y13 y14 y15 y16 z1 z2 z3 z4 z5 z6 z7 z8 z9 z10 z11 z12 z13 z14 z15 z16;have y5:w2.cell? ⟨L,5,none⟩=some (.slice y.ra y.rl y.rc):=aAa HY2.o;have y6:w2.cell? ⟨L,6,none⟩=some (.int .i64 y.key.1):=aAa HY2.o;have y7:w2.cell? ⟨L,7,none⟩=some (.int .i64 y.key.2.1):=aAa HY2.o;have y8:w2.cell? ⟨L,8,none⟩=some (.string y.key.2.2):=aAa HY2.o;have y9:w2.cell? ⟨L,9,none⟩=some (.int .i64 y.col):=aAa HY2.o;have y10:w2.cell? ⟨L,10,none⟩=some (.int .i64 y.lo.1):=aAa HY2.o;have y11:w2.cell? ⟨L,11,none⟩=some (.int .i64 y.lo.2.1):=aAa HY2.o;have y12:w2.cell? ⟨L,12,none⟩=some (.string y.lo.2.2):=aAa HY2.o;have y13:w2.cell? ⟨L,13,none⟩=some (.int .i64 y.hi.1):=aAa HY2.o;have y14:w2.cell? ⟨L,14,none⟩=some (.int .i64 y.hi.2.1):=aAa HY2.o;have y15:w2.cell? ⟨L,15,none⟩=some (.string y.hi.2.2):=aAa HY2.o;have y16:w2.cell? ⟨L,16,none⟩=some (.int .i64 y.lim):=aAa HY2.o;have z5:w2.cell? ⟨(L+1),5,none⟩=some (.slice z.ra z.rl z.rc):=aAa HZ2.o;have z6:w2.cell? ⟨(L+1),6,none⟩=some (.int .i64 z.key.1):=aAa HZ2.o;have z7:w2.cell? ⟨(L+1),7,none⟩=some (.int .i64 z.key.2.1):=aAa HZ2.o;have z8:w2.cell? ⟨(L+1),8,none⟩=some (.string z.key.2.2):=aAa HZ2.o;have z9:w2.cell? ⟨(L+1),9,none⟩=some (.int .i64 z.col):=aAa HZ2.o;have z10:w2.cell? ⟨(L+1),10,none⟩=some (.int .i64 z.lo.1):=aAa HZ2.o;have z11:w2.cell? ⟨(L+1),11,none⟩=some (.int .i64 z.lo.2.1):=aAa HZ2.o;have z12:w2.cell? ⟨(L+1),12,none⟩=some (.string z.lo.2.2):=aAa HZ2.o;have z13:w2.cell? ⟨(L+1),13,none⟩=some (.int .i64 z.hi.1):=aAa HZ2.o;have z14:w2.cell? ⟨(L+1),14,none⟩=some (.int .i64 z.hi.2.1):=aAa HZ2.o;have z15:w2.cell? ⟨(L+1),15,none⟩=some (.string z.hi.2.2):=aAa HZ2.o;have z16:w2.cell? ⟨(L+1),16,none⟩=some (.int .i64 z.lim):=aAa HZ2.o
  cases bb with
  | false =>
   have HN:Hid (onlyB y z=false):=by
    show _=_;unfold onlyB veq;rw [eS];simp only [Bool.false_and,Bool.and_false]
   go_wp2;go_ret;exact ⟨by rw [HN.o];rfl,HW2.o⟩
  | true =>
   have HCL:=zH (samerow_anyL HM2.o.rw_ HM'2.out.rw_ HRR.o);obtain ⟨bb,eR⟩:∃ b,decide (y.row=z.row)=b:=⟨_,rfl⟩;rw [eR] at HCL;go_wp2_with fail;refine HCL.o.mono ?_;rintro e w3 ⟨rfl,hb⟩;have HM3:=zH (HM2.o.later hb);have HM'3:=zH (HM'2.out.later hb);have HY3:=zH ((hb.block L (aAb HY2.o)).trans HY2.o);have HZ3:=zH ((hb.block (L+1) (aAb HZ2.o)).trans HZ2.o);have HW3:Hid (Below L w w3):=HW2.o.trans (hb.mono (by have:=aAb HY2.o;omega));clear hb HCL y5 y6 y7 y8 y9 y10 y11 y12 y13 y14 y15 y16 z5 z6 z7 z8 z9 z10 z11 z12 z13 z14 z15 z16;have y6:w3.cell? ⟨L,6,none⟩=some (.int .i64 y.key.1):=aAa HY3.o;have y7:w3.cell? ⟨L,7,none⟩=some (.int .i64 y.key.2.1):=aAa HY3.o;have y8:w3.cell? ⟨L,8,none⟩=some (.string y.key.2.2):=aAa HY3.o;have y9:w3.cell? ⟨L,9,none⟩=some (.int .i64 y.col):=aAa HY3.o;have y10:w3.cell? ⟨L,10,none⟩=some (.int .i64 y.lo.1):=aAa HY3.o;have y11:w3.cell? ⟨L,11,none⟩=some (.int .i64 y.lo.2.1):=aAa HY3.o;have y12:w3.cell? ⟨L,12,none⟩=some (.string y.lo.2.2):=aAa HY3.o;have y13:w3.cell? ⟨L,13,none⟩=some (.int .i64 y.hi.1):=aAa HY3.o;have y14:w3.cell? ⟨L,14,none⟩=some (.int .i64 y.hi.2.1):=aAa HY3.o;have y15:w3.cell? ⟨L,15,none⟩=some (.string y.hi.2.2):=aAa HY3.o;have y16:w3.cell? ⟨L,16,none⟩=some (.int .i64 y.lim):=aAa HY3.o;have z6:w3.cell? ⟨(L+1),6,none⟩=some (.int .i64 z.key.1):=aAa HZ3.o;have z7:w3.cell? ⟨(L+1),7,none⟩=some (.int .i64 z.key.2.1):=aAa HZ3.o;have z8:w3.cell? ⟨(L+1),8,none⟩=some (.string z.key.2.2):=aAa HZ3.o;have z9:w3.cell? ⟨(L+1),9,none⟩=some (.int .i64 z.col):=aAa HZ3.o;have z10:w3.cell? ⟨(L+1),10,none⟩=some (.int .i64 z.lo.1):=aAa HZ3.o;have z11:w3.cell? ⟨(L+1),11,none⟩=some (.int .i64 z.lo.2.1):=aAa HZ3.o;have z12:w3.cell? ⟨(L+1),12,none⟩=some (.string z.lo.2.2):=aAa HZ3.o;have z13:w3.cell? ⟨(L+1),13,none⟩=some (.int .i64 z.hi.1):=aAa HZ3.o;have z14:w3.cell? ⟨(L+1),14,none⟩=some (.int .i64 z.hi.2.1):=aAa HZ3.o;have z15:w3.cell? ⟨(L+1),15,none⟩=some (.string z.hi.2.2):=aAa HZ3.o;have z16:w3.cell? ⟨(L+1),16,none⟩=some (.int .i64 z.lim):=aAa HZ3.o
   cases bb with
   | false =>
    have HN:Hid (onlyB y z=false):=by
     show _=_;unfold onlyB veq;rw [eR];simp only [Bool.false_and,Bool.and_false]
    go_wp2;go_ret;exact ⟨by rw [HN.o];rfl,HW3.o⟩
   | true =>
    cases ek1:(y.key.1 == z.key.1) with
    | false =>
     have HN:Hid (onlyB y z=false):=by
      show _=_;unfold onlyB veq;rw [ek1];simp only [Bool.false_and,Bool.and_false]
     go_wp2;go_ret;exact ⟨by rw [HN.o];rfl,HW3.o⟩
    | true =>
     cases ek2:(y.key.2.1 == z.key.2.1) with
     | false =>
      have HN:Hid (onlyB y z=false):=by
       show _=_;unfold onlyB veq;rw [ek2];simp only [Bool.false_and,Bool.and_false]
      go_wp2;go_ret;exact ⟨by rw [HN.o];rfl,HW3.o⟩
     | true =>
      cases ek3:(y.key.2.2.toList == z.key.2.2.toList) with
      | false =>
       have HN:Hid (onlyB y z=false):=by
        show _=_;unfold onlyB veq;rw [ek3];simp only [Bool.false_and,Bool.and_false]
       go_wp2;go_ret;exact ⟨by rw [HN.o];rfl,HW3.o⟩
      | true =>
       cases ec:(y.col == z.col) with
       | false =>
        have HN:Hid (onlyB y z=false):=by
         show _=_;unfold onlyB veq;rw [ec];simp only [Bool.false_and,Bool.and_false]
        go_wp2;go_ret;exact ⟨by rw [HN.o];rfl,HW3.o⟩
       | true =>
        cases el1:(y.lo.1 == z.lo.1) with
        | false =>
         have HN:Hid (onlyB y z=false):=by
          show _=_;unfold onlyB veq;rw [el1];simp only [Bool.false_and,Bool.and_false]
         go_wp2;go_ret;exact ⟨by rw [HN.o];rfl,HW3.o⟩
        | true =>
         cases el2:(y.lo.2.1 == z.lo.2.1) with
         | false =>
          have HN:Hid (onlyB y z=false):=by
           show _=_;unfold onlyB veq;rw [el2];simp only [Bool.false_and,Bool.and_false]
          go_wp2;go_ret;exact ⟨by rw [HN.o];rfl,HW3.o⟩
         | true =>
          cases el3:(y.lo.2.2.toList == z.lo.2.2.toList) with
          | false =>
           have HN:Hid (onlyB y z=false):=by
            show _=_;unfold onlyB veq;rw [el3];simp only [Bool.false_and,Bool.and_false]
           go_wp2;go_ret;exact ⟨by rw [HN.o];rfl,HW3.o⟩
          | true =>
           cases eh1:(y.hi.1 == z.hi.1) with
           | false =>
            have HN:Hid (onlyB y z=false):=by
             show _=_;unfold onlyB veq;rw [eh1];simp only [Bool.false_and,Bool.and_false]
            go_wp2;go_ret;exact ⟨by rw [HN.o];rfl,HW3.o⟩
           | true =>
            cases eh2:(y.hi.2.1 == z.hi.2.1) with
            | false =>
             have HN:Hid (onlyB y z=false):=by
              show _=_;unfold onlyB veq;rw [eh2];simp only [Bool.false_and,Bool.and_false]
             go_wp2;go_ret;exact ⟨by rw [HN.o];rfl,HW3.o⟩
            | true =>
             cases eh3:(y.hi.2.2.toList == z.hi.2.2.toList) with
             | false =>
              have HN:Hid (onlyB y z=false):=by
               show _=_;unfold onlyB veq;rw [eh3];simp only [Bool.false_and,Bool.and_false]
              go_wp2;go_ret;exact ⟨by rw [HN.o];rfl,HW3.o⟩
             | true =>
              cases em:(y.lim == z.lim) with
              | false =>
               have HN:Hid (onlyB y z=false):=by
                show _=_;unfold onlyB veq;rw [em];simp only [Bool.and_false]
               go_wp2;go_ret;exact ⟨by rw [HN.o];rfl,HW3.o⟩
              | true =>
               have HN:Hid (onlyB y z=true):=by
                show _=_;unfold onlyB veq;rw [enm,eS,eR,ek1,ek2,ek3,ec,el1,el2,el3,eh1,eh2,eh3,em];rfl
               go_wp2;go_ret;exact ⟨by rw [HN.o];rfl,HW3.o⟩
def spanB (y:OpV):Bool:=decide (0<=y.col) && (decide (y.col<3) && (rowRt [y.lo,y.hi] && (decide (1<=y.lim) && decide (y.lim<=4))))
def opRt (y:OpV):Bool :=
 if y.kind=1 then y.s.ok && onlyB y (prS y) else if y.kind=2\/y.kind=3 then isNm y.nm && (rowRt y.row && onlyB y (prR y)) else if y.kind=4\/y.kind=5 then isNm y.nm && (rowRt [y.key] && onlyB y (prK y)) else if y.kind=6 then isNm y.nm && (spanB y && onlyB y (prX y)) else false
structure OpZ (y:OpV):Prop where
 row:∀ x∈y.row,x.2.2.size<=1048576
 key:y.key.2.2.size<=1048576
 lo:y.lo.2.2.size<=1048576
 hi:y.hi.2.2.size<=1048576
theorem OpP.z (h:OpP w y):OpZ y:=⟨fun x hx=>(h.rp x hx).2,h.key.2,h.lo.2,h.hi.2⟩
theorem sv_one (w:World) (v:Val):SV fV 3 (w.alloc (.cells #[.int .i64 v.1,.int .i64 v.2.1,.string v.2.2] 73)) (some ⟨w.heap.size,0,none⟩) 1 1 [v]:=SV.whole aDa rfl (by omega) (boxed w _)
theorem sv_two (w:World) (u v:Val):SV fV 3 (w.alloc (.cells #[.int .i64 u.1,.int .i64 u.2.1,.string u.2.2,.int .i64 v.1,.int .i64 v.2.1,.string v.2.2] 73)) (some ⟨w.heap.size,0,none⟩) 2 2 [u,v]:=SV.whole aDa rfl (by omega) (boxed w _)
theorem isspan_any (h:OpM w y) (hz:OpZ y):Calls prog 102 #[.agg #[.int .i64 y.kind,.string y.nm,.string y.s.nm,.slice y.ca y.cl y.cc,.slice y.xa y.xl y.xc,.slice y.ra y.rl y.rc,.int .i64 y.key.1,.int .i64 y.key.2.1,.string y.key.2.2,.int .i64 y.col,.int .i64 y.lo.1,.int .i64 y.lo.2.1,.string y.lo.2.2,.int .i64 y.hi.1,.int .i64 y.hi.2.1,.string y.hi.2.2,.int .i64 y.lim]] w fun e w'=>e=.returned (.bool (spanB y))/\Below w.heap.size w w':=by
 have hbx:=aAc w (.cells #[.int .i64 y.kind,.string y.nm,.string y.s.nm,.slice y.ca y.cl y.cc,.slice y.xa y.xl y.xc,.slice y.ra y.rl y.rc,.int .i64 y.key.1,.int .i64 y.key.2.1,.string y.key.2.2,.int .i64 y.col,.int .i64 y.lo.1,.int .i64 y.lo.2.1,.string y.lo.2.2,.int .i64 y.hi.1,.int .i64 y.hi.2.1,.string y.hi.2.2,.int .i64 y.lim] 75);have HR1:Hid ((w.alloc (.cells #[.int .i64 y.kind,.string y.nm,.string y.s.nm,.slice y.ca y.cl y.cc,.slice y.xa y.xl y.xc,.slice y.ra y.rl y.rc,.int .i64 y.key.1,.int .i64 y.key.2.1,.string y.key.2.2,.int .i64 y.col,.int .i64 y.lo.1,.int .i64 y.lo.2.1,.string y.lo.2.2,.int .i64 y.hi.1,.int .i64 y.hi.2.1,.string y.hi.2.2,.int .i64 y.lim] 75)).heap[w.heap.size]?=some (.cells #[.int .i64 y.kind,.string y.nm,.string y.s.nm,.slice y.ca y.cl y.cc,.slice y.xa y.xl y.xc,.slice y.ra y.rl y.rc,.int .i64 y.key.1,.int .i64 y.key.2.1,.string y.key.2.2,.int .i64 y.col,.int .i64 y.lo.1,.int .i64 y.lo.2.1,.string y.lo.2.2,.int .i64 y.hi.1,.int .i64 y.hi.2.1,.string y.hi.2.2,.int .i64 y.lim] 75 (0,0))):=boxed w _;have HW1:=zH hbx;have HM1:=zH (h.later hbx);have HZ:=zH hz;clear hbx h hz;go_enter func102,ntmps102;go_upto_region 1 with fail;generalize w.alloc (.cells #[.int .i64 y.kind,.string y.nm,.string y.s.nm,.slice y.ca y.cl y.cc,.slice y.xa y.xl y.xc,.slice y.ra y.rl y.rc,.int .i64 y.key.1,.int .i64 y.key.2.1,.string y.key.2.2,.int .i64 y.col,.int .i64 y.lo.1,.int .i64 y.lo.2.1,.string y.lo.2.2,.int .i64 y.hi.1,.int .i64 y.hi.2.1,.string y.hi.2.2,.int .i64 y.lim] 75)=w1 at *
 generalize hL:w.heap.size=L at *
 have y9:w1.cell? ⟨L,9,none⟩=some (.int .i64 y.col):=aAa HR1.o;have y10:w1.cell? ⟨L,10,none⟩=some (.int .i64 y.lo.1):=aAa HR1.o;have y11:w1.cell? ⟨L,11,none⟩=some (.int .i64 y.lo.2.1):=aAa HR1.o;have y12:w1.cell? ⟨L,12,none⟩=some (.string y.lo.2.2):=aAa HR1.o;have y13:w1.cell? ⟨L,13,none⟩=some (.int .i64 y.hi.1):=aAa HR1.o;have y14:w1.cell? ⟨L,14,none⟩=some (.int .i64 y.hi.2.1):=aAa HR1.o;have y15:w1.cell? ⟨L,15,none⟩=some (.string y.hi.2.2):=aAa HR1.o;have y16:w1.cell? ⟨L,16,none⟩=some (.int .i64 y.lim):=aAa HR1.o;by_cases c0:0<=y.col
 ·by_cases c3:y.col<3
  ·have hc0:=zH c0;have hc3:=zH c3;have hb:=aAc w1 (.cells #[.int .i64 y.lo.1,.int .i64 y.lo.2.1,.string y.lo.2.2,.int .i64 y.hi.1,.int .i64 y.hi.2.1,.string y.hi.2.2] 73);have HM2:=zH (HM1.o.later hb);have HR2:=zH ((hb.block L (aAb HR1.o)).trans HR1.o);have HW2:Hid (Below L w (w1.alloc (.cells #[.int .i64 y.lo.1,.int .i64 y.lo.2.1,.string y.lo.2.2,.int .i64 y.hi.1,.int .i64 y.hi.2.1,.string y.hi.2.2] 73))):=HW1.o.trans (hb.mono (by have:=aAb HR1.o;omega));have HS2:=zH (sv_two w1 y.lo y.hi);clear hb
   have HCL:=zH (aBj HS2.o (by
    intro x hx;simp only [List.mem_cons,List.not_mem_nil,or_false] at hx;rcases hx with rfl | rfl
    ·exact HZ.o.lo
    ·exact HZ.o.hi))
   obtain ⟨bb,eb⟩:∃ b,rowRt [y.lo,y.hi]=b:=⟨_,rfl⟩;rw [eb] at HCL;go_wp2_with fail;refine HCL.o.mono ?_;rintro e w3 ⟨rfl,hb⟩;have HR3:=zH ((hb.block L (aAb HR2.o)).trans HR2.o);have HW3:Hid (Below L w w3):=HW2.o.trans (hb.mono (by have:=aAb HR2.o;omega));clear hb HCL y9 y10 y11 y12 y13 y14 y15 y16;have y16:w3.cell? ⟨L,16,none⟩=some (.int .i64 y.lim):=aAa HR3.o
   cases bb with
   | false =>
    have HN:Hid (spanB y=false):=by
     show _=_;unfold spanB;simp [eb]
    go_wp2;go_ret;exact ⟨by rw [HN.o];rfl,by first | exact HW3.o | (rw [hL];exact HW3.o)⟩
   | true =>
    by_cases m1:1<=y.lim
    ·by_cases m4:y.lim<=4
     ·have HN:Hid (spanB y=true):=by
       show _=_;unfold spanB;simp [eb,m1,m4,hc0.out,hc3.out]
      have hm:=zH m4;go_wp2;go_ret;exact ⟨by rw [HN.o];rfl,by first | exact HW3.o | (rw [hL];exact HW3.o)⟩
     ·have hm:=zH m4;have HN:Hid (spanB y=false):=by
       show _=_;unfold spanB;simp [hm.out]
      go_wp2;go_ret;exact ⟨by rw [HN.o,decide_eq_false (show ¬ y.lim<=4 by have:=hm.out;omega)];rfl,by first | exact HW3.o | (rw [hL];exact HW3.o)⟩
    ·have hm:=zH m1;have HN:Hid (spanB y=false):=by
      show _=_;unfold spanB;simp [hm.out]
     go_wp2;go_ret;exact ⟨by rw [HN.o];rfl,by first | exact HW3.o | (rw [hL];exact HW3.o)⟩
  ·have hm:=zH c3;have HN:Hid (spanB y=false):=by
    show _=_;unfold spanB;simp [hm.out]
   go_wp2;go_ret;exact ⟨by rw [HN.o];rfl,by first | exact HW1.o | (rw [hL];exact HW1.o)⟩
 ·have hm:=zH c0;have HN:Hid (spanB y=false):=by
   show _=_;unfold spanB;simp [hm.out]
  go_wp2;go_ret;exact ⟨by rw [HN.o];rfl,by first | exact HW1.o | (rw [hL];exact HW1.o)⟩
theorem isright_one (h:OpM w y) (hz:OpZ y) (hk:y.kind=1):Calls prog 80 #[.agg #[.int .i64 y.kind,.string y.nm,.string y.s.nm,.slice y.ca y.cl y.cc,.slice y.xa y.xl y.xc,.slice y.ra y.rl y.rc,.int .i64 y.key.1,.int .i64 y.key.2.1,.string y.key.2.2,.int .i64 y.col,.int .i64 y.lo.1,.int .i64 y.lo.2.1,.string y.lo.2.2,.int .i64 y.hi.1,.int .i64 y.hi.2.1,.string y.hi.2.2,.int .i64 y.lim]] w fun e w'=>e=.returned (.bool (opRt y))/\Below w.heap.size w w':=by
 have ek1:(y.kind == 1)=true:=by rw [hk];rfl
 have HU:Hid (opRt y=(y.s.ok && onlyB y (prS y))):=by
  show _=_;unfold opRt;rw [if_pos hk]
 clear hk;have hbx:=aAc w (.cells #[.int .i64 y.kind,.string y.nm,.string y.s.nm,.slice y.ca y.cl y.cc,.slice y.xa y.xl y.xc,.slice y.ra y.rl y.rc,.int .i64 y.key.1,.int .i64 y.key.2.1,.string y.key.2.2,.int .i64 y.col,.int .i64 y.lo.1,.int .i64 y.lo.2.1,.string y.lo.2.2,.int .i64 y.hi.1,.int .i64 y.hi.2.1,.string y.hi.2.2,.int .i64 y.lim] 75);have HR1:Hid ((w.alloc (.cells #[.int .i64 y.kind,.string y.nm,.string y.s.nm,.slice y.ca y.cl y.cc,.slice y.xa y.xl y.xc,.slice y.ra y.rl y.rc,.int .i64 y.key.1,.int .i64 y.key.2.1,.string y.key.2.2,.int .i64 y.col,.int .i64 y.lo.1,.int .i64 y.lo.2.1,.string y.lo.2.2,.int .i64 y.hi.1,.int .i64 y.hi.2.1,.string y.hi.2.2,.int .i64 y.lim] 75)).heap[w.heap.size]?=some (.cells #[.int .i64 y.kind,.string y.nm,.string y.s.nm,.slice y.ca y.cl y.cc,.slice y.xa y.xl y.xc,.slice y.ra y.rl y.rc,.int .i64 y.key.1,.int .i64 y.key.2.1,.string y.key.2.2,.int .i64 y.col,.int .i64 y.lo.1,.int .i64 y.lo.2.1,.string y.lo.2.2,.int .i64 y.hi.1,.int .i64 y.hi.2.1,.string y.hi.2.2,.int .i64 y.lim] 75 (0,0))):=boxed w _;have HW1:=zH hbx;have HM1:=zH (h.later hbx);have HZ:=zH hz;clear hbx h hz;go_enter func80,ntmps80;go_upto_region 1 with fail;generalize w.alloc (.cells #[.int .i64 y.kind,.string y.nm,.string y.s.nm,.slice y.ca y.cl y.cc,.slice y.xa y.xl y.xc,.slice y.ra y.rl y.rc,.int .i64 y.key.1,.int .i64 y.key.2.1,.string y.key.2.2,.int .i64 y.col,.int .i64 y.lo.1,.int .i64 y.lo.2.1,.string y.lo.2.2,.int .i64 y.hi.1,.int .i64 y.hi.2.1,.string y.hi.2.2,.int .i64 y.lim] 75)=w1 at *
 generalize hL:w.heap.size=L at *
 have y0:w1.cell? ⟨L,0,none⟩=some (.int .i64 y.kind):=aAa HR1.o;have y1:w1.cell? ⟨L,1,none⟩=some (.string y.nm):=aAa HR1.o;have y2:w1.cell? ⟨L,2,none⟩=some (.string y.s.nm):=aAa HR1.o;have y3:w1.cell? ⟨L,3,none⟩=some (.slice y.ca y.cl y.cc):=aAa HR1.o;have y4:w1.cell? ⟨L,4,none⟩=some (.slice y.xa y.xl y.xc):=aAa HR1.o;have y5:w1.cell? ⟨L,5,none⟩=some (.slice y.ra y.rl y.rc):=aAa HR1.o;have y6:w1.cell? ⟨L,6,none⟩=some (.int .i64 y.key.1):=aAa HR1.o;have y7:w1.cell? ⟨L,7,none⟩=some (.int .i64 y.key.2.1):=aAa HR1.o;have y8:w1.cell? ⟨L,8,none⟩=some (.string y.key.2.2):=aAa HR1.o;have y9:w1.cell? ⟨L,9,none⟩=some (.int .i64 y.col):=aAa HR1.o;have y10:w1.cell? ⟨L,10,none⟩=some (.int .i64 y.lo.1):=aAa HR1.o;have y11:w1.cell? ⟨L,11,none⟩=some (.int .i64 y.lo.2.1):=aAa HR1.o;have y12:w1.cell? ⟨L,12,none⟩=some (.string y.lo.2.2):=aAa HR1.o;have y13:w1.cell? ⟨L,13,none⟩=some (.int .i64 y.hi.1):=aAa HR1.o;have y14:w1.cell? ⟨L,14,none⟩=some (.int .i64 y.hi.2.1):=aAa HR1.o;have y15:w1.cell? ⟨L,15,none⟩=some (.string y.hi.2.2):=aAa HR1.o;have y16:w1.cell? ⟨L,16,none⟩=some (.int .i64 y.lim):=aAa HR1.o;obtain ⟨bb,eb⟩:∃ b,y.s.ok=b:=⟨_,rfl⟩;have HE:Hid (y.s.err=if bb=true then 0 else 61):=by show _=_;unfold Sch.err;rw [eb]
 have HCL:=zH (aD0 HM1.o.sc);rw [HE.o] at HCL;go_wp2_with fail;refine HCL.o.mono ?_;rintro e w2 ⟨rfl,hb⟩;have HM2:=zH (HM1.o.later hb);have HR2:=zH ((hb.block L (aAb HR1.o)).trans HR1.o);have HW2:Hid (Below L w w2):=HW1.o.trans (hb.mono (by have:=aAb HR1.o;omega));clear hb HCL y0 y1 y2 y3 y4 y5 y6 y7 y8 y9 y10 y11 y12 y13 y14 y15 y16;have y0:w2.cell? ⟨L,0,none⟩=some (.int .i64 y.kind):=aAa HR2.o;have y1:w2.cell? ⟨L,1,none⟩=some (.string y.nm):=aAa HR2.o;have y2:w2.cell? ⟨L,2,none⟩=some (.string y.s.nm):=aAa HR2.o;have y3:w2.cell? ⟨L,3,none⟩=some (.slice y.ca y.cl y.cc):=aAa HR2.o;have y4:w2.cell? ⟨L,4,none⟩=some (.slice y.xa y.xl y.xc):=aAa HR2.o;have y5:w2.cell? ⟨L,5,none⟩=some (.slice y.ra y.rl y.rc):=aAa HR2.o;have y6:w2.cell? ⟨L,6,none⟩=some (.int .i64 y.key.1):=aAa HR2.o;have y7:w2.cell? ⟨L,7,none⟩=some (.int .i64 y.key.2.1):=aAa HR2.o;have y8:w2.cell? ⟨L,8,none⟩=some (.string y.key.2.2):=aAa HR2.o;have y9:w2.cell? ⟨L,9,none⟩=some (.int .i64 y.col):=aAa HR2.o;have y10:w2.cell? ⟨L,10,none⟩=some (.int .i64 y.lo.1):=aAa HR2.o;have y11:w2.cell? ⟨L,11,none⟩=some (.int .i64 y.lo.2.1):=aAa HR2.o;have y12:w2.cell? ⟨L,12,none⟩=some (.string y.lo.2.2):=aAa HR2.o;have y13:w2.cell? ⟨L,13,none⟩=some (.int .i64 y.hi.1):=aAa HR2.o;have y14:w2.cell? ⟨L,14,none⟩=some (.int .i64 y.hi.2.1):=aAa HR2.o;have y15:w2.cell? ⟨L,15,none⟩=some (.string y.hi.2.2):=aAa HR2.o;have y16:w2.cell? ⟨L,16,none⟩=some (.int .i64 y.lim):=aAa HR2.o
 cases bb with
 | false =>
  rw [if_neg (by decide)];have HN:Hid (opRt y=false):=by
   show _=_;rw [HU.o,eb];rfl
  go_wp2;go_ret;exact ⟨by rw [HN.o];rfl,by first | exact HW2.o | (rw [hL];exact HW2.o)⟩
 | true =>
  rw [if_pos rfl];have HPP:=zH (Sch.parts eb);have HLC:Hid (y.cl<=3/\y.xl<=3):=⟨by have:=HM2.o.sc.c.hl;have:=HPP.o.2.1;omega,by have:=HM2.o.sc.x.hl;have:=HPP.o.2.2.1;omega⟩;have HCL:=zH (aBd HM2.o HM2.o.prS (fun _=>by have:=HLC.o.1;omega) (fun _=>by have:=HLC.o.2;omega) (fun q=>by have:y.rl=0:=q;omega));obtain ⟨b9,e9⟩:∃ b,onlyB y (prS y)=b:=⟨_,rfl⟩;rw [e9] at HCL;have HN:Hid (opRt y=b9):=by
   show _=_;rw [HU.o,eb,e9];rfl
  go_wp2_with fail;refine HCL.o.mono ?_;rintro e w3 ⟨rfl,hb⟩;have HW3:Hid (Below L w w3):=HW2.o.trans (hb.mono (by have:=aAb HR2.o;omega));clear hb HCL
  cases b9 with
  | false =>
   go_wp2;go_ret;exact ⟨by rw [HN.o];rfl,by first | exact HW3.o | (rw [hL];exact HW3.o)⟩
  | true =>
   go_wp2;go_ret;exact ⟨by rw [HN.o];rfl,by first | exact HW3.o | (rw [hL];exact HW3.o)⟩
theorem isright_two (h:OpM w y) (hz:OpZ y) (hk:y.kind=2):Calls prog 80 #[.agg #[.int .i64 y.kind,.string y.nm,.string y.s.nm,.slice y.ca y.cl y.cc,.slice y.xa y.xl y.xc,.slice y.ra y.rl y.rc,.int .i64 y.key.1,.int .i64 y.key.2.1,.string y.key.2.2,.int .i64 y.col,.int .i64 y.lo.1,.int .i64 y.lo.2.1,.string y.lo.2.2,.int .i64 y.hi.1,.int .i64 y.hi.2.1,.string y.hi.2.2,.int .i64 y.lim]] w fun e w'=>e=.returned (.bool (opRt y))/\Below w.heap.size w w':=by
 have ek1:(y.kind == 1)=false:=by rw [hk];rfl
 have ek2:(y.kind == 2)=true:=by rw [hk];rfl
 have HU:Hid (opRt y=(isNm y.nm && (rowRt y.row && onlyB y (prR y)))):=by
  show _=_;unfold opRt;rw [if_neg (by omega),if_pos (by omega)]
 clear hk;have hbx:=aAc w (.cells #[.int .i64 y.kind,.string y.nm,.string y.s.nm,.slice y.ca y.cl y.cc,.slice y.xa y.xl y.xc,.slice y.ra y.rl y.rc,.int .i64 y.key.1,.int .i64 y.key.2.1,.string y.key.2.2,.int .i64 y.col,.int .i64 y.lo.1,.int .i64 y.lo.2.1,.string y.lo.2.2,.int .i64 y.hi.1,.int .i64 y.hi.2.1,.string y.hi.2.2,.int .i64 y.lim] 75);have HR1:Hid ((w.alloc (.cells #[.int .i64 y.kind,.string y.nm,.string y.s.nm,.slice y.ca y.cl y.cc,.slice y.xa y.xl y.xc,.slice y.ra y.rl y.rc,.int .i64 y.key.1,.int .i64 y.key.2.1,.string y.key.2.2,.int .i64 y.col,.int .i64 y.lo.1,.int .i64 y.lo.2.1,.string y.lo.2.2,.int .i64 y.hi.1,.int .i64 y.hi.2.1,.string y.hi.2.2,.int .i64 y.lim] 75)).heap[w.heap.size]?=some (.cells #[.int .i64 y.kind,.string y.nm,.string y.s.nm,.slice y.ca y.cl y.cc,.slice y.xa y.xl y.xc,.slice y.ra y.rl y.rc,.int .i64 y.key.1,.int .i64 y.key.2.1,.string y.key.2.2,.int .i64 y.col,.int .i64 y.lo.1,.int .i64 y.lo.2.1,.string y.lo.2.2,.int .i64 y.hi.1,.int .i64 y.hi.2.1,.string y.hi.2.2,.int .i64 y.lim] 75 (0,0))):=boxed w _;have HW1:=zH hbx;have HM1:=zH (h.later hbx);have HZ:=zH hz;clear hbx h hz;go_enter func80,ntmps80;go_upto_region 1 with fail;generalize w.alloc (.cells #[.int .i64 y.kind,.string y.nm,.string y.s.nm,.slice y.ca y.cl y.cc,.slice y.xa y.xl y.xc,.slice y.ra y.rl y.rc,.int .i64 y.key.1,.int .i64 y.key.2.1,.string y.key.2.2,.int .i64 y.col,.int .i64 y.lo.1,.int .i64 y.lo.2.1,.string y.lo.2.2,.int .i64 y.hi.1,.int .i64 y.hi.2.1,.string y.hi.2.2,.int .i64 y.lim] 75)=w1 at *
 generalize hL:w.heap.size=L at *
 have y0:w1.cell? ⟨L,0,none⟩=some (.int .i64 y.kind):=aAa HR1.o;have y1:w1.cell? ⟨L,1,none⟩=some (.string y.nm):=aAa HR1.o;have y2:w1.cell? ⟨L,2,none⟩=some (.string y.s.nm):=aAa HR1.o;have y3:w1.cell? ⟨L,3,none⟩=some (.slice y.ca y.cl y.cc):=aAa HR1.o;have y4:w1.cell? ⟨L,4,none⟩=some (.slice y.xa y.xl y.xc):=aAa HR1.o;have y5:w1.cell? ⟨L,5,none⟩=some (.slice y.ra y.rl y.rc):=aAa HR1.o;have y6:w1.cell? ⟨L,6,none⟩=some (.int .i64 y.key.1):=aAa HR1.o;have y7:w1.cell? ⟨L,7,none⟩=some (.int .i64 y.key.2.1):=aAa HR1.o;have y8:w1.cell? ⟨L,8,none⟩=some (.string y.key.2.2):=aAa HR1.o;have y9:w1.cell? ⟨L,9,none⟩=some (.int .i64 y.col):=aAa HR1.o;have y10:w1.cell? ⟨L,10,none⟩=some (.int .i64 y.lo.1):=aAa HR1.o;have y11:w1.cell? ⟨L,11,none⟩=some (.int .i64 y.lo.2.1):=aAa HR1.o;have y12:w1.cell? ⟨L,12,none⟩=some (.string y.lo.2.2):=aAa HR1.o;have y13:w1.cell? ⟨L,13,none⟩=some (.int .i64 y.hi.1):=aAa HR1.o;have y14:w1.cell? ⟨L,14,none⟩=some (.int .i64 y.hi.2.1):=aAa HR1.o;have y15:w1.cell? ⟨L,15,none⟩=some (.string y.hi.2.2):=aAa HR1.o;have y16:w1.cell? ⟨L,16,none⟩=some (.int .i64 y.lim):=aAa HR1.o;obtain ⟨bb,eb⟩:∃ b,isNm y.nm=b:=⟨_,rfl⟩;have HCL:=zH (aCa y.nm w1);rw [eb] at HCL;go_wp2_with fail;refine HCL.o.mono ?_;rintro e w2 ⟨rfl,hb⟩;have HM2:=zH (HM1.o.later hb);have HR2:=zH ((hb.block L (aAb HR1.o)).trans HR1.o);have HW2:Hid (Below L w w2):=HW1.o.trans (hb.mono (by have:=aAb HR1.o;omega));clear hb HCL y0 y1 y2 y3 y4 y5 y6 y7 y8 y9 y10 y11 y12 y13 y14 y15 y16;have y0:w2.cell? ⟨L,0,none⟩=some (.int .i64 y.kind):=aAa HR2.o;have y1:w2.cell? ⟨L,1,none⟩=some (.string y.nm):=aAa HR2.o;have y2:w2.cell? ⟨L,2,none⟩=some (.string y.s.nm):=aAa HR2.o;have y3:w2.cell? ⟨L,3,none⟩=some (.slice y.ca y.cl y.cc):=aAa HR2.o;have y4:w2.cell? ⟨L,4,none⟩=some (.slice y.xa y.xl y.xc):=aAa HR2.o;have y5:w2.cell? ⟨L,5,none⟩=some (.slice y.ra y.rl y.rc):=aAa HR2.o;have y6:w2.cell? ⟨L,6,none⟩=some (.int .i64 y.key.1):=aAa HR2.o;have y7:w2.cell? ⟨L,7,none⟩=some (.int .i64 y.key.2.1):=aAa HR2.o;have y8:w2.cell? ⟨L,8,none⟩=some (.string y.key.2.2):=aAa HR2.o;have y9:w2.cell? ⟨L,9,none⟩=some (.int .i64 y.col):=aAa HR2.o;have y10:w2.cell? ⟨L,10,none⟩=some (.int .i64 y.lo.1):=aAa HR2.o;have y11:w2.cell? ⟨L,11,none⟩=some (.int .i64 y.lo.2.1):=aAa HR2.o;have y12:w2.cell? ⟨L,12,none⟩=some (.string y.lo.2.2):=aAa HR2.o;have y13:w2.cell? ⟨L,13,none⟩=some (.int .i64 y.hi.1):=aAa HR2.o;have y14:w2.cell? ⟨L,14,none⟩=some (.int .i64 y.hi.2.1):=aAa HR2.o;have y15:w2.cell? ⟨L,15,none⟩=some (.string y.hi.2.2):=aAa HR2.o;have y16:w2.cell? ⟨L,16,none⟩=some (.int .i64 y.lim):=aAa HR2.o
 cases bb with
 | false =>
  have HN:Hid (opRt y=false):=by
   show _=_;rw [HU.o,eb];rfl
  go_wp2;go_ret;exact ⟨by rw [HN.o];rfl,by first | exact HW2.o | (rw [hL];exact HW2.o)⟩
 | true =>
  obtain ⟨b2,e2⟩:∃ b,rowRt y.row=b:=⟨_,rfl⟩;have HCL:=zH (aBj HM2.o.rw_ HZ.o.row);rw [e2] at HCL;go_wp2_with fail;refine HCL.o.mono ?_;rintro e w4 ⟨rfl,hb⟩;have HM4:=zH (HM2.o.later hb);have HR4:=zH ((hb.block L (aAb HR2.o)).trans HR2.o);have HW4:Hid (Below L w w4):=HW2.o.trans (hb.mono (by have:=aAb HR2.o;omega));clear hb HCL y0 y1 y2 y3 y4 y5 y6 y7 y8 y9 y10 y11 y12 y13 y14 y15 y16;have y0:w4.cell? ⟨L,0,none⟩=some (.int .i64 y.kind):=aAa HR4.o;have y1:w4.cell? ⟨L,1,none⟩=some (.string y.nm):=aAa HR4.o;have y2:w4.cell? ⟨L,2,none⟩=some (.string y.s.nm):=aAa HR4.o;have y3:w4.cell? ⟨L,3,none⟩=some (.slice y.ca y.cl y.cc):=aAa HR4.o;have y4:w4.cell? ⟨L,4,none⟩=some (.slice y.xa y.xl y.xc):=aAa HR4.o;have y5:w4.cell? ⟨L,5,none⟩=some (.slice y.ra y.rl y.rc):=aAa HR4.o;have y6:w4.cell? ⟨L,6,none⟩=some (.int .i64 y.key.1):=aAa HR4.o;have y7:w4.cell? ⟨L,7,none⟩=some (.int .i64 y.key.2.1):=aAa HR4.o;have y8:w4.cell? ⟨L,8,none⟩=some (.string y.key.2.2):=aAa HR4.o;have y9:w4.cell? ⟨L,9,none⟩=some (.int .i64 y.col):=aAa HR4.o;have y10:w4.cell? ⟨L,10,none⟩=some (.int .i64 y.lo.1):=aAa HR4.o;have y11:w4.cell? ⟨L,11,none⟩=some (.int .i64 y.lo.2.1):=aAa HR4.o;have y12:w4.cell? ⟨L,12,none⟩=some (.string y.lo.2.2):=aAa HR4.o;have y13:w4.cell? ⟨L,13,none⟩=some (.int .i64 y.hi.1):=aAa HR4.o;have y14:w4.cell? ⟨L,14,none⟩=some (.int .i64 y.hi.2.1):=aAa HR4.o;have y15:w4.cell? ⟨L,15,none⟩=some (.string y.hi.2.2):=aAa HR4.o;have y16:w4.cell? ⟨L,16,none⟩=some (.int .i64 y.lim):=aAa HR4.o
  cases b2 with
  | false =>
   have HN:Hid (opRt y=false):=by
    show _=_;rw [HU.o,eb,e2];rfl
   go_wp2;go_ret;exact ⟨by rw [HN.o];rfl,by first | exact HW4.o | (rw [hL];exact HW4.o)⟩
  | true =>
   have HLR:Hid (y.rl<=3):=by show _<=_;have h1:=HM4.o.rw_.hl;rw [aC1,Bool.and_eq_true,decide_eq_true_eq] at e2;omega
   have HCL:=zH (aBd HM4.o HM4.o.prR (fun q=>by have:y.cl=0:=q;omega) (fun q=>by have:y.xl=0:=q;omega) (fun _=>by have:=HLR.o;omega));obtain ⟨b9,e9⟩:∃ b,onlyB y (prR y)=b:=⟨_,rfl⟩;rw [e9] at HCL;have HN:Hid (opRt y=b9):=by
    show _=_;rw [HU.o,eb,e2,e9];rfl
   go_wp2_with fail;refine HCL.o.mono ?_;rintro e w5 ⟨rfl,hb⟩;have HW5:Hid (Below L w w5):=HW4.o.trans (hb.mono (by have:=aAb HR4.o;omega));clear hb HCL
   cases b9 with
   | false =>
    go_wp2;go_ret;exact ⟨by rw [HN.o];rfl,by first | exact HW5.o | (rw [hL];exact HW5.o)⟩
   | true =>
    go_wp2;go_ret;exact ⟨by rw [HN.o];rfl,by first | exact HW5.o | (rw [hL];exact HW5.o)⟩
theorem aFz (h:OpM w y) (hz:OpZ y) (hk:y.kind=3):Calls prog 80 #[.agg #[.int .i64 y.kind,.string y.nm,.string y.s.nm,.slice y.ca y.cl y.cc,.slice y.xa y.xl y.xc,.slice y.ra y.rl y.rc,.int .i64 y.key.1,.int .i64 y.key.2.1,.string y.key.2.2,.int .i64 y.col,.int .i64 y.lo.1,.int .i64 y.lo.2.1,.string y.lo.2.2,.int .i64 y.hi.1,.int .i64 y.hi.2.1,.string y.hi.2.2,.int .i64 y.lim]] w fun e w'=>e=.returned (.bool (opRt y))/\Below w.heap.size w w':=by
 have ek1:(y.kind == 1)=false:=by rw [hk];rfl
 have ek2:(y.kind == 2)=false:=by rw [hk];rfl
 have ek3:(y.kind == 3)=true:=by rw [hk];rfl
 have HU:Hid (opRt y=(isNm y.nm && (rowRt y.row && onlyB y (prR y)))):=by
  show _=_;unfold opRt;rw [if_neg (by omega),if_pos (by omega)]
 clear hk;have hbx:=aAc w (.cells #[.int .i64 y.kind,.string y.nm,.string y.s.nm,.slice y.ca y.cl y.cc,.slice y.xa y.xl y.xc,.slice y.ra y.rl y.rc,.int .i64 y.key.1,.int .i64 y.key.2.1,.string y.key.2.2,.int .i64 y.col,.int .i64 y.lo.1,.int .i64 y.lo.2.1,.string y.lo.2.2,.int .i64 y.hi.1,.int .i64 y.hi.2.1,.string y.hi.2.2,.int .i64 y.lim] 75);have HR1:Hid ((w.alloc (.cells #[.int .i64 y.kind,.string y.nm,.string y.s.nm,.slice y.ca y.cl y.cc,.slice y.xa y.xl y.xc,.slice y.ra y.rl y.rc,.int .i64 y.key.1,.int .i64 y.key.2.1,.string y.key.2.2,.int .i64 y.col,.int .i64 y.lo.1,.int .i64 y.lo.2.1,.string y.lo.2.2,.int .i64 y.hi.1,.int .i64 y.hi.2.1,.string y.hi.2.2,.int .i64 y.lim] 75)).heap[w.heap.size]?=some (.cells #[.int .i64 y.kind,.string y.nm,.string y.s.nm,.slice y.ca y.cl y.cc,.slice y.xa y.xl y.xc,.slice y.ra y.rl y.rc,.int .i64 y.key.1,.int .i64 y.key.2.1,.string y.key.2.2,.int .i64 y.col,.int .i64 y.lo.1,.int .i64 y.lo.2.1,.string y.lo.2.2,.int .i64 y.hi.1,.int .i64 y.hi.2.1,.string y.hi.2.2,.int .i64 y.lim] 75 (0,0))):=boxed w _;have HW1:=zH hbx;have HM1:=zH (h.later hbx);have HZ:=zH hz;clear hbx h hz;go_enter func80,ntmps80;go_upto_region 1 with fail;generalize w.alloc (.cells #[.int .i64 y.kind,.string y.nm,.string y.s.nm,.slice y.ca y.cl y.cc,.slice y.xa y.xl y.xc,.slice y.ra y.rl y.rc,.int .i64 y.key.1,.int .i64 y.key.2.1,.string y.key.2.2,.int .i64 y.col,.int .i64 y.lo.1,.int .i64 y.lo.2.1,.string y.lo.2.2,.int .i64 y.hi.1,.int .i64 y.hi.2.1,.string y.hi.2.2,.int .i64 y.lim] 75)=w1 at *
 generalize hL:w.heap.size=L at *
 have y0:w1.cell? ⟨L,0,none⟩=some (.int .i64 y.kind):=aAa HR1.o;have y1:w1.cell? ⟨L,1,none⟩=some (.string y.nm):=aAa HR1.o;have y2:w1.cell? ⟨L,2,none⟩=some (.string y.s.nm):=aAa HR1.o;have y3:w1.cell? ⟨L,3,none⟩=some (.slice y.ca y.cl y.cc):=aAa HR1.o;have y4:w1.cell? ⟨L,4,none⟩=some (.slice y.xa y.xl y.xc):=aAa HR1.o;have y5:w1.cell? ⟨L,5,none⟩=some (.slice y.ra y.rl y.rc):=aAa HR1.o;have y6:w1.cell? ⟨L,6,none⟩=some (.int .i64 y.key.1):=aAa HR1.o;have y7:w1.cell? ⟨L,7,none⟩=some (.int .i64 y.key.2.1):=aAa HR1.o;have y8:w1.cell? ⟨L,8,none⟩=some (.string y.key.2.2):=aAa HR1.o;have y9:w1.cell? ⟨L,9,none⟩=some (.int .i64 y.col):=aAa HR1.o;have y10:w1.cell? ⟨L,10,none⟩=some (.int .i64 y.lo.1):=aAa HR1.o;have y11:w1.cell? ⟨L,11,none⟩=some (.int .i64 y.lo.2.1):=aAa HR1.o;have y12:w1.cell? ⟨L,12,none⟩=some (.string y.lo.2.2):=aAa HR1.o;have y13:w1.cell? ⟨L,13,none⟩=some (.int .i64 y.hi.1):=aAa HR1.o;have y14:w1.cell? ⟨L,14,none⟩=some (.int .i64 y.hi.2.1):=aAa HR1.o;have y15:w1.cell? ⟨L,15,none⟩=some (.string y.hi.2.2):=aAa HR1.o;have y16:w1.cell? ⟨L,16,none⟩=some (.int .i64 y.lim):=aAa HR1.o;obtain ⟨bb,eb⟩:∃ b,isNm y.nm=b:=⟨_,rfl⟩;have HCL:=zH (aCa y.nm w1);rw [eb] at HCL;go_wp2_with fail;refine HCL.o.mono ?_;rintro e w2 ⟨rfl,hb⟩;have HM2:=zH (HM1.o.later hb);have HR2:=zH ((hb.block L (aAb HR1.o)).trans HR1.o);have HW2:Hid (Below L w w2):=HW1.o.trans (hb.mono (by have:=aAb HR1.o;omega));clear hb HCL y0 y1 y2 y3 y4 y5 y6 y7 y8 y9 y10 y11 y12 y13 y14 y15 y16;have y0:w2.cell? ⟨L,0,none⟩=some (.int .i64 y.kind):=aAa HR2.o;have y1:w2.cell? ⟨L,1,none⟩=some (.string y.nm):=aAa HR2.o;have y2:w2.cell? ⟨L,2,none⟩=some (.string y.s.nm):=aAa HR2.o;have y3:w2.cell? ⟨L,3,none⟩=some (.slice y.ca y.cl y.cc):=aAa HR2.o;have y4:w2.cell? ⟨L,4,none⟩=some (.slice y.xa y.xl y.xc):=aAa HR2.o;have y5:w2.cell? ⟨L,5,none⟩=some (.slice y.ra y.rl y.rc):=aAa HR2.o;have y6:w2.cell? ⟨L,6,none⟩=some (.int .i64 y.key.1):=aAa HR2.o;have y7:w2.cell? ⟨L,7,none⟩=some (.int .i64 y.key.2.1):=aAa HR2.o;have y8:w2.cell? ⟨L,8,none⟩=some (.string y.key.2.2):=aAa HR2.o;have y9:w2.cell? ⟨L,9,none⟩=some (.int .i64 y.col):=aAa HR2.o;have y10:w2.cell? ⟨L,10,none⟩=some (.int .i64 y.lo.1):=aAa HR2.o;have y11:w2.cell? ⟨L,11,none⟩=some (.int .i64 y.lo.2.1):=aAa HR2.o;have y12:w2.cell? ⟨L,12,none⟩=some (.string y.lo.2.2):=aAa HR2.o;have y13:w2.cell? ⟨L,13,none⟩=some (.int .i64 y.hi.1):=aAa HR2.o;have y14:w2.cell? ⟨L,14,none⟩=some (.int .i64 y.hi.2.1):=aAa HR2.o;have y15:w2.cell? ⟨L,15,none⟩=some (.string y.hi.2.2):=aAa HR2.o;have y16:w2.cell? ⟨L,16,none⟩=some (.int .i64 y.lim):=aAa HR2.o
 cases bb with
 | false =>
  have HN:Hid (opRt y=false):=by
   show _=_;rw [HU.o,eb];rfl
  go_wp2;go_ret;exact ⟨by rw [HN.o];rfl,by first | exact HW2.o | (rw [hL];exact HW2.o)⟩
 | true =>
  obtain ⟨b2,e2⟩:∃ b,rowRt y.row=b:=⟨_,rfl⟩;have HCL:=zH (aBj HM2.o.rw_ HZ.o.row);rw [e2] at HCL;go_wp2_with fail;refine HCL.o.mono ?_;rintro e w4 ⟨rfl,hb⟩;have HM4:=zH (HM2.o.later hb);have HR4:=zH ((hb.block L (aAb HR2.o)).trans HR2.o);have HW4:Hid (Below L w w4):=HW2.o.trans (hb.mono (by have:=aAb HR2.o;omega));clear hb HCL y0 y1 y2 y3 y4 y5 y6 y7 y8 y9 y10 y11 y12 y13 y14 y15 y16;have y0:w4.cell? ⟨L,0,none⟩=some (.int .i64 y.kind):=aAa HR4.o;have y1:w4.cell? ⟨L,1,none⟩=some (.string y.nm):=aAa HR4.o;have y2:w4.cell? ⟨L,2,none⟩=some (.string y.s.nm):=aAa HR4.o;have y3:w4.cell? ⟨L,3,none⟩=some (.slice y.ca y.cl y.cc):=aAa HR4.o;have y4:w4.cell? ⟨L,4,none⟩=some (.slice y.xa y.xl y.xc):=aAa HR4.o;have y5:w4.cell? ⟨L,5,none⟩=some (.slice y.ra y.rl y.rc):=aAa HR4.o;have y6:w4.cell? ⟨L,6,none⟩=some (.int .i64 y.key.1):=aAa HR4.o;have y7:w4.cell? ⟨L,7,none⟩=some (.int .i64 y.key.2.1):=aAa HR4.o;have y8:w4.cell? ⟨L,8,none⟩=some (.string y.key.2.2):=aAa HR4.o;have y9:w4.cell? ⟨L,9,none⟩=some (.int .i64 y.col):=aAa HR4.o;have y10:w4.cell? ⟨L,10,none⟩=some (.int .i64 y.lo.1):=aAa HR4.o;have y11:w4.cell? ⟨L,11,none⟩=some (.int .i64 y.lo.2.1):=aAa HR4.o;have y12:w4.cell? ⟨L,12,none⟩=some (.string y.lo.2.2):=aAa HR4.o;have y13:w4.cell? ⟨L,13,none⟩=some (.int .i64 y.hi.1):=aAa HR4.o;have y14:w4.cell? ⟨L,14,none⟩=some (.int .i64 y.hi.2.1):=aAa HR4.o;have y15:w4.cell? ⟨L,15,none⟩=some (.string y.hi.2.2):=aAa HR4.o;have y16:w4.cell? ⟨L,16,none⟩=some (.int .i64 y.lim):=aAa HR4.o
  cases b2 with
  | false =>
   have HN:Hid (opRt y=false):=by
    show _=_;rw [HU.o,eb,e2];rfl
   go_wp2;go_ret;exact ⟨by rw [HN.o];rfl,by first | exact HW4.o | (rw [hL];exact HW4.o)⟩
  | true =>
   have HLR:Hid (y.rl<=3):=by show _<=_;have h1:=HM4.o.rw_.hl;rw [aC1,Bool.and_eq_true,decide_eq_true_eq] at e2;omega
   have HCL:=zH (aBd HM4.o HM4.o.prR (fun q=>by have:y.cl=0:=q;omega) (fun q=>by have:y.xl=0:=q;omega) (fun _=>by have:=HLR.o;omega));obtain ⟨b9,e9⟩:∃ b,onlyB y (prR y)=b:=⟨_,rfl⟩;rw [e9] at HCL;have HN:Hid (opRt y=b9):=by
    show _=_;rw [HU.o,eb,e2,e9];rfl
   go_wp2_with fail;refine HCL.o.mono ?_;rintro e w5 ⟨rfl,hb⟩;have HW5:Hid (Below L w w5):=HW4.o.trans (hb.mono (by have:=aAb HR4.o;omega));clear hb HCL
   cases b9 with
   | false =>
    go_wp2;go_ret;exact ⟨by rw [HN.o];rfl,by first | exact HW5.o | (rw [hL];exact HW5.o)⟩
   | true =>
    go_wp2;go_ret;exact ⟨by rw [HN.o];rfl,by first | exact HW5.o | (rw [hL];exact HW5.o)⟩
theorem isright_four (h:OpM w y) (hz:OpZ y) (hk:y.kind=4):Calls prog 80 #[.agg #[.int .i64 y.kind,.string y.nm,.string y.s.nm,.slice y.ca y.cl y.cc,.slice y.xa y.xl y.xc,.slice y.ra y.rl y.rc,.int .i64 y.key.1,.int .i64 y.key.2.1,.string y.key.2.2,.int .i64 y.col,.int .i64 y.lo.1,.int .i64 y.lo.2.1,.string y.lo.2.2,.int .i64 y.hi.1,.int .i64 y.hi.2.1,.string y.hi.2.2,.int .i64 y.lim]] w fun e w'=>e=.returned (.bool (opRt y))/\Below w.heap.size w w':=by
 have ek1:(y.kind == 1)=false:=by rw [hk];rfl
 have ek2:(y.kind == 2)=false:=by rw [hk];rfl
 have ek3:(y.kind == 3)=false:=by rw [hk];rfl
 have ek4:(y.kind == 4)=true:=by rw [hk];rfl
 have HU:Hid (opRt y=(isNm y.nm && (rowRt [y.key] && onlyB y (prK y)))):=by
  show _=_;unfold opRt;rw [if_neg (by omega),if_neg (by omega),if_pos (by omega)]
 clear hk;have hbx:=aAc w (.cells #[.int .i64 y.kind,.string y.nm,.string y.s.nm,.slice y.ca y.cl y.cc,.slice y.xa y.xl y.xc,.slice y.ra y.rl y.rc,.int .i64 y.key.1,.int .i64 y.key.2.1,.string y.key.2.2,.int .i64 y.col,.int .i64 y.lo.1,.int .i64 y.lo.2.1,.string y.lo.2.2,.int .i64 y.hi.1,.int .i64 y.hi.2.1,.string y.hi.2.2,.int .i64 y.lim] 75);have HR1:Hid ((w.alloc (.cells #[.int .i64 y.kind,.string y.nm,.string y.s.nm,.slice y.ca y.cl y.cc,.slice y.xa y.xl y.xc,.slice y.ra y.rl y.rc,.int .i64 y.key.1,.int .i64 y.key.2.1,.string y.key.2.2,.int .i64 y.col,.int .i64 y.lo.1,.int .i64 y.lo.2.1,.string y.lo.2.2,.int .i64 y.hi.1,.int .i64 y.hi.2.1,.string y.hi.2.2,.int .i64 y.lim] 75)).heap[w.heap.size]?=some (.cells #[.int .i64 y.kind,.string y.nm,.string y.s.nm,.slice y.ca y.cl y.cc,.slice y.xa y.xl y.xc,.slice y.ra y.rl y.rc,.int .i64 y.key.1,.int .i64 y.key.2.1,.string y.key.2.2,.int .i64 y.col,.int .i64 y.lo.1,.int .i64 y.lo.2.1,.string y.lo.2.2,.int .i64 y.hi.1,.int .i64 y.hi.2.1,.string y.hi.2.2,.int .i64 y.lim] 75 (0,0))):=boxed w _;have HW1:=zH hbx;have HM1:=zH (h.later hbx);have HZ:=zH hz;clear hbx h hz;go_enter func80,ntmps80;go_upto_region 1 with fail;generalize w.alloc (.cells #[.int .i64 y.kind,.string y.nm,.string y.s.nm,.slice y.ca y.cl y.cc,.slice y.xa y.xl y.xc,.slice y.ra y.rl y.rc,.int .i64 y.key.1,.int .i64 y.key.2.1,.string y.key.2.2,.int .i64 y.col,.int .i64 y.lo.1,.int .i64 y.lo.2.1,.string y.lo.2.2,.int .i64 y.hi.1,.int .i64 y.hi.2.1,.string y.hi.2.2,.int .i64 y.lim] 75)=w1 at *
 generalize hL:w.heap.size=L at *
 have y0:w1.cell? ⟨L,0,none⟩=some (.int .i64 y.kind):=aAa HR1.o;have y1:w1.cell? ⟨L,1,none⟩=some (.string y.nm):=aAa HR1.o;have y2:w1.cell? ⟨L,2,none⟩=some (.string y.s.nm):=aAa HR1.o;have y3:w1.cell? ⟨L,3,none⟩=some (.slice y.ca y.cl y.cc):=aAa HR1.o;have y4:w1.cell? ⟨L,4,none⟩=some (.slice y.xa y.xl y.xc):=aAa HR1.o;have y5:w1.cell? ⟨L,5,none⟩=some (.slice y.ra y.rl y.rc):=aAa HR1.o;have y6:w1.cell? ⟨L,6,none⟩=some (.int .i64 y.key.1):=aAa HR1.o;have y7:w1.cell? ⟨L,7,none⟩=some (.int .i64 y.key.2.1):=aAa HR1.o;have y8:w1.cell? ⟨L,8,none⟩=some (.string y.key.2.2):=aAa HR1.o;have y9:w1.cell? ⟨L,9,none⟩=some (.int .i64 y.col):=aAa HR1.o;have y10:w1.cell? ⟨L,10,none⟩=some (.int .i64 y.lo.1):=aAa HR1.o;have y11:w1.cell? ⟨L,11,none⟩=some (.int .i64 y.lo.2.1):=aAa HR1.o;have y12:w1.cell? ⟨L,12,none⟩=some (.string y.lo.2.2):=aAa HR1.o;have y13:w1.cell? ⟨L,13,none⟩=some (.int .i64 y.hi.1):=aAa HR1.o;have y14:w1.cell? ⟨L,14,none⟩=some (.int .i64 y.hi.2.1):=aAa HR1.o;have y15:w1.cell? ⟨L,15,none⟩=some (.string y.hi.2.2):=aAa HR1.o;have y16:w1.cell? ⟨L,16,none⟩=some (.int .i64 y.lim):=aAa HR1.o;obtain ⟨bb,eb⟩:∃ b,isNm y.nm=b:=⟨_,rfl⟩;have HCL:=zH (aCa y.nm w1);rw [eb] at HCL;go_wp2_with fail;refine HCL.o.mono ?_;rintro e w2 ⟨rfl,hb⟩;have HM2:=zH (HM1.o.later hb);have HR2:=zH ((hb.block L (aAb HR1.o)).trans HR1.o);have HW2:Hid (Below L w w2):=HW1.o.trans (hb.mono (by have:=aAb HR1.o;omega));clear hb HCL y0 y1 y2 y3 y4 y5 y6 y7 y8 y9 y10 y11 y12 y13 y14 y15 y16;have y0:w2.cell? ⟨L,0,none⟩=some (.int .i64 y.kind):=aAa HR2.o;have y1:w2.cell? ⟨L,1,none⟩=some (.string y.nm):=aAa HR2.o;have y2:w2.cell? ⟨L,2,none⟩=some (.string y.s.nm):=aAa HR2.o;have y3:w2.cell? ⟨L,3,none⟩=some (.slice y.ca y.cl y.cc):=aAa HR2.o;have y4:w2.cell? ⟨L,4,none⟩=some (.slice y.xa y.xl y.xc):=aAa HR2.o;have y5:w2.cell? ⟨L,5,none⟩=some (.slice y.ra y.rl y.rc):=aAa HR2.o;have y6:w2.cell? ⟨L,6,none⟩=some (.int .i64 y.key.1):=aAa HR2.o;have y7:w2.cell? ⟨L,7,none⟩=some (.int .i64 y.key.2.1):=aAa HR2.o;have y8:w2.cell? ⟨L,8,none⟩=some (.string y.key.2.2):=aAa HR2.o;have y9:w2.cell? ⟨L,9,none⟩=some (.int .i64 y.col):=aAa HR2.o;have y10:w2.cell? ⟨L,10,none⟩=some (.int .i64 y.lo.1):=aAa HR2.o;have y11:w2.cell? ⟨L,11,none⟩=some (.int .i64 y.lo.2.1):=aAa HR2.o;have y12:w2.cell? ⟨L,12,none⟩=some (.string y.lo.2.2):=aAa HR2.o;have y13:w2.cell? ⟨L,13,none⟩=some (.int .i64 y.hi.1):=aAa HR2.o;have y14:w2.cell? ⟨L,14,none⟩=some (.int .i64 y.hi.2.1):=aAa HR2.o;have y15:w2.cell? ⟨L,15,none⟩=some (.string y.hi.2.2):=aAa HR2.o;have y16:w2.cell? ⟨L,16,none⟩=some (.int .i64 y.lim):=aAa HR2.o
 cases bb with
 | false =>
  have HN:Hid (opRt y=false):=by
   show _=_;rw [HU.o,eb];rfl
  go_wp2;go_ret;exact ⟨by rw [HN.o];rfl,by first | exact HW2.o | (rw [hL];exact HW2.o)⟩
 | true =>
  obtain ⟨b2,e2⟩:∃ b,rowRt [y.key]=b:=⟨_,rfl⟩;have hb:=aAc w2 (.cells #[.int .i64 y.key.1,.int .i64 y.key.2.1,.string y.key.2.2] 73);have HM3:=zH (HM2.o.later hb);have HR3:=zH ((hb.block L (aAb HR2.o)).trans HR2.o);have HW3:Hid (Below L w (w2.alloc (.cells #[.int .i64 y.key.1,.int .i64 y.key.2.1,.string y.key.2.2] 73))):=HW2.o.trans (hb.mono (by have:=aAb HR2.o;omega));have HS3:=zH (sv_one w2 y.key);clear hb
  have HCL:=zH (aBj HS3.o (by
   intro x hx;simp only [List.mem_cons,List.not_mem_nil,or_false] at hx;subst hx
   exact HZ.o.key))
  rw [e2] at HCL;go_wp2_with fail;refine HCL.o.mono ?_;rintro e w4 ⟨rfl,hb⟩;have HM4:=zH (HM3.o.later hb);have HR4:=zH ((hb.block L (aAb HR3.o)).trans HR3.o);have HW4:Hid (Below L w w4):=HW3.o.trans (hb.mono (by have:=aAb HR3.o;omega));clear hb HCL y0 y1 y2 y3 y4 y5 y6 y7 y8 y9 y10 y11 y12 y13 y14 y15 y16;have y0:w4.cell? ⟨L,0,none⟩=some (.int .i64 y.kind):=aAa HR4.o;have y1:w4.cell? ⟨L,1,none⟩=some (.string y.nm):=aAa HR4.o;have y2:w4.cell? ⟨L,2,none⟩=some (.string y.s.nm):=aAa HR4.o;have y3:w4.cell? ⟨L,3,none⟩=some (.slice y.ca y.cl y.cc):=aAa HR4.o;have y4:w4.cell? ⟨L,4,none⟩=some (.slice y.xa y.xl y.xc):=aAa HR4.o;have y5:w4.cell? ⟨L,5,none⟩=some (.slice y.ra y.rl y.rc):=aAa HR4.o;have y6:w4.cell? ⟨L,6,none⟩=some (.int .i64 y.key.1):=aAa HR4.o;have y7:w4.cell? ⟨L,7,none⟩=some (.int .i64 y.key.2.1):=aAa HR4.o;have y8:w4.cell? ⟨L,8,none⟩=some (.string y.key.2.2):=aAa HR4.o;have y9:w4.cell? ⟨L,9,none⟩=some (.int .i64 y.col):=aAa HR4.o;have y10:w4.cell? ⟨L,10,none⟩=some (.int .i64 y.lo.1):=aAa HR4.o;have y11:w4.cell? ⟨L,11,none⟩=some (.int .i64 y.lo.2.1):=aAa HR4.o;have y12:w4.cell? ⟨L,12,none⟩=some (.string y.lo.2.2):=aAa HR4.o;have y13:w4.cell? ⟨L,13,none⟩=some (.int .i64 y.hi.1):=aAa HR4.o;have y14:w4.cell? ⟨L,14,none⟩=some (.int .i64 y.hi.2.1):=aAa HR4.o;have y15:w4.cell? ⟨L,15,none⟩=some (.string y.hi.2.2):=aAa HR4.o;have y16:w4.cell? ⟨L,16,none⟩=some (.int .i64 y.lim):=aAa HR4.o
  cases b2 with
  | false =>
   have HN:Hid (opRt y=false):=by
    show _=_;rw [HU.o,eb,e2];rfl
   go_wp2;go_ret;exact ⟨by rw [HN.o];rfl,by first | exact HW4.o | (rw [hL];exact HW4.o)⟩
  | true =>
   have HCL:=zH (aBd HM4.o HM4.o.prK (fun q=>by have:y.cl=0:=q;omega) (fun q=>by have:y.xl=0:=q;omega) (fun q=>by have:y.rl=0:=q;omega));obtain ⟨b9,e9⟩:∃ b,onlyB y (prK y)=b:=⟨_,rfl⟩;rw [e9] at HCL;have HN:Hid (opRt y=b9):=by
    show _=_;rw [HU.o,eb,e2,e9];rfl
   go_wp2_with fail;refine HCL.o.mono ?_;rintro e w5 ⟨rfl,hb⟩;have HW5:Hid (Below L w w5):=HW4.o.trans (hb.mono (by have:=aAb HR4.o;omega));clear hb HCL
   cases b9 with
   | false =>
    go_wp2;go_ret;exact ⟨by rw [HN.o];rfl,by first | exact HW5.o | (rw [hL];exact HW5.o)⟩
   | true =>
    go_wp2;go_ret;exact ⟨by rw [HN.o];rfl,by first | exact HW5.o | (rw [hL];exact HW5.o)⟩
end Go.Proofs.YtmmcebojbbdfmaaGreat
