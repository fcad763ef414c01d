import Derived.Test.YtdpdjpkmndnaaaaGreatY68
import Derived.Deep.CutRange
set_option maxRecDepth 100000
set_option maxHeartbeats 16000000
set_option linter.unusedVariables false
namespace Go.Proofs.YtdpdjpkmndnaaaaGreat
open Go.RowKit _root_.Go.Proofs.Tryz
theorem refsame2_any {w:World} {a a':Option Addr} {len cap len' cap':Nat} {l l':List Val} (h:SVK fV 3 w a len cap l) (h':SVK fV 3 w a' len' cap' l') (hlen:len<=1000) :
  Calls prog 12 #[.slice a len cap,.slice a' len' cap'] w fun e w'=>e=.returned (.bool (decide (l=l')))/\Below w.heap.size w w':=by
 have H:=aAc h;have H':=aAc h';have HL:=aAc h.hl;have HL':=aAc h'.hl;clear h h';by_cases hne:len=len'
 ·subst hne;go_enter func12,ntmps12;go_wp2_with fail;go_loopg [5] len (fun gh s5 wx=>∃ j:Nat,j+gh=len/\s5=.int .i64 (j:Int)/\l.take j=l'.take j/\Below w.heap.size w wx)
  case atStart=>exact ⟨0,by omega,rfl,by simp,Below.refl _ _⟩
  case round =>
   obtain ⟨j,hj,rfl,htk,hbr⟩:=hrel;have HTK:=aAc htk;have HBR:=aAc hbr;clear htk hbr;by_cases hjn:j<len
   ·have xj:(j:Int)<(len:Int):=by omega
    obtain ⟨x,hxj⟩:∃ x,l[j]?=some x:=⟨_,gE (by rw [HL.o];exact hjn)⟩;obtain ⟨y,hyj⟩:∃ y,l'[j]?=some y:=⟨_,gE (by rw [HL'.out];exact hjn)⟩;have HS:Hid (x=y->l.take (j+1)=l'.take (j+1)):=by
     intro q;rw [List.take_add_one,List.take_add_one,hxj,hyj,HTK.o,q]
    have HD:Hid (x≠y->l≠l'):=by
     intro q e;rw [e,hyj] at hxj;simp only [oI] at hxj;exact q hxj.symm
    obtain ⟨b,o,e0,hb,hcs⟩:=H.out.pl (by omega);obtain ⟨b',o',e0',hb',hcs'⟩:=H'.out.pl (by omega);have hc1:=fun t (ht:t<3)=>(HBR.o.cell hb (p:=⟨b,o+j*3+t,none⟩)).trans (hcs j x hxj t ht)
    have hc2:=fun t (ht:t<3)=>(HBR.o.cell hb' (p:=⟨b',o'+j*3+t,none⟩)).trans (hcs' j y hyj t ht)
    subst e0 e0';have y0:wr.cell? ⟨b,o+j*3,none⟩=some (.int .i64 x.1):=hc1 0 (by omega);have y1:wr.cell? ⟨b,o+j*3+1,none⟩=some (.int .i64 x.2.1):=hc1 1 (by omega);have y2:wr.cell? ⟨b,o+j*3+2,none⟩=some (.string x.2.2):=hc1 2 (by omega);have z0:wr.cell? ⟨b',o'+j*3,none⟩=some (.int .i64 y.1):=hc2 0 (by omega);have z1:wr.cell? ⟨b',o'+j*3+1,none⟩=some (.int .i64 y.2.1):=hc2 1 (by omega);have z2:wr.cell? ⟨b',o'+j*3+2,none⟩=some (.string y.2.2):=hc2 2 (by omega);clear hcs hcs' hc1 hc2 hxj hyj;by_cases hxy:x=y
    ·have HN:=aAc (HS.o hxy);subst hxy;go_wp2_with fail;go_quiet (fail);go_wp2;go_roundg (gk-1)
     case measure=>omega
     case rel=>exact ⟨j+1,by omega,rfl,HN.o,aB7 HBR.o _⟩
    ·have HN:Hid (decide (l=l')=false):=decide_eq_false (HD.o hxy);by_cases e0:x.1=y.1
     ·have f0:(x.1 == y.1)=true:=by rw [e0];exact beq_self_eq_true _
      by_cases e1:x.2.1=y.2.1
      ·have f1:(x.2.1 == y.2.1)=true:=by rw [e1];exact beq_self_eq_true _
       have f2:(x.2.2.toList == y.2.2.toList)=false:=by rw [ba_beq];exact decide_eq_false fun q=>hxy (Prod.ext e0 (Prod.ext e1 q))
       go_wp2_with fail;go_quiet (fail);go_wp2;go_ret;exact ⟨by rw [HN.o];rfl,aB7 HBR.o _⟩
      ·have f1:(x.2.1 == y.2.1)=false:=by simp [e1]
       go_wp2_with fail;go_quiet (fail);go_wp2;go_ret;exact ⟨by rw [HN.o];rfl,aB7 HBR.o _⟩
     ·have f0:(x.1 == y.1)=false:=by simp [e0]
      go_wp2_with fail;go_quiet (fail);go_wp2;go_ret;exact ⟨by rw [HN.o];rfl,aB7 HBR.o _⟩
   ·have xj:¬ (j:Int)<(len:Int):=by omega
    have HE:Hid (l=l'):=by
     have h9:=HTK.o;rw [List.take_of_length_le (by rw [HL.o];omega),List.take_of_length_le (by rw [HL'.out];omega)] at h9;exact h9
    go_wp2;go_ret;exact ⟨by rw [decide_eq_true HE.o];rfl,HBR.o⟩
 ·have HE:Hid (decide (l=l')=false):=decide_eq_false fun e=>hne (by rw [<-HL.o,<-HL'.out,e])
  have hn:((len:Int) != (len':Int))=true:=by simp;omega
  go_enter func12,ntmps12;go_wp2;go_ret;exact ⟨by rw [HE.o];rfl,Below.refl _ _⟩
theorem ba_ne {a b:ByteArray} (h:a≠b):(a != b)=true:=by
 cases a with
 | mk x=>cases b with
  | mk y =>
   show (!(x == y))=true;simp;intro q;exact h (by rw [q])
end Go.Proofs.YtdpdjpkmndnaaaaGreat
