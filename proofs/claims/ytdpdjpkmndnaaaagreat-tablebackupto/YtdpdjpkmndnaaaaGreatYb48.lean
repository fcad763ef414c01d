import Derived.Test.YtdpdjpkmndnaaaaGreatYb45
import Derived.Deep.Cut
import Derived.BigQuiet
set_option maxRecDepth 100000
set_option maxHeartbeats 16000000
set_option linter.unusedVariables false
namespace Go.Proofs.YtdpdjpkmndnaaaaGreat
open Go.RowKit _root_.Go.Proofs.Tryz
variable {B g k o:Nat} {fz:Nat×Nat} {t:TypeId} {w w':World}
theorem aAg (w:World) (o:Obj):Below w.heap.size w (w.alloc o):=(kBh _ w).alloc (nR _) _
theorem aAa {cs:Array Value} (h:w.heap[g]?=some (.cells cs t fz)):w.cell? ⟨g,o,none⟩=cs[o]?:=cell_of_row w g o cs t fz h
theorem aAe {o:Obj} (e:w.heap[k]?=some o):k<w.heap.size:=(lO e)
theorem boxed (w:World) (o:Obj):(w.alloc o).heap[w.heap.size]?=some o:=kBm w o
theorem bPv (a b:ByteArray):(a.toList == b.toList)=decide (a=b):=by
 rw [ByteArray.toList_eq,ByteArray.toList_eq];obtain ⟨⟨x⟩⟩:=a;obtain ⟨⟨y⟩⟩:=b;by_cases h:x=y
 ·subst h;simp
 ·rw [kAd (fun e=>h (by simpa using e))];simp [h]
theorem aGe (h:Below B w w') (n:Nat):Below B w (w'.drewN n):=⟨h.os,h.tape,h.output,h.size,h.block⟩
theorem bE6 (s:ByteArray) (rs:List Nat) (w:World) (hs:s.size<=140737488355328) (hr:runes (bl s)=some rs) :
  Calls prog 176 #[.string s] w fun e w'=>e=.returned (.int .i64 (rs.length:Int))/\Below w.heap.size w w':=by
 have HR:=aAc hr;clear hr;go_enter func176,ntmps176;go_wp2;go_loopw [3] (fun c wr=>∃ (pos:Nat) (pre:List Nat),wr=w.iter s pos/\c=.int .i64 pre.length/\Met s pos pre/\pos<=s.size) (fun _ wr=>s.size-wr.iterPos w.heap.size)
 case atStart=>exact ⟨0,[],rfl,rfl,Met.start s,by omega⟩
 case round =>
  obtain ⟨pos,pre,rfl,rfl,hm,hps⟩:=hrel;have hpl:=hm.2;have HM:Hid (Met s pos pre):=hm;clear hm;by_cases hp:pos<s.size
  ·obtain ⟨R,W,hd⟩:∃ R W,dl ((bl s).drop pos)=(R,W):=⟨_,_,rfl⟩;have hw:=aDq (aC1 hp);rw [hd] at hw;rw [kAk,aCy] at hw;have hnb:(R,W)≠(65533,1):=by
    intro q;rw [q] at hd;have:=HM.o.bad hp hd;rw [HR.o] at this;cases this
   have hnx:∀ ty,(Instr.next (.pointer (some ⟨w.heap.size,0,none⟩)) true ty).run prog (w.iter s pos)=.ok (.tuple #[.bool true,.int .i64 pos,.int .i32 R]) (w.iter s (pos+W)):=fun ty=>by rw [run_next_any w s pos ty hp,bGh,hd]
   have HN:=aAc (HM.o.step hp hd hnb);clear hd hnb;go_wp2;go_roundw
   case rel=>exact ⟨pos+W,pre++[R],rfl,by simp only [lA,List.length_singleton];go_num,HN.o,by omega⟩
   case measure =>
    simp;omega
  ·have hnx:∀ ty,(Instr.next (.pointer (some ⟨w.heap.size,0,none⟩)) true ty).run prog (w.iter s pos)=_:=fun ty=>run_next_end w s pos ty hp
   have e:=HM.o.fin hp;rw [HR.o] at e;simp only [oI] at e;have HE:=aAc e;clear e;go_wp2;go_ret;exact ⟨by rw [HE.o];rfl,aB2 w s pos⟩
def bN0 (k m:Int):Bool:=if k=2 then decide (1<=m) && decide (m<=8) else if k=1\/k=3 then m == 0 else false
theorem bKn (nm:ByteArray) (k m:Int) (w:World) :
  Calls prog 179 #[.agg #[.string nm,.int .i64 k,.int .i64 m]] w fun e w'=>e=.returned (.bool (bN0 k m))/\Below w.heap.size w w':=by
 have HB:=aAc (aAg w (.cells #[.string nm,.int .i64 k,.int .i64 m] 93));by_cases k2:k=2
 ·subst k2;have HE:Hid (bN0 2 m=(decide (1<=m) && decide (m<=8))):=kAg rfl;by_cases m1:1<=m
  ·rw [kAc m1,Bool.true_and] at HE;go_enter func179,ntmps179;go_wp2;go_ret;exact ⟨by rw [HE.o];rfl,HB.o⟩
  ·rw [kAd m1,Bool.false_and] at HE;go_enter func179,ntmps179;go_wp2;go_ret;exact ⟨by rw [HE.o];rfl,HB.o⟩
 ·by_cases k1:k=1
  ·subst k1;have HE:Hid (bN0 1 m=(m == 0)):=(kAb (by decide)).trans (kAg (Or.inl rfl));go_enter func179,ntmps179;go_wp2;go_ret;exact ⟨by rw [HE.o];rfl,HB.o⟩
  ·by_cases k3:k=3
   ·subst k3;have HE:Hid (bN0 3 m=(m == 0)):=(kAb (by decide)).trans (kAg (Or.inr rfl));go_enter func179,ntmps179;go_wp2;go_ret;exact ⟨by rw [HE.o];rfl,HB.o⟩
   ·have HE:Hid (bN0 k m=false):=(kAb k2).trans (kAb (fun q=>q.elim k1 k3));go_enter func179,ntmps179;go_wp2;go_ret;exact ⟨by rw [HE.o];rfl,HB.o⟩
theorem bLx (b:Bool) (w:World):Calls prog 102 #[.bool b] w fun e w'=>e=.returned (.int .i64 (if b then 1 else 0))/\w'=w:=by
 cases b<;>(
  go_enter func102,ntmps102;go_wp2;go_ret
  exact ⟨rfl,rfl⟩)
theorem aE7 {k n:Int} {s:ByteArray} (h:bAc k n s=0):∃ rs,runes (bl s)=some rs:=by
 have h1:=aBb h;rcases h1.1 with rfl | rfl | rfl | rfl
 ·rw [r0] at h
  split at h
  ·rename_i q;exact ⟨[],by rw [aA8 q.2];rfl⟩
  ·cases h
 ·rw [r1] at h
  split at h
  ·rename_i q;exact ⟨[],by rw [aA8 q];rfl⟩
  ·cases h
 ·exact h1.2 rfl
 ·rw [r3] at h
  split at h
  ·rename_i q;exact ⟨[],by rw [aA8 q.1];rfl⟩
  ·cases h
def rcn (s:ByteArray):Nat:=((runes (bl s)).getD []).length
theorem bKo (x:Val) (w:World) (hs:x.2.2.size<=140737488355328) (hr:x.err=0) :
  Calls prog 140 #[.agg #[.int .i64 x.1,.int .i64 x.2.1,.string x.2.2]] w fun e w'=>e=.returned (.bool (decide (8<rcn x.2.2)))/\Below w.heap.size w w':=by
 obtain ⟨rs,h1⟩:=aE7 hr;have HE:Hid (decide (8<rcn x.2.2)=decide ((8:Int)<(rs.length:Int))):=by
  show _=_;unfold rcn;rw [h1];exact decide_eq_decide.2 (by show 8<rs.length↔_;omega)
 have hbx:=aAg w (.cells #[.int .i64 x.1,.int .i64 x.2.1,.string x.2.2] 36);have HC:=aAc (bE6 x.2.2 rs (w.alloc (.cells #[.int .i64 x.1,.int .i64 x.2.1,.string x.2.2] 36)) hs h1);have HB:=aAc hbx;clear hbx hr h1;generalize rs.length=m at *;go_enter func140,ntmps140;go_wp2_with fail;refine HC.o.mono ?_;rintro e w1 ⟨rfl,hb1⟩;have HB1:Hid (Below w.heap.size w w1):=HB.o.trans (hb1.mono HB.o.size);clear hb1 HC;go_wp2;go_ret;exact ⟨by rw [HE.o];rfl,HB1.o⟩
end Go.Proofs.YtdpdjpkmndnaaaaGreat
