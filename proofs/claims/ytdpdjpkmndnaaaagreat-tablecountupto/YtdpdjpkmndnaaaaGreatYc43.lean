import Derived.Test.YtdpdjpkmndnaaaaGreatYc40
import Derived.BigRegion
set_option maxRecDepth 100000
set_option maxHeartbeats 16000000
set_option linter.unusedVariables false
namespace Go.Proofs.YtdpdjpkmndnaaaaGreat
open Go.RowKit _root_.Go.Proofs.Tryz
variable {B g o p q:Nat} {left:Int} {ps:List Nat} {sv:Value} {w:World}
structure StT where
 root:Int
 depth:Int
 keys:Int
 pgs:List Nat
structure TV (cs:Array Value) (p q:Nat) (now last:StT) (sv:Value) (left:Int) (ended:Bool):Prop where
 sz:cs.size=139
 c0:cs[0]?=some (.pointer (some ⟨p,0,none⟩))
 c1:cs[1]?=some (.pointer (some ⟨q,0,none⟩))
 n0:cs[2]?=some (.int .i64 now.root)
 n1:cs[3]?=some (.int .i64 now.depth)
 n2:cs[4]?=some (.int .i64 now.keys)
 nw:Wd cs 5 now.pgs
 l0:cs[69]?=some (.int .i64 last.root)
 l1:cs[70]?=some (.int .i64 last.depth)
 l2:cs[71]?=some (.int .i64 last.keys)
 lw:Wd cs 72 last.pgs
 s0:cs[136]?=some sv
 s1:cs[137]?=some (.int .i64 left)
 s2:cs[138]?=some (.bool ended)
theorem Wd.same {cs cs':Array Value} (h:Wd cs o ps) (hs:∀ k,o<=k->k<o+64->cs'[k]?=cs[k]?):Wd cs' o ps :=
 ⟨h.1,h.2.1,fun i x hi=>by rw [hs (o+i) (by omega) (by have:=(lL hi);have:=h.1;omega)];exact h.2.2 i x hi⟩
section
variable {cs cs':Array Value} {p q:Nat} {now last:StT} {sv:Value} {left:Int} {ended:Bool}
end
theorem Ex.set {u:Value} (hB:B<=g):Ex B [g] w (w.setCell ⟨g,o,none⟩ u) :=
 ⟨(Below.refl B w).setCell (p:=⟨g,o,none⟩) hB _,fun k _ hk=>heap_setCell_other _ _ _ _ (by simpa using hk)⟩
theorem tdead_no [Gd] {s:DS} {t:PS} {cs:Array Value} {now last:StT} (hST:ST B p q s t w) (hl:s.life=t.life) (hg:w.heap[g]?=some (.cells cs 214 (0,0))) (hT:TV cs p q now last sv left false) :
  Calls prog 114 #[.pointer (some ⟨g,0,none⟩)] w fun e w'=>e=.returned (.bool false)/\Below w.heap.size w w':=by
 have r1:w.cell? ⟨g,1,none⟩=some (.pointer (some ⟨q,0,none⟩)):=(aAc hg).trans hT.c1;have r2:w.cell? ⟨g,138,none⟩=some (.bool false):=(aAc hg).trans hT.s2;have HD:=zH (dead_no hST hl);clear hST hg hT;go_enter func114,ntmps114;go_wp2_with fail;refine HD.o.mono ?_;rintro e w1 ⟨rfl,hb1⟩;have HB1:=zH hb1;clear hb1;go_wp2;go_ret;exact ⟨rfl,HB1.o⟩
theorem refusal_any [Gd] {s:DS} {t:PS} {cs:Array Value} {now last:StT} (hST:ST B p q s t w) (hl:s.life=t.life) (hg:w.heap[g]?=some (.cells cs 214 (0,0))) (hT:TV cs p q now last sv left false) (a:Option Addr) (len cap:Nat) :
  Calls prog 226 #[.pointer (some ⟨g,0,none⟩),.slice a len cap] w fun e w'=>e=.returned (.int .i64 (if len=0 then 1 else if 64<len then 3 else 0))/\Below w.heap.size w w':=by
 have HD:=zH (tdead_no hST hl hg hT);clear hST hg hT;go_enter func226,ntmps226;go_wp2_with fail;refine HD.o.mono ?_;rintro e w1 ⟨rfl,hb1⟩;have HB1:=zH hb1;clear hb1;by_cases h0:len=0
 ·have x0:((len:Nat):Int)=0:=by omega
  have H0:=zH h0;clear h0;go_wp2;go_ret;refine ⟨?_,HB1.o⟩;simp
 ·have x0:¬ ((len:Nat):Int)=0:=by omega
  have H0:=zH h0;clear h0;by_cases h6:64<len
  ·have x6:(64:Int)<((len:Nat):Int):=by omega
   have H6:=zH h6;clear h6;go_wp2;go_ret;refine ⟨?_,HB1.o⟩;simp
  ·have x6:¬ (64:Int)<((len:Nat):Int):=by omega
   have H6:=zH h6;clear h6;go_wp2;go_ret;refine ⟨?_,HB1.o⟩;simp
end Go.Proofs.YtdpdjpkmndnaaaaGreat
