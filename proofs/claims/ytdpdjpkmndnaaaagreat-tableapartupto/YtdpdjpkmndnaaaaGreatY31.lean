import Derived.Test.YtdpdjpkmndnaaaaGreatY3
import Derived.Deep.OwnRows
import Derived.Outline
import Derived.OpenShut
import Derived.Deep.DrawnRows
import Derived.BigRegion
import Derived.Handy
set_option maxRecDepth 100000
set_option maxHeartbeats 16000000
set_option linter.unusedVariables false
namespace Go.Proofs.YtdpdjpkmndnaaaaGreat
open Go.RowKit Tryz
inductive H where
 | nothing | number (n:Int) | text (s:ByteArray) | truth (b:Bool) | none
def H.val:H->Value
 | .nothing=>.iface 278 (.agg #[])
 | .number n=>.iface 279 (.int .i64 n)
 | .text s=>.iface 231 (.string s)
 | .truth b=>.iface 280 (.bool b)
 | .none=>.nilIface
def av (k n:Int) (s:ByteArray):Value:=.agg #[.int .i64 k,.int .i64 n,.string s]
def bi (b:Bool):Int:=if b then 1 else 0
def H.out:H->Value
 | .nothing=>av 0 0 ⟨#[]⟩
 | .number n=>av 1 n ⟨#[]⟩
 | .text s=>av 2 0 s
 | .truth b=>av 3 (bi b) ⟨#[]⟩
 | .none=>av 0 0 ⟨#[]⟩
def holdOf (k n:Int) (s:ByteArray):H:=if k=0 then .nothing else if k=1 then .number n else if k=2 then .text s else if k=3 then .truth (n == 1) else .none
theorem aDb (w:World):(Instr.typeAssert (.iface 278 (.agg #[])) 20 279 true).run prog w=.ok (.tuple #[.int .i64 0,.bool false]) w:=by kernel_rfl
theorem aCl (w:World):(Instr.typeAssert (.iface 278 (.agg #[])) 20 231 true).run prog w=.ok (.tuple #[.string ⟨#[]⟩,.bool false]) w:=by kernel_rfl
theorem aDt (w:World):(Instr.typeAssert (.iface 278 (.agg #[])) 20 280 true).run prog w=.ok (.tuple #[.bool false,.bool false]) w:=by kernel_rfl
theorem aDs (n:Int) (w:World):(Instr.typeAssert (.iface 279 (.int .i64 n)) 20 279 true).run prog w=.ok (.tuple #[.int .i64 n,.bool true]) w:=by kernel_rfl
theorem aCx (n:Int) (w:World):(Instr.typeAssert (.iface 279 (.int .i64 n)) 20 231 true).run prog w=.ok (.tuple #[.string ⟨#[]⟩,.bool false]) w:=by kernel_rfl
theorem aEb (n:Int) (w:World):(Instr.typeAssert (.iface 279 (.int .i64 n)) 20 280 true).run prog w=.ok (.tuple #[.bool false,.bool false]) w:=by kernel_rfl
theorem aEw (s:ByteArray) (w:World):(Instr.typeAssert (.iface 231 (.string s)) 20 279 true).run prog w=.ok (.tuple #[.int .i64 0,.bool false]) w:=by kernel_rfl
theorem aEa (s:ByteArray) (w:World):(Instr.typeAssert (.iface 231 (.string s)) 20 231 true).run prog w=.ok (.tuple #[.string s,.bool true]) w:=by kernel_rfl
theorem aF3 (s:ByteArray) (w:World):(Instr.typeAssert (.iface 231 (.string s)) 20 280 true).run prog w=.ok (.tuple #[.bool false,.bool false]) w:=by kernel_rfl
theorem aD9 (b:Bool) (w:World):(Instr.typeAssert (.iface 280 (.bool b)) 20 279 true).run prog w=.ok (.tuple #[.int .i64 0,.bool false]) w:=by kernel_rfl
theorem aDp (b:Bool) (w:World):(Instr.typeAssert (.iface 280 (.bool b)) 20 231 true).run prog w=.ok (.tuple #[.string ⟨#[]⟩,.bool false]) w:=by kernel_rfl
theorem aEv (b:Bool) (w:World):(Instr.typeAssert (.iface 280 (.bool b)) 20 280 true).run prog w=.ok (.tuple #[.bool b,.bool true]) w:=by kernel_rfl
theorem aIz (w:World):(Instr.typeAssert (.nilIface) 20 279 true).run prog w=.ok (.tuple #[.int .i64 0,.bool false]) w:=by kernel_rfl
theorem aGw (w:World):(Instr.typeAssert (.nilIface) 20 231 true).run prog w=.ok (.tuple #[.string ⟨#[]⟩,.bool false]) w:=by kernel_rfl
theorem aKw (w:World):(Instr.typeAssert (.nilIface) 20 280 true).run prog w=.ok (.tuple #[.bool false,.bool false]) w:=by kernel_rfl
theorem hold_anyK (k n:Int) (s:ByteArray) (w:World) :
  Calls prog 131 #[av k n s] w fun e w'=>e=.returned (holdOf k n s).val/\Below w.heap.size w w':=by
 unfold av;by_cases h0:k=0
 ·have e:holdOf k n s=H.nothing:=by subst h0;simp [holdOf]
  rw [e];subst h0;unfold H.val;go_enter func131,ntmps131;go_wp2;go_ret;exact ⟨rfl,by go_grown⟩
 ·skip
  by_cases h1:k=1
  ·have e:holdOf k n s=H.number n:=by subst h1;simp [holdOf]
   rw [e];subst h1;unfold H.val;go_enter func131,ntmps131;go_wp2;go_ret;exact ⟨rfl,by go_grown⟩
  ·skip
   by_cases h2:k=2
   ·have e:holdOf k n s=H.text s:=by subst h2;simp [holdOf]
    rw [e];subst h2;unfold H.val;go_enter func131,ntmps131;go_wp2;go_ret;exact ⟨rfl,by go_grown⟩
   ·skip
    by_cases h3:k=3
    ·have e:holdOf k n s=H.truth (n == 1):=by subst h3;simp [holdOf]
     rw [e];subst h3;unfold H.val;go_enter func131,ntmps131;go_wp2;go_ret;exact ⟨rfl,by go_grown⟩
    ·skip
     have e:holdOf k n s=H.none:=by simp [holdOf,h0,h1,h2,h3]
     rw [e];unfold H.val;have g0:(k == 0)=false:=by simp [h0]
     have g1:(k == 1)=false:=by simp [h1]
     have g2:(k == 2)=false:=by simp [h2]
     have g3:(k == 3)=false:=by simp [h3]
     go_enter func131,ntmps131;go_wp2;go_ret;exact ⟨rfl,by go_grown⟩
theorem aHz (b:Bool) (w:World):Calls prog 171 #[.bool b] w fun e w'=>e=.returned (.int .i64 (bi b))/\w'=w:=by
 cases b
 ·go_enter func171,ntmps171;go_wp2;go_ret;exact ⟨rfl,rfl⟩
 ·go_enter func171,ntmps171;go_wp2;go_ret;exact ⟨rfl,rfl⟩
theorem aBe (h:H) (w:World) :
  Calls prog 132 #[h.val] w fun e w'=>e=.returned h.out/\Below w.heap.size w w':=by
 cases h with
 | nothing =>
  unfold H.val H.out av;have a0:=fun w=>aDb w
  have a1:=fun w=>aCl w
  have a2:=fun w=>aDt w
  go_enter func132,ntmps132;go_wp2;go_returns;exact ⟨rfl,by go_grown⟩
 | number n =>
  unfold H.val H.out av;have a0:=fun w=>aDs n w
  have a1:=fun w=>aCx n w
  have a2:=fun w=>aEb n w
  go_enter func132,ntmps132;go_wp2;go_returns;exact ⟨rfl,by go_grown⟩
 | text s =>
  unfold H.val H.out av;have a0:=fun w=>aEw s w
  have a1:=fun w=>aEa s w
  have a2:=fun w=>aF3 s w
  go_enter func132,ntmps132;go_wp2;go_returns;exact ⟨rfl,by go_grown⟩
 | truth b =>
  unfold H.val H.out av;have a0:=fun w=>aD9 b w
  have a1:=fun w=>aDp b w
  have a2:=fun w=>aEv b w
  go_enter func132,ntmps132;go_wp2_with (go_at_call 171;refine (aHz _ _).mono ?_;rintro e w1 ⟨rfl,rfl⟩);go_returns;exact ⟨rfl,by go_grown⟩
 | none =>
  unfold H.val H.out av;have a0:=fun w=>aIz w
  have a1:=fun w=>aGw w
  have a2:=fun w=>aKw w
  go_enter func132,ntmps132;go_wp2;go_returns;exact ⟨rfl,by go_grown⟩
end Go.Proofs.YtdpdjpkmndnaaaaGreat
