import Derived.Test.YtmmcebojbbdfmaaGreatY10
import Derived.Deep.OwnRows
import Derived.Outline
import Derived.OpenShut
import Derived.Deep.DrawnRows
import Derived.BigRegion
import Derived.Handy
set_option maxRecDepth 100000
set_option maxHeartbeats 16000000
set_option linter.unusedVariables false
namespace Go.Proofs.YtmmcebojbbdfmaaGreat
open Go.RowKit _root_.Go.Proofs.Tryz
inductive H where
 | nothing | number (n:Int) | text (s:ByteArray) | truth (b:Bool) | none
def H.val:H->Value
 | .nothing=>.iface 159 (.agg #[])
 | .number n=>.iface 139 (.int .i64 n)
 | .text s=>.iface 136 (.string s)
 | .truth b=>.iface 143 (.bool b)
 | .none=>.nilIface
def av (k n:Int) (s:ByteArray):Value:=.agg #[.int .i64 k,.int .i64 n,.string s]
def bi (b:Bool):Int:=if b then 1 else 0
def H.out:H->Value
 | .nothing=>av 0 0 ⟨#[]⟩
 | .number n=>av 1 n ⟨#[]⟩
 | .text s=>av 2 0 s
 | .truth b=>av 3 (bi b) ⟨#[]⟩
 | .none=>av 0 0 ⟨#[]⟩
def holdOf (k n:Int) (s:ByteArray):H:=if k=0 then .nothing else if k=1 then .number n else if k=2 then .text s else if k=3 then .truth (n == 1) else .none
theorem aB7 (w:World):(Instr.typeAssert (.iface 159 (.agg #[])) 20 139 true).run prog w=.ok (.tuple #[.int .i64 0,.bool false]) w:=by kernel_rfl
theorem aBq (w:World):(Instr.typeAssert (.iface 159 (.agg #[])) 20 136 true).run prog w=.ok (.tuple #[.string ⟨#[]⟩,.bool false]) w:=by kernel_rfl
theorem aCi (w:World):(Instr.typeAssert (.iface 159 (.agg #[])) 20 143 true).run prog w=.ok (.tuple #[.bool false,.bool false]) w:=by kernel_rfl
theorem aCh (n:Int) (w:World):(Instr.typeAssert (.iface 139 (.int .i64 n)) 20 139 true).run prog w=.ok (.tuple #[.int .i64 n,.bool true]) w:=by kernel_rfl
theorem aBv (n:Int) (w:World):(Instr.typeAssert (.iface 139 (.int .i64 n)) 20 136 true).run prog w=.ok (.tuple #[.string ⟨#[]⟩,.bool false]) w:=by kernel_rfl
theorem aCy (n:Int) (w:World):(Instr.typeAssert (.iface 139 (.int .i64 n)) 20 143 true).run prog w=.ok (.tuple #[.bool false,.bool false]) w:=by kernel_rfl
theorem aDf (s:ByteArray) (w:World):(Instr.typeAssert (.iface 136 (.string s)) 20 139 true).run prog w=.ok (.tuple #[.int .i64 0,.bool false]) w:=by kernel_rfl
theorem aCx (s:ByteArray) (w:World):(Instr.typeAssert (.iface 136 (.string s)) 20 136 true).run prog w=.ok (.tuple #[.string s,.bool true]) w:=by kernel_rfl
theorem aDy (s:ByteArray) (w:World):(Instr.typeAssert (.iface 136 (.string s)) 20 143 true).run prog w=.ok (.tuple #[.bool false,.bool false]) w:=by kernel_rfl
theorem aCw (b:Bool) (w:World):(Instr.typeAssert (.iface 143 (.bool b)) 20 139 true).run prog w=.ok (.tuple #[.int .i64 0,.bool false]) w:=by kernel_rfl
theorem aCg (b:Bool) (w:World):(Instr.typeAssert (.iface 143 (.bool b)) 20 136 true).run prog w=.ok (.tuple #[.string ⟨#[]⟩,.bool false]) w:=by kernel_rfl
theorem aDe (b:Bool) (w:World):(Instr.typeAssert (.iface 143 (.bool b)) 20 143 true).run prog w=.ok (.tuple #[.bool b,.bool true]) w:=by kernel_rfl
theorem aFb (w:World):(Instr.typeAssert (.nilIface) 20 139 true).run prog w=.ok (.tuple #[.int .i64 0,.bool false]) w:=by kernel_rfl
theorem aEc (w:World):(Instr.typeAssert (.nilIface) 20 136 true).run prog w=.ok (.tuple #[.string ⟨#[]⟩,.bool false]) w:=by kernel_rfl
theorem aGc (w:World):(Instr.typeAssert (.nilIface) 20 143 true).run prog w=.ok (.tuple #[.bool false,.bool false]) w:=by kernel_rfl
theorem hold_any (k n:Int) (s:ByteArray) (w:World) :
  Calls prog 88 #[av k n s] w fun e w'=>e=.returned (holdOf k n s).val/\Below w.heap.size w w':=by
 unfold av;by_cases h0:k=0
 ·have e:holdOf k n s=H.nothing:=by subst h0;simp [holdOf]
  rw [e];subst h0;unfold H.val;go_enter func88,ntmps88;go_wp2;go_ret;exact ⟨rfl,by go_grown⟩
 ·skip
  by_cases h1:k=1
  ·have e:holdOf k n s=H.number n:=by subst h1;simp [holdOf]
   rw [e];subst h1;unfold H.val;go_enter func88,ntmps88;go_wp2;go_ret;exact ⟨rfl,by go_grown⟩
  ·skip
   by_cases h2:k=2
   ·have e:holdOf k n s=H.text s:=by subst h2;simp [holdOf]
    rw [e];subst h2;unfold H.val;go_enter func88,ntmps88;go_wp2;go_ret;exact ⟨rfl,by go_grown⟩
   ·skip
    by_cases h3:k=3
    ·have e:holdOf k n s=H.truth (n == 1):=by subst h3;simp [holdOf]
     rw [e];subst h3;unfold H.val;go_enter func88,ntmps88;go_wp2;go_ret;exact ⟨rfl,by go_grown⟩
    ·skip
     have e:holdOf k n s=H.none:=by simp [holdOf,h0,h1,h2,h3]
     rw [e];unfold H.val;have g0:(k == 0)=false:=by simp [h0]
     have g1:(k == 1)=false:=by simp [h1]
     have g2:(k == 2)=false:=by simp [h2]
     have g3:(k == 3)=false:=by simp [h3]
     go_enter func88,ntmps88;go_wp2;go_ret;exact ⟨rfl,by go_grown⟩
theorem aFj (b:Bool) (w:World):Calls prog 93 #[.bool b] w fun e w'=>e=.returned (.int .i64 (bi b))/\w'=w:=by
 cases b
 ·go_enter func93,ntmps93;go_wp2;go_ret;exact ⟨rfl,rfl⟩
 ·go_enter func93,ntmps93;go_wp2;go_ret;exact ⟨rfl,rfl⟩
theorem aAz (h:H) (w:World) :
  Calls prog 89 #[h.val] w fun e w'=>e=.returned h.out/\Below w.heap.size w w':=by
 cases h with
 | nothing =>
  unfold H.val H.out av;have a0:=fun w=>aB7 w
  have a1:=fun w=>aBq w
  have a2:=fun w=>aCi w
  go_enter func89,ntmps89;go_wp2;go_returns;exact ⟨rfl,by go_grown⟩
 | number n =>
  unfold H.val H.out av;have a0:=fun w=>aCh n w
  have a1:=fun w=>aBv n w
  have a2:=fun w=>aCy n w
  go_enter func89,ntmps89;go_wp2;go_returns;exact ⟨rfl,by go_grown⟩
 | text s =>
  unfold H.val H.out av;have a0:=fun w=>aDf s w
  have a1:=fun w=>aCx s w
  have a2:=fun w=>aDy s w
  go_enter func89,ntmps89;go_wp2;go_returns;exact ⟨rfl,by go_grown⟩
 | truth b =>
  unfold H.val H.out av;have a0:=fun w=>aCw b w
  have a1:=fun w=>aCg b w
  have a2:=fun w=>aDe b w
  go_enter func89,ntmps89;go_wp2_with (go_at_call 93;refine (aFj _ _).mono ?_;rintro e w1 ⟨rfl,rfl⟩);go_returns;exact ⟨rfl,by go_grown⟩
 | none =>
  unfold H.val H.out av;have a0:=fun w=>aFb w
  have a1:=fun w=>aEc w
  have a2:=fun w=>aGc w
  go_enter func89,ntmps89;go_wp2;go_returns;exact ⟨rfl,by go_grown⟩
end Go.Proofs.YtmmcebojbbdfmaaGreat
