import Derived.Test.YtgckjkocmkedfabGreatZ29
import Derived.Deep.OwnRows
import Derived.Outline
import Derived.OpenShut
import Derived.Deep.DrawnRows
import Derived.BigRegion
import Derived.Handy
set_option maxRecDepth 100000
set_option maxHeartbeats 16000000
set_option linter.unusedVariables false
namespace Go.Proofs.YtgckjkocmkedfabGreat
open Go.RowKit
inductive H where
 | nothing | number (n:Int) | text (s:ByteArray) | truth (b:Bool) | none
def H.val:H→Value
 | .nothing=>.iface 307 (.agg #[])
 | .number n=>.iface 308 (.int .i64 n)
 | .text s=>.iface 252 (.string s)
 | .truth b=>.iface 309 (.bool b)
 | .none=>.nilIface
def av (k n:Int) (s:ByteArray):Value:=.agg #[.int .i64 k,.int .i64 n,.string s]
def bi (b:Bool):Int:=if b then 1 else 0
def H.out:H→Value
 | .nothing=>av 0 0 ⟨#[]⟩
 | .number n=>av 1 n ⟨#[]⟩
 | .text s=>av 2 0 s
 | .truth b=>av 3 (bi b) ⟨#[]⟩
 | .none=>av 0 0 ⟨#[]⟩
def holdOf (k n:Int) (s:ByteArray):H:=if k=0 then .nothing else if k=1 then .number n else if k=2 then .text s else if k=3 then .truth (n == 1) else .none
theorem aCq (w:World):(Instr.typeAssert (.iface 307 (.agg #[])) 20 308 true).run Tryz.prog w=.ok (.tuple #[.int .i64 0,.bool false]) w:=by kernel_rfl
theorem aB7 (w:World):(Instr.typeAssert (.iface 307 (.agg #[])) 20 252 true).run Tryz.prog w=.ok (.tuple #[.string ⟨#[]⟩,.bool false]) w:=by kernel_rfl
theorem aDa (w:World):(Instr.typeAssert (.iface 307 (.agg #[])) 20 309 true).run Tryz.prog w=.ok (.tuple #[.bool false,.bool false]) w:=by kernel_rfl
theorem aC9 (n:Int) (w:World):(Instr.typeAssert (.iface 308 (.int .i64 n)) 20 308 true).run Tryz.prog w=.ok (.tuple #[.int .i64 n,.bool true]) w:=by kernel_rfl
theorem aCg (n:Int) (w:World):(Instr.typeAssert (.iface 308 (.int .i64 n)) 20 252 true).run Tryz.prog w=.ok (.tuple #[.string ⟨#[]⟩,.bool false]) w:=by kernel_rfl
theorem aDt (n:Int) (w:World):(Instr.typeAssert (.iface 308 (.int .i64 n)) 20 309 true).run Tryz.prog w=.ok (.tuple #[.bool false,.bool false]) w:=by kernel_rfl
theorem aD7 (s:ByteArray) (w:World):(Instr.typeAssert (.iface 252 (.string s)) 20 308 true).run Tryz.prog w=.ok (.tuple #[.int .i64 0,.bool false]) w:=by kernel_rfl
theorem aDs (s:ByteArray) (w:World):(Instr.typeAssert (.iface 252 (.string s)) 20 252 true).run Tryz.prog w=.ok (.tuple #[.string s,.bool true]) w:=by kernel_rfl
theorem aE6 (s:ByteArray) (w:World):(Instr.typeAssert (.iface 252 (.string s)) 20 309 true).run Tryz.prog w=.ok (.tuple #[.bool false,.bool false]) w:=by kernel_rfl
theorem aDr (b:Bool) (w:World):(Instr.typeAssert (.iface 309 (.bool b)) 20 308 true).run Tryz.prog w=.ok (.tuple #[.int .i64 0,.bool false]) w:=by kernel_rfl
theorem aC6 (b:Bool) (w:World):(Instr.typeAssert (.iface 309 (.bool b)) 20 252 true).run Tryz.prog w=.ok (.tuple #[.string ⟨#[]⟩,.bool false]) w:=by kernel_rfl
theorem aD6 (b:Bool) (w:World):(Instr.typeAssert (.iface 309 (.bool b)) 20 309 true).run Tryz.prog w=.ok (.tuple #[.bool b,.bool true]) w:=by kernel_rfl
theorem aHt (w:World):(Instr.typeAssert (.nilIface) 20 308 true).run Tryz.prog w=.ok (.tuple #[.int .i64 0,.bool false]) w:=by kernel_rfl
theorem aFy (w:World):(Instr.typeAssert (.nilIface) 20 252 true).run Tryz.prog w=.ok (.tuple #[.string ⟨#[]⟩,.bool false]) w:=by kernel_rfl
theorem aJm (w:World):(Instr.typeAssert (.nilIface) 20 309 true).run Tryz.prog w=.ok (.tuple #[.bool false,.bool false]) w:=by kernel_rfl
theorem hold_anyK (k n:Int) (s:ByteArray) (w:World) :
  Calls Tryz.prog 151 #[av k n s] w fun e w'=>e=.returned (holdOf k n s).val∧Below w.heap.size w w':=by
 unfold av
 by_cases h0:k=0
 ·have e:holdOf k n s=H.nothing:=by subst h0;simp [holdOf]
  rw [e]
  subst h0
  unfold H.val
  go_enter Tryz.func151,Tryz.ntmps151
  go_wp2
  go_ret
  exact ⟨rfl,by go_grown⟩
 ·skip
  by_cases h1:k=1
  ·have e:holdOf k n s=H.number n:=by subst h1;simp [holdOf]
   rw [e]
   subst h1
   unfold H.val
   go_enter Tryz.func151,Tryz.ntmps151
   go_wp2
   go_ret
   exact ⟨rfl,by go_grown⟩
  ·skip
   by_cases h2:k=2
   ·have e:holdOf k n s=H.text s:=by subst h2;simp [holdOf]
    rw [e]
    subst h2
    unfold H.val
    go_enter Tryz.func151,Tryz.ntmps151
    go_wp2
    go_ret
    exact ⟨rfl,by go_grown⟩
   ·skip
    by_cases h3:k=3
    ·have e:holdOf k n s=H.truth (n == 1):=by subst h3;simp [holdOf]
     rw [e]
     subst h3
     unfold H.val
     go_enter Tryz.func151,Tryz.ntmps151
     go_wp2
     go_ret
     exact ⟨rfl,by go_grown⟩
    ·skip
     have e:holdOf k n s=H.none:=by simp [holdOf,h0,h1,h2,h3]
     rw [e]
     unfold H.val
     have g0:(k == 0)=false:=by simp [h0]
     have g1:(k == 1)=false:=by simp [h1]
     have g2:(k == 2)=false:=by simp [h2]
     have g3:(k == 3)=false:=by simp [h3]
     go_enter Tryz.func151,Tryz.ntmps151
     go_wp2
     go_ret
     exact ⟨rfl,by go_grown⟩
theorem aGw (b:Bool) (w:World):Calls Tryz.prog 209 #[.bool b] w fun e w'=>e=.returned (.int .i64 (bi b))∧w'=w:=by
 cases b
 ·go_enter Tryz.func209,Tryz.ntmps209
  go_wp2
  go_ret
  exact ⟨rfl,rfl⟩
 ·go_enter Tryz.func209,Tryz.ntmps209
  go_wp2
  go_ret
  exact ⟨rfl,rfl⟩
theorem aA7 (h:H) (w:World) :
  Calls Tryz.prog 152 #[h.val] w fun e w'=>e=.returned h.out∧Below w.heap.size w w':=by
 cases h with
 | nothing =>
  unfold H.val H.out av
  have a0:=fun w=>aCq w
  have a1:=fun w=>aB7 w
  have a2:=fun w=>aDa w
  go_enter Tryz.func152,Tryz.ntmps152
  go_wp2
  go_returns
  exact ⟨rfl,by go_grown⟩
 | number n =>
  unfold H.val H.out av
  have a0:=fun w=>aC9 n w
  have a1:=fun w=>aCg n w
  have a2:=fun w=>aDt n w
  go_enter Tryz.func152,Tryz.ntmps152
  go_wp2
  go_returns
  exact ⟨rfl,by go_grown⟩
 | text s =>
  unfold H.val H.out av
  have a0:=fun w=>aD7 s w
  have a1:=fun w=>aDs s w
  have a2:=fun w=>aE6 s w
  go_enter Tryz.func152,Tryz.ntmps152
  go_wp2
  go_returns
  exact ⟨rfl,by go_grown⟩
 | truth b =>
  unfold H.val H.out av
  have a0:=fun w=>aDr b w
  have a1:=fun w=>aC6 b w
  have a2:=fun w=>aD6 b w
  go_enter Tryz.func152,Tryz.ntmps152
  go_wp2_with (go_at_call 209;refine (aGw _ _).mono ?_;rintro e w1 ⟨rfl,rfl⟩)
  go_returns
  exact ⟨rfl,by go_grown⟩
 | none =>
  unfold H.val H.out av
  have a0:=fun w=>aHt w
  have a1:=fun w=>aFy w
  have a2:=fun w=>aJm w
  go_enter Tryz.func152,Tryz.ntmps152
  go_wp2
  go_returns
  exact ⟨rfl,by go_grown⟩
end Go.Proofs.YtgckjkocmkedfabGreat
