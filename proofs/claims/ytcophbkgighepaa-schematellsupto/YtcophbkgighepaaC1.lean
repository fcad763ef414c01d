/- Contracts of keys.hold and keys.release: a value held inside, and put out again. -/
import Derived.Test.YtcophbkgighepaaA1
import Derived.Deep.OwnRows
import Derived.Outline
import Derived.OpenShut
import Derived.Deep.DrawnRows
import Derived.BigRegion
import Derived.Handy
set_option linter.unusedVariables false
namespace Go.Proofs.Ytcophbkgighepaa
open Go.RowKit

/-- A value that is held. -/
inductive H where
  | nothing | number (n : Int) | text (s : ByteArray) | truth (b : Bool) | none
def H.val : H → Value
  | .nothing => .iface 128 (.agg #[])
  | .number n => .iface 119 (.int .i64 n)
  | .text s => .iface 116 (.string s)
  | .truth b => .iface 123 (.bool b)
  | .none => .nilIface
/-- An api.Value. -/
def av (k n : Int) (s : ByteArray) : Value := .agg #[.int .i64 k, .int .i64 n, .string s]
def bi (b : Bool) : Int := if b then 1 else 0
def H.out : H → Value
  | .nothing => av 0 0 ⟨#[]⟩
  | .number n => av 1 n ⟨#[]⟩
  | .text s => av 2 0 s
  | .truth b => av 3 (bi b) ⟨#[]⟩
  | .none => av 0 0 ⟨#[]⟩
def holdOf (k n : Int) (s : ByteArray) : H := if k = 0 then .nothing else if k = 1 then .number n else if k = 2 then .text s else if k = 3 then .truth (n == 1) else .none
theorem as_nothing_number (w : World) : (Instr.typeAssert (.iface 128 (.agg #[])) 20 119 true).run Try.prog w = .ok (.tuple #[.int .i64 0, .bool false]) w := by kernel_rfl
theorem as_nothing_text (w : World) : (Instr.typeAssert (.iface 128 (.agg #[])) 20 116 true).run Try.prog w = .ok (.tuple #[.string ⟨#[]⟩, .bool false]) w := by kernel_rfl
theorem as_nothing_truth (w : World) : (Instr.typeAssert (.iface 128 (.agg #[])) 20 123 true).run Try.prog w = .ok (.tuple #[.bool false, .bool false]) w := by kernel_rfl
theorem as_number_number (n : Int) (w : World) : (Instr.typeAssert (.iface 119 (.int .i64 n)) 20 119 true).run Try.prog w = .ok (.tuple #[.int .i64 n, .bool true]) w := by kernel_rfl
theorem as_number_text (n : Int) (w : World) : (Instr.typeAssert (.iface 119 (.int .i64 n)) 20 116 true).run Try.prog w = .ok (.tuple #[.string ⟨#[]⟩, .bool false]) w := by kernel_rfl
theorem as_number_truth (n : Int) (w : World) : (Instr.typeAssert (.iface 119 (.int .i64 n)) 20 123 true).run Try.prog w = .ok (.tuple #[.bool false, .bool false]) w := by kernel_rfl
theorem as_text_number (s : ByteArray) (w : World) : (Instr.typeAssert (.iface 116 (.string s)) 20 119 true).run Try.prog w = .ok (.tuple #[.int .i64 0, .bool false]) w := by kernel_rfl
theorem as_text_text (s : ByteArray) (w : World) : (Instr.typeAssert (.iface 116 (.string s)) 20 116 true).run Try.prog w = .ok (.tuple #[.string s, .bool true]) w := by kernel_rfl
theorem as_text_truth (s : ByteArray) (w : World) : (Instr.typeAssert (.iface 116 (.string s)) 20 123 true).run Try.prog w = .ok (.tuple #[.bool false, .bool false]) w := by kernel_rfl
theorem as_truth_number (b : Bool) (w : World) : (Instr.typeAssert (.iface 123 (.bool b)) 20 119 true).run Try.prog w = .ok (.tuple #[.int .i64 0, .bool false]) w := by kernel_rfl
theorem as_truth_text (b : Bool) (w : World) : (Instr.typeAssert (.iface 123 (.bool b)) 20 116 true).run Try.prog w = .ok (.tuple #[.string ⟨#[]⟩, .bool false]) w := by kernel_rfl
theorem as_truth_truth (b : Bool) (w : World) : (Instr.typeAssert (.iface 123 (.bool b)) 20 123 true).run Try.prog w = .ok (.tuple #[.bool b, .bool true]) w := by kernel_rfl
theorem as_none_number (w : World) : (Instr.typeAssert (.nilIface) 20 119 true).run Try.prog w = .ok (.tuple #[.int .i64 0, .bool false]) w := by kernel_rfl
theorem as_none_text (w : World) : (Instr.typeAssert (.nilIface) 20 116 true).run Try.prog w = .ok (.tuple #[.string ⟨#[]⟩, .bool false]) w := by kernel_rfl
theorem as_none_truth (w : World) : (Instr.typeAssert (.nilIface) 20 123 true).run Try.prog w = .ok (.tuple #[.bool false, .bool false]) w := by kernel_rfl

set_option maxRecDepth 100000 in
set_option maxHeartbeats 1000000 in
theorem hold_any (k n : Int) (s : ByteArray) (w : World) :
    Calls Try.prog 80 #[av k n s] w fun e w' => e = .returned (holdOf k n s).val ∧ Below w.heap.size w w' := by
  unfold av
  by_cases h0 : k = 0
  · have e : holdOf k n s = H.nothing := by subst h0; simp [holdOf]
    rw [e]
    subst h0
    unfold H.val
    go_enter Try.func80, Try.ntmps80
    go_wp2
    go_ret
    exact ⟨rfl, by go_grown⟩
  · skip
    by_cases h1 : k = 1
    · have e : holdOf k n s = H.number n := by subst h1; simp [holdOf]
      rw [e]
      subst h1
      unfold H.val
      go_enter Try.func80, Try.ntmps80
      go_wp2
      go_ret
      exact ⟨rfl, by go_grown⟩
    · skip
      by_cases h2 : k = 2
      · have e : holdOf k n s = H.text s := by subst h2; simp [holdOf]
        rw [e]
        subst h2
        unfold H.val
        go_enter Try.func80, Try.ntmps80
        go_wp2
        go_ret
        exact ⟨rfl, by go_grown⟩
      · skip
        by_cases h3 : k = 3
        · have e : holdOf k n s = H.truth (n == 1) := by subst h3; simp [holdOf]
          rw [e]
          subst h3
          unfold H.val
          go_enter Try.func80, Try.ntmps80
          go_wp2
          go_ret
          exact ⟨rfl, by go_grown⟩
        · skip
          have e : holdOf k n s = H.none := by simp [holdOf, h0, h1, h2, h3]
          rw [e]
          unfold H.val
          have g0 : (k == 0) = false := by simp [h0]
          have g1 : (k == 1) = false := by simp [h1]
          have g2 : (k == 2) = false := by simp [h2]
          have g3 : (k == 3) = false := by simp [h3]
          go_enter Try.func80, Try.ntmps80
          go_wp2
          go_ret
          exact ⟨rfl, by go_grown⟩

set_option maxRecDepth 100000 in
set_option maxHeartbeats 1000000 in
theorem number_any (b : Bool) (w : World) : Calls Try.prog 83 #[.bool b] w fun e w' => e = .returned (.int .i64 (bi b)) ∧ w' = w := by
  cases b
  · go_enter Try.func83, Try.ntmps83
    go_wp2
    go_ret
    exact ⟨rfl, rfl⟩
  · go_enter Try.func83, Try.ntmps83
    go_wp2
    go_ret
    exact ⟨rfl, rfl⟩

set_option maxRecDepth 100000 in
set_option maxHeartbeats 1000000 in
theorem release_any (h : H) (w : World) :
    Calls Try.prog 71 #[h.val] w fun e w' => e = .returned h.out ∧ Below w.heap.size w w' := by
  cases h with
  | nothing =>
    unfold H.val H.out av
    have a0 := fun w => as_nothing_number w
    have a1 := fun w => as_nothing_text w
    have a2 := fun w => as_nothing_truth w
    go_enter Try.func71, Try.ntmps71
    go_wp2
    go_returns
    exact ⟨rfl, by go_grown⟩
  | number n =>
    unfold H.val H.out av
    have a0 := fun w => as_number_number n w
    have a1 := fun w => as_number_text n w
    have a2 := fun w => as_number_truth n w
    go_enter Try.func71, Try.ntmps71
    go_wp2
    go_returns
    exact ⟨rfl, by go_grown⟩
  | text s =>
    unfold H.val H.out av
    have a0 := fun w => as_text_number s w
    have a1 := fun w => as_text_text s w
    have a2 := fun w => as_text_truth s w
    go_enter Try.func71, Try.ntmps71
    go_wp2
    go_returns
    exact ⟨rfl, by go_grown⟩
  | truth b =>
    unfold H.val H.out av
    have a0 := fun w => as_truth_number b w
    have a1 := fun w => as_truth_text b w
    have a2 := fun w => as_truth_truth b w
    go_enter Try.func71, Try.ntmps71
    go_wp2_with (go_at_call 83; refine (number_any _ _).mono ?_; rintro e w1 ⟨rfl, rfl⟩)
    go_returns
    exact ⟨rfl, by go_grown⟩
  | none =>
    unfold H.val H.out av
    have a0 := fun w => as_none_number w
    have a1 := fun w => as_none_text w
    have a2 := fun w => as_none_truth w
    go_enter Try.func71, Try.ntmps71
    go_wp2
    go_returns
    exact ⟨rfl, by go_grown⟩
end Go.Proofs.Ytcophbkgighepaa
