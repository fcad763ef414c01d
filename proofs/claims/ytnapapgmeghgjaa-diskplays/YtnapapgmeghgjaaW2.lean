/- Flips that are refused; the document's own New. -/
import Derived.Test.YtnapapgmeghgjaaW1
set_option linter.unusedVariables false
namespace Go.Proofs.Ytnapapgmeghgjaa
open Go.RowKit

set_option maxRecDepth 100000 in
set_option maxHeartbeats 1000000 in
theorem flip_arg [Gd] (B p : Nat) (s : DS) (a bit : Int) (w : World) (h : DI B p s w) (hb : ¬ (0 ≤ a ∧ a < s.n ∧ 0 ≤ bit ∧ bit < 65536)) :
    Calls Try.prog 21 #[.pointer (some ⟨p, 0, none⟩), .int .i64 a, .int .i64 bit] w fun e w' => e = .returned (.int .i64 1) ∧ w' = w := by
  have HC := hide (has_any B p s a w h)
  by_cases c1 : 0 ≤ a ∧ a < s.n
  · have e1 : decide (0 ≤ a ∧ a < s.n) = true := decide_eq_true c1
    rw [e1] at HC
    by_cases c2 : bit < 0
    · have d1 : decide (bit < 0) = true := decide_eq_true c2
      clear h hb c2
      go_enter Try.func21, Try.ntmps21
      go_wp2_with fail
      refine HC.out.mono ?_
      rintro e w1 ⟨rfl, rfl⟩
      go_wp2
      go_ret
      exact ⟨rfl, rfl⟩
    · have d1 : decide (bit < 0) = false := decide_eq_false c2
      have d2 : decide ((65536 : Int) ≤ bit) = true := decide_eq_true (by omega)
      clear h hb c2
      go_enter Try.func21, Try.ntmps21
      go_wp2_with fail
      refine HC.out.mono ?_
      rintro e w1 ⟨rfl, rfl⟩
      go_wp2
      go_ret
      exact ⟨rfl, rfl⟩
  · have e1 : decide (0 ≤ a ∧ a < s.n) = false := decide_eq_false c1
    rw [e1] at HC
    clear h hb
    go_enter Try.func21, Try.ntmps21
    go_wp2_with fail
    refine HC.out.mono ?_
    rintro e w1 ⟨rfl, rfl⟩
    go_wp2
    go_ret
    exact ⟨rfl, rfl⟩
set_option maxRecDepth 100000 in
set_option maxHeartbeats 1000000 in
theorem flipR_arg [Gc] {B p gk : Nat} {vo : Value} {kv wv : Nat → Value} {kb : Nat → List Nat} {t : DS} {w : World} (a bit : Int) (h : RV B p gk vo kv wv kb t w) (hb : ¬ (0 ≤ a ∧ a < t.n ∧ 0 ≤ bit ∧ bit < 65536)) :
    Calls Try.prog 22 #[.pointer (some ⟨p, 0, none⟩), .int .i64 a, .int .i64 bit] w fun e w' => e = .returned (.int .i64 1) ∧ w' = w := by
  have d0 := h.d.1
  clear h
  generalize t.n = n at *
  by_cases c1 : a < 0
  · have u1 : decide (a < 0) = true := decide_eq_true c1
    clear hb c1
    go_enter Try.func22, Try.ntmps22
    go_wp2
    go_ret
    exact ⟨rfl, rfl⟩
  · have u1 : decide (a < 0) = false := decide_eq_false c1
    by_cases c2 : (n : Int) ≤ a
    · have u2 : decide ((n : Int) ≤ a) = true := decide_eq_true c2
      clear hb c1 c2
      go_enter Try.func22, Try.ntmps22
      go_wp2
      go_ret
      exact ⟨rfl, rfl⟩
    · have u2 : decide ((n : Int) ≤ a) = false := decide_eq_false c2
      by_cases c3 : bit < 0
      · have u3 : decide (bit < 0) = true := decide_eq_true c3
        clear hb c1 c2 c3
        go_enter Try.func22, Try.ntmps22
        go_wp2
        go_ret
        exact ⟨rfl, rfl⟩
      · have u3 : decide (bit < 0) = false := decide_eq_false c3
        have u4 : decide ((65535 : Int) < bit) = true := decide_eq_true (by omega)
        clear hb c1 c2 c3
        go_enter Try.func22, Try.ntmps22
        go_wp2
        go_ret
        exact ⟨rfl, rfl⟩
theorem info_bytes : (Try.prog.info? 29).map (fun i => (i.zero, i.size, i.bytes)) = some (some (.slice none 0 0), 1, 24) := by kernel_rfl
theorem made_nils (n : Nat) : (madeCells (Value.slice none 0 0).cells (n * 1)).toList = krow (fun _ => .slice none 0 0) n := by
  have : (Value.slice none 0 0).cells = #[.slice none 0 0] := rfl
  rw [this, Nat.mul_one, toList_madeCells_one]
  apply List.ext_getElem?
  intro i
  by_cases h : i < n
  · rw [krow_get _ h, List.getElem?_replicate, if_pos h]
  · rw [List.getElem?_eq_none (by simp; omega), List.getElem?_eq_none (by rw [krow_len]; omega)]
end Go.Proofs.Ytnapapgmeghgjaa
