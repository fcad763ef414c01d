/- Contract of bytes.Clone. -/
import Derived.Test.YtnapapgmeghgjaaA2
set_option linter.unusedVariables false
namespace Go.Proofs.Ytnapapgmeghgjaa
open Go.RowKit

set_option maxRecDepth 100000 in
set_option maxHeartbeats 1000000 in
theorem clone_any (a : Option Addr) (len cap : Nat) (xs : List Nat) (w : World) (h : BS w a len cap xs) :
    Calls Try.prog 34 #[.slice a len cap] w fun e w' => ∃ v, e = .returned v ∧ w'.ownsRow w.heap.size 5 1 v xs.length (cellsOf xs) ∧ Below w.heap.size w w' := by
  obtain ⟨i0, hi, hz0, hz1, hz2⟩ := info_parts info5
  have hl := h.hlen
  have hr := h.hroom
  have H := hide h
  cases a with
  | none =>
    have := h.hnil rfl
    have := h.hcap
    have e : xs = [] := List.eq_nil_of_length_eq_zero (by omega)
    subst e
    clear h
    have hq := fun (n c : Nat) (ww : World) => Lib.run_eql_slice_nil (P := Try.prog) ww 29 5 none n c 0 0 Try.underlying29
    go_enter Try.func34, Try.ntmps34
    go_wp2
    go_ret
    exact ⟨_, rfl, World.ownsRow_nil _ _ _ _, Below.refl _ _⟩
  | some x =>
    have HL := hide hl
    have HO : Hid ((w.alloc (.cells #[] 5)).ownsRow w.heap.size 5 1 (.slice (some ⟨w.heap.size, 0, none⟩) 0 0) 0 []) := World.ownsRow_lit w #[] 0 (Nat.le_refl _) (by unfold maxLen; omega) rfl
    have HB := hide ((Below.refl w.heap.size w).alloc (Nat.le_refl _) (.cells #[] 5))
    have HN := hide (H.out.later HB.out (Nat.le_refl _)).news
    clear h hl
    have hq := fun (n c : Nat) (ww : World) => Lib.run_eql_slice_nil (P := Try.prog) ww 29 5 (some x) n c 0 0 Try.underlying29
    go_enter Try.func34, Try.ntmps34
    go_wp2_with (at_builtin; refine wpList_append_own_at _ rfl (.tmp 5) (.tmp 6) 29 rfl w.heap.size 5 i0 (.int .u8 0) 1 1 Try.underlying29 hi hz0 hz1 hz2 rfl (by omega) _ 0 [] rfl HO.out x len cap (cellsOf xs) rfl (by rw [cellsOf_length, HL.out, Nat.mul_one]) HN.out (cellsOf_one xs) (by unfold maxLen; omega) (by omega) (by simp) ?_; intro v' w' h2 h3 h4 h5; have HO2 := hide h2; have HB2 := hide (HB.out.grown h3 (by simp) (fun j hj => (HO.out.lt j hj).1)); clear h2 h3 h4 h5)
    go_ret
    have h2 := HO2.out
    rw [Nat.zero_add, List.nil_append, ← HL.out] at h2
    exact ⟨_, rfl, h2, HB2.out⟩
end Go.Proofs.Ytnapapgmeghgjaa
