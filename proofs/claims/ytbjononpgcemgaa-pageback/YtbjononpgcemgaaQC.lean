/- The disk in PageBack: no loss, each page reads as it was laid down. -/
import Derived.Test.YtbjononpgcemgaaQB
set_option linter.unusedVariables false
namespace Go.Proofs.Ytbjononpgcemgaa
open Go.RowKit

/-- A disk with power, unarmed, of n blocks, whose pages 2, 3, .. are of the texts tx, with at most k open writes. -/
structure BD (s : DS) (n M k : Nat) (tx : Nat → List Nat) : Prop where
  nn : s.n = n
  dn : s.down = false
  af : s.after = 0
  lf : s.life = 0
  mk2 : s.m ≤ k
  sh : ∀ i, i < M → s.show (2 + i) = laidP (tx i)
theorem bd_start (n : Nat) : BD (DS.new n) n 0 0 (fun _ => []) := ⟨by simp [DS.n, DS.new], rfl, rfl, rfl, Nat.le_refl _, fun i h => absurd h (Nat.not_lt_zero i)⟩
theorem BD.tick {s : DS} {n M k : Nat} {tx : Nat → List Nat} (h : BD s n M k tx) : s.tick = s := tick_none (by rw [h.af]; omega)
theorem BD.no1 {s : DS} {n M k : Nat} {tx : Nat → List Nat} (h : BD s n M k tx) : ¬ s.after = 1 := by rw [h.af]; omega
theorem BD.put {s : DS} {n M k : Nat} {tx : Nat → List Nat} (h : BD s n M k tx) (ys : List Nat) : BD (s.tick.wrote (2 + M) (laidP ys)) n (M + 1) (k + 1) (fun i => if i = M then ys else tx i) := by
  rw [h.tick]
  refine ⟨h.nn, h.dn, h.af, h.lf, by rw [wrote_m]; have := h.mk2; omega, fun i hi => ?_⟩
  rw [show_wrote]
  by_cases e : i = M
  · subst e; rw [if_pos rfl, if_pos rfl]
  · rw [if_neg (by omega), if_neg e]; exact h.sh i (by omega)
theorem BD.fill {s : DS} {n M k b : Nat} {tx : Nat → List Nat} (h : BD s n M k tx) (ys : List Nat) (hb : b < 2 ∨ 2 + M ≤ b) : BD (s.tick.wrote b ys) n M (k + 1) tx := by
  rw [h.tick]
  refine ⟨h.nn, h.dn, h.af, h.lf, by rw [wrote_m]; have := h.mk2; omega, fun i hi => ?_⟩
  rw [show_wrote, if_neg (by omega)]
  exact h.sh i hi
theorem BD.flush {s : DS} {n M k : Nat} {tx : Nat → List Nat} (h : BD s n M k tx) (hn : 2 + M ≤ n) : BD s.flush n M 0 tx ∧ s.flushE = 0 := by
  have f := flush_facts h.dn h.no1
  refine ⟨⟨f.2.2.1.trans h.nn, f.2.1, ?_, f.2.2.2.2.trans h.lf, Nat.le_of_eq f.2.2.2.1, fun i hi => ?_⟩, f.1⟩
  · rw [flush_is h.dn h.no1, h.tick]
    exact h.af
  · rw [show_flush h.dn h.no1 _ (by rw [h.nn]; omega)]
    exact h.sh i hi
theorem BD.commit {s : DS} {n M k : Nat} {tx : Nat → List Nat} (h : BD s n M k tx) (hn : 2 + M ≤ n) (num root : Nat) : ∃ s', s.commit num root = (s', 0) ∧ BD s' n M 0 tx := by
  obtain ⟨h1, _⟩ := h.flush hn
  have h2 := h1.fill (headB num root) (b := num % 2) (Or.inl (by omega))
  obtain ⟨h3, e3⟩ := h2.flush hn
  refine ⟨_, ?_, h3⟩
  rw [commit_is rfl h.no1 h1.no1, e3]
end Go.Proofs.Ytbjononpgcemgaa
