/- The states in DiskPlays: how many blocks, open writes, lives. -/
import Derived.Test.YtnapapgmeghgjaaW3
set_option linter.unusedVariables false
namespace Go.Proofs.Ytnapapgmeghgjaa
open Go.RowKit

structure SB (s : DS) (n k : Nat) : Prop where
  nn : s.n = n
  mm : s.m ≤ k
  l0 : 0 ≤ s.life
  lk : s.life ≤ (k : Int)
section
variable {s : DS} {n k : Nat}
theorem SB.up (h : SB s n k) : SB s n (k + 1) := ⟨h.nn, by have := h.mm; omega, h.l0, by have := h.lk; omega⟩
theorem SB.lose (h : SB s n k) (keep : Nat) (torn cut : Int) : SB (s.lose keep torn cut) n (k + 1) := ⟨(settle_n s keep torn cut).trans h.nn, Nat.zero_le _, by show 0 ≤ s.life + 1; have := h.l0; omega, by show s.life + 1 ≤ _; have := h.lk; omega⟩
theorem SB.tick (h : SB s n k) : SB s.tick n (k + 1) := by
  unfold DS.tick
  split
  · exact h.up
  · split
    · exact h.lose _ _ _
    · exact ⟨h.nn, by show s.m ≤ _; have := h.mm; omega, h.l0, by show s.life ≤ _; have := h.lk; omega⟩
theorem SB.flush (h : SB s n k) : SB s.flush n (k + 1) := by
  unfold DS.flush
  split
  · exact h.up
  · split
    · exact h.tick
    · have t := h.tick
      exact ⟨(settle_n _ _ _ _).trans t.nn, Nat.zero_le _, t.l0, t.lk⟩
theorem SB.arm (h : SB s n k) (a : Int) (keep : Nat) (torn cut : Int) : SB (s.arm a keep torn cut) n (k + 1) := by
  unfold DS.arm
  split
  · exact h.up
  · exact ⟨h.nn, by show s.m ≤ _; have := h.mm; omega, h.l0, by show s.life ≤ _; have := h.lk; omega⟩
theorem SB.cutS (h : SB s n k) (keep : Nat) (torn cut : Int) : SB (s.cutS keep torn cut) n (k + 1) := by
  unfold DS.cutS
  split
  · exact h.up
  · exact h.lose _ _ _
theorem SB.restart (h : SB s n k) : SB s.restart n (k + 1) := by
  unfold DS.restart
  split
  · exact ⟨h.nn, by show s.m ≤ _; have := h.mm; omega, h.l0, by show s.life ≤ _; have := h.lk; omega⟩
  · exact h.up
theorem SB.wrote (h : SB s n k) (hf : ¬ s.after = 1) (a : Nat) (xs : List Nat) : SB (s.tick.wrote a xs) n (k + 1) := by
  have f := tickF hf
  exact ⟨f.2.2.1.trans h.nn, by rw [wrote_m, f.2.2.2]; have := h.mm; omega, by show 0 ≤ s.tick.life; rw [f.2.1]; exact h.l0, by show s.tick.life ≤ _; rw [f.2.1]; have := h.lk; omega⟩
theorem SB.flip (h : SB s n k) (a bit : Nat) : SB (s.flip a bit) n (k + 1) := by
  obtain ⟨f1, f2, _, _, f5⟩ := flip_rest s a bit
  exact ⟨f1.trans h.nn, by rw [f2]; have := h.mm; omega, by rw [f5]; exact h.l0, by rw [f5]; have := h.lk; omega⟩
theorem tick_m (s : DS) : s.tick.m ≤ s.m := by
  unfold DS.tick
  split
  · exact Nat.le_refl _
  · split
    · exact Nat.zero_le _
    · exact Nat.le_refl _
theorem flush_m (s : DS) : s.flush.m ≤ s.m := by
  unfold DS.flush
  split
  · exact Nat.le_refl _
  · split
    · exact tick_m s
    · exact Nat.zero_le _
theorem arm_m (s : DS) (a : Int) (keep : Nat) (torn cut : Int) : (s.arm a keep torn cut).m ≤ s.m := by
  unfold DS.arm
  split <;> exact Nat.le_refl _
theorem cutS_m (s : DS) (keep : Nat) (torn cut : Int) : (s.cutS keep torn cut).m ≤ s.m := by
  unfold DS.cutS
  split
  · exact Nat.le_refl _
  · exact Nat.zero_le _
theorem restart_m (s : DS) : s.restart.m ≤ s.m := by
  unfold DS.restart
  split <;> exact Nat.le_refl _
end
/-- The law's w.Down = false, to the document's disk. -/
theorem RV.up [Gc] {b : Nat → Prop} {B p gk : Nat} {vo : Value} {kv wv : Nat → Value} {kb : Nat → List Nat} {t : DS} {w : World} (h : RV B p gk vo kv wv kb t w) : RV B p gk vo kv wv kb t.restart (w.setCell ⟨p, 2, none⟩ (.bool false)) ∧ Fd b B w (w.setCell ⟨p, 2, none⟩ (.bool false)) := by
  obtain ⟨h1, h2, h3⟩ := chainR (b := b) h.pB [(2, Value.bool false)] w _ h.hp
  have ok := h.ok
  refine ⟨?_, h2⟩
  cases hd : t.down with
  | true =>
    obtain ⟨z1, z2, z3, z4⟩ := h.dz hd
    have e : t.restart = t.with t.after t.keep t.torn t.cut false t.life := by
      unfold DS.restart DS.up
      rw [hd, z1, z2, z3, z4]
      rfl
    rw [e]
    exact h.put h1 h3 ok.keep ok.after ok.life0 ok.life1 (by intro q; cases q)
  | false =>
    have e : t.restart = t.with t.after t.keep t.torn t.cut false t.life := by
      unfold DS.restart
      rw [hd]
      cases t
      simp only at hd
      subst hd
      rfl
    rw [e]
    exact h.put h1 h3 ok.keep ok.after ok.life0 ok.life1 (by intro q; cases q)
end Go.Proofs.Ytnapapgmeghgjaa
