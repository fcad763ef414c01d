/- A disk with power, unarmed: what Write of any bytes, Flush and Flip leave of it. -/
import Derived.Test.YtfdnnebcjkjafaaK3
set_option linter.unusedVariables false
set_option linter.unusedSimpArgs false
namespace Go.Proofs.Ytfdnnebcjkjafaa
open Go.RowKit

/-- Four blocks, power, unarmed, at most k open writes. -/
structure TS (s : DS) (k : Nat) : Prop where
  n4 : s.n = 4
  m1 : s.m ≤ k
  dn : s.down = false
  af : s.after = 0
  lf : s.life = 0
theorem ts_start : TS (DS.new 4) 0 := ⟨rfl, Nat.le_refl _, rfl, rfl, rfl⟩
theorem TS.write {s : DS} {k : Nat} (h : TS s k) (a : Nat) (xs : List Nat) : TS (s.tick.wrote a xs) (k + 1) := by
  have haf := h.af
  have hm := h.m1
  have e0 : s.tick = s := tick_none (by omega)
  rw [e0]
  exact ⟨h.n4, by rw [wrote_m]; omega, h.dn, h.af, h.lf⟩
theorem TS.flush {s : DS} {k : Nat} (h : TS s k) : TS s.flush (k + 1) := by
  have haf := h.af
  have e0 : s.tick = s := tick_none (by omega)
  have e2 : s.flush = s.settle 18446744073709551615 (-1) 0 := by
    unfold DS.flush
    simp only [h.dn, Bool.false_eq_true, if_false]
    rw [if_neg (by omega), e0]
  rw [e2]
  exact ⟨by rw [settle_n]; exact h.n4, Nat.zero_le _, h.dn, h.af, h.lf⟩
theorem flipF_down (bit : Nat) : ∀ (l : List Nat) (s : DS), (s.flipF bit l).down = s.down ∧ (s.flipF bit l).after = s.after ∧ (s.flipF bit l).life = s.life
  | [], _ => ⟨rfl, rfl, rfl⟩
  | i :: l, s => flipF_down bit l (s.setBy i (turnL (s.by_ i) bit))
theorem TS.flip {s : DS} {k : Nat} (h : TS s k) (a bit : Nat) : TS (s.flip a bit) k := by
  have h1 := flipF_m bit (s.idx a) (s.setKp a (turnL (s.K a) bit))
  have h2 := flipF_down bit (s.idx a) (s.setKp a (turnL (s.K a) bit))
  exact ⟨h1.2.1.trans ((setKp_n s a _).trans h.n4), by have e : (s.flip a bit).m = s.m := h1.1; rw [e]; exact h.m1, h2.1.trans h.dn, h2.2.1.trans h.af, h2.2.2.trans h.lf⟩
theorem TS.mono {s : DS} {k k' : Nat} (h : TS s k) (hk : k ≤ k') : TS s k' := ⟨h.n4, Nat.le_trans h.m1 hk, h.dn, h.af, h.lf⟩

/-- Write of bytes of the call's own, whichever they are. -/
theorem write_own (B p : Nat) (s : DS) (k a : Nat) (v : Value) (ys : List Nat) (B' : Nat) (w : World) (h : DI B p s w) (hB : B ≤ w.heap.size) (ht : TS s k) (hk : k ≤ 1000) (ha : a < 4) (ho : OwnB B' v ys w) :
    Calls Try.prog 12 #[.pointer (some ⟨p, 0, none⟩), .int .i64 a, v] w fun e w' => ∃ x s', e = .returned (.int .i64 x) ∧ DI B p s' w' ∧ TS s' (k + 1) ∧ Fr B w w' := by
  obtain ⟨h1, h2, h3⟩ := ho
  have haf := ht.af
  have hm := ht.m1
  have hn := ht.n4
  have hlf := ht.lf
  obtain ⟨aa, cap, rfl, hbs⟩ := bs_row h1 (by omega) h2
  by_cases hl : ys.length ≤ blk
  · refine (write_ok B p s a aa ys.length cap ys w h hB ht.dn (by omega) (by omega) (by omega) (by omega) hl h2 rfl ?_).mono ?_
    · intro ww f
      obtain ⟨a2, c2, e2, hb2⟩ := bs_row (f.row h1 (by decide) (by decide) (by decide) (by decide)) (by omega) h2
      simp only [Value.slice.injEq] at e2
      obtain ⟨rfl, _, rfl⟩ := e2
      exact hb2
    · rintro e w' ⟨rfl, hD, hF⟩
      exact ⟨_, _, rfl, hD, ht.write a ys, hF⟩
  · refine (write_long B p s a aa ys.length cap w h ht.dn ⟨by omega, by omega⟩ (by omega)).mono ?_
    rintro e w' ⟨rfl, rfl⟩
    exact ⟨_, _, rfl, h, ht.mono (Nat.le_succ _), Fr.refl _ _⟩
end Go.Proofs.Ytfdnnebcjkjafaa
