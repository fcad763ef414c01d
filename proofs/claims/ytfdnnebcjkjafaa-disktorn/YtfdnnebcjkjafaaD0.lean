/- The walk of the law DiskTorn: whatever two rows of bytes and whatever cut, it returns true and writes nothing that was there. -/
import Derived.Test.YtfdnnebcjkjafaaC3
set_option linter.unusedVariables false
namespace Go.Proofs.Ytfdnnebcjkjafaa
open Go.RowKit

theorem torn_states (A Bx : List Nat) (cut : Int) (s0 s1 s2 s3 s4 s5 : DS) (hs0 : s0 = DS.new 2) (hs1 : s1 = s0.tick.wrote 1 A) (hs2 : s2 = s1.flush) (hs3 : s3 = s2.tick.wrote 1 Bx) (hs4 : s4 = s3.cutS 18446744073709551615 0 cut) (hs5 : s5 = s4.restart) :
    (s0.down = false ∧ 1 < s0.n ∧ ¬ s0.after = 1 ∧ s0.life = 0 ∧ s0.m = 0) ∧ (s1.life = 0 ∧ s1.flushE = 0) ∧ (s2.down = false ∧ 1 < s2.n ∧ ¬ s2.after = 1 ∧ s2.life = 0 ∧ s2.m = 0) ∧ (s3.life = 0 ∧ s3.m = 1) ∧ (s5.down = false ∧ 1 < s5.n ∧ s5.show 1 = laidL A Bx (keptN 18446744073709551615 0 cut 0) ∧ s5.m = 0) := by
  subst hs5 hs4 hs3 hs2 hs1 hs0
  exact ⟨⟨rfl, (show 1 < 2 by omega), (show ¬ (0 : Int) = 1 by omega), rfl, rfl⟩, ⟨rfl, rfl⟩, ⟨rfl, (show 1 < 2 by omega), (show ¬ (0 : Int) = 1 by omega), rfl, rfl⟩, ⟨rfl, rfl⟩, ⟨rfl, (show 1 < 2 by omega), rfl, rfl⟩⟩

end Go.Proofs.Ytfdnnebcjkjafaa
