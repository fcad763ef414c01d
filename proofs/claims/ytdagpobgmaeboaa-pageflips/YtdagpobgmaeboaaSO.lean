/- Plain mathematics of turned bits: an odd number of them, or some within 32 that follow one another, turn the check sum. -/
import Derived.Test.YtdagpobgmaeboaaSN
namespace Go.Proofs.Ytdagpobgmaeboaa

/-- Is the number of set bits among the lowest k odd? -/
def par : Nat → Nat → Bool
  | 0, _ => false
  | k + 1, r => xor (decide (r % 2 = 1)) (par k (r / 2))
theorem par_xor : ∀ (k a b : Nat), par k (a ^^^ b) = xor (par k a) (par k b)
  | 0, _, _ => rfl
  | k + 1, a, b => by
    have hm := xor_mod2 a b
    rw [par, par, par, xor_div2, par_xor k]
    have e : decide ((a ^^^ b) % 2 = 1) = xor (decide (a % 2 = 1)) (decide (b % 2 = 1)) := by
      rcases Nat.mod_two_eq_zero_or_one a with h | h <;> rcases Nat.mod_two_eq_zero_or_one b with h' | h' <;> rw [h, h'] at hm <;> rw [hm, h, h'] <;> rfl
    rw [e]
    cases decide (a % 2 = 1) <;> cases decide (b % 2 = 1) <;> cases par k (a / 2) <;> cases par k (b / 2) <;> rfl
theorem par_more : ∀ (k r : Nat), r < 2 ^ k → par (k + 1) r = par k r
  | 0, r, h => by
    have : r = 0 := by simpa using h
    subst this; rfl
  | k + 1, r, h => by
    have ih := par_more k (r / 2) (by rw [Nat.pow_succ] at h; omega)
    show xor (decide (r % 2 = 1)) (par (k + 1) (r / 2)) = xor (decide (r % 2 = 1)) (par k (r / 2))
    rw [ih]
theorem par_sh {r : Nat} (h : r < 4294967296) : par 32 (sh r) = par 32 r := by
  have h1 : par 33 r = par 32 r := par_more 32 r h
  have h2 : par 33 r = xor (decide (r % 2 = 1)) (par 32 (r / 2)) := rfl
  rw [← h1, h2]
  unfold sh
  split
  · rename_i h0
    rw [decide_eq_false (by omega)]
    simp
  · rename_i h0
    rw [decide_eq_true (by omega), par_xor, show par 32 2197175160 = true by decide]
    cases par 32 (r / 2) <;> rfl
theorem par_shn (k : Nat) {r : Nat} (h : r < 4294967296) : par 32 (shn k r) = par 32 r := by
  induction k generalizing r with
  | zero => rfl
  | succ k ih => exact (ih (sh_lt h)).trans (par_sh h)

theorem crc_xor (bs : List Nat) : ∀ u v, crc (u ^^^ v) bs = crc u bs ^^^ shn (8 * bs.length) v := by
  induction bs with
  | nil => intro u v; simp [crc, shn]
  | cons c bs ih =>
    intro u v
    show crc (stepB (u ^^^ v) c) bs = crc (stepB u c) bs ^^^ _
    have e : stepB (u ^^^ v) c = stepB u c ^^^ shn 8 v := by
      unfold stepB
      rw [show u ^^^ v ^^^ c = (u ^^^ c) ^^^ v by rw [Nat.xor_assoc, Nat.xor_comm v c, ← Nat.xor_assoc], shn_xor]
    rw [e, ih, ← shn_add, List.length_cons]
    congr 2
    omega
def flip (ys : List Nat) (p : Nat) : List Nat := ys.set (p / 8) (ys.getD (p / 8) 0 ^^^ 2 ^ (p % 8))
theorem flip_length (ys : List Nat) (p : Nat) : (flip ys p).length = ys.length := by simp [flip]
theorem flip_byte (ys : List Nat) (p : Nat) (h : ∀ y ∈ ys, y < 256) : ∀ y ∈ flip ys p, y < 256 := by
  intro y hy
  rcases List.mem_or_eq_of_mem_set hy with z | z
  · exact h y z
  · rw [z]
    have h1 : ys.getD (p / 8) 0 < 256 := byteAt h _
    have h2 : 2 ^ (p % 8) < 2 ^ 8 := Nat.pow_lt_pow_right (by decide) (by omega)
    exact Nat.xor_lt_two_pow (n := 8) h1 h2
theorem shn_one (k j : Nat) (h : j ≤ k) : shn k (2 ^ j) = shn (k - j) 1 := by
  have e := shn_pow j 1
  rw [Nat.mul_one] at e
  rw [show k = j + (k - j) by omega, shn_add, e]
  congr 1
  omega
/-- One turned bit turns the register by a number of its place alone. -/
theorem flip_crc (i : Nat) (ys : List Nat) (p : Nat) (h : p < 8 * ys.length) : crc i (flip ys p) = crc i ys ^^^ shn (8 * ys.length - p) 1 := by
  have hq : p / 8 < ys.length := by omega
  have e1 : ys = ys.take (p / 8) ++ (ys.getD (p / 8) 0 :: ys.drop (p / 8 + 1)) := by
    rw [List.getD_eq_getElem?_getD, List.getElem?_eq_getElem hq]
    simp
  have e2 : flip ys p = ys.take (p / 8) ++ ((ys.getD (p / 8) 0 ^^^ 2 ^ (p % 8)) :: ys.drop (p / 8 + 1)) := by
    unfold flip
    rw [List.set_eq_take_append_cons_drop, if_pos hq]
  have e3 : crc i ys = crc (stepB (crc i (ys.take (p / 8))) (ys.getD (p / 8) 0)) (ys.drop (p / 8 + 1)) := by
    conv => lhs; rw [e1]
    rw [crc_append]; rfl
  rw [e2, crc_append, e3]
  show crc (stepB _ _) _ = _
  have e4 : ∀ s c, stepB s (c ^^^ 2 ^ (p % 8)) = stepB s c ^^^ shn 8 (2 ^ (p % 8)) := fun s c => by
    unfold stepB
    rw [← Nat.xor_assoc, shn_xor]
  rw [e4, crc_xor, ← shn_add, List.length_drop, shn_one _ _ (by omega)]
  congr 2
  omega
theorem odd_turns {G : Nat} (hp : par 32 G = true) (x : Nat) : x ^^^ G ≠ x := by
  intro h
  have : G = 0 := by
    have h2 := congrArg (x ^^^ ·) h
    simpa [← Nat.xor_assoc] using h2
  rw [this] at hp
  exact absurd hp (by decide)
theorem par_bit (k : Nat) : par 32 (shn k 1) = true := by rw [par_shn k (by decide)]; decide
theorem burst_turns {P k : Nat} (h : P < 4294967296) (h0 : P ≠ 0) (x : Nat) : x ^^^ shn k P ≠ x := by
  intro e
  have : shn k P = 0 := by
    have h2 := congrArg (x ^^^ ·) e
    simpa [← Nat.xor_assoc] using h2
  exact shn_pos k h h0 this
theorem pow_xor (P x : Nat) (h : P < 2 ^ x) : P ^^^ 2 ^ x = P + 2 ^ x := by
  have e := xor_low x P 1 h
  rw [Nat.mul_one] at e
  have e2 := Nat.two_pow_add_eq_or_of_lt h 1
  rw [Nat.mul_one] at e2
  rw [← e, Nat.or_comm, Nat.add_comm, ← e2]
end Go.Proofs.Ytdagpobgmaeboaa
