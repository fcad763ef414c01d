/- Plain mathematics of the check sum: the register's shift is linear and keeps apart what is unlike; four bytes at once are four bytes one behind the other. -/
namespace Go.Proofs.Ytcophbkgighepaa

def sh (r : Nat) : Nat := if r % 2 = 0 then r / 2 else (r / 2) ^^^ 2197175160
def shn : Nat → Nat → Nat
  | 0, r => r
  | k + 1, r => shn k (sh r)
def stepB (r c : Nat) : Nat := shn 8 (r ^^^ c)
def crc (r : Nat) (bs : List Nat) : Nat := bs.foldl stepB r

theorem xor_div2 (a b : Nat) : (a ^^^ b) / 2 = a / 2 ^^^ b / 2 := Nat.xor_div_two
theorem xor_mod2 (a b : Nat) : (a ^^^ b) % 2 = (a % 2 + b % 2) % 2 := by
  have h := Nat.xor_mod_two_eq_one (a := a) (b := b)
  omega
theorem sh_lt {r : Nat} (h : r < 4294967296) : sh r < 4294967296 := by
  unfold sh
  split
  · omega
  · exact Nat.xor_lt_two_pow (n := 32) (by omega) (by decide)
theorem sh_xor (a b : Nat) : sh (a ^^^ b) = sh a ^^^ sh b := by
  have hm := xor_mod2 a b
  have hd := xor_div2 a b
  unfold sh
  rw [hd]
  by_cases ha : a % 2 = 0 <;> by_cases hb : b % 2 = 0
  · rw [if_pos ha, if_pos hb, if_pos (by omega)]
  · rw [if_pos ha, if_neg hb, if_neg (by omega), Nat.xor_assoc]
  · rw [if_neg ha, if_pos hb, if_neg (by omega)]
    rw [Nat.xor_assoc, Nat.xor_assoc, Nat.xor_comm (b / 2)]
  · rw [if_neg ha, if_neg hb, if_pos (by omega)]
    rw [Nat.xor_assoc, Nat.xor_comm 2197175160, Nat.xor_assoc, Nat.xor_self, Nat.xor_zero]
theorem sh_zero : sh 0 = 0 := by decide
theorem sh_pos {r : Nat} (h : r < 4294967296) (h0 : r ≠ 0) : sh r ≠ 0 := by
  unfold sh
  split
  · omega
  · intro e
    have : r / 2 = 2197175160 := by
      have := congrArg (· ^^^ 2197175160) e
      simpa [Nat.xor_assoc] using this
    omega
theorem shn_add (j k r : Nat) : shn (j + k) r = shn k (shn j r) := by
  induction j generalizing r with
  | zero => simp [shn]
  | succ j ih => rw [Nat.add_right_comm]; exact ih (sh r)
theorem shn_succ (k r : Nat) : shn (k + 1) r = sh (shn k r) := by rw [shn_add]; rfl
theorem shn_lt (k : Nat) {r : Nat} (h : r < 4294967296) : shn k r < 4294967296 := by
  induction k generalizing r with
  | zero => exact h
  | succ k ih => exact ih (sh_lt h)
theorem shn_xor (k a b : Nat) : shn k (a ^^^ b) = shn k a ^^^ shn k b := by
  induction k generalizing a b with
  | zero => rfl
  | succ k ih => show shn k (sh (a ^^^ b)) = _; rw [sh_xor]; exact ih _ _
theorem shn_pos (k : Nat) {r : Nat} (h : r < 4294967296) (h0 : r ≠ 0) : shn k r ≠ 0 := by
  induction k generalizing r with
  | zero => exact h0
  | succ k ih => exact ih (sh_lt h) (sh_pos h h0)
theorem sh_two (m : Nat) : sh (2 * m) = m := by unfold sh; rw [if_pos (by omega)]; omega
theorem shn_pow (k m : Nat) : shn k (2 ^ k * m) = m := by
  induction k generalizing m with
  | zero => simp [shn]
  | succ k ih =>
    show shn k (sh (2 ^ (k + 1) * m)) = m
    rw [show 2 ^ (k + 1) * m = 2 * (2 ^ k * m) by rw [Nat.pow_succ]; simp [Nat.mul_comm, Nat.mul_left_comm], sh_two]
    exact ih m
theorem crc_four (r a b c d : Nat) : stepB (stepB (stepB (stepB r a) b) c) d = shn 32 (r ^^^ (a ^^^ (256 * b) ^^^ (65536 * c) ^^^ (16777216 * d))) := by
  unfold stepB
  have hb : b = shn 8 (256 * b) := (shn_pow 8 b).symm
  have hc : c = shn 16 (65536 * c) := (shn_pow 16 c).symm
  have hd : d = shn 24 (16777216 * d) := (shn_pow 24 d).symm
  have e1 : shn 8 (r ^^^ a) ^^^ b = shn 8 (r ^^^ a ^^^ 256 * b) := by rw [shn_xor 8 (r ^^^ a) (256 * b), ← hb]
  rw [e1]
  have e2 : shn 8 (shn 8 (r ^^^ a ^^^ 256 * b)) ^^^ c = shn 16 (r ^^^ a ^^^ 256 * b ^^^ 65536 * c) := by
    rw [← shn_add 8 8, shn_xor 16 (r ^^^ a ^^^ 256 * b) (65536 * c), ← hc]
  rw [e2]
  have e3 : shn 8 (shn 16 (r ^^^ a ^^^ 256 * b ^^^ 65536 * c)) ^^^ d = shn 24 (r ^^^ a ^^^ 256 * b ^^^ 65536 * c ^^^ 16777216 * d) := by
    rw [← shn_add 16 8, shn_xor 24 (r ^^^ a ^^^ 256 * b ^^^ 65536 * c) (16777216 * d), ← hd]
  rw [e3, ← shn_add 24 8]
  simp [Nat.xor_assoc]
theorem stepB_lt {r c : Nat} (h : r < 4294967296) (hc : c < 256) : stepB r c < 4294967296 :=
  shn_lt 8 (Nat.xor_lt_two_pow (n := 32) h (by omega))
theorem crc_lt {r : Nat} (h : r < 4294967296) (bs : List Nat) (hb : ∀ c ∈ bs, c < 256) : crc r bs < 4294967296 := by
  induction bs generalizing r with
  | nil => exact h
  | cons c bs ih =>
    show crc (stepB r c) bs < _
    exact ih (stepB_lt h (hb c (by simp))) (fun x hx => hb x (by simp [hx]))

/- Disjoint bits: or, exclusive or and sum are one. -/
theorem xor_of_and {a b : Nat} (h : a &&& b = 0) : a ||| b = a ^^^ b := by
  apply Nat.eq_of_testBit_eq
  intro i
  have hi : (a &&& b).testBit i = false := by rw [h]; simp
  simp only [Nat.testBit_and, Nat.testBit_or, Nat.testBit_xor] at *
  cases h1 : a.testBit i <;> cases h2 : b.testBit i <;> simp_all
theorem xor_low (k a b : Nat) (h : a < 2 ^ k) : a ||| 2 ^ k * b = a ^^^ 2 ^ k * b := by
  apply xor_of_and
  apply Nat.eq_of_testBit_eq
  intro i
  rw [Nat.testBit_and, Nat.testBit_two_pow_mul]
  simp only [Nat.zero_testBit]
  by_cases hk : i ≥ k
  · have : a.testBit i = false := Nat.testBit_lt_two_pow (Nat.lt_of_lt_of_le h (Nat.pow_le_pow_right (by omega) hk))
    simp [this]
  · simp [hk]
theorem nat_split (k r : Nat) : r = r % 2 ^ k ^^^ 2 ^ k * (r / 2 ^ k) := by
  rw [← xor_low k _ _ (Nat.mod_lt _ (Nat.two_pow_pos k)), Nat.or_comm, ← Nat.two_pow_add_eq_or_of_lt (Nat.mod_lt _ (Nat.two_pow_pos k))]
  exact (Nat.div_add_mod r (2 ^ k)).symm
end Go.Proofs.Ytcophbkgighepaa
