/- Plain mathematics: the table tells what 32 shifts leave of a register; four bytes at a time are the bytes one by one. -/
import Derived.Test.YtbjononpgcemgaaSE
namespace Go.Proofs.Ytbjononpgcemgaa

theorem mul_xor (k a b : Nat) : 2 ^ k * (a ^^^ b) = 2 ^ k * a ^^^ 2 ^ k * b := by
  apply Nat.eq_of_testBit_eq
  intro i
  simp only [Nat.testBit_two_pow_mul, Nat.testBit_xor]
  by_cases h : i ≥ k <;> simp [h]
theorem shn_split (k m : Nat) : shn 32 (2 ^ k * m) = shn 32 (2 ^ k * (m % 16)) ^^^ shn 32 (2 ^ (k + 4) * (m / 16)) := by
  have e : m = m % 16 ^^^ 16 * (m / 16) := nat_split 4 m
  rw [← shn_xor, show 2 ^ (k + 4) * (m / 16) = 2 ^ k * (16 * (m / 16)) by rw [Nat.pow_add]; simp [Nat.mul_assoc], ← mul_xor, ← e]
theorem tab_get : ∀ k : Fin 8, ∀ v : Fin 16, tab.getD (16 * k.val + v.val) 0 = shn 32 (2 ^ (4 * k.val) * v.val) := by decide +kernel
theorem tab_at (k v : Nat) (hk : k < 8) (hv : v < 16) : tab.getD (16 * k + v) 0 = shn 32 (2 ^ (4 * k) * v) := tab_get ⟨k, hk⟩ ⟨v, hv⟩
theorem tab_small : ∀ j : Fin 128, tab.getD j.val 0 < 2 ^ 32 := by decide +kernel

theorem past_eq (r : Nat) (hr : r < 4294967296) :
    tab.getD (r % 16) 0 ^^^ tab.getD (16 + r / 16 % 16) 0 ^^^ tab.getD (32 + r / 256 % 16) 0 ^^^ tab.getD (48 + r / 4096 % 16) 0 ^^^ tab.getD (64 + r / 65536 % 16) 0 ^^^ tab.getD (80 + r / 1048576 % 16) 0 ^^^ tab.getD (96 + r / 16777216 % 16) 0 ^^^ tab.getD (112 + r / 268435456) 0 = shn 32 r := by
  have e0 := tab_at 0 (r % 16) (by omega) (by omega)
  have e1 := tab_at 1 (r / 16 % 16) (by omega) (by omega)
  have e2 := tab_at 2 (r / 256 % 16) (by omega) (by omega)
  have e3 := tab_at 3 (r / 4096 % 16) (by omega) (by omega)
  have e4 := tab_at 4 (r / 65536 % 16) (by omega) (by omega)
  have e5 := tab_at 5 (r / 1048576 % 16) (by omega) (by omega)
  have e6 := tab_at 6 (r / 16777216 % 16) (by omega) (by omega)
  have e7 := tab_at 7 (r / 268435456) (by omega) (by omega)
  simp only [Nat.mul_zero, Nat.zero_add, Nat.reduceMul] at e0 e1 e2 e3 e4 e5 e6 e7
  rw [e0, e1, e2, e3, e4, e5, e6, e7]
  have s0 := shn_split 0 r
  have s1 := shn_split 4 (r / 16)
  have s2 := shn_split 8 (r / 256)
  have s3 := shn_split 12 (r / 4096)
  have s4 := shn_split 16 (r / 65536)
  have s5 := shn_split 20 (r / 1048576)
  have s6 := shn_split 24 (r / 16777216)
  simp only [Nat.div_div_eq_div_mul, Nat.reduceMul, Nat.reduceAdd] at s0 s1 s2 s3 s4 s5 s6
  rw [Nat.pow_zero, Nat.one_mul, Nat.one_mul] at s0
  rw [s0, s1, s2, s3, s4, s5, s6]
  simp only [Nat.pow_zero, Nat.one_mul, Nat.xor_assoc]

theorem take4 (xs : List Nat) (k : Nat) (h : 4 * k + 4 ≤ xs.length) :
    xs.take (4 * (k + 1)) = xs.take (4 * k) ++ [xs.getD (4 * k) 0, xs.getD (4 * k + 1) 0, xs.getD (4 * k + 2) 0, xs.getD (4 * k + 3) 0] := by
  have g : ∀ i, i < xs.length → xs.take (i + 1) = xs.take i ++ [xs.getD i 0] := fun i hi => by
    rw [List.take_succ_eq_append_getElem hi, List.getD_eq_getElem?_getD, List.getElem?_eq_getElem hi]; rfl
  rw [show 4 * (k + 1) = 4 * k + 1 + 1 + 1 + 1 by omega, g _ (by omega), g _ (by omega), g _ (by omega), g _ (by omega)]
  simp
theorem crc_append (r : Nat) (xs ys : List Nat) : crc r (xs ++ ys) = crc (crc r xs) ys := by simp [crc]
theorem crc_take4 (i : Nat) (xs : List Nat) (k : Nat) (h : 4 * k + 4 ≤ xs.length) :
    crc i (xs.take (4 * (k + 1))) = shn 32 (crc i (xs.take (4 * k)) ^^^ (xs.getD (4 * k) 0 ^^^ (256 * xs.getD (4 * k + 1) 0) ^^^ (65536 * xs.getD (4 * k + 2) 0) ^^^ (16777216 * xs.getD (4 * k + 3) 0))) := by
  rw [take4 xs k h, crc_append, ← crc_four]; rfl
theorem crc_take1 (i : Nat) (xs : List Nat) (k : Nat) (h : k < xs.length) : crc i (xs.take (k + 1)) = stepB (crc i (xs.take k)) (xs.getD k 0) := by
  rw [List.take_succ_eq_append_getElem h, crc_append, List.getD_eq_getElem?_getD, List.getElem?_eq_getElem h]; rfl
theorem crc_take_lt (xs : List Nat) (h : ∀ c ∈ xs, c < 256) (k : Nat) : crc 4294967295 (xs.take k) < 4294967296 :=
  crc_lt (by decide) _ (fun c hc => h c (List.mem_of_mem_take hc))
end Go.Proofs.Ytbjononpgcemgaa
