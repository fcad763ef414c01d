/- Contracts of the small functions of package wire that only compute: shift, groups, and math/bits.Len. -/
import Derived.Test.YtcophbkgighepaaProg
import Derived.Test.YtcophbkgighepaaSM
import Derived.WalkKit
import Derived.WalkSpells
import Derived.WalkLawsBesides
import Derived.Lib.BitFns
import Derived.Lib.Walk
namespace Go.Proofs.Ytcophbkgighepaa
open Go.RowKit

theorem ret_int {k : IntKind} {a b : Int} (h : a = b) : Ending.returned (.int k a) = .returned (.int k b) := by rw [h]
theorem wraps_i64 (n : Int) (h0 : 0 ≤ n) (h1 : n < 2 ^ 63) : IntKind.i64.wrap n = n := by
  rw [IntKind.wrap_i64]
  have : (2 : Int) ^ 63 = 9223372036854775808 := by decide
  omega
theorem i64_and_nat (a b : Nat) (ha : a < 9223372036854775808) (hb : b < 9223372036854775808) : bits .and .i64 (a : Int) (b : Int) = ((a &&& b : Nat) : Int) :=
  (bits_nat .i64 63 (by decide) wraps_i64 a b (by omega) (by omega)).1
theorem i64_or_nat (a b : Nat) (ha : a < 9223372036854775808) (hb : b < 9223372036854775808) : bits .or .i64 (a : Int) (b : Int) = ((a ||| b : Nat) : Int) :=
  (bits_nat .i64 63 (by decide) wraps_i64 a b (by omega) (by omega)).2
theorem u32_and1 (r : Nat) (h : r < 4294967296) : bits .and .u32 (r : Int) 1 = ((r % 2 : Nat) : Int) := by
  have := u32_and_nat r 1 h (by decide)
  rw [nat_mask1] at this
  exact this

end Go.Proofs.Ytcophbkgighepaa
namespace Go.Proofs.Ytcophbkgighepaa

/-- Reads a number: k bytes more at most, i were read, n is what they make. It tells the number, how many bytes were read, the error. -/
def rdFW : Nat → Nat → List Nat → Nat → Nat × Nat × Nat
  | 0, _, _, _ => (0, 0, 11)
  | _ + 1, _, [], _ => (0, 0, 10)
  | k + 1, i, c :: r, n => if i = 0 ∧ c = 128 then (0, 0, 11) else if c < 128 then (n * 128 + c % 128, i + 1, 0) else rdFW k (i + 1) r (n * 128 + c % 128)
/-- ReadUint at a place within the bytes. -/
def rdN (xs : List Nat) (p : Nat) : Nat × Nat × Nat := rdFW 9 0 (xs.drop p) 0
def rdNext (xs : List Nat) (p : Nat) : Nat := if (rdN xs p).2.2 = 0 then p + (rdN xs p).2.1 else 0

theorem rdF_nil (k i n : Nat) : rdFW (k + 1) i [] n = (0, 0, 10) := rfl
theorem rdF_cons (k i c n : Nat) (r : List Nat) : rdFW (k + 1) i (c :: r) n = if i = 0 ∧ c = 128 then (0, 0, 11) else if c < 128 then (n * 128 + c % 128, i + 1, 0) else rdFW k (i + 1) r (n * 128 + c % 128) := rfl
theorem drop_cons (xs : List Nat) (p : Nat) (h : p < xs.length) : xs.drop p = xs.getD p 0 :: xs.drop (p + 1) := by
  rw [List.drop_eq_getElem_cons h, List.getD_eq_getElem?_getD, List.getElem?_eq_getElem h]; rfl
theorem drop_none (xs : List Nat) (p : Nat) (h : xs.length ≤ p) : xs.drop p = [] := List.drop_of_length_le h
theorem rd_full {xs : List Nat} {p m : Nat} (h : rdN xs p = rdFW (9 - 9) 9 (xs.drop (p + 9)) m) : (rdN xs p).1 = 0 ∧ rdNext xs p = 0 ∧ (rdN xs p).2.2 = 11 := by
  have e : rdN xs p = (0, 0, 11) := by rw [h]; rfl
  unfold rdNext; rw [e]; simp
theorem rd_short {xs : List Nat} {p k m : Nat} (hk : k < 9) (he : p + k = xs.length) (h : rdN xs p = rdFW (9 - k) k (xs.drop (p + k)) m) : (rdN xs p).1 = 0 ∧ rdNext xs p = 0 ∧ (rdN xs p).2.2 = 10 := by
  have e : rdN xs p = (0, 0, 10) := by rw [h, drop_none xs _ (by omega), show 9 - k = (8 - k) + 1 by omega]; rfl
  unfold rdNext; rw [e]; simp
theorem rd_form {xs : List Nat} {p m : Nat} (hp : p < xs.length) (hc : xs.getD p 0 = 128) (h : rdN xs p = rdFW (9 - 0) 0 (xs.drop (p + 0)) m) : (rdN xs p).1 = 0 ∧ rdNext xs p = 0 ∧ (rdN xs p).2.2 = 11 := by
  have e : rdN xs p = (0, 0, 11) := by rw [h, Nat.add_zero, drop_cons xs _ hp, hc]; rfl
  unfold rdNext; rw [e]; simp
theorem rd_done {xs : List Nat} {p k m c : Nat} (hk : k < 9) (hp : p + k < xs.length) (hc : xs.getD (p + k) 0 = c) (h7 : c < 128) (h : rdN xs p = rdFW (9 - k) k (xs.drop (p + k)) m) :
    (rdN xs p).1 = m * 128 + c % 128 ∧ rdNext xs p = p + k + 1 ∧ (rdN xs p).2.2 = 0 := by
  have e : rdN xs p = (m * 128 + c % 128, k + 1, 0) := by
    rw [h, drop_cons xs _ hp, hc, show 9 - k = (8 - k) + 1 by omega, rdF_cons, if_neg (by omega), if_pos h7]
  unfold rdNext; rw [e]; simp; omega
theorem rd_more {xs : List Nat} {p k m c : Nat} (hk : k < 9) (hp : p + k < xs.length) (hc : xs.getD (p + k) 0 = c) (h7 : ¬ c < 128) (h0 : ¬ (k = 0 ∧ c = 128)) (h : rdN xs p = rdFW (9 - k) k (xs.drop (p + k)) m) :
    rdN xs p = rdFW (9 - (k + 1)) (k + 1) (xs.drop (p + (k + 1))) (m * 128 + c % 128) := by
  rw [h, drop_cons xs _ hp, hc, show 9 - k = (8 - k) + 1 by omega, rdF_cons, if_neg h0, if_neg h7, show 9 - (k + 1) = 8 - k by omega, Nat.add_assoc]
theorem rd_bound {k m c : Nat} (hm : m < 128 ^ k) : (m * 128 + c % 128) < 128 ^ (k + 1) := by
  rw [Nat.pow_succ]; omega
theorem pow9 {k : Nat} (hk : k ≤ 9) : 128 ^ k ≤ 9223372036854775808 := by
  have := Nat.pow_le_pow_right (n := 128) (by omega) hk
  simpa using this
end Go.Proofs.Ytcophbkgighepaa
