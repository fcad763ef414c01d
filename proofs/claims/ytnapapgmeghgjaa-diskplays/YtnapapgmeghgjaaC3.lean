/- Bytes of a text; bytes of a block that was torn. -/
import Derived.Test.YtnapapgmeghgjaaC2
set_option linter.unusedVariables false
namespace Go.Proofs.Ytnapapgmeghgjaa
open Go.RowKit

/-- A byte of a text, or 0. -/
def sb (s : ByteArray) (k : Nat) : Nat := (s.data.toList.map UInt8.toNat).getD k 0
theorem sb_str {xs : List Nat} (h : ∀ n ∈ xs, n < 256) (k : Nat) : sb (str xs) k = xs.getD k 0 := by
  have e : (str xs).data.toList.map UInt8.toNat = xs := by
    rw [str, strOfNums_data, List.map_map, List.map_map]
    conv => rhs; rw [← List.map_id xs]
    apply List.map_congr_left
    intro n hn
    have := h n hn
    simp only [Function.comp, Int.ofNat_eq_natCast, Int.toNat_natCast, UInt8.toNat_ofNat', id]
    omega
  rw [sb, e]
theorem sb_get {s : ByteArray} {k : Nat} (h : k < s.size) : (s[k]'h).toNat = sb s k := by
  have h2 : k < s.data.toList.length := by simpa using h
  simp only [sb, List.getD_eq_getElem?_getD, List.getElem?_map, List.getElem?_eq_getElem h2]
  rfl
theorem sb_none {s : ByteArray} {k : Nat} (h : ¬ k < s.size) : sb s k = 0 := by
  have h2 : s.data.toList.length ≤ k := by simp only [Array.length_toList]; exact Nat.le_of_not_lt h
  simp only [sb, List.getD_eq_getElem?_getD, List.getElem?_map, List.getElem?_eq_none h2]
  rfl

theorem pad_laid {xs ys : List Nat} {k i : Nat} (h1 : xs.length ≤ blk) (h2 : ys.length ≤ blk) (hk : k ≤ blk) (hi : i < blk) : (pad (laidL xs ys k)).getD i 0 = if i < k then ys.getD i 0 else xs.getD i 0 := by
  rw [pad_getD]
  unfold laidL
  by_cases c0 : k = 0
  · rw [if_pos c0, if_neg (by omega)]
  · rw [if_neg c0]
    by_cases c1 : k = blk
    · rw [if_pos c1, if_pos (by omega)]
    · rw [if_neg c1]
      by_cases c2 : i < k
      · rw [if_pos c2, ← pad_getD ys]
        simp only [List.getD_eq_getElem?_getD]
        rw [List.getElem?_append_left (by rw [List.length_take, pad_len h2]; omega), List.getElem?_take_of_lt c2]
      · rw [if_neg c2, ← pad_getD xs]
        simp only [List.getD_eq_getElem?_getD]
        rw [List.getElem?_append_right (by rw [List.length_take, pad_len h2]; omega), List.length_take, pad_len h2, List.getElem?_drop]
        congr 2
        omega
end Go.Proofs.Ytnapapgmeghgjaa
