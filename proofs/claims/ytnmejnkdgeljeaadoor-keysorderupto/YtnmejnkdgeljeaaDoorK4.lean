/- What KeysOrder leans on: the order turned round, the order of strings, no value's bytes begin another one's. -/
import Derived.Test.YtnmejnkdgeljeaaDoorK3
set_option linter.unusedVariables false
namespace Go.Proofs.YtnmejnkdgeljeaaDoor
open Go.RowKit

theorem cmpL_neg : ∀ (a b : List Nat), cmpL b a = - cmpL a b
  | [], [] => rfl
  | [], _ :: _ => rfl
  | _ :: _, [] => rfl
  | x :: a, y :: b => by
    rw [cmpL_cons, cmpL_cons, cmpL_neg a b]
    by_cases h : x = y
    · subst h; simp
    · have h' : ¬ y = x := fun e => h e.symm
      rw [if_neg h, if_neg h']
      by_cases h1 : x < y
      · rw [if_pos h1, if_neg (by omega)]; rfl
      · rw [if_neg h1, if_pos (by omega)]
theorem cmpVs_neg {a b : List Val} (ho : ∀ x ∈ a, x.ok) (he : keyErr a = 0) (hp : ∀ x ∈ b, x.ok) (hf : keyErr b = 0) : cmpVs b a = - cmpVs a b := by
  rw [← cmpVs_bytes a b ho he hp hf, ← cmpVs_bytes b a hp hf ho he, cmpL_neg]
theorem cmpL_range : ∀ (a b : List Nat), cmpL a b = -1 ∨ cmpL a b = 0 ∨ cmpL a b = 1
  | [], [] => by simp [cmpL]
  | [], _ :: _ => by simp [cmpL]
  | _ :: _, [] => by simp [cmpL]
  | x :: a, y :: b => by
    rw [cmpL_cons]
    split
    · exact cmpL_range a b
    · split <;> simp
theorem bytesLess_cmpL : ∀ (a b : List UInt8), Op.bytesLess a b = decide (cmpL (a.map UInt8.toNat) (b.map UInt8.toNat) < 0)
  | [], [] => by simp [Op.bytesLess, cmpL]
  | [], _ :: _ => by simp [Op.bytesLess, cmpL]
  | _ :: _, [] => by simp [Op.bytesLess, cmpL]
  | x :: a, y :: b => by
    rw [List.map_cons, List.map_cons, cmpL_cons, Op.bytesLess, bytesLess_cmpL a b]
    by_cases h : x = y
    · subst h; simp
    · have h1 : ¬ x.toNat = y.toNat := fun e => h (UInt8.toNat_inj.1 e)
      by_cases h2 : x.toNat < y.toNat
      · have : x < y := h2
        simp [h1, h2, this]
      · have : ¬ x < y := h2
        simp [h, h1, h2, this]
theorem as_u8 {a : List Nat} (h : ∀ n ∈ a, n < 256) : (a.map UInt8.ofNat).map UInt8.toNat = a := by
  rw [List.map_map]
  conv => rhs; rw [← List.map_id a]
  apply List.map_congr_left
  intro n hn
  have := h n hn
  simp only [Function.comp, UInt8.toNat_ofNat', id]
  omega
theorem str_less {a b : List Nat} (ha : ∀ n ∈ a, n < 256) (hb : ∀ n ∈ b, n < 256) : Op.bytesLess (str a).toList (str b).toList = decide (cmpL a b < 0) := by
  have e1 := as_u8 ha
  have e2 := as_u8 hb
  generalize a.map UInt8.ofNat = l at e1
  generalize b.map UInt8.ofNat = m at e2
  subst e1 e2
  rw [str_u8, str_u8, ByteArray.toList_eq, ByteArray.toList_eq]
  exact bytesLess_cmpL l m
theorem str_same {a b : List Nat} (ha : ∀ n ∈ a, n < 256) (hb : ∀ n ∈ b, n < 256) : ((str a).toList == (str b).toList) = decide (cmpL a b = 0) := by
  have e1 := as_u8 ha
  have e2 := as_u8 hb
  generalize a.map UInt8.ofNat = l at e1
  generalize b.map UInt8.ofNat = m at e2
  subst e1 e2
  rw [str_u8, str_u8, ByteArray.toList_eq, ByteArray.toList_eq]
  have hi : (l.map UInt8.toNat = m.map UInt8.toNat) ↔ l = m := by
    constructor
    · intro h; exact (List.map_inj_right (fun x y h => UInt8.toNat_inj.1 h)).1 h
    · intro h; rw [h]
  rw [Bool.eq_iff_iff, beq_iff_eq, decide_eq_true_eq, cmpL_zero, hi]
/-- A value's bytes begin no other value's. -/
theorem no_begin {x y : Val} (hx : x.ok) (he : x.err = 0) (hy : y.ok) (hf : y.err = 0) (r : List Nat) (h : y.bytes = x.bytes ++ r) : x = y := by
  obtain ⟨g, e1, e2, _⟩ := rh_fore r hx he
  obtain ⟨k, f1, f2, _⟩ := rh_fore [] hy hf
  rw [List.append_nil, h, e1] at f1
  simp only [Option.some.injEq, Prod.mk.injEq] at f1
  rw [← e2, ← f2, f1.1]
end Go.Proofs.YtnmejnkdgeljeaaDoor
