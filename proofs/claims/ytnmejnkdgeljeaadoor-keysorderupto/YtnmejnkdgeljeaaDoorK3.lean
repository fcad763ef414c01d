/- The order of values is the order of their bytes: plain arithmetic. -/
import Derived.Test.YtnmejnkdgeljeaaDoorK2
import Derived.Test.YtnmejnkdgeljeaaDoorJ3
set_option linter.unusedVariables false
namespace Go.Proofs.YtnmejnkdgeljeaaDoor
open Go.RowKit

theorem cmpL_cons (x y : Nat) (a b : List Nat) : cmpL (x :: a) (y :: b) = if x = y then cmpL a b else if x < y then -1 else 1 := rfl
theorem hiB_cons (n s : Nat) : hiB n (s + 1) = (n / 256 ^ s % 256) :: hiB n s := by
  unfold hiB
  rw [List.range_succ_eq_map, List.map_cons, List.map_map]
  congr 1
  apply List.map_congr_left
  intro i hi
  have hi' : i < s := by simpa using hi
  simp only [Function.comp]
  have e : s + 1 - 1 - Nat.succ i = s - 1 - i := by omega
  rw [e]
theorem cmpL_hiM (a b : List Nat) : ∀ (s m n : Nat), cmpL (hiB m s ++ a) (hiB n s ++ b) = if m % 256 ^ s = n % 256 ^ s then cmpL a b else if m % 256 ^ s < n % 256 ^ s then -1 else 1
  | 0, m, n => by simp [hiB, Nat.mod_one]
  | s + 1, m, n => by
    have hm := Nat.mod_pow_succ (b := 256) (k := s) (x := m)
    have hn := Nat.mod_pow_succ (b := 256) (k := s) (x := n)
    have p : 0 < 256 ^ s := Nat.pow_pos (by decide)
    have lm := Nat.mod_lt m p
    have ln := Nat.mod_lt n p
    rw [hiB_cons, hiB_cons, List.cons_append, List.cons_append, cmpL_cons, cmpL_hiM a b s m n, hm, hn]
    by_cases h : m / 256 ^ s % 256 = n / 256 ^ s % 256
    · rw [if_pos h, h]
      simp only [Nat.add_right_cancel_iff, Nat.add_lt_add_iff_right]
    · rw [if_neg h]
      generalize m / 256 ^ s % 256 = c at h ⊢
      generalize n / 256 ^ s % 256 = d at h ⊢
      generalize 256 ^ s = P at p lm ln ⊢
      by_cases h2 : c < d
      · have : P * (c + 1) ≤ P * d := Nat.mul_le_mul_left _ h2
        rw [Nat.mul_add, Nat.mul_one] at this
        rw [if_pos h2, if_neg (by omega), if_pos (by omega)]
      · have : P * (d + 1) ≤ P * c := Nat.mul_le_mul_left _ (by omega)
        rw [Nat.mul_add, Nat.mul_one] at this
        rw [if_neg h2, if_neg (by omega), if_neg (by omega)]
theorem cmpL_hi (a b : List Nat) (s m n : Nat) (hm : m < 256 ^ s) (hn : n < 256 ^ s) : cmpL (hiB m s ++ a) (hiB n s ++ b) = if m = n then cmpL a b else if m < n then -1 else 1 := by
  rw [cmpL_hiM, Nat.mod_eq_of_lt hm, Nat.mod_eq_of_lt hn]

theorem vr_lt {r : Nat} (h : vr r) : r + 1 < 256 ^ 3 := by unfold vr at h; omega
theorem cmpL_runes (a b : List Nat) : ∀ (rs qs : List Nat), (∀ r ∈ rs, vr r) → (∀ r ∈ qs, vr r) → cmpL (runeB rs ++ (hiB 0 3 ++ a)) (runeB qs ++ (hiB 0 3 ++ b)) = if cmpL rs qs = 0 then cmpL a b else cmpL rs qs
  | [], [], _, _ => by
    have := cmpL_hi a b 3 0 0 (by decide) (by decide)
    simpa [runeB, cmpL] using this
  | [], y :: qs, _, h2 => by
    have := cmpL_hi a (runeB qs ++ (hiB 0 3 ++ b)) 3 0 (y + 1) (by decide) (vr_lt (h2 y (by simp)))
    simpa [runeB, cmpL] using this
  | x :: rs, [], h1, _ => by
    have := cmpL_hi (runeB rs ++ (hiB 0 3 ++ a)) b 3 (x + 1) 0 (vr_lt (h1 x (by simp))) (by decide)
    simpa [runeB, cmpL] using this
  | x :: rs, y :: qs, h1, h2 => by
    have e1 : runeB (x :: rs) ++ (hiB 0 3 ++ a) = hiB (x + 1) 3 ++ (runeB rs ++ (hiB 0 3 ++ a)) := by simp [runeB]
    have e2 : runeB (y :: qs) ++ (hiB 0 3 ++ b) = hiB (y + 1) 3 ++ (runeB qs ++ (hiB 0 3 ++ b)) := by simp [runeB]
    rw [e1, e2, cmpL_hi _ _ 3 _ _ (vr_lt (h1 x (by simp))) (vr_lt (h2 y (by simp))), cmpL_runes a b rs qs (fun r hr => h1 r (List.mem_cons_of_mem _ hr)) (fun r hr => h2 r (List.mem_cons_of_mem _ hr)), cmpL_cons]
    by_cases h : x = y
    · subst h; simp
    · rw [if_neg (by omega), if_neg h]
      by_cases h3 : x < y
      · simp [h3]
      · simp [h3]

/-- A Right value is held so, and its bytes begin no other one's. -/
theorem right_forms {x : Val} (hx : x.ok) (he : x.err = 0) :
    (x.held = .nothing ∧ x.bytes = [1]) ∨
    (∃ n, x.held = .number n ∧ x.bytes = 2 :: hiB (numB n) 8 ∧ -9223372036854775808 ≤ n ∧ n ≤ 9223372036854775807) ∨
    (∃ s rs, x.held = .text s ∧ runes (bl s) = some rs ∧ x.bytes = 3 :: (runeB rs ++ hiB 0 3) ∧ ∀ r ∈ rs, vr r) ∨
    (∃ b, x.held = .truth b ∧ x.bytes = [4, (bi b).toNat]) := by
  obtain ⟨k, n, s⟩ := x
  obtain ⟨o1, o2, o3, o4, o5⟩ := hx
  simp only at o1 o2 o3 o4 o5
  unfold Val.err at he
  simp only at he
  obtain ⟨hk, h2⟩ := right_kind he
  unfold Val.bytes Val.held
  simp only
  rcases hk with rfl | rfl | rfl | rfl
  · exact .inl ⟨by simp [holdOf], by simp [holdOf, H.bytes]⟩
  · exact .inr (.inl ⟨n, by simp [holdOf], by simp [holdOf, H.bytes], o3, o4⟩)
  · obtain ⟨rs, hrs⟩ := h2 rfl
    exact .inr (.inr (.inl ⟨s, rs, by simp [holdOf], hrs, by rw [hrs]; simp [holdOf, H.bytes], ((runes_iff _ _).1 hrs).2⟩))
  · exact .inr (.inr (.inr ⟨n == 1, by simp [holdOf], by simp [holdOf, H.bytes]⟩))

theorem numB_lt2 {n : Int} (h1 : -9223372036854775808 ≤ n) (h2 : n ≤ 9223372036854775807) : numB n < 256 ^ 8 := by
  have h88 : (256 : Nat) ^ 8 = 18446744073709551616 := by decide
  unfold numB; omega

theorem cmpV_bytes {x y : Val} (a b : List Nat) (hx : x.ok) (he : x.err = 0) (hy : y.ok) (hf : y.err = 0) :
    cmpL (x.bytes ++ a) (y.bytes ++ b) = if cmpV x y = 0 then cmpL a b else cmpV x y := by
  unfold cmpV
  rcases right_forms hx he with ⟨p1, p2⟩ | ⟨n, p1, p2, p3, p4⟩ | ⟨s, rs, p1, p3, p2, p4⟩ | ⟨c, p1, p2⟩ <;>
  rcases right_forms hy hf with ⟨q1, q2⟩ | ⟨m, q1, q2, q3, q4⟩ | ⟨t, qs, q1, q3, q2, q4⟩ | ⟨d, q1, q2⟩ <;>
  rw [p1, p2, q1, q2]
  case inr.inl.inr.inl =>
    rw [List.cons_append, List.cons_append, cmpL_cons, if_pos rfl, cmpL_hi _ _ 8 _ _ (numB_lt2 p3 p4) (numB_lt2 q3 q4)]
    simp only [cmpH, Lib.compareInt]
    by_cases h : n = m
    · subst h; simp
    · have hne : ¬ numB n = numB m := by unfold numB; omega
      rw [if_neg hne]
      by_cases h1 : n < m
      · have : numB n < numB m := by unfold numB; omega
        simp [h1, this]
      · have h2 : ¬ numB n < numB m := by unfold numB; omega
        have h3 : m < n := by omega
        simp [h1, h2, h3]
  case inr.inr.inl.inr.inr.inl =>
    rw [List.cons_append, List.cons_append, cmpL_cons, if_pos rfl, List.append_assoc, List.append_assoc, cmpL_runes a b rs qs p4 q4]
    simp only [cmpH, p3, q3, Option.getD_some]
  case inr.inr.inr.inr.inr.inr =>
    cases c <;> cases d <;> simp [cmpL_cons, cmpH, Lib.compareInt, bi]
  all_goals simp [cmpL_cons, cmpH, Lib.compareInt, H.kind]

/-- The order of two lists of Right values is the order of their bytes. -/
theorem cmpVs_bytes : ∀ (a b : List Val), (∀ x ∈ a, x.ok) → keyErr a = 0 → (∀ x ∈ b, x.ok) → keyErr b = 0 → cmpL (keyBytes a) (keyBytes b) = cmpVs a b
  | [], [], _, _, _, _ => rfl
  | [], y :: b, _, _, ho, he => by
    have hy : y.err = 0 := by
      simp only [keyErr] at he
      split at he
      · assumption
      · exact he
    obtain ⟨h, e1, e2, e3⟩ := rh_fore [] (ho y (by simp)) hy
    have eb : keyBytes (y :: b) = y.bytes ++ keyBytes b := by simp [keyBytes]
    rw [eb]
    cases hq : y.bytes with
    | nil => exact absurd hq e3
    | cons c r => rfl
  | x :: a, [], ho, he, _, _ => by
    have hy : x.err = 0 := by
      simp only [keyErr] at he
      split at he
      · assumption
      · exact he
    obtain ⟨h, e1, e2, e3⟩ := rh_fore [] (ho x (by simp)) hy
    have eb : keyBytes (x :: a) = x.bytes ++ keyBytes a := by simp [keyBytes]
    rw [eb]
    cases hq : x.bytes with
    | nil => exact absurd hq e3
    | cons c r => rfl
  | x :: a, y :: b, ho, he, hp, hf => by
    have hx : x.err = 0 := by
      simp only [keyErr] at he
      split at he
      · assumption
      · exact he
    have hy : y.err = 0 := by
      simp only [keyErr] at hf
      split at hf
      · assumption
      · exact hf
    have hr : keyErr a = 0 := by simpa only [keyErr, hx, if_true] using he
    have hs : keyErr b = 0 := by simpa only [keyErr, hy, if_true] using hf
    have e1 : keyBytes (x :: a) = x.bytes ++ keyBytes a := by simp [keyBytes]
    have e2 : keyBytes (y :: b) = y.bytes ++ keyBytes b := by simp [keyBytes]
    rw [e1, e2, cmpV_bytes _ _ (ho x (by simp)) hx (hp y (by simp)) hy, cmpVs_bytes a b (fun z hz => ho z (List.mem_cons_of_mem _ hz)) hr (fun z hz => hp z (List.mem_cons_of_mem _ hz)) hs]
    rfl

theorem cmpL_zero : ∀ (a b : List Nat), cmpL a b = 0 ↔ a = b
  | [], [] => by simp [cmpL]
  | [], _ :: _ => by simp [cmpL]
  | _ :: _, [] => by simp [cmpL]
  | x :: a, y :: b => by
    rw [cmpL_cons]
    by_cases h : x = y
    · subst h; simp [cmpL_zero a b]
    · by_cases h1 : x < y <;> simp [h, h1]
/-- Two lists of Right values are the same where the order says so. -/
theorem cmpVs_zero {a b : List Val} (ho : ∀ x ∈ a, x.ok) (he : keyErr a = 0) (hp : ∀ x ∈ b, x.ok) (hf : keyErr b = 0) : cmpVs a b = 0 ↔ a = b := by
  rw [← cmpVs_bytes a b ho he hp hf, cmpL_zero]
  constructor
  · intro h
    have h1 := rd_fore a ho he
    have h2 := rd_fore b hp hf
    rw [h, h2] at h1
    exact (Option.some.inj h1).symm
  · intro h; rw [h]
end Go.Proofs.YtnmejnkdgeljeaaDoor
