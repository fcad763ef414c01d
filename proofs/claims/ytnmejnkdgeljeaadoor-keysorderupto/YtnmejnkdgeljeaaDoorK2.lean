/- What is written is read just so: plain arithmetic, the other way round than K1. -/
import Derived.Test.YtnmejnkdgeljeaaDoorK1
set_option linter.unusedVariables false
namespace Go.Proofs.YtnmejnkdgeljeaaDoor
open Go.RowKit

theorem valHi_hiB : ∀ (s n : Nat), n < 256 ^ s → valHi (hiB n s) = n
  | 0, n, h => by
    have : n = 0 := by simpa using h
    subst this
    rfl
  | s + 1, n, h => by
    have e : n = (n / 256) * 256 + n % 256 := by omega
    have hd : n / 256 < 256 ^ s := by rw [Nat.pow_succ] at h; omega
    have h1 : hiB n (s + 1) = hiB (n / 256) s ++ [n % 256] := by
      conv => lhs; rw [e]
      exact hiB_snoc _ _ _ (by omega)
    rw [h1, valHi_snoc, valHi_hiB s _ hd]
    omega

theorem rt_fore : ∀ (rs : List Nat) (r : List Nat), (∀ x ∈ rs, vr x) → rt (runeB rs ++ hiB 0 3 ++ r) = some (rs, 3 * rs.length + 3)
  | [], r, _ => by
    have e : (runeB [] ++ hiB 0 3 ++ r).take 3 = hiB 0 3 := by simp [runeB, hiB, List.range_succ]
    rw [rt_eq, if_neg (by simp [runeB, hiB]), e, if_pos (valHi_hiB 3 0 (by decide))]
    simp
  | x :: rs, r, h => by
    have hx : vr x := h x (by simp)
    have hlt : x + 1 < 256 ^ 3 := by unfold vr at hx; omega
    have e0 : runeB (x :: rs) ++ hiB 0 3 ++ r = hiB (x + 1) 3 ++ (runeB rs ++ hiB 0 3 ++ r) := by simp [runeB, List.append_assoc]
    have e1 : (hiB (x + 1) 3 ++ (runeB rs ++ hiB 0 3 ++ r)).take 3 = hiB (x + 1) 3 := List.take_left' (hiB_len _ _)
    have e2 : (hiB (x + 1) 3 ++ (runeB rs ++ hiB 0 3 ++ r)).drop 3 = runeB rs ++ hiB 0 3 ++ r := List.drop_left' (hiB_len _ _)
    rw [e0, rt_eq, if_neg (by rw [List.length_append, hiB_len]; omega), e1, e2, valHi_hiB 3 _ hlt, if_neg (by omega), Nat.add_sub_cancel, if_pos hx, rt_fore rs r (fun y hy => h y (List.mem_cons_of_mem _ hy))]
    simp only [Option.map_some, Option.some.injEq, Prod.mk.injEq, List.length_cons, true_and]
    omega

theorem nil_of_empty {s : ByteArray} (h : s.toList.isEmpty = true) : s = ⟨#[]⟩ := by
  rw [ByteArray.toList_eq] at h
  obtain ⟨⟨l⟩⟩ := s
  simp at h
  subst h
  rfl

theorem rh_fore {x : Val} (r : List Nat) (hx : x.ok) (he : x.err = 0) : ∃ h, rh (x.bytes ++ r) = some (h, x.bytes.length) ∧ h.ov = x ∧ x.bytes ≠ [] := by
  obtain ⟨k, n, s⟩ := x
  obtain ⟨o1, o2, o3, o4, o5⟩ := hx
  simp only at o1 o2 o3 o4 o5
  unfold Val.err at he
  simp only at he
  obtain ⟨hk, h2⟩ := right_kind he
  unfold Val.bytes
  simp only
  rcases hk with rfl | rfl | rfl | rfl
  · rw [r0] at he
    split at he
    · rename_i hc
      obtain ⟨rfl, hs⟩ := hc
      have := nil_of_empty hs
      subst this
      refine ⟨.nothing, ?_, rfl, by simp [holdOf, H.bytes]⟩
      simp [holdOf, H.bytes, rh]
    · cases he
  · rw [r1] at he
    split at he
    · rename_i hs
      have := nil_of_empty hs
      subst this
      have hh : holdOf 1 n ⟨#[]⟩ = .number n := by simp [holdOf]
      rw [hh]
      have h88 : (256 : Nat) ^ 8 = 18446744073709551616 := by decide
      have hlt : numB n < 256 ^ 8 := by unfold numB; omega
      refine ⟨.number n, ?_, rfl, by simp [H.bytes]⟩
      have e1 : (hiB (numB n) 8 ++ r).take 8 = hiB (numB n) 8 := List.take_left' (hiB_len _ _)
      have e3 : ((numB n : Nat) : Int) - 9223372036854775808 = n := by unfold numB; omega
      simp only [H.bytes, rh, List.cons_append, List.getD_cons_zero, List.drop_succ_cons, List.drop_zero]
      rw [if_neg (by decide), if_pos trivial, if_pos (by rw [List.length_append, hiB_len]; omega), e1, valHi_hiB 8 _ hlt, e3, List.length_cons, hiB_len]
    · cases he
  · obtain ⟨rs, hrs⟩ := h2 rfl
    rw [r2] at he
    split at he
    · rename_i hn
      subst hn
      have hh : holdOf 2 0 s = .text s := by simp [holdOf]
      rw [hh, hrs]
      obtain ⟨i1, i2⟩ := (runes_iff _ _).1 hrs
      have es : (⟨(encs rs).toArray⟩ : ByteArray) = s := by
        obtain ⟨⟨l⟩⟩ := s
        simp only [bl] at i1
        rw [← i1]
      refine ⟨.text s, ?_, rfl, by simp [H.bytes]⟩
      simp only [H.bytes, rh, List.cons_append, List.getD_cons_zero, List.drop_succ_cons, List.drop_zero, Option.getD_some]
      have hl : (runeB rs).length = 3 * rs.length := by
        clear hrs i1 i2 es
        induction rs with
        | nil => rfl
        | cons a t ih => simp only [runeB, List.flatMap_cons, List.length_append, hiB_len, List.length_cons] at ih ⊢; omega
      rw [if_neg (by decide), if_neg (by decide), if_neg (by decide), if_pos trivial, rt_fore rs r i2]
      simp only [Option.map_some, List.length_cons, List.length_append, hl, hiB_len, es]
    · cases he
  · rw [r3] at he
    split at he
    · rename_i hc
      obtain ⟨hs, hn⟩ := hc
      have := nil_of_empty hs
      subst this
      rcases hn with rfl | rfl
      · refine ⟨.truth false, ?_, rfl, by simp [holdOf, H.bytes]⟩
        simp [holdOf, H.bytes, rh, bi, valHi]
      · refine ⟨.truth true, ?_, rfl, by simp [holdOf, H.bytes]⟩
        simp [holdOf, H.bytes, rh, bi, valHi]
    · cases he

/-- What is written is read just so. -/
theorem rd_fore : ∀ (vs : List Val), (∀ x ∈ vs, x.ok) → keyErr vs = 0 → rd (keyBytes vs) = some vs
  | [], _, _ => rfl
  | x :: vs, ho, he => by
    have hx : x.err = 0 := by
      simp only [keyErr] at he
      split at he
      · assumption
      · exact he
    have hr : keyErr vs = 0 := by simpa only [keyErr, hx, if_true] using he
    obtain ⟨h, e1, e2, e3⟩ := rh_fore (keyBytes vs) (ho x (by simp)) hx
    have eb : keyBytes (x :: vs) = x.bytes ++ keyBytes vs := by simp [keyBytes]
    rw [eb, rd_some (by simp [e3]) e1, List.drop_left, rd_fore vs (fun y hy => ho y (List.mem_cons_of_mem _ hy)) hr, e2]
    rfl
end Go.Proofs.YtnmejnkdgeljeaaDoor
