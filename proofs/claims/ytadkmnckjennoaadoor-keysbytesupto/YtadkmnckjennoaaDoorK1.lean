/- What is read is written just so: plain arithmetic. -/
import Derived.Test.YtadkmnckjennoaaDoorR4
import Derived.Test.YtadkmnckjennoaaDoorC3
set_option linter.unusedVariables false
namespace Go.Proofs.YtadkmnckjennoaaDoor
open Go.RowKit

theorem hiB_snoc (m c s : Nat) (hc : c < 256) : hiB (m * 256 + c) (s + 1) = hiB m s ++ [c] := by
  unfold hiB
  rw [List.range_succ, List.map_append]
  congr 1
  · apply List.map_congr_left
    intro i hi
    have hi' : i < s := by simpa using hi
    have e : s + 1 - 1 - i = (s - 1 - i) + 1 := by omega
    have e2 : (m * 256 + c) / 256 = m := by omega
    rw [e, Nat.pow_succ, Nat.mul_comm (256 ^ (s - 1 - i)) 256, ← Nat.div_div_eq_div_mul, e2]
  · simp
    omega
theorem hiB_valHi : ∀ (n : Nat) (l : List Nat), l.length = n → (∀ c ∈ l, c < 256) → hiB (valHi l) n = l
  | 0, l, h, _ => by
    have : l = [] := List.eq_nil_of_length_eq_zero h
    subst this
    rfl
  | n + 1, l, h, hb => by
    have hne : l ≠ [] := by intro e; rw [e] at h; simp at h
    have e := List.dropLast_concat_getLast hne
    have hl : l.dropLast.length = n := by simp [h]
    have h1 : valHi l = valHi l.dropLast * 256 + l.getLast hne := by conv => lhs; rw [← e]
                                                                     rw [valHi_snoc]
    have ih := hiB_valHi n l.dropLast hl (fun c hc => hb c ((List.dropLast_sublist l).subset hc))
    rw [h1, hiB_snoc _ _ _ (hb _ (List.getLast_mem hne)), ih, e]

theorem rt_back : ∀ (n : Nat) (ys rs : List Nat) (k : Nat), ys.length ≤ n → (∀ c ∈ ys, c < 256) → rt ys = some (rs, k) → (∀ r ∈ rs, vr r) ∧ ys.take k = runeB rs ++ hiB 0 3 ∧ k = 3 * rs.length + 3
  | 0, ys, rs, k, hn, hb, h => by
    have : ys = [] := List.eq_nil_of_length_eq_zero (by omega)
    subst this
    rw [rt_eq, if_pos (by simp)] at h
    cases h
  | n + 1, ys, rs, k, hn, hb, h => by
    rw [rt_eq] at h
    split at h
    · cases h
    · rename_i hl
      have h3 : (ys.take 3).length = 3 := by rw [List.length_take]; omega
      have hv := hiB_valHi 3 (ys.take 3) h3 (fun c hc => hb c (List.mem_of_mem_take hc))
      split at h
      · rename_i hz
        cases h
        rw [hz] at hv
        exact ⟨by simp, by rw [hv]; simp [runeB], by simp⟩
      · rename_i hz
        split at h
        · rename_i hvr
          cases hr : rt (ys.drop 3) with
          | none => rw [hr] at h; cases h
          | some q =>
            obtain ⟨rs', k'⟩ := q
            rw [hr] at h
            simp only [Option.map_some, Option.some.injEq, Prod.mk.injEq] at h
            obtain ⟨rfl, rfl⟩ := h
            obtain ⟨i1, i2, i3⟩ := rt_back n (ys.drop 3) rs' k' (by rw [List.length_drop]; omega) (fun c hc => hb c (List.mem_of_mem_drop hc)) hr
            refine ⟨?_, ?_, by simp only [List.length_cons]; omega⟩
            · intro r hm
              rcases List.mem_cons.1 hm with rfl | hm
              · exact hvr
              · exact i1 r hm
            · have e : ys.take (k' + 3) = ys.take 3 ++ (ys.drop 3).take k' := by rw [Nat.add_comm, List.take_add]
              have e2 : valHi (ys.take 3) - 1 + 1 = valHi (ys.take 3) := by omega
              rw [e, i2, ← List.append_assoc]
              congr 1
              simp only [runeB, List.flatMap_cons, e2, hv]
        · cases h

theorem numB_back (n : Nat) : numB ((n : Int) - 9223372036854775808) = n := by unfold numB; omega

theorem take_one {xs : List Nat} (h : 0 < xs.length) : xs = xs.getD 0 0 :: xs.drop 1 := by
  cases xs with
  | nil => simp at h
  | cons a r => rfl
theorem take_succ_cons {xs : List Nat} (h : 0 < xs.length) (k : Nat) : xs.take (k + 1) = xs.getD 0 0 :: (xs.drop 1).take k := by
  cases xs with
  | nil => simp at h
  | cons a r => rfl

theorem rh_back {xs : List Nat} {h : H} {k : Nat} (hx : xs ≠ []) (hb : ∀ c ∈ xs, c < 256) (hl : xs.length ≤ 1048576) (e : rh xs = some (h, k)) : h.ov.err = 0 ∧ h.ov.bytes = xs.take k ∧ h.ov.ok := by
  have h0 : 0 < xs.length := List.length_pos_iff.2 hx
  have hd : (xs.drop 1).length = xs.length - 1 := by rw [List.length_drop]
  have hbd : ∀ c ∈ xs.drop 1, c < 256 := fun c hc => hb c (List.mem_of_mem_drop hc)
  unfold rh at e
  split at e
  · rename_i c1
    cases e
    refine ⟨by decide +kernel, ?_, by unfold H.ov Val.ok; decide +kernel⟩
    rw [take_succ_cons h0, c1]
    simp [Val.bytes, H.ov, holdOf, H.bytes]
  · split at e
    · rename_i c2
      split at e
      · rename_i h8
        cases e
        have h3 : ((xs.drop 1).take 8).length = 8 := by rw [List.length_take]; omega
        have hv := hiB_valHi 8 ((xs.drop 1).take 8) h3 (fun c hc => hbd c (List.mem_of_mem_take hc))
        have hlt := valHi_lt ((xs.drop 1).take 8) (fun c hc => hbd c (List.mem_of_mem_take hc))
        rw [h3] at hlt
        have hlt2 : valHi ((xs.drop 1).take 8) < 18446744073709551616 := hlt
        refine ⟨?_, ?_, ?_⟩
        · unfold Val.err H.ov
          simp only
          rw [r1, if_pos (by rw [ByteArray.toList_eq]; rfl)]
        · rw [take_succ_cons h0, c2]
          simp only [Val.bytes, H.ov]
          have : holdOf 1 ((valHi ((xs.drop 1).take 8) : Int) - 9223372036854775808) ⟨#[]⟩ = .number ((valHi ((xs.drop 1).take 8) : Int) - 9223372036854775808) := by simp [holdOf]
          rw [this]
          simp only [H.bytes]
          rw [numB_back, hv]
        · unfold Val.ok H.ov
          simp only
          refine ⟨by omega, by omega, by omega, by omega, by decide⟩
      · cases e
    · split at e
      · rename_i c4
        split at e
        · rename_i h1
          cases e
          obtain ⟨c, r, hcr⟩ : ∃ c r, xs.drop 1 = c :: r := by
            cases hq : xs.drop 1 with
            | nil => rw [hq] at h1; simp at h1
            | cons c r => exact ⟨c, r, rfl⟩
          rw [hcr] at h1 ⊢
          have hv : valHi ((c :: r).take 1) = c := by simp [valHi]
          rw [hv] at h1 ⊢
          have hc : c = 0 ∨ c = 1 := by omega
          rw [take_succ_cons h0, c4, hcr]
          rcases hc with rfl | rfl
          · refine ⟨by decide +kernel, by simp [Val.bytes, H.ov, holdOf, H.bytes, bi], by unfold H.ov Val.ok; decide +kernel⟩
          · refine ⟨by decide +kernel, by simp [Val.bytes, H.ov, holdOf, H.bytes, bi], by unfold H.ov Val.ok; decide +kernel⟩
        · cases e
      · split at e
        · rename_i c3
          cases hr : rt (xs.drop 1) with
          | none => rw [hr] at e; cases e
          | some q =>
            obtain ⟨rs, k'⟩ := q
            rw [hr] at e
            simp only [Option.map_some, Option.some.injEq, Prod.mk.injEq] at e
            obtain ⟨rfl, rfl⟩ := e
            obtain ⟨i1, i2, i3⟩ := rt_back _ (xs.drop 1) rs k' (Nat.le_refl _) hbd hr
            have hle := rt_le (xs.drop 1) rs k' hr
            have hrs : runes (bl ⟨(encs rs).toArray⟩) = some rs := runes_of_encs rs i1
            have hsz : (⟨(encs rs).toArray⟩ : ByteArray).size = (encs rs).length := by simp [ByteArray.size]
            have h4 := encs_four rs
            refine ⟨?_, ?_, ?_⟩
            · unfold Val.err H.ov
              simp only
              rw [r2, if_pos rfl, hrs, if_neg (by simp)]
            · rw [take_succ_cons h0, c3, i2]
              have : holdOf 2 0 ⟨(encs rs).toArray⟩ = .text ⟨(encs rs).toArray⟩ := by simp [holdOf]
              simp only [Val.bytes, H.ov]
              rw [this, hrs]
              simp [H.bytes]
            · unfold Val.ok H.ov
              simp only
              refine ⟨by omega, by omega, by omega, by omega, by rw [hsz]; omega⟩
        · cases e

theorem rd_back : ∀ (n : Nat) (xs : List Nat) (vs : List Val), xs.length ≤ n → xs.length ≤ 1048576 → (∀ c ∈ xs, c < 256) → rd xs = some vs → keyErr vs = 0 ∧ keyBytes vs = xs ∧ (∀ x ∈ vs, x.ok) ∧ vs.length ≤ xs.length
  | 0, xs, vs, hn, _, hb, h => by
    have : xs = [] := List.eq_nil_of_length_eq_zero (by omega)
    subst this
    rw [rd_nil] at h
    cases h
    exact ⟨rfl, rfl, by simp, by simp⟩
  | n + 1, xs, vs, hn, hl, hb, h => by
    by_cases hx : xs = []
    · subst hx
      rw [rd_nil] at h
      cases h
      exact ⟨rfl, rfl, by simp, by simp⟩
    · cases e : rh xs with
      | none => rw [rd_none hx e] at h; cases h
      | some q =>
        obtain ⟨hh, k⟩ := q
        have hk := rh_size hx e
        obtain ⟨b1, b2, b3⟩ := rh_back hx hb hl e
        rw [rd_some hx e] at h
        cases hr : rd (xs.drop k) with
        | none => rw [hr] at h; cases h
        | some vs' =>
          rw [hr] at h
          simp only [Option.map_some, Option.some.injEq] at h
          subst h
          obtain ⟨i1, i2, i3, i4⟩ := rd_back n (xs.drop k) vs' (by rw [List.length_drop]; omega) (by rw [List.length_drop]; omega) (fun c hc => hb c (List.mem_of_mem_drop hc)) hr
          rw [List.length_drop] at i4
          refine ⟨by simp only [keyErr, b1, if_true]; exact i1, ?_, ?_, by simp only [List.length_cons]; omega⟩
          · have : keyBytes (hh.ov :: vs') = hh.ov.bytes ++ keyBytes vs' := by simp [keyBytes]
            rw [this, b2, i2, List.take_append_drop]
          · intro x hm
            rcases List.mem_cons.1 hm with rfl | hm
            · exact b3
            · exact i3 x hm
end Go.Proofs.YtadkmnckjennoaaDoor
