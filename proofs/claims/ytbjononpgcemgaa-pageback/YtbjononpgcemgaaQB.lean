/- The states of a Store in PageBack: pages laid down, some given back, the rest filled. -/
import Derived.Test.YtbjononpgcemgaaQA
set_option linter.unusedVariables false
namespace Go.Proofs.Ytbjononpgcemgaa
open Go.RowKit

/-- n blocks: M pages, of which F are given back, and C more; the rest is free. -/
def bsf (M C : Nat) (F : Nat → Bool) (j : Nat) : Nat := if j < 2 then 0 else if j < 2 + M then (if F (j - 2) then 3 else 2) else if j < 2 + M + C then 2 else 1
def bst (n M C : Nat) (F : Nat → Bool) : List Nat := (List.range n).map (bsf M C F)
theorem bst_len (n M C : Nat) (F : Nat → Bool) : (bst n M C F).length = n := by simp [bst]
theorem bst_get {n j : Nat} (M C : Nat) (F : Nat → Bool) (h : j < n) : (bst n M C F).getD j 0 = bsf M C F j := by
  simp [bst, List.getD_eq_getElem?_getD, h]
theorem map_set {n i v : Nat} {f g : Nat → Nat} (hi : i < n) (h1 : g i = v) (h2 : ∀ j, j < n → j ≠ i → f j = g j) : ((List.range n).map f).set i v = (List.range n).map g := by
  apply List.ext_getElem
  · simp
  · intro j a b
    simp only [List.getElem_set, List.getElem_map, List.getElem_range]
    have hj : j < n := by simpa using b
    by_cases e : i = j
    · subst e; rw [if_pos rfl, h1]
    · rw [if_neg e]; exact h2 j hj (fun e2 => e e2.symm)
theorem bst_new (n : Nat) : newSt n = bst n 0 0 (fun _ => false) := by
  unfold newSt bst
  apply List.map_congr_left
  intro j _
  unfold bsf
  by_cases c : j < 2
  · rw [if_pos c, if_pos c]
  · rw [if_neg c, if_neg c, if_neg (by omega), if_neg (by omega)]
theorem bst_low {n M C : Nat} (F : Nat → Bool) (h : 2 + M + C < n) : lowF (bst n M C F) = some (2 + M + C) := by
  refine lowF_of (by rw [bst_len]; exact h) ?_ (fun j hj => ?_)
  · rw [bst_get M C F h]
    unfold bsf
    rw [if_neg (by omega), if_neg (by omega), if_neg (by omega)]
  · rw [bst_get M C F (by omega)]
    unfold bsf
    split
    · omega
    · split
      · split <;> omega
      · first | omega | (split <;> omega)
theorem bst_full {n M C : Nat} (F : Nat → Bool) (h : n ≤ 2 + M + C) : lowF (bst n M C F) = none := by
  refine lowF_none (fun j hj => ?_)
  rw [bst_len] at hj
  rw [bst_get M C F hj]
  unfold bsf
  split
  · omega
  · split
    · split <;> omega
    · split <;> omega
theorem bst_put {n M : Nat} (h : 2 + M < n) : (bst n M 0 (fun _ => false)).set (2 + M) 2 = bst n (M + 1) 0 (fun _ => false) := by
  refine map_set h ?_ (fun j hj hne => ?_)
  · unfold bsf
    rw [if_neg (by omega), if_pos (by omega)]
    rfl
  · unfold bsf
    by_cases c : j < 2
    · rw [if_pos c, if_pos c]
    · rw [if_neg c, if_neg c]
      by_cases d : j < 2 + M
      · rw [if_pos d, if_pos (show j < 2 + (M + 1) by omega)]
      · rw [if_neg d, if_neg (show ¬ j < 2 + M + 0 by omega), if_neg (show ¬ j < 2 + (M + 1) by omega), if_neg (show ¬ j < 2 + (M + 1) + 0 by omega)]
theorem bst_fill {n M C : Nat} (F : Nat → Bool) (h : 2 + M + C < n) : (bst n M C F).set (2 + M + C) 2 = bst n M (C + 1) F := by
  refine map_set h ?_ (fun j hj hne => ?_)
  · unfold bsf
    rw [if_neg (by omega), if_neg (by omega), if_pos (by omega)]
  · unfold bsf
    by_cases c : j < 2
    · rw [if_pos c, if_pos c]
    · rw [if_neg c, if_neg c]
      by_cases d : j < 2 + M
      · rw [if_pos d, if_pos d]
      · rw [if_neg d, if_neg d]
        by_cases e : j < 2 + M + C
        · rw [if_pos e, if_pos (by omega)]
        · rw [if_neg e, if_neg (by omega)]
theorem bst_free {n M C i : Nat} (F : Nat → Bool) (h : 2 + M ≤ n) (hi : i < M) : (bst n M C F).set (2 + i) 3 = bst n M C (fun j => if j = i then true else F j) := by
  refine map_set (by omega) ?_ (fun j hj hne => ?_)
  · unfold bsf
    rw [if_neg (by omega), if_pos (by omega), show 2 + i - 2 = i by omega]
    simp
  · unfold bsf
    by_cases c : j < 2
    · rw [if_pos c, if_pos c]
    · rw [if_neg c, if_neg c]
      by_cases d : j < 2 + M
      · have e : ¬ j - 2 = i := by omega
        rw [if_pos d, if_pos d]
        simp only [if_neg e]
      · rw [if_neg d, if_neg d]
theorem bst_held {n M C i : Nat} (F : Nat → Bool) (h : 2 + M ≤ n) (hi : i < M) : (bst n M C F).getD (2 + i) 0 = if F i then 3 else 2 := by
  rw [bst_get M C F (by omega)]
  unfold bsf
  rw [if_neg (by omega), if_pos (by omega), show 2 + i - 2 = i by omega]
theorem bst_calm (n M : Nat) : backF (bst n M 0 (fun _ => false)) = bst n M 0 (fun _ => false) := by
  unfold backF bst
  rw [List.map_map]
  apply List.map_congr_left
  intro j _
  simp only [Function.comp]
  have : bsf M 0 (fun _ => false) j ≠ 3 := by
    unfold bsf
    split
    · omega
    · split
      · simp
      · split <;> omega
  rw [if_neg this]
/-- How many of the first M are given back. -/
def backs (F : Nat → Bool) (M : Nat) : Nat := ((List.range M).filter F).length
theorem backs_succ (F : Nat → Bool) (M : Nat) : backs F (M + 1) = backs F M + if F M then 1 else 0 := by
  unfold backs
  rw [List.range_succ, List.filter_append, List.length_append]
  by_cases h : F M
  · simp [h]
  · simp [h]
theorem range_count (f : Nat → Nat) : ∀ n, cntF ((List.range n).map f) = ((List.range n).filter (fun j => f j == 1)).length
  | 0 => rfl
  | n + 1 => by
    have ih := range_count f n
    unfold cntF at *
    rw [List.range_succ, List.map_append, List.count_append, ih, List.filter_append, List.length_append]
    congr 1
    by_cases h : f n = 1
    · simp [h]
    · simp [h]
theorem bst_left {n M C : Nat} (F : Nat → Bool) (h : n ≤ 2 + M + C) : cntF (bst n M C F) = 0 := by
  unfold cntF
  rw [List.count_eq_zero]
  intro hm
  obtain ⟨j, hj, e⟩ := List.getElem_of_mem hm
  rw [bst_len] at hj
  have e2 := bst_get M C F hj
  rw [List.getD_eq_getElem?_getD, List.getElem?_eq_getElem (by rw [bst_len]; exact hj), e] at e2
  simp only [Option.getD_some] at e2
  unfold bsf at e2
  split at e2
  · omega
  · split at e2
    · split at e2 <;> omega
    · split at e2 <;> omega
theorem backs_range (F : Nat → Bool) : ∀ K, ((List.range (2 + K)).filter (fun j => decide (2 ≤ j) && F (j - 2))).length = backs F K
  | 0 => rfl
  | K + 1 => by
    rw [← Nat.add_assoc, List.range_succ, List.filter_append, List.length_append, backs_range F K, backs_succ]
    congr 1
    have e : 2 + K - 2 = K := by omega
    by_cases h : F K
    · simp [e, h]
    · simp [e, h]
theorem bst_after {n M C : Nat} (F : Nat → Bool) (h : n = 2 + M + C) : cntF (backF (bst n M C F)) = backs F M := by
  have e : backF (bst n M C F) = (List.range n).map (fun j => if bsf M C F j = 3 then 1 else bsf M C F j) := by
    unfold backF bst
    rw [List.map_map]
    rfl
  rw [e, range_count, h, List.range_add, List.filter_append, List.length_append, ← backs_range F M]
  have e1 : (List.range (2 + M)).filter (fun j => (if bsf M C F j = 3 then 1 else bsf M C F j) == 1) = (List.range (2 + M)).filter (fun j => decide (2 ≤ j) && F (j - 2)) := by
    apply List.filter_congr
    intro j hj
    rw [List.mem_range] at hj
    unfold bsf
    by_cases c : j < 2
    · rw [if_pos c]
      simp
      omega
    · rw [if_neg c, if_pos hj]
      have c2 : 2 ≤ j := by omega
      cases F (j - 2) <;> simp [c2]
  have e2 : ((List.range C).map (fun x => 2 + M + x)).filter (fun j => (if bsf M C F j = 3 then 1 else bsf M C F j) == 1) = [] := by
    rw [List.filter_eq_nil_iff]
    intro j hj
    simp only [List.mem_map, List.mem_range] at hj
    obtain ⟨x, hx, rfl⟩ := hj
    unfold bsf
    rw [if_neg (show ¬ 2 + M + x < 2 by omega), if_neg (show ¬ 2 + M + x < 2 + M by omega), if_pos (show 2 + M + x < 2 + M + C by omega)]
    decide
  rw [e1, e2]
  rfl
end Go.Proofs.Ytbjononpgcemgaa
