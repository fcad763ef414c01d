/- What DiskKeeps leans on: what a flush and a loss leave of open writes. -/
import Derived.Test.YtfdnnebcjkjafaaH1
set_option linter.unusedVariables false
namespace Go.Proofs.Ytfdnnebcjkjafaa
open Go.RowKit

theorem keptN_all (i : Nat) : keptN 18446744073709551615 (-1) 0 i = blk := by
  unfold keptN
  rw [if_neg (by omega)]
  have key : ∀ r : Fin 64, 18446744073709551615 / 2 ^ r.val % 2 = 1 := by decide
  have := key ⟨i % 64, Nat.mod_lt _ (by omega)⟩
  simp only at this
  rw [if_pos this]
def DS.idxK (s : DS) (k b : Nat) : List Nat := (List.range k).filter fun i => s.at_ i == b
theorem idxK_succ (s : DS) (k b : Nat) : s.idxK (k + 1) b = s.idxK k b ++ (if b = s.at_ k then [k] else []) := by
  unfold DS.idxK
  rw [List.range_succ, List.filter_append]
  congr 1
  by_cases h : b = s.at_ k
  · rw [if_pos h]; simp [h]
  · rw [if_neg h]; simp; exact fun e => h e.symm
theorem setK_all (s : DS) (b : Nat) : ∀ k, s.setK 18446744073709551615 (-1) 0 k b = (match (s.idxK k b).getLast? with | some j => s.by_ j | none => s.K b)
  | 0 => rfl
  | k + 1 => by
    rw [DS.setK, setK_all s b k, idxK_succ, keptN_all]
    by_cases h : b = s.at_ k
    · rw [if_pos h, if_pos h, List.getLast?_append]
      rfl
    · rw [if_neg h, if_neg h, List.append_nil]
theorem setK_from (s : DS) (ok : s.Ok) (keep : Nat) (torn cut : Int) (b i : Nat) (hi : i < blk) : ∀ k, (s.setK keep torn cut k b).getD i 0 = (s.K b).getD i 0 ∨ ∃ r, r < k ∧ s.at_ r = b ∧ (s.setK keep torn cut k b).getD i 0 = (s.by_ r).getD i 0
  | 0 => Or.inl rfl
  | k + 1 => by
    rw [DS.setK]
    by_cases h : b = s.at_ k
    · rw [if_pos h]
      have hl := pad_laid (k := keptN keep torn cut k) (setK_len ok keep torn cut b k) (ok.bl k) (keptN_le _ _ _ _) hi
      rw [pad_getD] at hl
      rw [hl]
      by_cases hk : i < keptN keep torn cut k
      · rw [if_pos hk]
        exact Or.inr ⟨k, by omega, h.symm, rfl⟩
      · rw [if_neg hk]
        rcases setK_from s ok keep torn cut b i hi k with e | ⟨r, h1, h2, h3⟩
        · exact Or.inl e
        · exact Or.inr ⟨r, by omega, h2, h3⟩
    · rw [if_neg h]
      rcases setK_from s ok keep torn cut b i hi k with e | ⟨r, h1, h2, h3⟩
      · exact Or.inl e
      · exact Or.inr ⟨r, by omega, h2, h3⟩

/-- A disk with power, nothing armed: its blocks are kept as four texts, its open writes are four rows of texts. -/
structure KS (s : DS) (k : Nat) (ks : Nat → ByteArray) (op : Nat → List ByteArray) : Prop where
  n4 : s.n = 4
  dn : s.down = false
  af : s.after = 0
  l0 : s.life = 0
  mle : s.m ≤ k
  kp : ∀ j, j < 4 → s.K j = sl (ks j)
  ow : ∀ j, j < 4 → (s.idx j).map s.by_ = (op j).map sl
theorem ks_start : KS (DS.new 4) 0 (fun _ => ⟨#[]⟩) (fun _ => []) := ⟨rfl, rfl, rfl, rfl, Nat.le_refl _, fun j _ => by rw [new_K]; rfl, fun _ _ => rfl⟩
def lastK (ks : Nat → ByteArray) (op : Nat → List ByteArray) (j : Nat) : ByteArray := (op j).getLast?.getD (ks j)
theorem ks_flush {s : DS} {k : Nat} {ks : Nat → ByteArray} {op : Nat → List ByteArray} (h : KS s k ks op) : KS s.flush k (lastK ks op) (fun _ => []) ∧ s.flushE = 0 := by
  have haf := h.af
  have e1 : s.tick = s := tick_none (by omega)
  have e2 : s.flush = s.settle 18446744073709551615 (-1) 0 := by
    unfold DS.flush
    simp only [h.dn, Bool.false_eq_true, if_false]
    rw [if_neg (by omega), e1]
  refine ⟨?_, ?_⟩
  · rw [e2]
    refine ⟨by rw [settle_n]; exact h.n4, h.dn, h.af, h.l0, Nat.zero_le _, ?_, fun _ _ => rfl⟩
    intro j hj
    rw [settle_K _ _ _ _ _ (by rw [h.n4]; exact hj), setK_all]
    have hw := h.ow j hj
    have hi : s.idxK s.m j = s.idx j := rfl
    rw [hi]
    have hl : (s.idx j).getLast?.map s.by_ = (op j).getLast?.map sl := by rw [← List.getLast?_map, ← List.getLast?_map, hw]
    unfold lastK
    cases h1 : (s.idx j).getLast? with
    | none =>
      rw [h1] at hl
      cases h2 : (op j).getLast? with
      | none => exact h.kp j hj
      | some t => rw [h2] at hl; cases hl
    | some r =>
      rw [h1] at hl
      cases h2 : (op j).getLast? with
      | none => rw [h2] at hl; cases hl
      | some t =>
        rw [h2] at hl
        simpa using hl
  · unfold DS.flushE
    simp only [h.dn, Bool.false_eq_true, if_false]
    rw [if_neg (by omega)]
def updL (op : Nat → List ByteArray) (a : Nat) (l : List ByteArray) : Nat → List ByteArray := fun j => if j = a then l else op j
theorem ks_write {s : DS} {k : Nat} {ks : Nat → ByteArray} {op : Nat → List ByteArray} (h : KS s k ks op) (a : Nat) (t : ByteArray) : KS (s.tick.wrote a (sl t)) (k + 1) ks (updL op a (op a ++ [t])) := by
  have haf := h.af
  have hml := h.mle
  have e1 : s.tick = s := tick_none (by omega)
  rw [e1]
  refine ⟨h.n4, h.dn, h.af, h.l0, by rw [wrote_m]; omega, h.kp, ?_⟩
  intro j hj
  have hm : (s.idx j).map (s.wrote a (sl t)).by_ = (s.idx j).map s.by_ := by
    apply List.map_congr_left
    intro i hi
    exact wrote_by s a (sl t) (idx_mem hi).1
  rw [wrote_idx]
  unfold updL
  by_cases e : j = a
  · subst e
    rw [if_pos rfl, if_pos rfl, List.map_append, hm, h.ow j hj, List.map_append, List.map_singleton, wrote_by_m, List.map_singleton]
  · rw [if_neg e, if_neg e, hm, h.ow j hj]
theorem ks_cut {s : DS} (ok : s.Ok) {k : Nat} {ks : Nat → ByteArray} {op : Nat → List ByteArray} (h : KS s k ks op) (keep : Nat) (torn cut : Int) :
    (s.cutS keep torn cut).restart.n = 4 ∧ (s.cutS keep torn cut).restart.down = false ∧ ∀ j, j < 4 → ∀ i, i < blk → (pad ((s.cutS keep torn cut).restart.show j)).getD i 0 = sb (ks j) i ∨ ∃ t ∈ op j, (pad ((s.cutS keep torn cut).restart.show j)).getD i 0 = sb t i := by
  have e1 : s.cutS keep torn cut = s.lose keep torn cut := by unfold DS.cutS; simp only [h.dn, Bool.false_eq_true, if_false]
  have e2 : (s.lose keep torn cut).restart = (s.lose keep torn cut).up := rfl
  rw [e1, e2]
  refine ⟨(settle_n s keep torn cut).trans h.n4, rfl, ?_⟩
  intro j hj i hi
  have e3 : (s.lose keep torn cut).up.show j = s.setK keep torn cut s.m j := by
    show (s.settle keep torn cut).K j = _
    exact settle_K _ _ _ _ _ (by rw [h.n4]; exact hj)
  rw [e3, pad_getD]
  rcases setK_from s ok keep torn cut j i hi s.m with e | ⟨r, h1, h2, h3⟩
  · left
    rw [e, h.kp j hj]
    rfl
  · right
    have hm : s.by_ r ∈ (s.idx j).map s.by_ := List.mem_map.2 ⟨r, by simp only [DS.idx, List.mem_filter, List.mem_range, beq_iff_eq]; exact ⟨h1, h2⟩, rfl⟩
    rw [h.ow j hj] at hm
    obtain ⟨t, ht, e⟩ := List.mem_map.1 hm
    exact ⟨t, ht, by rw [h3, ← e]; rfl⟩
end Go.Proofs.Ytfdnnebcjkjafaa
