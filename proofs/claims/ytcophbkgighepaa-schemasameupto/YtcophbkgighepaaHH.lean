/- What is written is read: numbers, names. -/
import Derived.Test.YtcophbkgighepaaHG
set_option linter.unusedVariables false
namespace Go.Proofs.Ytcophbkgighepaa
open Go.RowKit

theorem rd_num {pre rest : List Nat} {n : Nat} (hn : n < 9223372036854775808) : ruN (pre ++ (encW n ++ rest)) (pre.length : Int) = n ∧ ruP (pre ++ (encW n ++ rest)) (pre.length : Int) = pre.length + (encW n).length ∧ ruE (pre ++ (encW n ++ rest)) (pre.length : Int) = 0 := by
  have h := rd_enc n hn pre rest
  have hc : (0 : Int) ≤ (pre.length : Int) ∧ (pre.length : Int) ≤ ((pre ++ (encW n ++ rest)).length : Int) := by
    constructor
    · omega
    · rw [List.length_append]; omega
  have ht : ((pre.length : Nat) : Int).toNat = pre.length := rfl
  refine ⟨?_, ?_, ?_⟩
  · unfold ruN
    rw [if_pos hc, ht, h]
  · unfold ruP
    rw [if_pos hc, ht]
    unfold rdNext
    rw [h, if_pos rfl, enc_length n (grp_spec n hn).1]
  · unfold ruE
    rw [if_pos hc, ht, h]
theorem rd_name {pre rest : List Nat} {s : ByteArray} (hs : s.size ≤ 8) : rbS (pre ++ (wb s ++ rest)) (pre.length : Int) 8 = sl s ∧ rbP (pre ++ (wb s ++ rest)) (pre.length : Int) 8 = pre.length + (wb s).length := by
  have e : pre ++ (wb s ++ rest) = pre ++ (encW s.size ++ (sl s ++ rest)) := by unfold wb; simp only [List.append_assoc]
  obtain ⟨h1, h2, h3⟩ := rd_num (pre := pre) (rest := sl s ++ rest) (n := s.size) (by omega)
  rw [← e] at h1 h2 h3
  have hl : (pre ++ (wb s ++ rest)).length = pre.length + (encW s.size).length + s.size + rest.length := by
    rw [e]
    simp only [List.length_append, sl_len]
    omega
  have he : rbE (pre ++ (wb s ++ rest)) (pre.length : Int) 8 = 0 := by
    unfold rbE
    rw [if_neg (by rw [h3]; simp), if_neg (by decide), if_neg (by rw [h1]; omega), if_neg (by rw [h1, h2, hl]; omega)]
  constructor
  · unfold rbS
    rw [if_pos he, h1, h2, e]
    rw [show pre ++ (encW s.size ++ (sl s ++ rest)) = (pre ++ encW s.size) ++ (sl s ++ rest) from by simp only [List.append_assoc], ← List.length_append, List.drop_left, ← sl_len s, List.take_left]
  · unfold rbP
    rw [if_pos he, h1, h2]
    unfold wb
    rw [List.length_append, sl_len]
    omega
end Go.Proofs.Ytcophbkgighepaa
set_option linter.unusedVariables false
namespace Go.Proofs.Ytcophbkgighepaa
open Go.RowKit

def z1 : Col := (⟨#[]⟩, 0, 0)
def zx : Idx := (0, false)
theorem mcol0 : (madeCells (Value.agg #[.string ⟨#[]⟩, .int .i64 0, .int .i64 0]).cells (0 * 3)).toList = (List.replicate 0 z1).flatMap fC := by kernel_rfl
theorem mcol1 : (madeCells (Value.agg #[.string ⟨#[]⟩, .int .i64 0, .int .i64 0]).cells (1 * 3)).toList = (List.replicate 1 z1).flatMap fC := by kernel_rfl
theorem mcol2 : (madeCells (Value.agg #[.string ⟨#[]⟩, .int .i64 0, .int .i64 0]).cells (2 * 3)).toList = (List.replicate 2 z1).flatMap fC := by kernel_rfl
theorem mcol3 : (madeCells (Value.agg #[.string ⟨#[]⟩, .int .i64 0, .int .i64 0]).cells (3 * 3)).toList = (List.replicate 3 z1).flatMap fC := by kernel_rfl
theorem mix0 : (madeCells (Value.agg #[.int .i64 0, .bool false]).cells (0 * 2)).toList = (List.replicate 0 zx).flatMap fX := by kernel_rfl
theorem mix1 : (madeCells (Value.agg #[.int .i64 0, .bool false]).cells (1 * 2)).toList = (List.replicate 1 zx).flatMap fX := by kernel_rfl
theorem mix2 : (madeCells (Value.agg #[.int .i64 0, .bool false]).cells (2 * 2)).toList = (List.replicate 2 zx).flatMap fX := by kernel_rfl
theorem mix3 : (madeCells (Value.agg #[.int .i64 0, .bool false]).cells (3 * 2)).toList = (List.replicate 3 zx).flatMap fX := by kernel_rfl
theorem made_col {n : Nat} (h : n ≤ 3) : (madeCells (Value.agg #[.string ⟨#[]⟩, .int .i64 0, .int .i64 0]).cells (n * 3)).toList = (List.replicate n z1).flatMap fC := by
  have : n = 0 ∨ n = 1 ∨ n = 2 ∨ n = 3 := by omega
  rcases this with rfl | rfl | rfl | rfl
  · exact mcol0
  · exact mcol1
  · exact mcol2
  · exact mcol3
theorem made_ix {n : Nat} (h : n ≤ 3) : (madeCells (Value.agg #[.int .i64 0, .bool false]).cells (n * 2)).toList = (List.replicate n zx).flatMap fX := by
  have : n = 0 ∨ n = 1 ∨ n = 2 ∨ n = 3 := by omega
  rcases this with rfl | rfl | rfl | rfl
  · exact mix0
  · exact mix1
  · exact mix2
  · exact mix3
theorem own_rd {rb B te k n g c : Nat} {w w' : World} {xs : List Value} (h : w.ownsRow B te k (.slice (some ⟨g, 0, none⟩) n c) n xs) (f : RdF rb w w') (hg : g ≠ rb) : w'.ownsRow B te k (.slice (some ⟨g, 0, none⟩) n c) n xs := by
  refine ⟨h.1, ?_⟩
  rcases h.2 with ⟨e, _⟩ | ⟨g', cap', cur, e, h5, h6, h7⟩
  · cases e
  · simp only [Value.slice.injEq, Option.some.injEq, Addr.mk.injEq] at e
    obtain ⟨⟨rfl, _, _⟩, _, rfl⟩ := e
    exact Or.inr ⟨g, c, cur, rfl, h5, (f.oth g (blk_lt h6) hg).trans h6, h7⟩
theorem own_cells {α : Type} {f : α → List Value} {k : Nat} (hk : ∀ x, (f x).length = k) {B te n g c i : Nat} {w : World} {l : List α} {x : α} (h : w.ownsRow B te k (.slice (some ⟨g, 0, none⟩) n c) n (l.flatMap f)) (hi : l[i]? = some x) : ∃ cur, w.heap[g]? = some (.cells cur te (0, 0)) ∧ ∀ t, t < k → w.cell? ⟨g, i * k + t, none⟩ = (f x)[t]? := by
  rcases h.2 with ⟨e, _⟩ | ⟨g', cap', cur, e, h5, h6, h7, h8, h9, h10⟩
  · cases e
  · simp only [Value.slice.injEq, Option.some.injEq, Addr.mk.injEq] at e
    obtain ⟨⟨rfl, _, _⟩, _, rfl⟩ := e
    refine ⟨cur, h6, fun t ht => ?_⟩
    have hg := fl_get hk hi t ht
    obtain ⟨u, hu⟩ : ∃ u, (f x)[t]? = some u := ⟨_, List.getElem?_eq_getElem (by rw [hk]; exact ht)⟩
    rw [hu] at hg ⊢
    rw [cell_blk h6, ← Array.getElem?_toList]
    rw [← h10, List.getElem?_take] at hg
    split at hg
    · exact hg
    · cases hg
/-- What is read, and what is still to be read. -/
def rowJ {α : Type} (z : α) (l : List α) (j : Nat) : List α := l.take j ++ List.replicate (l.length - j) z
theorem rowJ_at {α : Type} {z : α} {l : List α} {j : Nat} (h : j < l.length) : (rowJ z l j)[j]? = some z := by
  unfold rowJ
  rw [List.getElem?_append_right (by rw [List.length_take]; omega), List.length_take, Nat.min_eq_left (by omega), Nat.sub_self, List.getElem?_replicate, if_pos (by omega)]
theorem rowJ_next {α : Type} {z : α} {l : List α} {j : Nat} {x : α} (h : l[j]? = some x) : (rowJ z l j).set j x = rowJ z l (j + 1) := by
  have hl : j < l.length := (List.getElem?_eq_some_iff.1 h).1
  unfold rowJ
  rw [List.set_append_right _ _ (by rw [List.length_take]; omega), List.length_take, Nat.min_eq_left (by omega), Nat.sub_self, show l.length - j = (l.length - (j + 1)) + 1 by omega, List.replicate_succ, List.set_cons_zero, List.take_add_one, h]
  simp
theorem rowJ_len {α : Type} (z : α) (l : List α) {j : Nat} (h : j ≤ l.length) : (rowJ z l j).length = l.length := by
  unfold rowJ
  rw [List.length_append, List.length_take, List.length_replicate]
  omega
theorem rowJ_zero {α : Type} (z : α) (l : List α) : rowJ z l 0 = List.replicate l.length z := by unfold rowJ; simp
theorem rowJ_all {α : Type} (z : α) (l : List α) : rowJ z l l.length = l := by unfold rowJ; simp
end Go.Proofs.Ytcophbkgighepaa
