/- Rows of bytes of the call's own that grow: by bytes of any slice, by bytes 0; a byte of them that is written. -/
import Derived.Test.YtnapapgmeghgjaaK1
import Derived.Laws.AppendOwnNone
set_option linter.unusedVariables false
namespace Go.Proofs.Ytnapapgmeghgjaa
open Go.RowKit

theorem wpList_append_any {ops : Array Oper} {rest : List Oper} {o : Oper} {a : Act} {w : World} {Q : Exit → Act → World → Prop} (hgd : o.guard = none) (s x : Operand)
    (ho : o.op = .call { callee := .builtin .append, args := #[s, x], argTypes := #[29, 29] })
    (base : Nat) (v : Value) (n : Nat) (xs : List Nat) (hs : a.eval s = v) (hown : w.ownsRow base 5 1 v n (cellsOf xs)) (ax : Option Addr) (m cx : Nat) (ys : List Nat)
    (hx : a.eval x = .slice ax m cx) (hbs : BS w ax m cx ys) (hsize : n + m ≤ 140737488355328) (w0 : World) (hbel : Below base w0 w) (hbase : base ≤ w.heap.size)
    (h : ∀ v' w', w'.ownsRow base 5 1 v' (n + m) (cellsOf (xs ++ ys)) → Below base w0 w' → base ≤ w'.heap.size → wpList Try.prog ops Q rest (a.put o.dst v') w') : wpList Try.prog ops Q (o :: rest) a w := by
  obtain ⟨i0, hi, hz0, hz1, hz2⟩ := info_parts info5
  have hl := hbs.hlen
  cases ax with
  | none =>
    have hc := hbs.hnil rfl
    have hcap := hbs.hcap
    obtain rfl : cx = 0 := hc
    obtain rfl : m = 0 := by omega
    have hy : ys = [] := List.eq_nil_of_length_eq_zero hl
    subst hy
    refine wpList_append_own_none hgd s x _ ho base 5 i0 1 Try.underlying29 hi v n (cellsOf xs) hs hown hx (h v w ?_ hbel hbase)
    simpa using hown
  | some ad =>
    refine wpList_append_own _ hgd s x _ ho base 5 i0 (.int .u8 0) 1 1 Try.underlying29 hi hz0 hz1 hz2 rfl (by omega) v n (cellsOf xs) hs hown ad m cx (cellsOf ys) hx (by rw [cellsOf_length]; omega) hbs.news (cellsOf_one ys) (by unfold maxLen; omega) (by omega) hbase ?_
    intro v' w' ho' hg' _
    rw [← cellsOf_append] at ho'
    exact h v' w' ho' (hbel.grown hg' hbase (fun k hk => (hown.lt k hk).1)) (Nat.le_trans hbase hg'.size)

theorem wpList_zeros_any {ops : Array Oper} {rest : List Oper} {o : Oper} {a : Act} {w : World} {Q : Exit → Act → World → Prop} (hgd : o.guard = none) (s x : Operand)
    (ho : o.op = .call { callee := .builtin .append, args := #[s, x], argTypes := #[29, 3] })
    (base : Nat) (v : Value) (n : Nat) (xs : List Nat) (hs : a.eval s = v) (hown : w.ownsRow base 5 1 v n (cellsOf xs)) (k : Nat)
    (hx : a.eval x = .int .i64 (k : Int)) (h0 : 0 < k) (hk : n + k ≤ 100000) (w0 : World) (hbel : Below base w0 w) (hbase : base ≤ w.heap.size)
    (h : ∀ v' w', w'.ownsRow base 5 1 v' (n + k) (cellsOf (xs ++ zs k)) → Below base w0 w' → base ≤ w'.heap.size → wpList Try.prog ops Q rest (a.put o.dst v') w') : wpList Try.prog ops Q (o :: rest) a w := by
  obtain ⟨i0, hi, hz0, hz1, hz2⟩ := info_parts info5
  obtain ⟨v', w', hr, h1, h2, h3, h4⟩ := run_zeros_own (P := Try.prog) w base 29 3 o.type 5 i0 _ Try.underlying29 Try.underlying3 hi hz0 hz1 hz2 v n (cellsOf xs) hown k h0 hk hbase
  refine Go.Lib.wpList_append_run w hgd s x _ _ ho _ _ hs hx v' w' hr ?_
  have e : cellsOf (xs ++ zs k) = cellsOf xs ++ List.replicate k (Value.int .u8 0) := by simp [cellsOf, zs]
  exact h v' w' (by rw [e]; exact h1) (hbel.grown h2 hbase (fun j hj => (hown.lt j hj).1)) (Nat.le_trans hbase h2.size)

theorem own_slot {w : World} {B n : Nat} {v : Value} {xs : List Nat} (h : w.ownsRow B 5 1 v n (cellsOf xs)) (h0 : 0 < n) :
    ∃ g cap, v = .slice (some ⟨g, 0, none⟩) n cap ∧ n ≤ cap ∧ cap ≤ maxLen ∧ B ≤ g ∧ g < w.heap.size ∧ (∀ j, w.frozen? ⟨g, j, none⟩ = false) ∧ (∀ j, j < n → w.cell? ⟨g, j, none⟩ = some (.int .u8 (xs.getD j 0 : Nat))) ∧
      ∀ j c, j < n → (w.setCell ⟨g, j, none⟩ (.int .u8 (c : Nat))).ownsRow B 5 1 v n (cellsOf (xs.set j c)) := by
  have hx : xs.length = n := by have := h.1; rw [cellsOf_length] at this; omega
  rcases h.2 with ⟨_, h1⟩ | ⟨g, cap, cur, rfl, hB, hg, hnc, hcm, hcs, ht⟩
  · omega
  · rw [Nat.mul_one] at hcs ht
    refine ⟨g, cap, rfl, hnc, hcm, hB, (Array.getElem?_eq_some_iff.1 hg).1, fun j => frz_blk hg, fun j hj => ?_, fun j c hj => ?_⟩
    · rw [cell_blk hg, ← cellsOf_get xs j (by omega), ← ht, List.getElem?_take_of_lt hj, Array.getElem?_toList]
    · refine ⟨by rw [cellsOf_length, List.length_set]; omega, .inr ⟨g, cap, _, rfl, hB, Go.heap_setCell_same w g j cur _ _ hg, hnc, hcm, ?_, ?_⟩⟩
      · simp [hcs]
      · have e : cellsOf (xs.set j c) = (cellsOf xs).set j (.int .u8 (c : Nat)) := by simp [cellsOf, List.map_set]
        rw [Nat.mul_one, e, ← ht, Array.toList_setIfInBounds, List.take_set]
end Go.Proofs.Ytnapapgmeghgjaa
