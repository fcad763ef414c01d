/- The laws' helpers right and few; values appended to values. -/
import Derived.Test.YtcophbkgighepaaR4
import Derived.Test.YtcophbkgighepaaC3
set_option linter.unusedVariables false
namespace Go.Proofs.Ytcophbkgighepaa
open Go.RowKit

theorem hidj {p : Prop} (h : p) : Hid p := h
theorem own_form {w : World} {B : Nat} {v : Value} {vs : List Val} (h : w.ownsRow B 39 3 v vs.length (vcells vs)) : ∃ a cap, v = .slice a vs.length cap ∧ (a = none → vs.length = 0 ∧ cap = 0) ∧ vs.length ≤ cap ∧ cap ≤ 9223372036854775807 := by
  rcases h.2 with ⟨rfl, h0⟩ | ⟨g, cap, cur, rfl, _, _, h2, h3, _⟩
  · exact ⟨none, 0, by rw [h0], fun _ => ⟨h0, rfl⟩, by omega, by omega⟩
  · unfold maxLen at h3
    exact ⟨some ⟨g, 0, none⟩, cap, rfl, (fun h => by cases h), h2, by omega⟩
theorem vcells_append (a b : List Val) : vcells (a ++ b) = vcells a ++ vcells b := by simp [vcells]
theorem vcells_one (vs : List Val) : ∀ u ∈ vcells vs, u.oneCell' = true := by
  intro u hu
  simp only [vcells, List.mem_flatMap] at hu
  obtain ⟨x, _, hx⟩ := hu
  exact one_av x.1 x.2.1 x.2.2 u hx
theorem own_news {w : World} {B : Nat} {g n cap : Nat} {xs : List Value} (h : w.ownsRow B 39 3 (.slice (some ⟨g, 0, none⟩) n cap) n xs) : ∀ j u, xs[j]? = some u → w.cell? ((⟨g, 0, none⟩ : Addr).add j) = some u := by
  intro j u hj
  have hl : j < xs.length := (List.getElem?_eq_some_iff.1 hj).1
  have := h.1
  rw [add_plain, Nat.zero_add, h.cellAt j (by omega)]
  exact hj

theorem wpList_append_vv {ops : Array Oper} {rest : List Oper} {o : Oper} {a : Act} {Q : Exit → Act → World → Prop} {wr : World} (hgd : o.guard = none) (s x : Operand)
    (ho : o.op = .call { callee := .builtin .append, args := #[s, x], argTypes := #[26, 26] })
    (w : World) (v u : Value) (vs ys : List Val) (B : Nat) (hs : a.eval s = v) (hx : a.eval x = u) (hR : VW w wr v vs) (hY : wr.ownsRow B 39 3 u ys.length (vcells ys)) (hsize : vs.length + ys.length ≤ 16777216)
    (h : ∀ v' w', VW w w' v' (vs ++ ys) → wpList Try.prog ops Q rest (a.put o.dst v') w') : wpList Try.prog ops Q (o :: rest) a wr := by
  obtain ⟨i0, hi, hz0, hz1, hz2⟩ := info_parts info_av
  rcases hY.2 with ⟨rfl, h0⟩ | ⟨g, cap, cur, rfl, _⟩
  · have e : ys = [] := List.eq_nil_of_length_eq_zero h0
    subst e
    refine wpList_append_own_none hgd s x _ ho w.heap.size 39 i0 3 Try.underlying26 hi v vs.length (vcells vs) hs hR.own hx (h v wr ?_)
    simpa using hR
  · refine wpList_append_own_at _ hgd s x _ ho w.heap.size 39 i0 (.agg #[.int .i64 0, .int .i64 0, .string ⟨#[]⟩]) 3 32 Try.underlying26 hi hz0 hz1 hz2 rfl (by omega) v vs.length (vcells vs) hs hR.own ⟨g, 0, none⟩ ys.length cap (vcells ys) hx (by rw [vcells_len]) (own_news hY) (vcells_one ys) (by unfold maxLen; omega) (by omega) hR.bel.size ?_
    intro v' w' h2 h3 _ h5
    refine h v' w' ⟨?_, hR.bel.grown h3 hR.bel.size (fun j hj => (hR.own.lt j hj).1)⟩
    rw [List.length_append, vcells_append]
    exact h2

/-- The Right ones, at most six. -/
def isR (x : Val) : Bool := decide (x.err = 0)
def rightL (xs : List Val) : List Val := (xs.filter isR).take 6
theorem take_succ_filter {xs : List Val} {k : Nat} (hk : k < xs.length) : (xs.take (k + 1)).filter isR = (xs.take k).filter isR ++ (if isR (xs.getD k v0) then [xs.getD k v0] else []) := by
  have e : xs.take (k + 1) = xs.take k ++ [xs.getD k v0] := by rw [List.take_add_one]; simp [List.getD, hk]
  rw [e, List.filter_append]
  congr 1
  simp [List.filter_cons]
theorem rightL_done {xs : List Val} {k : Nat} (h : xs.length ≤ k ∨ ((xs.take k).filter isR).length = 6) (h6 : ((xs.take k).filter isR).length ≤ 6) : rightL xs = (xs.take k).filter isR := by
  unfold rightL
  rcases h with h | h
  · rw [List.take_of_length_le (i := k) h] at h6 ⊢
    exact List.take_of_length_le h6
  · have e : xs.filter isR = (xs.take k).filter isR ++ (xs.drop k).filter isR := by rw [← List.filter_append, List.take_append_drop]
    rw [e, List.take_append_of_le_length (by omega)]
    exact List.take_of_length_le (by omega)

end Go.Proofs.Ytcophbkgighepaa
