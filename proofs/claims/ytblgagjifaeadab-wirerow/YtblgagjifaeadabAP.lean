/- One law for 'x = append(x, y...)', x the call's own (or nil), y whatever bytes. -/
import Derived.Test.YtblgagjifaeadabBS
import Derived.Deep.AppendLies
namespace Go.Proofs.Ytblgagjifaeadab
open Go.RowKit

theorem ownsRow_later {w w' : World} {base : Nat} {e : TypeId} {size : Nat} {v : Value} {n : Nat} {xs : List Value} (h : w.ownsRow base e size v n xs) (hb : Below w.heap.size w w') : w'.ownsRow base e size v n xs := by
  refine ⟨h.1, ?_⟩
  rcases h.2 with h0 | ⟨g, cap, cur, hv, hbg, hg, h3⟩
  · exact Or.inl h0
  · right
    refine ⟨g, cap, cur, hv, hbg, ?_, h3⟩
    have hlt : g < w.heap.size := (h.lt g (by rw [hv]; rfl)).2
    rw [hb.block g hlt]
    exact hg

theorem wpList_append_any {ops : Array Oper} {rest : List Oper} {o : Oper} {a : Act} {w : World} {Q : Exit → Act → World → Prop} (hgd : o.guard = none) (s x : Operand)
    (ho : o.op = .call { callee := .builtin .append, args := #[s, x], argTypes := #[24, 24] })
    (base : Nat) (v : Value) (n : Nat) (xs : List Nat) (hs : a.eval s = v) (hown : w.ownsRow base 5 1 v n (cellsOf xs)) (ax : Option Addr) (m cx : Nat) (ys : List Nat)
    (hx : a.eval x = .slice ax m cx) (hbs : BS w ax m cx ys) (hsize : n + m ≤ 140737488355328) (w0 : World) (hbel : Below base w0 w) (hbase : base ≤ w.heap.size)
    (h : ∀ v' w', w'.ownsRow base 5 1 v' (n + m) (cellsOf (xs ++ ys)) → Below base w0 w' → base ≤ w'.heap.size → wpList Try.prog ops Q rest (a.put o.dst v') w') : wpList Try.prog ops Q (o :: rest) a w := by
  obtain ⟨i0, hi, hz0, hz1, hz2⟩ := info_parts info5
  have hl := hbs.hlen
  cases ax with
  | none =>
    have hc := hbs.hnil rfl
    have hcap := hbs.hcap
    obtain rfl : cx = 0 := hc
    obtain rfl : m = 0 := by omega
    have hy : ys = [] := List.eq_nil_of_length_eq_zero hl
    subst hy
    refine wpList_append_own_none hgd s x _ ho base 5 i0 1 Try.underlying24 hi v n (cellsOf xs) hs hown hx (h v w ?_ hbel hbase)
    simpa using hown
  | some ad =>
    refine wpList_append_own _ hgd s x _ ho base 5 i0 (.int .u8 0) 1 1 Try.underlying24 hi hz0 hz1 hz2 rfl (by omega) v n (cellsOf xs) hs hown ad m cx (cellsOf ys) hx (by rw [cellsOf_length]; omega) hbs.news (cellsOf_one ys) (by unfold maxLen; omega) (by omega) hbase ?_
    intro v' w' ho' hg' _
    rw [← cellsOf_append] at ho'
    exact h v' w' ho' (hbel.grown hg' hbase (fun k hk => (hown.lt k hk).1)) (Nat.le_trans hbase hg'.size)
end Go.Proofs.Ytblgagjifaeadab
