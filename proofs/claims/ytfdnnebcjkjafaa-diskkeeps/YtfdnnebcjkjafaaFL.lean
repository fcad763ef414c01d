/- A loss that came in, opened. -/
import Derived.Test.YtfdnnebcjkjafaaFA
import Derived.Lib.SmallJoins
namespace Go.Proofs.Ytfdnnebcjkjafaa
open Go.ChangeShapes Go.WideShapes Go.ChangeAt Go.RowKit
set_option linter.unusedVariables false

theorem four {α β : Type} {f : α → β} {l : List α} {a b c d : β} (h : l.map f = [a, b, c, d]) : ∃ x y z u, l = [x, y, z, u] ∧ f x = a ∧ f y = b ∧ f z = c ∧ f u = d := by
  match l, h with
  | [x, y, z, u], h =>
    simp only [List.map_cons, List.map_nil, List.cons.injEq, and_true] at h
    exact ⟨x, y, z, u, rfl, h.1, h.2.1, h.2.2.1, h.2.2.2⟩
theorem open_loss {H : Type} {enc : TypeId × Value → H} {W : World} {base : Nat} {v : Value} {d : DataW H} {p : List MemPlace}
    (hv : Value.okWide Try.prog W .any base 32 v) (h : DataW.Trod enc Try.prog W 0 (fun _ => true) true 32 v d p) :
    ∃ (after : Int) (keep : Nat) (torn cut : Int), v = .agg #[.int .i64 after, .int .u64 (keep : Int), .int .i64 torn, .int .i64 cut] ∧ keep < 18446744073709551616 := by
  obtain ⟨f0, f1, f2, f3, hf, e0, e1, e2, e3⟩ := four fields_loss
  simp only [Prod.mk.injEq] at e0 e1 e2 e3
  have e : Try.prog.fieldsOf 32 = #[f0, f1, f2, f3] := by apply Array.ext'; rw [hf]
  have hs : Try.prog.underlying 32 = some (.struct #[f0, f1, f2, f3]) := by
    have u := under_loss
    rw [e] at u
    exact u
  have hone : Go.Deep.oneCellFields Try.prog #[f0, f1, f2, f3] = true := by
    have : Go.Deep.oneCellFields Try.prog (Try.prog.fieldsOf 32) = true := by kernel_rfl
    rw [e] at this
    exact this
  obtain ⟨v0, v1, v2, v3, y0, y1, y2, y3, n, rfl, rfl, rfl, h0, h1, h2, h3⟩ := Joins.open_agg4 hs hone (by kernel_rfl) hv h
  rw [e0.1] at h0
  rw [e1.1] at h1
  rw [e2.1] at h2
  rw [e3.1] at h3
  obtain ⟨a, ha, _, _⟩ := DataW.trod_int Try.underlying3 h0
  obtain ⟨b, hb, _, w1⟩ := DataW.trod_int Try.underlying30 h1
  obtain ⟨c, hc, _, _⟩ := DataW.trod_int Try.underlying3 h2
  obtain ⟨g, hg, _, _⟩ := DataW.trod_int Try.underlying3 h3
  simp only [List.cons.injEq, and_true] at ha hb hc hg
  subst ha hb hc hg
  have bb := uints64 w1
  refine ⟨a, b.toNat, c, g, ?_, by omega⟩
  have eb : ((b.toNat : Nat) : Int) = b := by omega
  rw [eb]
end Go.Proofs.Ytfdnnebcjkjafaa
