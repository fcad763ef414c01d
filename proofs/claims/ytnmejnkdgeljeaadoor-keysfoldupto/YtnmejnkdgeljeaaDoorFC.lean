/- What a law's card leans on where the bulk is bounded: texts, values and bytes that came in, opened, within the bound; a world in which the two tables lie. -/
import Derived.Test.YtnmejnkdgeljeaaDoorCards
import Derived.Test.YtnmejnkdgeljeaaDoorTie
import Derived.Test.YtnmejnkdgeljeaaDoorD4
import Derived.WalkKit
import Derived.ProofKit
import Derived.OpenShut
import Derived.ShutString
import Derived.ChangeOld
import Derived.Below
import Derived.SizedLaws
import Derived.JoinedCond
import Derived.Deep.DeepHandedRow
import Derived.Lay
import Derived.Lib.SmallJoins
import Derived.ChangeMaps5
namespace Go.Proofs.YtnmejnkdgeljeaaDoor
open Go.ChangeShapes Go.WideShapes Go.ChangeAt Go.RowKit
set_option linter.unusedVariables false

theorem own : ownKnob Tryd.prog.godebug = none := by kernel_rfl
theorem laidOut : laidOutB Tryd.prog = true := by kernel_rfl

theorem bulk_one {H : Type} (d : DataW H) : 1 ≤ Rows.uptoBulk d := by
  cases d with
  | lit l => cases l <;> simp [Rows.uptoBulk]
  | nil => simp [Rows.uptoBulk]
  | ptr d => simp [Rows.uptoBulk]
  | slice elems spare => simp [Rows.uptoBulk]
  | agg parts => simp [Rows.uptoBulk]
  | iface t d => simp [Rows.uptoBulk]
  | map entries => simp [Rows.uptoBulk]
  | held h => simp [Rows.uptoBulk]
theorem bulk_length {H : Type} (l : List (DataW H)) : l.length ≤ Rows.uptoBulkAll l := by
  induction l with
  | nil => simp [Rows.uptoBulkAll]
  | cons x r ih => have := bulk_one x; simp only [Rows.uptoBulkAll, List.length_cons]; omega
theorem bulk_part {H : Type} : ∀ {l : List (DataW H)} {j : Nat} {d : DataW H}, l[j]? = some d → Rows.uptoBulk d ≤ Rows.uptoBulkAll l
  | [], _, _, h => by simp at h
  | x :: r, 0, d, h => by simp at h; subst h; simp only [Rows.uptoBulkAll]; omega
  | x :: r, j + 1, d, h => by have := bulk_part (l := r) (j := j) (d := d) (by simpa using h); simp only [Rows.uptoBulkAll]; omega
theorem bulk_le {H : Type} {ds : List (DataW H)} {j : Nat} {d : DataW H} (hk : Rows.uptoSmall H ds = true) (hd : ds[j]? = some d) : Rows.uptoBulk d ≤ 1048576 := by
  have hb : Rows.uptoBulkAll ds ≤ 1048576 := of_decide_eq_true hk
  exact Nat.le_trans (bulk_part hd) hb

theorem size_of_list (s : ByteArray) : s.data.toList.length = s.size := by cases s; simp [ByteArray.size]

theorem str_upto {H : Type} {ds : List (DataW H)} {j : Nat} {s : ByteArray} (hk : Rows.uptoSmall H ds = true) (hd : ds[j]? = some (.lit (.string s.data.toList))) : s.size ≤ 1048576 := by
  have := bulk_le hk hd
  simp only [Rows.uptoBulk, size_of_list] at this
  omega

/-- A value that came in. -/
theorem open_av {H : Type} {enc : TypeId × Value → H} {W : World} {base : Nat} {v : Value} {d : DataW H} {p : List MemPlace} {ds : List (DataW H)} {j : Nat} (hk : Rows.uptoSmall H ds = true) (hd : ds[j]? = some d)
    (hv : Value.okWide Tryd.prog W .any base 23 v) (h : DataW.Trod enc Tryd.prog W 0 (fun _ => true) true 23 v d p) :
    ∃ k n s, v = av k n s ∧ Val.ok (k, n, s) := by
  obtain ⟨f0, f1, f2, hf, e0, e1, e2⟩ := three fields_av
  simp only [Prod.mk.injEq] at e0 e1 e2
  have hs : Tryd.prog.underlying 23 = some (.struct #[f0, f1, f2]) := by
    have e : Tryd.prog.fieldsOf 23 = #[f0, f1, f2] := by apply Array.ext'; rw [hf]
    have u := under_av
    rw [e] at u
    exact u
  have hone : Go.Deep.oneCellFields Tryd.prog #[f0, f1, f2] = true := by
    have : Go.Deep.oneCellFields Tryd.prog (Tryd.prog.fieldsOf 23) = true := by kernel_rfl
    have e : Tryd.prog.fieldsOf 23 = #[f0, f1, f2] := by apply Array.ext'; rw [hf]
    rw [e] at this
    exact this
  obtain ⟨v0, v1, v2, y0, y1, y2, n, rfl, rfl, rfl, h0, h1, h2⟩ := Joins.open_agg3 hs hone (by kernel_rfl) hv h
  rw [e0.2.1] at h0
  rw [e1.2.1] at h1
  rw [e2.2.1] at h2
  obtain ⟨a, ha, x0, w0⟩ := DataW.trod_int Tryd.underlying3 h0
  obtain ⟨b, hb, x1, w1⟩ := DataW.trod_int Tryd.underlying3 h1
  obtain ⟨c, hc, x2, w2⟩ := DataW.trod_string Tryd.underlying9 h2
  simp only [List.cons.injEq, and_true] at ha hb hc
  subst ha hb hc
  refine ⟨a, b, c, rfl, ?_⟩
  have hbk := bulk_le hk hd
  rw [x2] at hbk
  simp only [Rows.uptoBulk, Rows.uptoBulkAll, size_of_list] at hbk
  have i0 : -9223372036854775808 ≤ a ∧ a ≤ 9223372036854775807 := by simpa [Lit.wf, IntKind.min, IntKind.max, IntKind.signed, IntKind.bits] using w0
  have i1 : -9223372036854775808 ≤ b ∧ b ≤ 9223372036854775807 := by simpa [Lit.wf, IntKind.min, IntKind.max, IntKind.signed, IntKind.bits] using w1
  exact ⟨i0.1, i0.2, i1.1, i1.2, by simp only; omega⟩
end Go.Proofs.YtnmejnkdgeljeaaDoor
