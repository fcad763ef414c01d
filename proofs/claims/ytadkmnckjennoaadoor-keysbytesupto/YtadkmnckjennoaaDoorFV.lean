/- Values that came in, opened, where the bulk is bounded. -/
import Derived.Test.YtadkmnckjennoaaDoorTB
import Derived.Test.YtadkmnckjennoaaDoorR4
import Derived.Deep.SlicePairs
namespace Go.Proofs.YtadkmnckjennoaaDoor
open Go.ChangeShapes Go.WideShapes Go.ChangeAt Go.RowKit
set_option linter.unusedVariables false

theorem bulk_mem {H : Type} {l : List (DataW H)} {d : DataW H} (h : d ∈ l) : Rows.uptoBulk d ≤ Rows.uptoBulkAll l := by
  obtain ⟨j, hj⟩ := List.getElem?_of_mem h
  exact bulk_part hj

theorem list3 {α : Type} {l : List α} (h : l.length = 3) : ∃ a b c, l = [a, b, c] := by
  match l, h with
  | [a, b, c], _ => exact ⟨a, b, c, rfl⟩

theorem open_vs_upto {H : Type} {enc : TypeId × Value → H} {W : World} {a0 : Option Addr} {len0 cap0 : Nat} {d0 : DataW H} {p0 : List MemPlace} {ds : List (DataW H)} (j : Nat)
    (hk : Rows.uptoSmall H ds = true) (hd : ds[j]? = some d0)
    (h0 : DataW.Trod enc Tryd.prog W 0 (fun _ => true) true 30 (.slice a0 len0 cap0) d0 p0) : ∃ xs, VS W a0 len0 cap0 xs ∧ ∀ x ∈ xs, x.2.2.size ≤ 1048576 := by
  have hb := bulk_le hk hd
  obtain ⟨f0, f1, f2, hf, e0, e1, e2⟩ := three fields_av
  simp only [Prod.mk.injEq] at e0 e1 e2
  have hfa : Tryd.prog.fieldsOf 23 = #[f0, f1, f2] := by apply Array.ext'; rw [hf]
  have hs : Tryd.prog.underlying 23 = some (.struct #[f0, f1, f2]) := by
    have u := under_av
    rw [hfa] at u
    exact u
  have ce : Tryd.prog.cellsOf 23 = 3 := by kernel_rfl
  have ci : Tryd.prog.cellsOf 3 = 1 := by kernel_rfl
  have cs : Tryd.prog.cellsOf 9 = 1 := by kernel_rfl
  obtain ⟨fuel, hfu⟩ := h0
  rcases Deep.open_slice Tryd.underlying30 hfu with ⟨hcs, _⟩ | ⟨a, len, cap, m, n, D, Pl, hcs, hbb, hl, hm, hmm, hx, each⟩
  · simp [Value.cells] at hcs
    obtain ⟨rfl, rfl, rfl⟩ := hcs
    exact ⟨[], ⟨rfl, by omega, by omega, by omega, by simp, (fun b o h => by cases h), fun h => absurd h (by omega)⟩, by simp⟩
  · simp [Value.cells] at hcs
    obtain ⟨rfl, rfl, rfl⟩ := hcs
    simp only [if_true] at hmm
    simp only [Prod.mk.injEq] at hx
    obtain ⟨rfl, _⟩ := hx
    unfold maxLen at hm
    have hbl := bulk_length ((List.range len0).map D)
    simp only [Rows.uptoBulk, List.length_map, List.length_range] at hb hbl
    have hval : ∀ i, i < len0 → ∃ q : Val, W.cell? (a.add (i * 3)) = some (.int .i64 q.1) ∧ W.cell? (a.add (i * 3 + 1)) = some (.int .i64 q.2.1) ∧ W.cell? (a.add (i * 3 + 2)) = some (.string q.2.2) ∧ q.ok ∧ q.2.2.size ≤ 1048576 := by
      intro i hi
      obtain ⟨cs', h1, h2⟩ := each i (by omega)
      rw [ce] at h1
      obtain ⟨_, hlen, hcell⟩ := World.cells?_some h1
      obtain ⟨xs, k, hk2, hxy, _, hxl, hff⟩ := DataW.trod_struct hs h2
      obtain ⟨y0, y1, y2, rfl⟩ := list3 (by simpa using hxl)
      obtain ⟨u0, u1, u2, rfl⟩ := list3 hlen
      · have g0 := hff 0 f0 rfl
        have g1 := hff 1 f1 rfl
        have g2 := hff 2 f2 rfl
        simp [e0.2.1, e0.2.2, e1.2.1, e1.2.2, e2.2.1, e2.2.2, ci, cs] at g0 g1 g2
        obtain ⟨z0, hz0, x0, w0⟩ := DataW.trod_int Tryd.underlying3 g0
        obtain ⟨z1, hz1, x1, w1⟩ := DataW.trod_int Tryd.underlying3 g1
        obtain ⟨z2, hz2, x2, w2⟩ := DataW.trod_string Tryd.underlying9 g2
        simp only [List.cons.injEq, and_true] at hz0 hz1 hz2
        subst hz0 hz1 hz2
        have c0 := hcell 0 (by omega)
        have c1 := hcell 1 (by omega)
        have c2 := hcell 2 (by omega)
        rw [Deep.add_add] at c0 c1 c2
        have i0 : -9223372036854775808 ≤ z0 ∧ z0 ≤ 9223372036854775807 := by simpa [Lit.wf, IntKind.min, IntKind.max, IntKind.signed, IntKind.bits] using w0
        have i1 : -9223372036854775808 ≤ z1 ∧ z1 ≤ 9223372036854775807 := by simpa [Lit.wf, IntKind.min, IntKind.max, IntKind.signed, IntKind.bits] using w1
        have hD : D i = .agg [y0.1, y1.1, y2.1] := by simp only [Prod.mk.injEq] at hxy; simpa using hxy.1
        have hmem : D i ∈ (List.range len0).map D := List.mem_map.2 ⟨i, List.mem_range.2 hi, rfl⟩
        have hbm := bulk_mem hmem
        rw [hD, x2] at hbm
        simp only [Rows.uptoBulk, Rows.uptoBulkAll, size_of_list] at hbm
        have hsz : z2.size ≤ 1048576 := by omega
        exact ⟨(z0, z1, z2), by simpa using c0, by simpa using c1, by simpa using c2, ⟨i0.1, i0.2, i1.1, i1.2, by simp only; omega⟩, hsz⟩
    obtain ⟨q, hq⟩ := Deep.choose_lt hval
    have hg : ∀ i, i < len0 → ((List.range len0).map q).getD i (0, 0, ⟨#[]⟩) = q i := fun i hi => by simp [List.getD, hi]
    have hplain : 0 < len0 → ∃ b o, a = ⟨b, o, none⟩ := by
      intro hp
      obtain ⟨b, o, s⟩ := a
      have hc := (hq 0 hp).1
      have hs2 : s = none := by simpa [Addr.add] using World.cell?_spot hc
      subst hs2
      exact ⟨b, o, rfl⟩
    refine ⟨(List.range len0).map q, ⟨by simp, hl, by omega, by omega, ?_, ?_, ?_⟩, ?_⟩
    · intro x hx
      simp only [List.mem_map, List.mem_range] at hx
      obtain ⟨i, hi, rfl⟩ := hx
      exact (hq i hi).2.2.2.1
    · intro b o e i hi
      simp only [Option.some.injEq] at e
      subst e
      rw [hg i hi]
      have := hq i hi
      rw [add_plain, add_plain, add_plain] at this
      exact ⟨this.1, by rw [Nat.add_assoc]; exact this.2.1, by rw [Nat.add_assoc]; exact this.2.2.1⟩
    · intro hp
      obtain ⟨b, o, e⟩ := hplain hp
      exact ⟨b, o, by rw [e]⟩
    · intro x hx
      simp only [List.mem_map, List.mem_range] at hx
      obtain ⟨i, hi, rfl⟩ := hx
      exact (hq i hi).2.2.2.2
end Go.Proofs.YtadkmnckjennoaaDoor
