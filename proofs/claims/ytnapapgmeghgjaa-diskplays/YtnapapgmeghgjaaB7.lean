/- Contracts of shown and Read. -/
import Derived.Test.YtnapapgmeghgjaaB6
set_option linter.unusedVariables false
namespace Go.Proofs.Ytnapapgmeghgjaa
open Go.RowKit

/-- What a block reads as (without the noughts behind it). -/
def DS.show (s : DS) (i : Nat) : List Nat := match (s.idx i).getLast? with
  | some j => s.by_ j
  | none => s.K i
theorem idx_mem {s : DS} {i j : Nat} (h : j ∈ s.idx i) : j < s.m ∧ s.at_ j = i := by
  simp only [DS.idx, List.mem_filter, List.mem_range, beq_iff_eq] at h
  exact h
theorem show_len {s : DS} (h : s.Ok) (i : Nat) : (s.show i).length ≤ blk := by
  unfold DS.show
  split
  · exact h.bl _
  · exact h.kl _
theorem show_lt {s : DS} (h : s.Ok) (i : Nat) : ∀ c ∈ s.show i, c < 256 := by
  unfold DS.show
  split
  · exact h.bb _
  · exact h.kb _
theorem icells_get {l : List Nat} {i : Nat} (h : i < l.length) : (icells l)[i]? = some (.int .i64 ((l.getD i 0 : Nat) : Int)) := by
  simp [icells, h]
theorem idx_len (s : DS) (i : Nat) : (s.idx i).length ≤ s.m := by
  unfold DS.idx
  exact Nat.le_trans (List.length_filter_le _ _) (by rw [List.length_range]; exact Nat.le_refl _)

set_option maxRecDepth 100000 in
set_option maxHeartbeats 2000000 in
theorem shown_any [Gd] (B p : Nat) (s : DS) (i : Nat) (w : World) (h : DI B p s w) (hB : B ≤ w.heap.size) (hi : i < s.n) :
    Calls Try.prog 42 #[.pointer (some ⟨p, 0, none⟩), .int .i64 i] w fun e w' => ∃ v, e = .returned v ∧ w'.ownsRow B 5 1 v (s.show i).length (cellsOf (s.show i)) ∧ Below w.heap.size w w' := by
  obtain ⟨gb, vo, kv, ov, wv, h⟩ := h
  have hn := h.ok.n2
  have hmm := h.ok.mm
  have c0 := h.c0
  have c1 := h.c1
  have hpl : p < w.heap.size := (Array.getElem?_eq_some_iff.1 h.hp).1
  have g0 : w.cell? ⟨gb, i * 2, none⟩ = some (kv i) := by
    rw [cell_blk h.hg]
    simpa using two_get0 kv ov i s.n hi
  have g1 : w.cell? ⟨gb, i * 2 + 1, none⟩ = some (ov i) := by
    rw [cell_blk h.hg]
    simpa using two_get1 kv ov i s.n hi
  obtain ⟨a1, p1, e1⟩ := own_slice (h.hk i hi)
  obtain ⟨a2, p2, e2⟩ := own_slice (h.ho i hi)
  have O1 := h.hk i hi
  have O2 := h.ho i hi
  rw [e1] at g0 O1
  rw [e2] at g1 O2
  have i1 : (0 : Int) ≤ (i : Int) := by omega
  have i2 : (i : Int) < ((s.n : Nat) : Int) := by omega
  have HIL := idx_len s i
  cases hx : s.idx i with
  | nil =>
    have HS : Hid (s.show i = s.K i) := by show _ = _; unfold DS.show; rw [hx]; rfl
    rw [hx] at O2 g1
    simp only [List.length_nil] at O2 g1
    have HO1 := hide O1
    rw [HS.out]
    have HB1 := hide (below_box w (.cells #[.slice a1 (s.K i).length p1, .slice a2 0 p2] 73))
    clear h O1 O2 e1 e2 hx
    generalize (s.K i).length = n1 at *
    generalize s.n = n at *
    go_enter Try.func42, Try.ntmps42
    go_wp2
    go_ret
    exact ⟨_, rfl, own_later HO1.out HB1.out, HB1.out⟩
  | cons j0 jr =>
    have hlen : 0 < (s.idx i).length := by rw [hx]; simp
    obtain ⟨l, hl⟩ : ∃ l, (s.idx i).length = l + 1 := ⟨(s.idx i).length - 1, by omega⟩
    obtain ⟨j, hj⟩ : ∃ j, (s.idx i).getD l 0 = j := ⟨_, rfl⟩
    have hlast : (s.idx i).getLast? = some j := by
      rw [List.getLast?_eq_getElem?, hl, Nat.add_sub_cancel, ← hj, List.getD_eq_getElem?_getD, List.getElem?_eq_getElem (by omega)]
      rfl
    have hjm : j ∈ s.idx i := by
      have := List.mem_of_getLast? hlast
      exact this
    obtain ⟨hj1, hj2⟩ := idx_mem hjm
    have HS : Hid (s.show i = s.by_ j) := by show _ = _; unfold DS.show; rw [hlast]
    obtain ⟨A, C, hvo, hmc, hcm, hnil⟩ := h.form
    have hw := h.hw
    have OB := h.hb j hj1
    obtain ⟨a3, p3, e3⟩ := own_slice OB
    rw [hvo] at hw c1
    obtain ⟨g, rfl, hgl, cur, hgc⟩ := own_place hw (by omega)
    obtain ⟨g2, rfl, hg2, cur2, hgc2⟩ := own_place O2 (by omega)
    have r1 := hw.cellAt (j * 2 + 1) (by omega)
    rw [two_get1 _ _ _ _ hj1, e3] at r1
    have r2 := O2.cellAt l (by omega)
    rw [icells_get (by omega), hj] at r2
    rw [e3] at OB
    have HOB := hide OB
    have hc2 : (s.idx i).length ≤ p2 := by
      rcases O2.2 with ⟨e, _⟩ | ⟨_, _, _, e, _, _, h5, _⟩
      · cases e
      · simp only [Value.slice.injEq] at e; omega
    have hp2 : p2 ≤ 9223372036854775807 := by
      rcases O2.2 with ⟨e, _⟩ | ⟨_, _, _, e, _, _, _, h5, _⟩
      · cases e
      · simp only [Value.slice.injEq] at e; unfold maxLen at h5; omega
    rw [HS.out]
    rw [hl] at g1 hc2 HIL
    have HB1 := hide (below_box w (.cells #[.slice a1 (s.K i).length p1, .slice (some ⟨g2, 0, none⟩) (l + 1) p2] 73))
    have x1 : (w.alloc (.cells #[.slice a1 (s.K i).length p1, .slice (some ⟨g2, 0, none⟩) (l + 1) p2] 73)).cell? ⟨p, 1, none⟩ = some (.slice (some ⟨g, 0, none⟩) s.m C) := (HB1.out.cell hpl).trans c1
    have x2 : (w.alloc (.cells #[.slice a1 (s.K i).length p1, .slice (some ⟨g2, 0, none⟩) (l + 1) p2] 73)).cell? ⟨g2, l, none⟩ = some (.int .i64 (j : Nat)) := (HB1.out.cell hg2).trans r2
    have x3 : (w.alloc (.cells #[.slice a1 (s.K i).length p1, .slice (some ⟨g2, 0, none⟩) (l + 1) p2] 73)).cell? ⟨g, j * 2 + 1, none⟩ = some (.slice a3 (s.by_ j).length p3) := (HB1.out.cell hgl).trans r1
    have j1 : (0 : Int) ≤ (j : Int) := by omega
    have j2 : (j : Int) < ((s.m : Nat) : Int) := by omega
    have l1 : (0 : Int) ≤ (l : Int) := by omega
    have l2 : (0 : Int) < (l : Int) + 1 := by omega
    clear h O1 O2 OB hw hvo hnil hlen hlast hjm hj hl hx e1 e2 e3 r1 r2 hgc hgc2 hj1 hj2
    generalize (s.K i).length = n1 at *
    generalize (s.by_ j).length = n3 at *
    generalize s.n = n at *
    generalize s.m = m at *
    go_enter Try.func42, Try.ntmps42
    go_wp2_with fail
    go_quiet (fail)
    go_wp2
    go_ret
    exact ⟨_, rfl, own_later HOB.out (below_drewN HB1.out _), below_drewN HB1.out _⟩
end Go.Proofs.Ytnapapgmeghgjaa
