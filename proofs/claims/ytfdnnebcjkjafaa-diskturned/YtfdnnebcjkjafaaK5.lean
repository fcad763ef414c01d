/- The memory of DiskTurned: the disk, and the four blocks' bytes as they were read. -/
import Derived.Test.YtfdnnebcjkjafaaK4
set_option linter.unusedVariables false
set_option linter.unusedSimpArgs false
namespace Go.Proofs.Ytfdnnebcjkjafaa
open Go.RowKit

theorem i64_and65535 (n : Int) : bits .and .i64 n 65535 = n % 65536 := i64_mask n 16 (by omega) 65535 (by decide)
theorem os4_at (ws : Nat → Value) {j : Nat} (h : j < 4) : (os4 ws)[j]? = some (ws j) := by
  have : j = 0 ∨ j = 1 ∨ j = 2 ∨ j = 3 := by omega
  rcases this with rfl | rfl | rfl | rfl <;> rfl
theorem os4_upd (ws : Nat → Value) {j : Nat} (h : j < 4) (v : Value) : (os4 ws).setIfInBounds j v = os4 (upd ws j v) := by
  have : j = 0 ∨ j = 1 ∨ j = 2 ∨ j = 3 := by omega
  rcases this with rfl | rfl | rfl | rfl <;> simp [os4, upd]

/-- The disk s at p; what the disk s0 showed of the first j blocks lies in the row of slices at gw. -/
structure TW (B p gw j : Nat) (ws : Nat → Value) (s0 s : DS) (w wr : World) : Prop where
  di : DI B p s wr
  fr : Fr B w wr
  hw : wr.heap[gw]? = some (.cells (os4 ws) 63 (0, 0))
  hv : ∀ i, i < j → ∃ g, ws i = .slice (some ⟨g, 0, none⟩) blk blk
  hr : ∀ i, i < j → wr.ownsRow B 5 1 (ws i) blk (cellsOf (pad (s0.show i)))
  gB : w.heap.size ≤ gw
  wB : B = w.heap.size
section
variable {B p gw j : Nat} {ws : Nat → Value} {s0 s s' : DS} {w wr w2 : World}
/-- A call of the disk's methods. -/
theorem TW.call (h : TW B p gw j ws s0 s w wr) (hd : DI B p s' w2) (f : Fr B wr w2) : TW B p gw j ws s0 s' w w2 :=
  ⟨hd, h.fr.trans f, f.stay _ _ _ _ h.hw (by decide) (by decide) (by decide) (by decide), h.hv, fun i hi => f.row (h.hr i hi) (by decide) (by decide) (by decide) (by decide), h.gB, h.wB⟩
/-- What writes nothing that was there. -/
theorem TW.later (h : TW B p gw j ws s0 s w wr) (hb : Below wr.heap.size wr w2) : TW B p gw j ws s0 s w w2 :=
  h.call (h.di.later hb) (Fr.of hb (by rw [h.wB]; exact h.fr.bel.size))
/-- Bytes read, laid into the row of slices. -/
theorem TW.put (h : TW B p gw j ws s0 s0 w wr) (hj : j < 4) {g : Nat} {B' : Nat} (ho : wr.ownsRow B' 5 1 (.slice (some ⟨g, 0, none⟩) blk blk) blk (cellsOf (pad (s0.show j)))) (hB' : B ≤ B') :
    TW B p gw (j + 1) (upd ws j (.slice (some ⟨g, 0, none⟩) blk blk)) s0 s0 w (wr.setCell ⟨gw, j, none⟩ (.slice (some ⟨g, 0, none⟩) blk blk)) := by
  have keep : ∀ {B2 n : Nat} {v : Value} {xs : List Value}, wr.ownsRow B2 5 1 v n xs → (wr.setCell ⟨gw, j, none⟩ (.slice (some ⟨g, 0, none⟩) blk blk)).ownsRow B2 5 1 v n xs := fun hq => own_stay hq fun k cs _ e => by
    rw [heap_setCell_other _ _ _ _ ?_, e]
    show k ≠ gw
    intro e2
    subst e2
    rw [h.hw] at e
    simp only [Option.some.injEq, Obj.cells.injEq] at e
    exact absurd e.2.1 (by decide)
  refine ⟨h.di.other h.hw (by decide) (by decide) (by decide) (by decide) (by decide), h.fr.set_new (by rw [h.wB]; exact h.gB) h.gB, ?_, ?_, ?_, h.gB, h.wB⟩
  · rw [Go.heap_setCell_same wr gw j _ _ _ h.hw, os4_upd ws hj]
  · intro i hi
    by_cases e : i = j
    · subst e; exact ⟨g, upd_at _ _ _⟩
    · rw [upd_ne _ _ e]; exact h.hv i (by omega)
  · intro i hi
    by_cases e : i = j
    · subst e
      rw [upd_at]
      have h2 := keep ho
      obtain ⟨q1, q2⟩ := h2
      refine ⟨q1, ?_⟩
      rcases q2 with q2 | ⟨g2, c2, cur, e2, hb2, rest⟩
      · exact .inl q2
      · exact .inr ⟨g2, c2, cur, e2, Nat.le_trans hB' hb2, rest⟩
    · rw [upd_ne _ _ e]; exact keep (h.hr i (by omega))
end
end Go.Proofs.Ytfdnnebcjkjafaa
