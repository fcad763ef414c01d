/- Another row of ints is held apart from a disk's own: when it is laid, and when it grows. -/
import Derived.Test.YtbjononpgcemgaaPU
set_option linter.unusedVariables false
namespace Go.Proofs.Ytbjononpgcemgaa
open Go.RowKit

/-- A row of ints that was just laid is none of a disk's. -/
theorem DI.reG {g1 : Gd} {B p G : Nat} {s : DS} {w w' : World} {cs : Array Value} (h : @DI g1 B p s w) (hb : Below w.heap.size w w') (hG : w.heap.size ≤ G) (e : w'.heap[G]? = some (.cells cs 3 (0, 0))) : @DI ⟨some G⟩ B p s w' := by
  obtain ⟨gb, vo, kv, ov, wv, h⟩ := h
  have h' := h.later hb
  refine ⟨gb, vo, kv, ov, wv, @DV.mk ⟨some G⟩ _ _ _ _ _ _ _ _ _ h'.hp h'.hg h'.hw h'.hk h'.hb h'.ho h'.ha h'.pB h'.gB h'.ok ?_⟩
  intro k hk
  have hk2 : G = k := Option.some.inj hk
  subst hk2
  refine ⟨⟨cs, e⟩, fun i hi e2 => ?_⟩
  obtain ⟨_, cur, hc⟩ := own_block (h.ho i hi) e2
  have := (Array.getElem?_eq_some_iff.1 hc).1
  omega
/-- What was held apart is let go. -/
theorem DI.noG {g1 : Gd} {B p : Nat} {s : DS} {w : World} (h : @DI g1 B p s w) : @DI ⟨none⟩ B p s w := by
  obtain ⟨gb, vo, kv, ov, wv, h⟩ := h
  refine ⟨gb, vo, kv, ov, wv, @DV.mk ⟨none⟩ _ _ _ _ _ _ _ _ _ h.hp h.hg h.hw h.hk h.hb h.ho h.ha h.pB h.gB h.ok ?_⟩
  intro k hk
  cases hk
/-- The row that is held apart is written, or grows in its place. -/
theorem DI.grow {B p G : Nat} {s : DS} {w w' : World} {cs : Array Value} (h : @DI ⟨some G⟩ B p s w) (hb : ∀ k, k < w.heap.size → k ≠ G → w'.heap[k]? = w.heap[k]?) (e : w'.heap[G]? = some (.cells cs 3 (0, 0))) : @DI ⟨some G⟩ B p s w' := by
  letI : Gd := ⟨some G⟩
  obtain ⟨gb, vo, kv, ov, wv, h⟩ := h
  obtain ⟨⟨cs0, e0⟩, hown⟩ := h.hG G rfl
  have ne : ∀ {k : Nat} {cs' : Array Value} {t' : TypeId}, w.heap[k]? = some (.cells cs' t' (0, 0)) → t' ≠ 3 → k ≠ G := by
    intro k cs' t' e1 ht e2
    subst e2
    rw [e0] at e1
    simp only [Option.some.injEq, Obj.cells.injEq] at e1
    exact ht e1.2.1.symm
  have st : ∀ (k : Nat) (cs' : Array Value) (t' : TypeId), w.heap[k]? = some (.cells cs' t' (0, 0)) → k ≠ G → w'.heap[k]? = some (.cells cs' t' (0, 0)) := fun k cs' t' e1 hk => by rw [hb k (Array.getElem?_eq_some_iff.1 e1).1 hk, e1]
  refine ⟨gb, vo, kv, ov, wv, @DV.mk ⟨some G⟩ _ _ _ _ _ _ _ _ _ (st p _ _ h.hp (ne h.hp (by decide))) (st gb _ _ h.hg (ne h.hg (by decide))) (own_stay h.hw fun k cs' _ e1 => st k cs' _ e1 (ne e1 (by decide))) (fun i hi => own_stay (h.hk i hi) fun k cs' _ e1 => st k cs' _ e1 (ne e1 (by decide))) (fun i hi => own_stay (h.hb i hi) fun k cs' _ e1 => st k cs' _ e1 (ne e1 (by decide))) (fun i hi => own_stay (h.ho i hi) fun k cs' hk e1 => st k cs' _ e1 (fun e2 => hown i hi (by rw [← e2]; exact hk))) h.ha h.pB h.gB h.ok ?_⟩
  intro k hk
  have hk2 : G = k := Option.some.inj hk
  subst hk2
  exact ⟨⟨cs, e⟩, hown⟩
end Go.Proofs.Ytbjononpgcemgaa
