/- A disk of the document's own as it lies in memory, beside a disk of the program's. -/
import Derived.Test.YtnapapgmeghgjaaV1
set_option linter.unusedVariables false
namespace Go.Proofs.Ytnapapgmeghgjaa
open Go.RowKit

def headR (gk : Nat) (vo : Value) (t : DS) : Array Value := #[.slice (some ⟨gk, 0, none⟩) t.n t.n, vo, .bool t.down, .int .i64 t.after, .int .u64 (t.keep : Int), .int .i64 t.torn, .int .i64 t.cut, .int .i64 t.life]
def krow (kv : Nat → Value) (n : Nat) : List Value := (List.range n).map kv
theorem krow_len (kv : Nat → Value) (n : Nat) : (krow kv n).length = n := by simp [krow]
theorem krow_get (kv : Nat → Value) {n i : Nat} (h : i < n) : (krow kv n)[i]? = some (kv i) := by simp [krow, h]
theorem krow_set (kv : Nat → Value) {n i : Nat} (h : i < n) (v : Value) : (krow kv n).set i v = krow (upd kv i v) n := by
  apply List.ext_getElem?
  intro j
  by_cases hj : j < n
  · rw [krow_get _ hj]
    by_cases e : i = j
    · subst e
      rw [List.getElem?_set_self (by rw [krow_len]; exact hj), upd_at]
    · rw [List.getElem?_set_ne e, krow_get _ hj, upd_ne _ _ (fun e2 => e e2.symm)]
  · rw [List.getElem?_eq_none (by rw [List.length_set, krow_len]; omega), List.getElem?_eq_none (by rw [krow_len]; omega)]
/-- Blocks of bytes of somebody else's, in which the document's own disk has nothing. -/
class Gc where
  c : Nat → Prop
/-- A disk of the document's own in the state t lies at block p: what is kept (up to bytes 0 behind it) at gk. -/
structure RV [Gc] (B p gk : Nat) (vo : Value) (kv wv : Nat → Value) (kb : Nat → List Nat) (t : DS) (w : World) : Prop where
  hp : w.heap[p]? = some (.cells (headR gk vo t) 44 (0, 0))
  hg : w.heap[gk]? = some (.cells (krow kv t.n).toArray 29 (0, 0))
  hw : w.ownsRow B 78 2 vo t.m (two (fun i => .int .i64 (t.at_ i : Nat)) wv t.m)
  hk : ∀ i, i < t.n → w.ownsRow B 5 1 (kv i) (kb i).length (cellsOf (kb i))
  kp : ∀ i, i < t.n → pad (kb i) = pad (t.K i) ∧ (kb i = [] ∨ (kb i).length = blk)
  hb : ∀ i, i < t.m → w.ownsRow B 5 1 (wv i) blk (cellsOf (pad (t.by_ i)))
  ha : ∀ i j k, i < t.m → j < t.m → i ≠ j → (wv i).ownBlock = some k → (wv j).ownBlock ≠ some k
  hc : ∀ i j k, i < t.m → j < t.n → (wv i).ownBlock = some k → (kv j).ownBlock ≠ some k
  pB : B ≤ p
  gB : B ≤ gk
  ok : t.Ok
  dz : t.down = true → t.after = 0 ∧ t.keep = 0 ∧ t.torn = 0 ∧ t.cut = 0
  h8 : ∀ k, Gc.c k → (∃ cs, w.heap[k]? = some (.cells cs 5 (0, 0))) ∧ (∀ i, i < t.n → (kv i).ownBlock ≠ some k) ∧ ∀ i, i < t.m → (wv i).ownBlock ≠ some k
/-- The blocks of the open writes' bytes. -/
def ob (wv : Nat → Value) (m : Nat) : Nat → Prop := fun k => ∃ i, i < m ∧ (wv i).ownBlock = some k
/-- From w to w' nothing below B was written, and no row but of the document's own types and of the blocks b. -/
structure Fd (b : Nat → Prop) (B : Nat) (w w' : World) : Prop where
  bel : Below B w w'
  stay : ∀ (k : Nat) (cs : Array Value) (t : TypeId) (fz : Nat × Nat), w.heap[k]? = some (Obj.cells cs t fz) → t ≠ 44 → t ≠ 29 → t ≠ 78 → ¬ b k → w'.heap[k]? = some (Obj.cells cs t fz)
theorem Fd.of {b : Nat → Prop} {B : Nat} {w w' : World} (h : Below w.heap.size w w') (hB : B ≤ w.heap.size) : Fd b B w w' := ⟨h.mono hB, fun i cs t fz e _ _ _ _ => (h.block i (Array.getElem?_eq_some_iff.1 e).1).trans e⟩
theorem Fd.trans {b : Nat → Prop} {B : Nat} {w1 w2 w3 : World} (h : Fd b B w1 w2) (k : Fd b B w2 w3) : Fd b B w1 w3 := ⟨h.bel.trans k.bel, fun i cs t fz e n1 n2 n3 n4 => k.stay i cs t fz (h.stay i cs t fz e n1 n2 n3 n4) n1 n2 n3 n4⟩
theorem Fd.set {b : Nat → Prop} {B g o : Nat} {w : World} {cs : Array Value} {t : TypeId} {u : Value} (hg : w.heap[g]? = some (.cells cs t (0, 0))) (hB : B ≤ g) (ht : t = 44 ∨ t = 29 ∨ t = 78 ∨ b g) : Fd b B w (w.setCell ⟨g, o, none⟩ u) := by
  refine ⟨(Below.refl _ _).setCell hB u, fun k cs' t' fz e n1 n2 n3 n4 => ?_⟩
  rw [heap_setCell_other _ _ _ _ ?_, e]
  show k ≠ g
  intro e2
  subst e2
  rw [hg] at e
  simp only [Option.some.injEq, Obj.cells.injEq] at e
  rcases ht with h | h | h | h
  · exact n1 (e.2.1.symm.trans h)
  · exact n2 (e.2.1.symm.trans h)
  · exact n3 (e.2.1.symm.trans h)
  · exact n4 h
section
variable {B p gk : Nat} {vo : Value} {kv wv : Nat → Value} {kb : Nat → List Nat} {t : DS} {w w' : World}
theorem RV.later [Gc] (h : RV B p gk vo kv wv kb t w) (hb : Below w.heap.size w w') : RV B p gk vo kv wv kb t w' where
  hp := (hb.block p (Array.getElem?_eq_some_iff.1 h.hp).1).trans h.hp
  hg := (hb.block gk (Array.getElem?_eq_some_iff.1 h.hg).1).trans h.hg
  hw := own_later h.hw hb
  hk := fun i hi => own_later (h.hk i hi) hb
  kp := h.kp
  hb := fun i hi => own_later (h.hb i hi) hb
  ha := h.ha
  hc := h.hc
  pB := h.pB
  gB := h.gB
  ok := h.ok
  dz := h.dz
  h8 := fun k hk => ⟨by obtain ⟨cs, e⟩ := (h.h8 k hk).1; exact ⟨cs, (hb.block k (Array.getElem?_eq_some_iff.1 e).1).trans e⟩, (h.h8 k hk).2⟩
/-- A call of the program's disk. -/
theorem RV.fr [Gd] [Gc] (h : RV B p gk vo kv wv kb t w) (f : Fr B w w') : RV B p gk vo kv wv kb t w' where
  hp := f.stay _ _ _ _ h.hp (by decide) (by decide) (by decide) (by decide)
  hg := f.stay _ _ _ _ h.hg (by decide) (by decide) (by decide) (by decide)
  hw := f.row h.hw (by decide) (by decide) (by decide) (by decide)
  hk := fun i hi => f.bytes (h.hk i hi)
  kp := h.kp
  hb := fun i hi => f.row (h.hb i hi) (by decide) (by decide) (by decide) (by decide)
  ha := h.ha
  hc := h.hc
  pB := h.pB
  gB := h.gB
  ok := h.ok
  dz := h.dz
  h8 := fun k hk => ⟨by obtain ⟨cs, e⟩ := (h.h8 k hk).1; exact ⟨cs, f.stay _ _ _ _ e (by decide) (by decide) (by decide) (by decide)⟩, (h.h8 k hk).2⟩
end
/-- A call of the document's own disk, to the program's: its open writes' blocks may be others then. -/
theorem DI.ref {b b' : Nat → Prop} {B p : Nat} {s : DS} {w w' : World} (h : @DI ⟨none, b⟩ B p s w) (f : Fd b B w w') (hb : ∀ k, b' k → (b k ∨ w.heap.size ≤ k) ∧ ∃ cs, w'.heap[k]? = some (.cells cs 5 (0, 0))) : @DI ⟨none, b'⟩ B p s w' := by
  letI : Gd := ⟨none, b⟩
  obtain ⟨gb, vo, kv, ov, wv, h⟩ := h
  have nb : ∀ {k : Nat} {cs' : Array Value} {t' : TypeId}, w.heap[k]? = some (.cells cs' t' (0, 0)) → t' ≠ 5 → ¬ b k := by
    intro k cs' t' e1 ht hk
    obtain ⟨⟨cs0, e0⟩, _⟩ := h.h8 k hk
    rw [e0] at e1
    simp only [Option.some.injEq, Obj.cells.injEq] at e1
    exact ht e1.2.1.symm
  have ol : ∀ {v : Value} {n : Nat} {l : List Value} {k : Nat}, w.ownsRow B 5 1 v n l → v.ownBlock = some k → k < w.heap.size := fun hv hk => by
    obtain ⟨_, cur, hc⟩ := own_block hv hk
    exact (Array.getElem?_eq_some_iff.1 hc).1
  refine ⟨gb, vo, kv, ov, wv, @DV.mk ⟨none, b'⟩ _ _ _ _ _ _ _ _ _ (f.stay _ _ _ _ h.hp (by decide) (by decide) (by decide) (nb h.hp (by decide))) (f.stay _ _ _ _ h.hg (by decide) (by decide) (by decide) (nb h.hg (by decide))) (own_stay h.hw fun k cs' _ e1 => f.stay _ _ _ _ e1 (by decide) (by decide) (by decide) (nb e1 (by decide))) (fun i hi => own_stay (h.hk i hi) fun k cs' hk e1 => f.stay _ _ _ _ e1 (by decide) (by decide) (by decide) (fun e2 => (h.h8 k e2).2.1 i hi hk)) (fun i hi => own_stay (h.hb i hi) fun k cs' hk e1 => f.stay _ _ _ _ e1 (by decide) (by decide) (by decide) (fun e2 => (h.h8 k e2).2.2 i hi hk)) (fun i hi => own_stay (h.ho i hi) fun k cs' hk e1 => f.stay _ _ _ _ e1 (by decide) (by decide) (by decide) (nb e1 (by decide))) h.ha h.pB h.gB h.ok (fun k hk => by cases hk) ?_⟩
  intro k hk
  obtain ⟨h1, h2⟩ := hb k hk
  refine ⟨h2, fun i hi e => ?_, fun i hi e => ?_⟩
  · rcases h1 with h1 | h1
    · exact (h.h8 k h1).2.1 i hi e
    · have := ol (h.hk i hi) e; omega
  · rcases h1 with h1 | h1
    · exact (h.h8 k h1).2.2 i hi e
    · have := ol (h.hb i hi) e; omega
end Go.Proofs.Ytnapapgmeghgjaa
