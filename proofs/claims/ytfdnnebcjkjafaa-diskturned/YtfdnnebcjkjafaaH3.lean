/- The memory of DiskKeeps: the disk, four kept texts, four rows of texts that grow. -/
import Derived.Test.YtfdnnebcjkjafaaH2
set_option linter.unusedVariables false
namespace Go.Proofs.Ytfdnnebcjkjafaa
open Go.RowKit

theorem DI.of_stay {B p : Nat} {s : DS} {w w' : World} (h : DI B p s w) (st : ∀ (k : Nat) (cs : Array Value) (t : TypeId), w.heap[k]? = some (Obj.cells cs t (0, 0)) → (t = 69 ∨ t = 73 ∨ t = 76 ∨ t = 3 ∨ t = 5) → w'.heap[k]? = some (Obj.cells cs t (0, 0))) : DI B p s w' := by
  obtain ⟨gb, vo, kv, ov, wv, h⟩ := h
  exact ⟨gb, vo, kv, ov, wv, ⟨st p _ _ h.hp (by simp), st gb _ _ h.hg (by simp), own_stay h.hw fun k cs' _ e => st k cs' _ e (by simp), fun i hi => own_stay (h.hk i hi) fun k cs' _ e => st k cs' _ e (by simp), fun i hi => own_stay (h.hb i hi) fun k cs' _ e => st k cs' _ e (by simp), fun i hi => own_stay (h.ho i hi) fun k cs' _ e => st k cs' _ e (by simp), h.ha, h.pB, h.gB, h.ok⟩⟩
def scells (l : List ByteArray) : List Value := l.map Value.string
def os4 (os : Nat → Value) : Array Value := #[os 0, os 1, os 2, os 3]
theorem os4_get (os : Nat → Value) {j : Nat} (h : j < 4) : (os4 os)[j]? = some (os j) := by
  have : j = 0 ∨ j = 1 ∨ j = 2 ∨ j = 3 := by omega
  rcases this with rfl | rfl | rfl | rfl <;> rfl
theorem os4_set (os : Nat → Value) {j : Nat} (h : j < 4) (v : Value) : (os4 os).setIfInBounds j v = os4 (upd os j v) := by
  have : j = 0 ∨ j = 1 ∨ j = 2 ∨ j = 3 := by omega
  rcases this with rfl | rfl | rfl | rfl <;> simp [os4, upd]

structure KW (B p gk go L : Nat) (ks : Nat → ByteArray) (os : Nat → Value) (op : Nat → List ByteArray) (s : DS) (lc : Array Value) (w wr : World) : Prop where
  di : DI B p s wr
  fr : Fr B w wr
  hk : wr.heap[gk]? = some (.cells (kst ks) 53 (0, 0))
  hg : wr.heap[go]? = some (.cells (os4 os) 55 (0, 0))
  hl : wr.heap[L]? = some (.cells lc 32 (0, 0))
  hr : ∀ j, j < 4 → wr.ownsRow B 9 1 (os j) (op j).length (scells (op j))
  ha : ∀ i j k, i < 4 → j < 4 → i ≠ j → (os i).ownBlock = some k → (os j).ownBlock ≠ some k
  kB : w.heap.size ≤ gk
  gB : w.heap.size ≤ go
  wB : B = w.heap.size
section
variable {B p gk go L : Nat} {ks : Nat → ByteArray} {os : Nat → Value} {op : Nat → List ByteArray} {s s' : DS} {lc : Array Value} {w wr w2 : World}
theorem KW.size (h : KW B p gk go L ks os op s lc w wr) : B ≤ wr.heap.size := by rw [h.wB]; exact h.fr.bel.size
/-- A call of the disk. -/
theorem KW.call (h : KW B p gk go L ks os op s lc w wr) (hd : DI B p s' w2) (f : Fr B wr w2) : KW B p gk go L ks os op s' lc w w2 :=
  ⟨hd, h.fr.trans f, f.stay _ _ _ _ h.hk (by decide) (by decide) (by decide) (by decide), f.stay _ _ _ _ h.hg (by decide) (by decide) (by decide) (by decide), f.stay _ _ _ _ h.hl (by decide) (by decide) (by decide) (by decide), fun j hj => f.row (h.hr j hj) (by decide) (by decide) (by decide) (by decide), h.ha, h.kB, h.gB, h.wB⟩
theorem KW.later (h : KW B p gk go L ks os op s lc w wr) (hb : Below wr.heap.size wr w2) : KW B p gk go L ks os op s lc w w2 := h.call (h.di.later hb) (Fr.of hb h.size)
/-- A store into one of the two blocks. -/
theorem stay_set {g o : Nat} {cs0 : Array Value} {t0 : TypeId} {u : Value} (hg : wr.heap[g]? = some (Obj.cells cs0 t0 (0, 0))) : ∀ (k : Nat) (cs : Array Value) (t : TypeId), wr.heap[k]? = some (Obj.cells cs t (0, 0)) → t ≠ t0 → (wr.setCell ⟨g, o, none⟩ u).heap[k]? = some (Obj.cells cs t (0, 0)) := by
  intro k cs t e ht
  rw [heap_setCell_other _ _ _ _ ?_, e]
  show k ≠ g
  intro e2
  subst e2
  rw [hg] at e
  simp only [Option.some.injEq, Obj.cells.injEq] at e
  exact ht e.2.1.symm
theorem KW.setK (h : KW B p gk go L ks os op s lc w wr) {j : Nat} (hj : j < 4) (t : ByteArray) : KW B p gk go L (updS ks j t) os op s lc w (wr.setCell ⟨gk, j, none⟩ (.string t)) := by
  have st := stay_set (o := j) (u := .string t) h.hk
  refine ⟨h.di.of_stay fun k cs t e ht => st k cs t e (by rcases ht with rfl | rfl | rfl | rfl | rfl <;> decide), h.fr.set_new (by rw [h.wB]; exact h.kB) h.kB, ?_, st _ _ _ h.hg (by decide), st _ _ _ h.hl (by decide), fun i hi => own_stay (h.hr i hi) fun k cs _ e => st k cs _ e (by decide), h.ha, h.kB, h.gB, h.wB⟩
  rw [heap_setCell_same wr gk j _ _ (.string t) h.hk, kst_set ks hj t]
theorem KW.setNil (h : KW B p gk go L ks os op s lc w wr) {j : Nat} (hj : j < 4) : KW B p gk go L ks (upd os j (.slice none 0 0)) (updL op j []) s lc w (wr.setCell ⟨go, j, none⟩ (.slice none 0 0)) := by
  have st := stay_set (o := j) (u := .slice none 0 0) h.hg
  refine ⟨h.di.of_stay fun k cs t e ht => st k cs t e (by rcases ht with rfl | rfl | rfl | rfl | rfl <;> decide), h.fr.set_new (by rw [h.wB]; exact h.gB) h.gB, st _ _ _ h.hk (by decide), ?_, st _ _ _ h.hl (by decide), ?_, ?_, h.kB, h.gB, h.wB⟩
  · rw [heap_setCell_same wr go j _ _ (.slice none 0 0) h.hg, os4_set os hj]
  · intro i hi
    unfold updL
    by_cases e : i = j
    · subst e
      rw [upd_at, if_pos rfl]
      exact World.ownsRow_nil _ _ _ _
    · rw [upd_ne _ _ e, if_neg e]
      exact own_stay (h.hr i hi) fun k cs _ e => st k cs _ e (by decide)
  · intro i i2 k hi hi2 hne hk
    by_cases e : i = j
    · subst e
      rw [upd_at] at hk
      cases hk
    · rw [upd_ne _ _ e] at hk
      by_cases e2 : i2 = j
      · subst e2
        rw [upd_at]
        intro e3
        cases e3
      · rw [upd_ne _ _ e2]
        exact h.ha i i2 k hi hi2 hne hk
/-- One text more in a row. -/
theorem KW.push (h : KW B p gk go L ks os op s lc w wr) {a : Nat} (ha : a < 4) {t : ByteArray} {v : Value} (ho : w2.ownsRow B 9 1 v ((op a).length + 1) (scells (op a) ++ [.string t])) (hg : wr.grownBy w2 (os a).ownBlock) (hat : v.ownBlock = (os a).ownBlock ∨ v.ownBlock = some wr.heap.size) :
    KW B p gk go L ks (upd os a v) (updL op a (op a ++ [t])) s lc w (w2.setCell ⟨go, a, none⟩ v) ∧ w2.heap[go]? = some (.cells (os4 os) 55 (0, 0)) := by
  have st1 : ∀ (k : Nat) (cs : Array Value) (t : TypeId), wr.heap[k]? = some (Obj.cells cs t (0, 0)) → t ≠ 9 → w2.heap[k]? = some (Obj.cells cs t (0, 0)) := by
    intro k cs t e ht
    rw [hg.block k (Array.getElem?_eq_some_iff.1 e).1 ?_, e]
    intro e2
    obtain ⟨_, cur, hc⟩ := own_block (h.hr a ha) e2.symm
    rw [hc] at e
    simp only [Option.some.injEq, Obj.cells.injEq] at e
    exact ht e.2.1.symm
  have hgo := st1 go _ _ h.hg (by decide)
  have st2 := stay_set (o := a) (u := v) hgo
  have st : ∀ (k : Nat) (cs : Array Value) (t : TypeId), wr.heap[k]? = some (Obj.cells cs t (0, 0)) → t ≠ 9 → t ≠ 55 → (w2.setCell ⟨go, a, none⟩ v).heap[k]? = some (Obj.cells cs t (0, 0)) := fun k cs t e h1 h2 => st2 k cs t (st1 k cs t e h1) h2
  have hf : Fr B w w2 := by
    refine ⟨h.fr.bel.grown hg h.size fun k hk => (own_block (h.hr a ha) hk).1, fun k cs t fz e n1 n2 n3 n4 => ?_⟩
    have hk := (Array.getElem?_eq_some_iff.1 e).1
    have e2 := h.fr.stay k cs t fz e n1 n2 n3 n4
    rw [hg.block k (Array.getElem?_eq_some_iff.1 e2).1 ?_, e2]
    intro e3
    have := (own_block (h.hr a ha) e3.symm).1
    have := h.wB
    omega
  refine ⟨⟨h.di.of_stay fun k cs t e ht => st k cs t e (by rcases ht with rfl | rfl | rfl | rfl | rfl <;> decide) (by rcases ht with rfl | rfl | rfl | rfl | rfl <;> decide), hf.set_new (by rw [h.wB]; exact h.gB) h.gB, st _ _ _ h.hk (by decide) (by decide), ?_, st _ _ _ h.hl (by decide) (by decide), ?_, ?_, h.kB, h.gB, h.wB⟩, hgo⟩
  · rw [heap_setCell_same w2 go a _ _ v hgo, os4_set os ha]
  · intro i hi
    unfold updL
    by_cases e : i = a
    · subst e
      rw [upd_at, if_pos rfl, List.length_append, List.length_singleton]
      have e2 : scells (op i ++ [t]) = scells (op i) ++ [.string t] := by simp [scells]
      rw [e2]
      exact own_stay ho fun k cs _ e3 => st2 k cs _ e3 (by decide)
    · rw [upd_ne _ _ e, if_neg e]
      refine own_stay (h.hr i hi) fun k cs hk e3 => st2 k cs _ ?_ (by decide)
      rw [hg.block k (Array.getElem?_eq_some_iff.1 e3).1 (fun e4 => h.ha i a k hi ha e hk e4.symm), e3]
  · intro i j k hi hj hij hk
    by_cases e1 : i = a
    · subst e1
      rw [upd_at] at hk
      rw [upd_ne _ _ (fun e => hij e.symm)]
      rcases hat with e | e
      · rw [e] at hk; exact h.ha i j k hi hj hij hk
      · rw [e] at hk
        simp only [Option.some.injEq] at hk
        subst hk
        intro e5
        obtain ⟨_, cur, hc⟩ := own_block (h.hr j hj) e5
        have := (Array.getElem?_eq_some_iff.1 hc).1
        omega
    · rw [upd_ne _ _ e1] at hk
      by_cases e2 : j = a
      · subst e2
        rw [upd_at]
        rcases hat with e | e
        · rw [e]; exact h.ha i j k hi hj hij hk
        · rw [e]
          intro e5
          simp only [Option.some.injEq] at e5
          subst e5
          obtain ⟨_, cur, hc⟩ := own_block (h.hr i hi) hk
          have := (Array.getElem?_eq_some_iff.1 hc).1
          omega
      · rw [upd_ne _ _ e2]; exact h.ha i j k hi hj hij hk
end
end Go.Proofs.Ytfdnnebcjkjafaa
