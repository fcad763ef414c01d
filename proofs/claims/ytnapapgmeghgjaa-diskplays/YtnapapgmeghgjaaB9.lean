/- What a Write does to the disk's memory, in two steps. -/
import Derived.Test.YtnapapgmeghgjaaB8
set_option linter.unusedVariables false
namespace Go.Proofs.Ytnapapgmeghgjaa
open Go.RowKit

theorem own_block {w : World} {B e size n k : Nat} {v : Value} {xs : List Value} (h : w.ownsRow B e size v n xs) (hk : v.ownBlock = some k) : B ≤ k ∧ ∃ cur, w.heap[k]? = some (.cells cur e (0, 0)) := by
  rcases h.2 with ⟨e, _⟩ | ⟨g, cap, cur, e, hB, hc, _⟩
  · rw [e] at hk; cases hk
  · rw [e] at hk
    simp only [Value.ownBlock, Option.some.injEq] at hk
    subst hk
    exact ⟨hB, cur, hc⟩
theorem own_stay {w w' : World} {B e size n : Nat} {v : Value} {xs : List Value} (h : w.ownsRow B e size v n xs) (hs : ∀ (k : Nat) (cs : Array Value), v.ownBlock = some k → w.heap[k]? = some (Obj.cells cs e (0, 0)) → w'.heap[k]? = some (Obj.cells cs e (0, 0))) : w'.ownsRow B e size v n xs := by
  obtain ⟨h1, h2⟩ := h
  refine ⟨h1, ?_⟩
  rcases h2 with h2 | ⟨g, cap, cur, hv, hg, hc, h3⟩
  · exact Or.inl h2
  · exact Or.inr ⟨g, cap, cur, hv, hg, hs g cur (by rw [hv]; rfl) hc, h3⟩
theorem Fr.grown [Gd] {B : Nat} {w w' : World} {row : Option Nat} (hg : w.grownBy w' row) (hB : B ≤ w.heap.size) (hr : ∀ k, row = some k → B ≤ k ∧ ∃ cs t, w.heap[k]? = some (.cells cs t (0, 0)) ∧ (t = 69 ∨ t = 73 ∨ t = 76 ∨ (t = 3 ∧ ∀ j, Gd.g = some j → j ≠ k))) : Fr B w w' := by
  cases hrow : row with
  | none =>
    subst hrow
    exact Fr.of ⟨hg.os, hg.tape, hg.output, hg.size, fun k hk => hg.block k hk (by simp)⟩ hB
  | some g =>
    obtain ⟨h1, cs, t, h2, h3⟩ := hr g hrow
    subst hrow
    exact Fr.one h2 h1 h3 hg.os hg.tape hg.output hg.size (fun k hk hne => hg.block k hk (by simpa using hne))

/-- Between the two: the block's numbers have one more. -/
structure DM [Gd] (B p gb : Nat) (vo : Value) (kv ov wv : Nat → Value) (s : DS) (a : Nat) (w : World) : Prop where
  hp : w.heap[p]? = some (.cells (headV gb vo s.n s.after s.keep s.torn s.cut s.down s.life) 69 (0, 0))
  hg : w.heap[gb]? = some (.cells (two kv ov s.n).toArray 73 (0, 0))
  hw : w.ownsRow B 76 2 vo s.m (two (fun i => .int .i64 (s.at_ i : Nat)) wv s.m)
  hk : ∀ i, i < s.n → w.ownsRow B 5 1 (kv i) (s.K i).length (cellsOf (s.K i))
  hb : ∀ i, i < s.m → w.ownsRow B 5 1 (wv i) (s.by_ i).length (cellsOf (s.by_ i))
  ho : ∀ i, i < s.n → w.ownsRow B 3 1 (ov i) ((s.wrote a []).idx i).length (icells ((s.wrote a []).idx i))
  ha : ∀ i j k, i < s.n → j < s.n → i ≠ j → (ov i).ownBlock = some k → (ov j).ownBlock ≠ some k
  pB : B ≤ p
  gB : B ≤ gb
  ok : s.Ok
  hG : ∀ k, Gd.g = some k → (∃ cs, w.heap[k]? = some (.cells cs 3 (0, 0))) ∧ ∀ i, i < s.n → (ov i).ownBlock ≠ some k
  h8 : ∀ k, Gd.b k → (∃ cs, w.heap[k]? = some (.cells cs 5 (0, 0))) ∧ (∀ i, i < s.n → (kv i).ownBlock ≠ some k) ∧ ∀ i, i < s.m → (wv i).ownBlock ≠ some k
section
variable {B p gb : Nat} {vo : Value} {kv ov wv : Nat → Value} {s : DS} {a : Nat} {w w1 w2 : World}
theorem DM.later [Gd] (h : DM B p gb vo kv ov wv s a w) (hb : Below w.heap.size w w1) : DM B p gb vo kv ov wv s a w1 where
  hp := (hb.block p (Array.getElem?_eq_some_iff.1 h.hp).1).trans h.hp
  hg := (hb.block gb (Array.getElem?_eq_some_iff.1 h.hg).1).trans h.hg
  hw := own_later h.hw hb
  hk := fun i hi => own_later (h.hk i hi) hb
  hb := fun i hi => own_later (h.hb i hi) hb
  ho := fun i hi => own_later (h.ho i hi) hb
  ha := h.ha
  pB := h.pB
  gB := h.gB
  ok := h.ok
  hG := fun k hk => ⟨by obtain ⟨cs, e⟩ := (h.hG k hk).1; exact ⟨cs, (hb.block k (Array.getElem?_eq_some_iff.1 e).1).trans e⟩, (h.hG k hk).2⟩
  h8 := fun k hk => ⟨by obtain ⟨cs, e⟩ := (h.h8 k hk).1; exact ⟨cs, (hb.block k (Array.getElem?_eq_some_iff.1 e).1).trans e⟩, (h.h8 k hk).2⟩
theorem DV.stepA [Gd] (h : DV B p gb vo kv ov wv s w1) (ha : a < s.n) (hB : B ≤ w1.heap.size) {v : Value} (ho : w2.ownsRow B 3 1 v ((s.idx a).length + 1) (icells (s.idx a) ++ [.int .i64 (s.m : Nat)])) (hg : w1.grownBy w2 (ov a).ownBlock) (hat : v.ownBlock = (ov a).ownBlock ∨ v.ownBlock = some w1.heap.size) :
    DM B p gb vo kv (upd ov a v) wv s a (w2.setCell ⟨gb, a * 2 + 1, none⟩ v) ∧ Fr B w1 (w2.setCell ⟨gb, a * 2 + 1, none⟩ v) := by
  have st : ∀ (k : Nat) (cs : Array Value) (t : TypeId), w1.heap[k]? = some (Obj.cells cs t (0, 0)) → t ≠ 3 → w2.heap[k]? = some (Obj.cells cs t (0, 0)) := by
    intro k cs t e ht
    rw [hg.block k (Array.getElem?_eq_some_iff.1 e).1 ?_, e]
    intro e2
    obtain ⟨_, cur, hc⟩ := own_block (h.ho a ha) e2.symm
    rw [hc] at e
    simp only [Option.some.injEq, Obj.cells.injEq] at e
    exact ht e.2.1.symm
  have hgb := st gb _ _ h.hg (by decide)
  have f1 : Fr B w1 w2 := Fr.grown hg hB fun k e => by
    obtain ⟨h1, cur, hc⟩ := own_block (h.ho a ha) e
    exact ⟨h1, cur, _, hc, Or.inr (Or.inr (Or.inr ⟨rfl, fun j hj e5 => (h.hG j hj).2 a ha (by rw [e5]; exact e)⟩))⟩
  have f2 : Fr B w2 (w2.setCell ⟨gb, a * 2 + 1, none⟩ v) := Fr.set hgb h.gB (Or.inr (Or.inl rfl)) _ _
  have f := f1.trans f2
  have ne : ∀ {i : Nat} {cs : Array Value} {t : TypeId}, w2.heap[i]? = some (.cells cs t (0, 0)) → t ≠ 73 → i ≠ gb := by
    intro i cs t e ht e2
    subst e2
    rw [hgb] at e
    simp only [Option.some.injEq, Obj.cells.injEq] at e
    exact ht e.2.1.symm
  have st2 : ∀ (k : Nat) (cs : Array Value) (t : TypeId), w2.heap[k]? = some (Obj.cells cs t (0, 0)) → t ≠ 73 → (w2.setCell ⟨gb, a * 2 + 1, none⟩ v).heap[k]? = some (.cells cs t (0, 0)) := fun k cs t e ht => by
    rw [heap_setCell_other _ _ _ _ (ne e ht), e]
  have st3 : ∀ (k : Nat) (cs : Array Value) (t : TypeId), w1.heap[k]? = some (Obj.cells cs t (0, 0)) → t ≠ 3 → t ≠ 73 → (w2.setCell ⟨gb, a * 2 + 1, none⟩ v).heap[k]? = some (.cells cs t (0, 0)) := fun k cs t e h1 h2 => st2 k cs t (st k cs t e h1) h2
  refine ⟨⟨st3 p _ _ h.hp (by decide) (by decide), ?_, own_stay h.hw fun k cs _ e => st3 k cs _ e (by decide) (by decide), fun i hi => f.bytes (h.hk i hi), fun i hi => f.bytes (h.hb i hi), ?_, ?_, h.pB, h.gB, h.ok, fun k hk => ⟨by obtain ⟨cs, e⟩ := (h.hG k hk).1; exact ⟨cs, f.gd k cs hk e⟩, fun i hi => by
    by_cases e1 : i = a
    · rw [e1, upd_at]
      rcases hat with e | e
      · rw [e]; exact (h.hG k hk).2 a ha
      · rw [e]
        intro e5
        simp only [Option.some.injEq] at e5
        obtain ⟨cs, e6⟩ := (h.hG k hk).1
        have := (Array.getElem?_eq_some_iff.1 e6).1
        omega
    · rw [upd_ne _ _ e1]; exact (h.hG k hk).2 i hi⟩, fun k hk => ⟨by obtain ⟨cs, e⟩ := (h.h8 k hk).1; exact ⟨cs, f.stay k cs _ _ e (by decide) (by decide) (by decide) (by decide)⟩, (h.h8 k hk).2⟩⟩, f⟩
  · rw [heap_setCell_same w2 gb _ _ _ v hgb]
    congr 2
    apply Array.toList_inj.1
    rw [Array.toList_setIfInBounds, two_set1 _ _ _ _ _ ha]
  · intro i hi
    rw [wrote_idx]
    by_cases e : i = a
    · subst e
      rw [if_pos rfl, upd_at, List.length_append, List.length_singleton]
      have e2 : icells (s.idx i ++ [s.m]) = icells (s.idx i) ++ [.int .i64 (s.m : Nat)] := by simp [icells]
      rw [e2]
      exact own_stay ho fun k cs _ e3 => st2 k cs _ e3 (by decide)
    · rw [if_neg e, upd_ne _ _ e]
      refine own_stay (h.ho i hi) fun k cs hk e3 => st2 k cs _ ?_ (by decide)
      rw [hg.block k (Array.getElem?_eq_some_iff.1 e3).1 (fun e4 => h.ha i a k hi ha e hk e4.symm), e3]
  · intro i j k hi hj hij hk
    by_cases e1 : i = a
    · subst e1
      rw [upd_at] at hk
      rw [upd_ne _ _ (fun e => hij e.symm)]
      rcases hat with e | e
      · rw [e] at hk; exact h.ha i j k hi hj hij hk
      · rw [e] at hk
        simp only [Option.some.injEq] at hk
        subst hk
        intro e5
        obtain ⟨_, cur, hc⟩ := own_block (h.ho j hj) e5
        have := (Array.getElem?_eq_some_iff.1 hc).1
        omega
    · rw [upd_ne _ _ e1] at hk
      by_cases e2 : j = a
      · subst e2
        rw [upd_at]
        rcases hat with e | e
        · rw [e]; exact h.ha i j k hi hj hij hk
        · rw [e]
          intro e5
          simp only [Option.some.injEq] at e5
          subst e5
          obtain ⟨_, cur, hc⟩ := own_block (h.ho i hi) hk
          have := (Array.getElem?_eq_some_iff.1 hc).1
          omega
      · rw [upd_ne _ _ e2]; exact h.ha i j k hi hj hij hk
theorem DM.stepB [Gd] (h : DM B p gb vo kv ov wv s a w1) (ha : a < s.n) (hB : B ≤ w1.heap.size) {xs : List Nat} (hx : xs.length ≤ blk) (hxb : ∀ c ∈ xs, c < 256) (hm : s.m < 100000) {vb vo' : Value} (hob : w1.ownsRow B 5 1 vb xs.length (cellsOf xs)) (hob8 : ∀ j, Gd.b j → vb.ownBlock ≠ some j)
    (ho : w2.ownsRow B 76 2 vo' (s.m + 1) (two (fun i => .int .i64 (s.at_ i : Nat)) wv s.m ++ [.int .i64 (a : Nat), vb])) (hg : w1.grownBy w2 vo.ownBlock) :
    DI B p (s.wrote a xs) (w2.setCell ⟨p, 1, none⟩ vo') ∧ Fr B w1 (w2.setCell ⟨p, 1, none⟩ vo') := by
  have st : ∀ (k : Nat) (cs : Array Value) (t : TypeId), w1.heap[k]? = some (Obj.cells cs t (0, 0)) → t ≠ 76 → w2.heap[k]? = some (Obj.cells cs t (0, 0)) := by
    intro k cs t e ht
    rw [hg.block k (Array.getElem?_eq_some_iff.1 e).1 ?_, e]
    intro e2
    obtain ⟨_, cur, hc⟩ := own_block h.hw e2.symm
    rw [hc] at e
    simp only [Option.some.injEq, Obj.cells.injEq] at e
    exact ht e.2.1.symm
  have hpb := st p _ _ h.hp (by decide)
  have f1 : Fr B w1 w2 := Fr.grown hg hB fun k e => by
    obtain ⟨h1, cur, hc⟩ := own_block h.hw e
    exact ⟨h1, cur, _, hc, Or.inr (Or.inr (Or.inl rfl))⟩
  have f2 : Fr B w2 (w2.setCell ⟨p, 1, none⟩ vo') := Fr.set hpb h.pB (Or.inl rfl) _ _
  have f := f1.trans f2
  have ne : ∀ {i : Nat} {cs : Array Value} {t : TypeId}, w2.heap[i]? = some (.cells cs t (0, 0)) → t ≠ 69 → i ≠ p := by
    intro i cs t e ht e2
    subst e2
    rw [hpb] at e
    simp only [Option.some.injEq, Obj.cells.injEq] at e
    exact ht e.2.1.symm
  have st2 : ∀ (k : Nat) (cs : Array Value) (t : TypeId), w2.heap[k]? = some (Obj.cells cs t (0, 0)) → t ≠ 69 → (w2.setCell ⟨p, 1, none⟩ vo').heap[k]? = some (.cells cs t (0, 0)) := fun k cs t e ht => by
    rw [heap_setCell_other _ _ _ _ (ne e ht), e]
  have st3 : ∀ (k : Nat) (cs : Array Value) (t : TypeId), w1.heap[k]? = some (Obj.cells cs t (0, 0)) → t ≠ 76 → t ≠ 69 → (w2.setCell ⟨p, 1, none⟩ vo').heap[k]? = some (.cells cs t (0, 0)) := fun k cs t e h1 h2 => st2 k cs t (st k cs t e h1) h2
  refine ⟨⟨gb, vo', kv, ov, upd wv s.m vb, ⟨?_, st3 gb _ _ h.hg (by decide) (by decide), ?_, fun i hi => f.bytes (h.hk i hi), ?_, ?_, h.ha, h.pB, h.gB, wrote_ok s a xs h.ok ha hx hxb hm, fun k hk => ⟨by obtain ⟨cs, e⟩ := (h.hG k hk).1; exact ⟨cs, f.gd k cs hk e⟩, (h.hG k hk).2⟩, fun k hk => ⟨by obtain ⟨cs, e⟩ := (h.h8 k hk).1; exact ⟨cs, f.stay k cs _ _ e (by decide) (by decide) (by decide) (by decide)⟩, (h.h8 k hk).2.1, fun i hi => by
    rw [wrote_m] at hi
    rcases Nat.lt_or_ge i s.m with h1 | h1
    · rw [upd_ne _ _ (Nat.ne_of_lt h1)]; exact (h.h8 k hk).2.2 i h1
    · obtain rfl : i = s.m := by omega
      rw [upd_at]; exact hob8 k hk⟩⟩⟩, f⟩
  · rw [heap_setCell_same w2 p _ _ _ vo' hpb]
    rfl
  · rw [wrote_m, two_succ, upd_at, wrote_at_m]
    have e : two (fun i => Value.int .i64 ((s.wrote a xs).at_ i : Nat)) (upd wv s.m vb) s.m = two (fun i => .int .i64 (s.at_ i : Nat)) wv s.m := by
      apply two_congr
      intro i hi
      rw [wrote_at s a xs hi, upd_ne _ _ (Nat.ne_of_lt hi)]
      exact ⟨rfl, rfl⟩
    rw [e]
    exact own_stay ho fun k cs _ e3 => st2 k cs _ e3 (by decide)
  · intro i hi
    rw [wrote_m] at hi
    rcases Nat.lt_or_ge i s.m with h1 | h1
    · rw [wrote_by s a xs h1, upd_ne _ _ (Nat.ne_of_lt h1)]
      exact f.bytes (h.hb i h1)
    · obtain rfl : i = s.m := by omega
      rw [wrote_by_m, upd_at]
      exact f.bytes hob
  · intro i hi
    have e : (s.wrote a xs).idx i = (s.wrote a []).idx i := by rw [wrote_idx, wrote_idx]
    rw [e]
    exact own_stay (h.ho i hi) fun k cs _ e3 => st3 k cs _ e3 (by decide) (by decide)
end
end Go.Proofs.Ytnapapgmeghgjaa
