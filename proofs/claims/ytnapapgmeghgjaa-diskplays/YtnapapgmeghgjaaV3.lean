/- While power goes: what the document's own disk keeps of its open writes, one by one. -/
import Derived.Test.YtnapapgmeghgjaaV2
set_option linter.unusedVariables false
namespace Go.Proofs.Ytnapapgmeghgjaa
open Go.RowKit

theorem pad_same {xs : List Nat} (h : xs.length = blk) : pad xs = xs := by
  unfold pad
  rw [h, Nat.sub_self]
  simp [zs]
theorem pad_pad {xs : List Nat} (h : xs.length ≤ blk) : pad (pad xs) = pad xs := pad_same (pad_len h)
/-- The first j bytes of the one, the rest of the other. -/
def mix (bs os : List Nat) (j : Nat) : List Nat := bs.take j ++ os.drop j
theorem mix_len {bs os : List Nat} {j N : Nat} (h1 : bs.length = N) (h2 : os.length = N) (hj : j ≤ N) : (mix bs os j).length = N := by
  rw [mix, List.length_append, List.length_take, List.length_drop]
  omega
theorem mix_next {bs os : List Nat} {j N : Nat} (h1 : bs.length = N) (h2 : os.length = N) (hj : j < N) : (cellsOf (mix bs os j)).set j (.int .u8 (bs.getD j 0 : Nat)) = cellsOf (mix bs os (j + 1)) := by
  unfold mix
  rw [cellsOf_append, cellsOf_append, List.set_append_right _ _ (by rw [cellsOf_length, List.length_take]; omega), cellsOf_length, List.length_take, Nat.min_eq_left (by omega), Nat.sub_self]
  have e1 : bs.take (j + 1) = bs.take j ++ [bs.getD j 0] := by
    rw [List.take_add_one]
    simp [List.getD, show j < bs.length by omega]
  have e2 : os.drop j = os.getD j 0 :: os.drop (j + 1) := by
    rw [List.drop_eq_getElem_cons (by omega)]
    simp [List.getD, show j < os.length by omega]
  rw [e1, e2, cellsOf_append, List.append_assoc]
  congr 1
/-- A torn write, whole: the same as the program's up to bytes 0 behind. -/
theorem mix_laid {old by_ ks : List Nat} {n : Nat} (h1 : by_.length ≤ blk) (h2 : old.length ≤ blk) (hk : pad ks = pad old) (hn : n ≤ blk) : pad (mix (pad by_) (pad ks) n) = pad (laidL old by_ n) := by
  rw [hk, pad_same (mix_len (pad_len h1) (pad_len h2) hn)]
  unfold laidL mix
  by_cases c0 : n = 0
  · rw [if_pos c0, c0]
    simp
  · rw [if_neg c0]
    by_cases c1 : n = blk
    · rw [if_pos c1, c1, List.take_of_length_le (by rw [pad_len h1]; exact Nat.le_refl _), List.drop_eq_nil_of_le (by rw [pad_len h2]; exact Nat.le_refl _), List.append_nil]
    · rw [if_neg c1]
      exact (pad_same (mix_len (pad_len h1) (pad_len h2) hn)).symm
theorem keep_laid {old by_ : List Nat} (h1 : by_.length ≤ blk) : pad (pad by_) = pad (laidL old by_ blk) := by
  unfold laidL
  rw [if_neg (by unfold blk; omega), if_pos rfl, pad_pad h1]

/-- Behind the first k open writes. -/
structure RW [Gc] (b : Nat → Prop) (B p gk L : Nat) (vo : Value) (wv : Nat → Value) (t : DS) (a : Int) (keep : Nat) (torn cut : Int) (w : World) (k : Nat) (kv : Nat → Value) (kb : Nat → List Nat) (wr : World) : Prop where
  hp : wr.heap[p]? = some (.cells (headR gk vo t) 44 (0, 0))
  hg : wr.heap[gk]? = some (.cells (krow kv t.n).toArray 29 (0, 0))
  hw : wr.ownsRow B 78 2 vo t.m (two (fun i => .int .i64 (t.at_ i : Nat)) wv t.m)
  hb : ∀ i, i < t.m → wr.ownsRow B 5 1 (wv i) blk (cellsOf (pad (t.by_ i)))
  hk : ∀ i, i < t.n → wr.ownsRow B 5 1 (kv i) (kb i).length (cellsOf (kb i))
  kp : ∀ i, i < t.n → pad (kb i) = pad (t.setK keep torn cut k i) ∧ (kb i = [] ∨ (kb i).length = blk)
  hl : wr.heap[L]? = some (.cells #[.int .i64 a, .int .u64 (keep : Int), .int .i64 torn, .int .i64 cut] 32 (0, 0))
  fd : Fd b B w wr
  k8 : ∀ j, Gc.c j → (∃ cs, wr.heap[j]? = some (.cells cs 5 (0, 0))) ∧ ∀ i, i < t.n → (kv i).ownBlock ≠ some j
section
variable [Gc] {b : Nat → Prop} {B p gk L : Nat} {vo : Value} {wv kv : Nat → Value} {kb : Nat → List Nat} {t : DS} {a : Int} {keep : Nat} {torn cut : Int} {w wr w2 : World} {k : Nat}
theorem RW.later (h : RW b B p gk L vo wv t a keep torn cut w k kv kb wr) (hb : Below wr.heap.size wr w2) (hB : B ≤ wr.heap.size) : RW b B p gk L vo wv t a keep torn cut w k kv kb w2 where
  hp := (hb.block p (Array.getElem?_eq_some_iff.1 h.hp).1).trans h.hp
  hg := (hb.block gk (Array.getElem?_eq_some_iff.1 h.hg).1).trans h.hg
  hw := own_later h.hw hb
  hb := fun i hi => own_later (h.hb i hi) hb
  hk := fun i hi => own_later (h.hk i hi) hb
  kp := h.kp
  hl := (hb.block L (Array.getElem?_eq_some_iff.1 h.hl).1).trans h.hl
  fd := h.fd.trans (Fd.of hb hB)
  k8 := fun j hj => ⟨by obtain ⟨cs, e⟩ := (h.k8 j hj).1; exact ⟨cs, (hb.block j (Array.getElem?_eq_some_iff.1 e).1).trans e⟩, (h.k8 j hj).2⟩
theorem RW.start {kv0 : Nat → Value} {kb0 : Nat → List Nat} (h : RV B p gk vo kv0 wv kb0 t w) (hB : B ≤ w.heap.size) (a : Int) (keep : Nat) (torn cut : Int) (b : Nat → Prop) :
    RW b B p gk w.heap.size vo wv t a keep torn cut w 0 kv0 kb0 (w.alloc (.cells #[.int .i64 a, .int .u64 (keep : Int), .int .i64 torn, .int .i64 cut] 32)) := by
  have hb := below_box w (.cells #[.int .i64 a, .int .u64 (keep : Int), .int .i64 torn, .int .i64 cut] 32)
  have h' := h.later hb
  exact ⟨h'.hp, h'.hg, h'.hw, h'.hb, h'.hk, h'.kp, heap_alloc_new w _, Fd.of hb hB, fun j hj => ⟨(h'.h8 j hj).1, (h'.h8 j hj).2.1⟩⟩
/-- An open write that leaves nothing. -/
theorem RW.skip (h : RW b B p gk L vo wv t a keep torn cut w k kv kb wr) (hn : keptN keep torn cut k = 0) : RW b B p gk L vo wv t a keep torn cut w (k + 1) kv kb wr := by
  refine ⟨h.hp, h.hg, h.hw, h.hb, h.hk, fun i hi => ?_, h.hl, h.fd, h.k8⟩
  rw [DS.setK, hn]
  by_cases e : i = t.at_ k
  · rw [if_pos e]
    unfold laidL
    rw [if_pos rfl]
    exact h.kp i hi
  · rw [if_neg e]
    exact h.kp i hi
/-- One that is laid down. -/
theorem RW.step (h : RW b B p gk L vo wv t a keep torn cut w k kv kb wr) (hat : t.at_ k < t.n) (gB : B ≤ gk) {v : Value} {ys : List Nat} (hv : wr.ownsRow B 5 1 v ys.length (cellsOf ys)) (hy : pad ys = pad (laidL (t.setK keep torn cut k (t.at_ k)) (t.by_ k) (keptN keep torn cut k))) (hl : ys.length = blk) (hv8 : ∀ j, Gc.c j → v.ownBlock ≠ some j) :
    RW b B p gk L vo wv t a keep torn cut w (k + 1) (upd kv (t.at_ k) v) (fun i => if i = t.at_ k then ys else kb i) (wr.setCell ⟨gk, t.at_ k, none⟩ v) := by
  have st := stay_set (o := t.at_ k) (u := v) h.hg
  have f : Fd b B wr (wr.setCell ⟨gk, t.at_ k, none⟩ v) := Fd.set h.hg gB (Or.inr (Or.inl rfl))
  refine ⟨st _ _ _ h.hp (by decide), ?_, own_stay h.hw fun j cs _ e => st j cs _ e (by decide), fun i hi => own_stay (h.hb i hi) fun j cs _ e => st j cs _ e (by decide), ?_, ?_, st _ _ _ h.hl (by decide), h.fd.trans f, fun j hj => ⟨by obtain ⟨cs, e⟩ := (h.k8 j hj).1; exact ⟨cs, st _ _ _ e (by decide)⟩, fun i hi => by
    by_cases e : i = t.at_ k
    · rw [e, upd_at]; exact hv8 j hj
    · rw [upd_ne _ _ e]; exact (h.k8 j hj).2 i hi⟩⟩
  · rw [heap_setCell_same wr gk _ _ _ v h.hg, List.setIfInBounds_toArray, krow_set _ hat]
  · intro i hi
    by_cases e : i = t.at_ k
    · rw [if_pos e, e, upd_at]
      exact own_stay hv fun j cs _ e => st j cs _ e (by decide)
    · rw [if_neg e, upd_ne _ _ e]
      exact own_stay (h.hk i hi) fun j cs _ e => st j cs _ e (by decide)
  · intro i hi
    rw [DS.setK]
    by_cases e : i = t.at_ k
    · rw [if_pos e, if_pos e, hy, e]
      exact ⟨rfl, Or.inr hl⟩
    · rw [if_neg e, if_neg e]
      exact h.kp i hi
/-- At the end: no open write any more. -/
theorem RW.done {kv0 : Nat → Value} {kb0 : Nat → List Nat} {gk0 : Nat} {vo0 : Value} {wv0 : Nat → Value} (d : RV B p gk0 vo0 kv0 wv0 kb0 t w) (h : RW b B p gk L vo wv t a keep torn cut w t.m kv kb wr) (gB : B ≤ gk) (hl : t.life < 100000) (hp2 : w2.heap[p]? = some (.cells (headR gk (.slice none 0 0) (t.lose keep torn cut)) 44 (0, 0))) (oth : ∀ i, i ≠ p → w2.heap[i]? = wr.heap[i]?) (f : Fd b B wr w2) :
    RV B p gk (.slice none 0 0) kv wv kb (t.lose keep torn cut) w2 ∧ Fd b B w w2 := by
  have hn : (t.lose keep torn cut).n = t.n := settle_n t keep torn cut
  have hm : (t.lose keep torn cut).m = 0 := rfl
  have ne : ∀ {i : Nat} {cs : Array Value} {t' : TypeId}, wr.heap[i]? = some (.cells cs t' (0, 0)) → t' ≠ 44 → i ≠ p := by
    intro i cs t' e ht e2
    subst e2
    rw [h.hp] at e
    simp only [Option.some.injEq, Obj.cells.injEq] at e
    exact ht e.2.1.symm
  have st : ∀ (j : Nat) (cs : Array Value) (t' : TypeId), wr.heap[j]? = some (Obj.cells cs t' (0, 0)) → t' ≠ 44 → w2.heap[j]? = some (Obj.cells cs t' (0, 0)) := fun j cs t' e ht => by rw [oth j (ne e ht), e]
  have k := settle_ok d.ok keep torn cut
  have l0 := d.ok.life0
  refine ⟨⟨hp2, ?_, World.ownsRow_nil _ _ _ _, fun i hi => ?_, fun i hi => ?_, fun i hi => by rw [hm] at hi; omega, fun i j k hi => by rw [hm] at hi; omega, fun i j k hi => by rw [hm] at hi; omega, d.pB, gB, ⟨k.n1, k.n2, k.kl, k.kb, k.at_, k.bl, k.bb, k.mm, by show (0 : Nat) < _; omega, by show (0 : Int) ≤ _; omega, by show 0 ≤ t.life + 1; omega, by show t.life + 1 ≤ _; omega⟩, fun _ => ⟨rfl, rfl, rfl, rfl⟩, fun j hj => ⟨by obtain ⟨cs, e⟩ := (h.k8 j hj).1; exact ⟨cs, st _ _ _ e (by decide)⟩, fun i hi => by rw [hn] at hi; exact (h.k8 j hj).2 i hi, fun i hi => by rw [hm] at hi; omega⟩⟩, h.fd.trans f⟩
  · rw [hn]; exact st _ _ _ h.hg (by decide)
  · rw [hn] at hi
    exact own_stay (h.hk i hi) fun j cs _ e => st j cs _ e (by decide)
  · rw [hn] at hi
    have e : (t.lose keep torn cut).K i = t.setK keep torn cut t.m i := settle_K t keep torn cut i hi
    rw [e]
    exact h.kp i hi
end
/-- Several stores into the head. -/
theorem chainR {b : Nat → Prop} {B p : Nat} (hB : B ≤ p) : ∀ (l : List (Nat × Value)) (w : World) (cs : Array Value), w.heap[p]? = some (.cells cs 44 (0, 0)) →
    (l.foldl (fun w x => w.setCell ⟨p, x.1, none⟩ x.2) w).heap[p]? = some (.cells (l.foldl (fun c x => c.setIfInBounds x.1 x.2) cs) 44 (0, 0)) ∧ Fd b B w (l.foldl (fun w x => w.setCell ⟨p, x.1, none⟩ x.2) w) ∧ ∀ i, i ≠ p → (l.foldl (fun w x => w.setCell ⟨p, x.1, none⟩ x.2) w).heap[i]? = w.heap[i]?
  | [], w, cs, h => ⟨h, ⟨Below.refl _ _, fun _ _ _ _ e _ _ _ _ => e⟩, fun _ _ => rfl⟩
  | (o, u) :: l, w, cs, h => by
    obtain ⟨h1, h2, h3⟩ := chainR hB l (w.setCell ⟨p, o, none⟩ u) _ (heap_setCell_same w p o cs _ u h)
    exact ⟨h1, (Fd.set h hB (Or.inl rfl)).trans h2, fun i hi => (h3 i hi).trans (heap_setCell_other _ _ _ _ hi)⟩
end Go.Proofs.Ytnapapgmeghgjaa
