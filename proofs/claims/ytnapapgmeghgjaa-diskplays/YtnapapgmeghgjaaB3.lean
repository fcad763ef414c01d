/- What settle keeps of the open writes; what its loop keeps. -/
import Derived.Test.YtnapapgmeghgjaaB2
set_option linter.unusedVariables false
namespace Go.Proofs.Ytnapapgmeghgjaa
open Go.RowKit

/-- A block's bytes behind the first k open writes. -/
def DS.setK (s : DS) (keep : Nat) (torn cut : Int) : Nat → Nat → List Nat
  | 0, i => s.K i
  | k + 1, i => if i = s.at_ k then laidL (s.setK keep torn cut k i) (s.by_ k) (keptN keep torn cut k) else s.setK keep torn cut k i
theorem keptN_le (keep : Nat) (torn cut : Int) (i : Nat) : keptN keep torn cut i ≤ blk := by
  unfold keptN blk
  split
  · omega
  · split <;> omega
theorem setK_len {s : DS} (h : s.Ok) (keep : Nat) (torn cut : Int) (i : Nat) : ∀ k, (s.setK keep torn cut k i).length ≤ blk
  | 0 => h.kl i
  | k + 1 => by
    rw [DS.setK]
    split
    · exact laidL_len (setK_len h keep torn cut i k) (h.bl k) (keptN_le _ _ _ _)
    · exact setK_len h keep torn cut i k
theorem setK_lt {s : DS} (h : s.Ok) (keep : Nat) (torn cut : Int) (i : Nat) : ∀ k, ∀ c ∈ s.setK keep torn cut k i, c < 256
  | 0 => h.kb i
  | k + 1 => by
    rw [DS.setK]
    split
    · exact laidL_lt (setK_lt h keep torn cut i k) (h.bb k)
    · exact setK_lt h keep torn cut i k
def DS.settle (s : DS) (keep : Nat) (torn cut : Int) : DS := { s with kept := (List.range s.n).map (s.setK keep torn cut s.m), opens := [] }
theorem settle_n (s : DS) (keep : Nat) (torn cut : Int) : (s.settle keep torn cut).n = s.n := by simp [DS.settle, DS.n]
theorem settle_K (s : DS) (keep : Nat) (torn cut : Int) (i : Nat) (h : i < s.n) : (s.settle keep torn cut).K i = s.setK keep torn cut s.m i := by
  simp [DS.settle, DS.K, List.getD_eq_getElem?_getD, h]
theorem settle_K0 (s : DS) (keep : Nat) (torn cut : Int) (i : Nat) (h : ¬ i < s.n) : (s.settle keep torn cut).K i = [] := by
  simp only [DS.settle, DS.K, List.getD_eq_getElem?_getD]
  rw [List.getElem?_eq_none (by simp; omega)]
  rfl
theorem settle_ok {s : DS} (h : s.Ok) (keep : Nat) (torn cut : Int) : (s.settle keep torn cut).Ok where
  n1 := by rw [settle_n]; exact h.n1
  n2 := by rw [settle_n]; exact h.n2
  kl := fun i => by
    by_cases hi : i < s.n
    · rw [settle_K _ _ _ _ _ hi]; exact setK_len h _ _ _ _ _
    · rw [settle_K0 _ _ _ _ _ hi]; exact Nat.zero_le _
  kb := fun i c hc => by
    by_cases hi : i < s.n
    · rw [settle_K _ _ _ _ _ hi] at hc; exact setK_lt h _ _ _ _ _ c hc
    · rw [settle_K0 _ _ _ _ _ hi] at hc; cases hc
  at_ := fun i hi => by simp [DS.m, DS.settle] at hi
  bl := fun i => by simp [DS.by_, DS.settle]
  bb := fun i c hc => by simp [DS.by_, DS.settle] at hc
  mm := by simp [DS.m, DS.settle]
  keep := h.keep
  after := h.after
  life0 := h.life0
  life1 := h.life1

/-- Behind the first k open writes. -/
structure SW [Gd] (B p gb L : Nat) (vo : Value) (ov wv : Nat → Value) (s : DS) (a : Int) (keep : Nat) (torn cut : Int) (w : World) (k : Nat) (kv' ov' : Nat → Value) (wr : World) : Prop where
  hp : wr.heap[p]? = some (.cells (headV gb vo s.n s.after s.keep s.torn s.cut s.down s.life) 69 (0, 0))
  hg : wr.heap[gb]? = some (.cells (two kv' ov' s.n).toArray 73 (0, 0))
  hw : wr.ownsRow B 76 2 vo s.m (two (fun i => .int .i64 (s.at_ i : Nat)) wv s.m)
  hb : ∀ i, i < s.m → wr.ownsRow B 5 1 (wv i) (s.by_ i).length (cellsOf (s.by_ i))
  hk : ∀ i, i < s.n → wr.ownsRow B 5 1 (kv' i) (s.setK keep torn cut k i).length (cellsOf (s.setK keep torn cut k i))
  gone : ∀ i, i < s.n → ∀ j, j < k → s.at_ j = i → ov' i = .slice none 0 0
  old : ∀ i, i < s.n → (∀ j, j < k → s.at_ j ≠ i) → ov' i = ov i
  hl : wr.heap[L]? = some (.cells #[.int .i64 a, .int .u64 (keep : Int), .int .i64 torn, .int .i64 cut] 32 (0, 0))
  fr : Fr B w wr
  ints : ∀ i, i < s.n → wr.ownsRow B 3 1 (ov i) (s.idx i).length (icells (s.idx i))
  k8 : ∀ j, Gd.b j → ∀ i, i < s.n → (kv' i).ownBlock ≠ some j
section
variable {B p gb L : Nat} {vo : Value} {ov wv kv' ov' : Nat → Value} {s : DS} {a : Int} {keep : Nat} {torn cut : Int} {w wr w2 : World} {k : Nat}
theorem SW.later [Gd] (h : SW B p gb L vo ov wv s a keep torn cut w k kv' ov' wr) (hb : Below wr.heap.size wr w2) (hB : B ≤ wr.heap.size) : SW B p gb L vo ov wv s a keep torn cut w k kv' ov' w2 where
  hp := (hb.block p (Array.getElem?_eq_some_iff.1 h.hp).1).trans h.hp
  hg := (hb.block gb (Array.getElem?_eq_some_iff.1 h.hg).1).trans h.hg
  hw := own_later h.hw hb
  hb := fun i hi => own_later (h.hb i hi) hb
  hk := fun i hi => own_later (h.hk i hi) hb
  gone := h.gone
  old := h.old
  hl := (hb.block L (Array.getElem?_eq_some_iff.1 h.hl).1).trans h.hl
  fr := h.fr.trans (Fr.of hb hB)
  ints := fun i hi => own_later (h.ints i hi) hb
  k8 := h.k8
/-- Two stores into one block's two fields. -/
theorem SW.step [Gd] (h : SW B p gb L vo ov wv s a keep torn cut w k kv' ov' wr) (hk : k < s.m) (ok : s.Ok) (gB : B ≤ gb) {v : Value}
    (hv : wr.ownsRow B 5 1 v (laidL (s.setK keep torn cut k (s.at_ k)) (s.by_ k) (keptN keep torn cut k)).length (cellsOf (laidL (s.setK keep torn cut k (s.at_ k)) (s.by_ k) (keptN keep torn cut k)))) (hv8 : ∀ j, Gd.b j → v.ownBlock ≠ some j) :
    SW B p gb L vo ov wv s a keep torn cut w (k + 1) (upd kv' (s.at_ k) v) (upd ov' (s.at_ k) (.slice none 0 0)) ((wr.setCell ⟨gb, s.at_ k * 2, none⟩ v).setCell ⟨gb, s.at_ k * 2 + 1, none⟩ (.slice none 0 0)) := by
  have hat := ok.at_ k hk
  have g1 := heap_setCell_same wr gb (s.at_ k * 2) _ _ v h.hg
  have g2 := heap_setCell_same _ gb (s.at_ k * 2 + 1) _ _ (.slice none 0 0) g1
  have f1 : Fr B wr (wr.setCell ⟨gb, s.at_ k * 2, none⟩ v) := Fr.set h.hg gB (Or.inr (Or.inl rfl)) _ _
  have f2 : Fr B (wr.setCell ⟨gb, s.at_ k * 2, none⟩ v) ((wr.setCell ⟨gb, s.at_ k * 2, none⟩ v).setCell ⟨gb, s.at_ k * 2 + 1, none⟩ (.slice none 0 0)) := Fr.set g1 gB (Or.inr (Or.inl rfl)) _ _
  have f := f1.trans f2
  have oth : ∀ i, i ≠ gb → ((wr.setCell ⟨gb, s.at_ k * 2, none⟩ v).setCell ⟨gb, s.at_ k * 2 + 1, none⟩ (.slice none 0 0)).heap[i]? = wr.heap[i]? := fun i hi => by
    rw [heap_setCell_other _ _ _ _ hi, heap_setCell_other _ _ _ _ hi]
  have ne : ∀ {i : Nat} {cs : Array Value} {t : TypeId}, wr.heap[i]? = some (.cells cs t (0, 0)) → t ≠ 73 → i ≠ gb := by
    intro i cs t e ht e2
    subst e2
    rw [h.hg] at e
    simp only [Option.some.injEq, Obj.cells.injEq] at e
    exact ht e.2.1.symm
  refine ⟨?_, ?_, ?_, ?_, ?_, ?_, ?_, ?_, h.fr.trans f, ?_, fun j hj i hi => by
    by_cases e : i = s.at_ k
    · rw [e, upd_at]; exact hv8 j hj
    · rw [upd_ne _ _ e]; exact h.k8 j hj i hi⟩
  · rw [oth p (ne h.hp (by decide))]; exact h.hp
  · rw [g2]
    congr 2
    apply Array.toList_inj.1
    rw [Array.toList_setIfInBounds, Array.toList_setIfInBounds, two_set0 _ _ _ _ _ hat, two_set1 _ _ _ _ _ hat]
  · obtain ⟨h1, h2⟩ := h.hw
    refine ⟨h1, ?_⟩
    rcases h2 with h2 | ⟨g, cap, cur, hv, hg, hc, h3⟩
    · exact Or.inl h2
    · exact Or.inr ⟨g, cap, cur, hv, hg, by rw [oth g (ne hc (by decide))]; exact hc, h3⟩
  · exact fun i hi => f.bytes (h.hb i hi)
  · intro i hi
    rw [DS.setK]
    by_cases e : i = s.at_ k
    · rw [if_pos e, e, upd_at]
      exact f.bytes hv
    · rw [if_neg e, upd_ne _ _ e]
      exact f.bytes (h.hk i hi)
  · intro i hi j hj e
    by_cases e2 : i = s.at_ k
    · rw [e2, upd_at]
    · rw [upd_ne _ _ e2]
      refine h.gone i hi j ?_ e
      rcases Nat.lt_or_ge j k with h | h
      · exact h
      · have : j = k := by omega
        subst this
        exact absurd e.symm e2
  · intro i hi hn
    rw [upd_ne _ _ (fun e => hn k (by omega) e.symm)]
    exact h.old i hi fun j hj => hn j (by omega)
  · rw [oth L (ne h.hl (by decide))]; exact h.hl
  · intro i hi
    obtain ⟨h1, h2⟩ := h.ints i hi
    refine ⟨h1, ?_⟩
    rcases h2 with h2 | ⟨g, cap, cur, hv, hg, hc, h3⟩
    · exact Or.inl h2
    · exact Or.inr ⟨g, cap, cur, hv, hg, by rw [oth g (ne hc (by decide))]; exact hc, h3⟩
end
theorem SW.start [Gd] {B p gb : Nat} {vo : Value} {kv ov wv : Nat → Value} {s : DS} {w : World} (h : DV B p gb vo kv ov wv s w) (hB : B ≤ w.heap.size) (a : Int) (keep : Nat) (torn cut : Int) :
    SW B p gb w.heap.size vo ov wv s a keep torn cut w 0 kv ov (w.alloc (.cells #[.int .i64 a, .int .u64 (keep : Int), .int .i64 torn, .int .i64 cut] 32)) := by
  have hb : Below w.heap.size w (w.alloc (.cells #[.int .i64 a, .int .u64 (keep : Int), .int .i64 torn, .int .i64 cut] 32)) := (Below.refl _ _).alloc (Nat.le_refl _) _
  have h' := h.later hb
  exact ⟨h'.hp, h'.hg, h'.hw, h'.hb, h'.hk, fun _ _ j hj => by omega, fun _ _ _ => rfl, heap_alloc_new w _, Fr.of hb hB, h'.ho, fun j hj => (h.h8 j hj).2.1⟩
/-- At the end: no open write any more. -/
theorem SW.done [Gd] {B p gb L : Nat} {vo : Value} {kv ov wv kv' ov' : Nat → Value} {s : DS} {a : Int} {keep : Nat} {torn cut : Int} {w wr : World} (d : DV B p gb vo kv ov wv s w) (h : SW B p gb L vo ov wv s a keep torn cut w s.m kv' ov' wr) :
    DI B p (s.settle keep torn cut) (wr.setCell ⟨p, 1, none⟩ (.slice none 0 0)) ∧ Fr B w (wr.setCell ⟨p, 1, none⟩ (.slice none 0 0)) := by
  have f1 : Fr B wr (wr.setCell ⟨p, 1, none⟩ (.slice none 0 0)) := Fr.set h.hp d.pB (Or.inl rfl) _ _
  have f := h.fr.trans f1
  have oth : ∀ i, i ≠ p → (wr.setCell ⟨p, 1, none⟩ (.slice none 0 0)).heap[i]? = wr.heap[i]? := fun i hi => heap_setCell_other _ _ _ _ hi
  refine ⟨⟨gb, .slice none 0 0, kv', ov', wv, ?_⟩, f⟩
  have hov : ∀ i, i < s.n → ov' i = .slice none 0 0 ∨ (ov' i = ov i ∧ s.idx i = []) := by
    intro i hi
    by_cases hx : ∃ j, j < s.m ∧ s.at_ j = i
    · obtain ⟨j, hj, e⟩ := hx
      exact Or.inl (h.gone i hi j hj e)
    · refine Or.inr ⟨h.old i hi fun j hj e => hx ⟨j, hj, e⟩, ?_⟩
      rw [DS.idx, List.filter_eq_nil_iff]
      intro j hj
      rw [List.mem_range] at hj
      simp only [beq_iff_eq]
      exact fun e => hx ⟨j, hj, e⟩
  have g1 := heap_setCell_same wr p 1 _ _ (.slice none 0 0) h.hp
  have ne : ∀ {i : Nat} {cs : Array Value} {t : TypeId}, wr.heap[i]? = some (.cells cs t (0, 0)) → t ≠ 69 → i ≠ p := by
    intro i cs t e ht e2
    subst e2
    rw [h.hp] at e
    simp only [Option.some.injEq, Obj.cells.injEq] at e
    exact ht e.2.1.symm
  refine ⟨?_, ?_, World.ownsRow_nil _ _ _ _, ?_, ?_, ?_, ?_, d.pB, d.gB, settle_ok d.ok keep torn cut, fun k hk => ⟨by obtain ⟨cs, e⟩ := (d.hG k hk).1; exact ⟨cs, f.gd k cs hk e⟩, fun i hi => by
    rw [settle_n] at hi
    rcases hov i hi with e1 | ⟨e1, _⟩
    · rw [e1]; intro e; cases e
    · rw [e1]; exact (d.hG k hk).2 i hi⟩, fun k hk => ⟨by obtain ⟨cs, e⟩ := (d.h8 k hk).1; exact ⟨cs, f.stay k cs _ _ e (by decide) (by decide) (by decide) (by decide)⟩, fun i hi => by rw [settle_n] at hi; exact h.k8 k hk i hi, fun i hi => by simp [DS.m, DS.settle] at hi⟩⟩
  · rw [g1, settle_n]
    rfl
  · rw [oth gb (ne h.hg (by decide)), settle_n]; exact h.hg
  · intro i hi
    rw [settle_n] at hi
    rw [settle_K _ _ _ _ _ hi]
    exact f1.bytes (h.hk i hi)
  · intro i hi
    simp [DS.m, DS.settle] at hi
  · intro i hi
    rw [settle_n] at hi
    have e : (s.settle keep torn cut).idx i = [] := rfl
    rw [e]
    rcases hov i hi with e1 | ⟨e1, e2⟩
    · rw [e1]; exact World.ownsRow_nil _ _ _ _
    · have h0 := h.ints i hi
      rw [e2] at h0
      rw [e1]
      obtain ⟨h1, h2⟩ := h0
      refine ⟨h1, ?_⟩
      rcases h2 with h2 | ⟨g, cap, cur, hv, hg, hc, h3⟩
      · exact Or.inl h2
      · exact Or.inr ⟨g, cap, cur, hv, hg, by rw [oth g (ne hc (by decide))]; exact hc, h3⟩
  · intro i j k hi hj hij e
    rw [settle_n] at hi hj
    rcases hov i hi with e1 | ⟨e1, _⟩
    · rw [e1] at e; cases e
    · rcases hov j hj with e2 | ⟨e2, _⟩
      · rw [e2]; intro e3; cases e3
      · rw [e2]; rw [e1] at e; exact d.ha i j k hi hj hij e
end Go.Proofs.Ytnapapgmeghgjaa
