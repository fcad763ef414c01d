/- The memory of PageBack: a disk and its Store, the row of numbers, the row of texts, both of which grow. -/
import Derived.Test.YtbjononpgcemgaaQC
set_option linter.unusedVariables false
namespace Go.Proofs.Ytbjononpgcemgaa
open Go.RowKit

def scells (l : List ByteArray) : List Value := l.map Value.string
/-- The numbers of the first M pages. -/
def ids (M : Nat) : List Nat := (List.range M).map (2 + ·)
theorem ids_len (M : Nat) : (ids M).length = M := by simp [ids]
theorem ids_succ (M : Nat) : icells (ids (M + 1)) = icells (ids M) ++ [.int .i64 ((2 + M : Nat) : Int)] := by simp [ids, icells, List.range_succ]
theorem ids_get {M k : Nat} (h : k < M) : (icells (ids M))[k]? = some (.int .i64 ((2 + k : Nat) : Int)) := by
  unfold icells ids
  rw [List.getElem?_map, List.getElem?_map, List.getElem?_range h]
  rfl
/-- The first M texts. -/
def txs (tf : Nat → List Nat) (M : Nat) : List ByteArray := (List.range M).map fun j => str (tf j)
theorem txs_len (tf : Nat → List Nat) (M : Nat) : (txs tf M).length = M := by simp [txs]
theorem txs_succ (tf : Nat → List Nat) (M : Nat) : txs tf (M + 1) = txs tf M ++ [str (tf M)] := by simp [txs, List.range_succ]
theorem txs_get {tf : Nat → List Nat} {M k : Nat} (h : k < M) : (scells (txs tf M))[k]? = some (.string (str (tf k))) := by
  unfold scells txs
  rw [List.getElem?_map, List.getElem?_map, List.getElem?_range h]
  rfl

/-- The row of ints that is held apart grows, in its place or in a new one. -/
theorem DI.push {g1 : Gd} {B p G : Nat} {s : DS} {w w' : World} {cs : Array Value} (h : @DI g1 B p s w) (hb : ∀ k, k < w.heap.size → some k ≠ g1.g → w'.heap[k]? = w.heap[k]?) (hG : g1.g = some G ∨ w.heap.size ≤ G) (e : w'.heap[G]? = some (.cells cs 3 (0, 0))) : @DI ⟨some G⟩ B p s w' := by
  obtain ⟨gb, vo, kv, ov, wv, h⟩ := h
  have ne : ∀ {k : Nat} {cs' : Array Value} {t' : TypeId}, w.heap[k]? = some (.cells cs' t' (0, 0)) → t' ≠ 3 → some k ≠ g1.g := by
    intro k cs' t' e1 ht e2
    obtain ⟨⟨cs0, e0⟩, _⟩ := h.hG k e2.symm
    rw [e0] at e1
    simp only [Option.some.injEq, Obj.cells.injEq] at e1
    exact ht e1.2.1.symm
  have st : ∀ (k : Nat) (cs' : Array Value) (t' : TypeId), w.heap[k]? = some (.cells cs' t' (0, 0)) → some k ≠ g1.g → w'.heap[k]? = some (.cells cs' t' (0, 0)) := fun k cs' t' e1 hk => by rw [hb k (Array.getElem?_eq_some_iff.1 e1).1 hk, e1]
  refine ⟨gb, vo, kv, ov, wv, @DV.mk ⟨some G⟩ _ _ _ _ _ _ _ _ _ (st p _ _ h.hp (ne h.hp (by decide))) (st gb _ _ h.hg (ne h.hg (by decide))) (own_stay h.hw fun k cs' _ e1 => st k cs' _ e1 (ne e1 (by decide))) (fun i hi => own_stay (h.hk i hi) fun k cs' _ e1 => st k cs' _ e1 (ne e1 (by decide))) (fun i hi => own_stay (h.hb i hi) fun k cs' _ e1 => st k cs' _ e1 (ne e1 (by decide))) (fun i hi => own_stay (h.ho i hi) fun k cs' hk e1 => st k cs' _ e1 (fun e2 => (h.hG k e2.symm).2 i hi hk)) h.ha h.pB h.gB h.ok ?_⟩
  intro k hk
  have hk2 : G = k := Option.some.inj hk
  subst hk2
  refine ⟨⟨cs, e⟩, fun i hi e2 => ?_⟩
  rcases hG with e3 | e3
  · exact (h.hG G e3).2 i hi e2
  · obtain ⟨_, cur, hc⟩ := own_block (h.ho i hi) e2
    have := (Array.getElem?_eq_some_iff.1 hc).1
    omega
/-- Cells of another type stay when a row grows. -/
theorem grown_stay {wr w2 : World} {B e n k : Nat} {v : Value} {xs : List Value} {cs : Array Value} {t : TypeId} (ho : wr.ownsRow B e 1 v n xs) (hg : wr.grownBy w2 v.ownBlock) (h : wr.heap[k]? = some (.cells cs t (0, 0))) (hne : t ≠ e) : w2.heap[k]? = some (.cells cs t (0, 0)) := by
  rw [hg.block k (Array.getElem?_eq_some_iff.1 h).1 ?_, h]
  intro e2
  obtain ⟨_, cur, hc⟩ := own_block ho e2.symm
  rw [hc] at h
  simp only [Option.some.injEq, Obj.cells.injEq] at h
  exact hne h.2.1.symm
/-- A cell just laid, as a law on append asks for it. -/
theorem nb_news {w : World} {k : Nat} {x : Value} {t : TypeId} (h : w.heap[k]? = some (.cells #[x] t (0, 0))) : ∀ j u, [x][j]? = some u → w.cell? ((⟨k, 0, none⟩ : Addr).add j) = some u := by
  intro j u hj
  match j, hj with
  | 0, hj =>
    simp at hj
    subst hj
    rw [add_plain, cell_blk h]
    rfl

/-- Where PageBack stands: M numbers, the texts ts. -/
structure PW (p q : Nat) (s : DS) (t : PS) (vi vs : Value) (M : Nat) (ts : List ByteArray) (w wr : World) : Prop where
  st : @ST ⟨vi.ownBlock⟩ w.heap.size p q s t wr
  bel : Below w.heap.size w wr
  hi : wr.ownsRow w.heap.size 3 1 vi M (icells (ids M))
  hs : wr.ownsRow w.heap.size 9 1 vs ts.length (scells ts)
section
variable {p q : Nat} {s s' : DS} {t t' : PS} {vi vs : Value} {M : Nat} {ts : List ByteArray} {w wr w2 : World}
theorem PW.call (h : PW p q s t vi vs M ts w wr) (hst : @ST ⟨vi.ownBlock⟩ w.heap.size p q s' t' w2) (f : @Fp ⟨vi.ownBlock⟩ w.heap.size wr w2) : PW p q s' t' vi vs M ts w w2 := by
  letI : Gd := ⟨vi.ownBlock⟩
  exact ⟨hst, h.bel.trans f.bel, own_stay h.hi (fun k cs hk e => f.gd k cs hk e), own_stay h.hs (fun k cs _ e => f.stay k cs _ _ e (by decide) (by decide) (by decide) (by decide) (by decide) (by decide))⟩
theorem PW.later (h : PW p q s t vi vs M ts w wr) (hb : Below wr.heap.size wr w2) : PW p q s t vi vs M ts w w2 :=
  ⟨@ST.later ⟨vi.ownBlock⟩ _ _ _ _ _ _ _ h.st hb, h.bel.trans (hb.mono h.bel.size), own_later h.hi hb, own_later h.hs hb⟩
theorem PW.pushI (h : PW p q s t vi vs M ts w wr) {v : Value} (ho : w2.ownsRow w.heap.size 3 1 v (M + 1) (icells (ids M) ++ [.int .i64 ((2 + M : Nat) : Int)])) (hg : wr.grownBy w2 vi.ownBlock) (hat : v.ownBlock = vi.ownBlock ∨ v.ownBlock = some wr.heap.size) : PW p q s t v vs (M + 1) ts w w2 := by
  obtain ⟨G, hG⟩ : ∃ G, v.ownBlock = some G := by
    rcases ho.2 with ⟨e, h0⟩ | ⟨g, cap, cur, e, _⟩
    · omega
    · exact ⟨g, by rw [e]; rfl⟩
  obtain ⟨_, cur, hc⟩ := own_block ho hG
  obtain ⟨hdi, gs, hsv⟩ := h.st
  have hdi2 : @DI ⟨v.ownBlock⟩ w.heap.size p s w2 := by
    rw [hG]
    refine DI.push hdi (fun k hk hne => hg.block k hk hne) ?_ hc
    rcases hat with e | e
    · left; show vi.ownBlock = some G; rw [← e, hG]
    · right; rw [hG] at e; have := Option.some.inj e; omega
  refine ⟨⟨hdi2, gs, ⟨grown_stay h.hi hg hsv.hq (by decide), grown_stay h.hi hg hsv.hs (by decide), hsv.qB, hsv.gB, hsv.ok⟩⟩, h.bel.grown hg h.bel.size fun k hk => (own_block h.hi hk).1, ?_, own_stay h.hs fun k cs _ e => grown_stay h.hi hg e (by decide)⟩
  rw [ids_succ]
  exact ho
theorem PW.pushS (h : PW p q s t vi vs M ts w wr) {v : Value} {x : ByteArray} (ho : w2.ownsRow w.heap.size 9 1 v (ts.length + 1) (scells ts ++ [.string x])) (hg : wr.grownBy w2 vs.ownBlock) : PW p q s t vi v M (ts ++ [x]) w w2 := by
  obtain ⟨hdi, gs, hsv⟩ := h.st
  refine ⟨⟨@DI.of_stay ⟨vi.ownBlock⟩ _ _ _ _ _ hdi fun k cs t e ht => grown_stay h.hs hg e (by rcases ht with rfl | rfl | rfl | rfl | rfl <;> decide), gs, ⟨grown_stay h.hs hg hsv.hq (by decide), grown_stay h.hs hg hsv.hs (by decide), hsv.qB, hsv.gB, hsv.ok⟩⟩, h.bel.grown hg h.bel.size fun k hk => (own_block h.hs hk).1, own_stay h.hi fun k cs _ e => grown_stay h.hs hg e (by decide), ?_⟩
  have e2 : scells (ts ++ [x]) = scells ts ++ [.string x] := by simp [scells]
  rw [e2, List.length_append, List.length_singleton]
  exact ho
end
/-- The pages of which the first k may have been given back. -/
def Fk (gf : Nat → Bool) (k : Nat) : Nat → Bool := fun j => decide (j < k) && gf j
theorem Fk_zero (gf : Nat → Bool) : Fk gf 0 = fun _ => false := by funext j; simp [Fk]
theorem Fk_yes {gf : Nat → Bool} {k : Nat} (h : gf k = true) : (fun j => if j = k then true else Fk gf k j) = Fk gf (k + 1) := by
  funext j
  unfold Fk
  by_cases e : j = k
  · subst e; simp [h]
  · rw [if_neg e]
    by_cases c : j < k
    · simp [c, show j < k + 1 by omega]
    · simp [c, show ¬ j < k + 1 by omega]
theorem Fk_no {gf : Nat → Bool} {k : Nat} (h : gf k = false) : Fk gf k = Fk gf (k + 1) := by
  funext j
  unfold Fk
  by_cases e : j = k
  · subst e; simp [h]
  · by_cases c : j < k
    · simp [c, show j < k + 1 by omega]
    · simp [c, show ¬ j < k + 1 by omega]
theorem Fk_at (gf : Nat → Bool) (k : Nat) : Fk gf k k = false := by simp [Fk]
theorem backs_Fk (gf : Nat → Bool) (k : Nat) : ∀ m, backs (Fk gf k) m = backs gf (min m k)
  | 0 => by simp [backs]
  | m + 1 => by
    rw [backs_succ, backs_Fk gf k m]
    by_cases c : m < k
    · rw [Nat.min_eq_left (by omega), Nat.min_eq_left (by omega), backs_succ]
      simp [Fk, c]
    · rw [Nat.min_eq_right (by omega), Nat.min_eq_right (by omega)]
      simp [Fk, c]
theorem backs_le (gf : Nat → Bool) (k : Nat) : backs gf k ≤ k := by
  unfold backs
  have := List.length_filter_le gf (List.range k)
  simpa using this
theorem BD.lay {s : DS} {n M k : Nat} {tf : Nat → List Nat} (h : BD s n M k tf) : BD (s.tick.wrote (2 + M) (laidP (tf M))) n (M + 1) (k + 1) tf := by
  have h2 := h.put (tf M)
  have e : (fun i => if i = M then tf M else tf i) = tf := by
    funext i
    by_cases c : i = M
    · subst c; rw [if_pos rfl]
    · rw [if_neg c]
  rw [e] at h2
  exact h2
end Go.Proofs.Ytbjononpgcemgaa
