/- A disk as it lies in memory: its blocks, its open writes; what stays when it is written. -/
import Derived.Test.YtnapapgmeghgjaaA3
set_option linter.unusedVariables false
namespace Go.Proofs.Ytnapapgmeghgjaa
open Go.RowKit

/-- A row of ints of somebody else's, which a disk does not write. -/
class Gd where
  g : Option Nat
  b : Nat → Prop

/-- Cells of a row of two-field structs. -/
def two (f g : Nat → Value) (n : Nat) : List Value := (List.range n).flatMap fun i => [f i, g i]
theorem two_succ (f g : Nat → Value) (n : Nat) : two f g (n + 1) = two f g n ++ [f n, g n] := by simp [two, List.range_succ]
theorem two_len (f g : Nat → Value) : ∀ n, (two f g n).length = n * 2
  | 0 => rfl
  | n + 1 => by rw [two_succ, List.length_append, two_len f g n]; simp; omega
theorem two_get0 (f g : Nat → Value) (i : Nat) : ∀ n, i < n → (two f g n)[i * 2]? = some (f i)
  | 0, h => by omega
  | n + 1, h => by
    rw [two_succ]
    by_cases e : i = n
    · subst e
      rw [List.getElem?_append_right (by rw [two_len]; exact Nat.le_refl _), two_len]
      simp
    · rw [List.getElem?_append_left (by rw [two_len]; omega)]
      exact two_get0 f g i n (by omega)
theorem two_get1 (f g : Nat → Value) (i : Nat) : ∀ n, i < n → (two f g n)[i * 2 + 1]? = some (g i)
  | 0, h => by omega
  | n + 1, h => by
    rw [two_succ]
    by_cases e : i = n
    · subst e
      rw [List.getElem?_append_right (by rw [two_len]; omega), two_len]
      simp
    · rw [List.getElem?_append_left (by rw [two_len]; omega)]
      exact two_get1 f g i n (by omega)
theorem two_congr {f g f' g' : Nat → Value} : ∀ n, (∀ i, i < n → f i = f' i ∧ g i = g' i) → two f g n = two f' g' n
  | 0, _ => rfl
  | n + 1, h => by rw [two_succ, two_succ, two_congr n (fun i hi => h i (by omega)), (h n (by omega)).1, (h n (by omega)).2]
def upd (f : Nat → Value) (i : Nat) (v : Value) : Nat → Value := fun j => if j = i then v else f j
theorem upd_at (f : Nat → Value) (i : Nat) (v : Value) : upd f i v i = v := by simp [upd]
theorem upd_ne (f : Nat → Value) {i j : Nat} (v : Value) (h : j ≠ i) : upd f i v j = f j := by simp [upd, h]
theorem two_set0 (f g : Nat → Value) (i : Nat) (v : Value) : ∀ n, i < n → (two f g n).set (i * 2) v = two (upd f i v) g n
  | 0, h => by omega
  | n + 1, h => by
    rw [two_succ, two_succ]
    by_cases e : i = n
    · subst e
      rw [List.set_append_right _ _ (by rw [two_len]; exact Nat.le_refl _), two_len, Nat.sub_self, upd_at]
      rw [two_congr (f' := upd f i v) (g' := g) i (fun j hj => ⟨(upd_ne f v (Nat.ne_of_lt hj)).symm, rfl⟩)]
      rfl
    · rw [List.set_append_left _ _ (by rw [two_len]; omega), two_set0 f g i v n (by omega), upd_ne f v (by omega)]
theorem two_set1 (f g : Nat → Value) (i : Nat) (v : Value) : ∀ n, i < n → (two f g n).set (i * 2 + 1) v = two f (upd g i v) n
  | 0, h => by omega
  | n + 1, h => by
    rw [two_succ, two_succ]
    by_cases e : i = n
    · subst e
      rw [List.set_append_right _ _ (by rw [two_len]; omega), two_len, show i * 2 + 1 - i * 2 = 1 by omega, upd_at]
      rw [two_congr (f' := f) (g' := upd g i v) i (fun j hj => ⟨rfl, (upd_ne g v (Nat.ne_of_lt hj)).symm⟩)]
      rfl
    · rw [List.set_append_left _ _ (by rw [two_len]; omega), two_set1 f g i v n (by omega), upd_ne g v (by omega)]

/-- A disk, as the document tells it: the blocks that are kept, the open writes in their order, what is armed. -/
structure DS where
  kept : List (List Nat)
  opens : List (Nat × List Nat)
  after : Int
  keep : Nat
  torn : Int
  cut : Int
  down : Bool
  life : Int
def DS.n (s : DS) : Nat := s.kept.length
def DS.K (s : DS) (i : Nat) : List Nat := s.kept.getD i []
def DS.m (s : DS) : Nat := s.opens.length
def DS.at_ (s : DS) (i : Nat) : Nat := (s.opens.getD i (0, [])).1
def DS.by_ (s : DS) (i : Nat) : List Nat := (s.opens.getD i (0, [])).2
/-- The numbers of a block's open writes. -/
def DS.idx (s : DS) (b : Nat) : List Nat := (List.range s.m).filter fun i => s.at_ i == b
structure DS.Ok (s : DS) : Prop where
  n1 : 1 ≤ s.n
  n2 : s.n ≤ 4096
  kl : ∀ i, (s.K i).length ≤ blk
  kb : ∀ i, ∀ c ∈ s.K i, c < 256
  at_ : ∀ i, i < s.m → s.at_ i < s.n
  bl : ∀ i, (s.by_ i).length ≤ blk
  bb : ∀ i, ∀ c ∈ s.by_ i, c < 256
  mm : s.m ≤ 100000
  keep : s.keep < 18446744073709551616
  after : s.after ≤ 9223372036854775807
  life0 : 0 ≤ s.life
  life1 : s.life ≤ 100000

def icells (l : List Nat) : List Value := l.map fun n => .int .i64 (n : Nat)
def headV (gb : Nat) (vo : Value) (n : Nat) (after : Int) (keep : Nat) (torn cut : Int) (down : Bool) (life : Int) : Array Value := #[.slice (some ⟨gb, 0, none⟩) n n, vo, .int .i64 after, .int .u64 (keep : Int), .int .i64 torn, .int .i64 cut, .bool down, .int .i64 life]

/-- The disk s lies at block p: its blocks at gb. -/
structure DV [Gd] (B p gb : Nat) (vo : Value) (kv ov wv : Nat → Value) (s : DS) (w : World) : Prop where
  hp : w.heap[p]? = some (.cells (headV gb vo s.n s.after s.keep s.torn s.cut s.down s.life) 69 (0, 0))
  hg : w.heap[gb]? = some (.cells (two kv ov s.n).toArray 73 (0, 0))
  hw : w.ownsRow B 76 2 vo s.m (two (fun i => .int .i64 (s.at_ i : Nat)) wv s.m)
  hk : ∀ i, i < s.n → w.ownsRow B 5 1 (kv i) (s.K i).length (cellsOf (s.K i))
  hb : ∀ i, i < s.m → w.ownsRow B 5 1 (wv i) (s.by_ i).length (cellsOf (s.by_ i))
  ho : ∀ i, i < s.n → w.ownsRow B 3 1 (ov i) (s.idx i).length (icells (s.idx i))
  ha : ∀ i j k, i < s.n → j < s.n → i ≠ j → (ov i).ownBlock = some k → (ov j).ownBlock ≠ some k
  pB : B ≤ p
  gB : B ≤ gb
  ok : s.Ok
  hG : ∀ k, Gd.g = some k → (∃ cs, w.heap[k]? = some (.cells cs 3 (0, 0))) ∧ ∀ i, i < s.n → (ov i).ownBlock ≠ some k
  h8 : ∀ k, Gd.b k → (∃ cs, w.heap[k]? = some (.cells cs 5 (0, 0))) ∧ (∀ i, i < s.n → (kv i).ownBlock ≠ some k) ∧ ∀ i, i < s.m → (wv i).ownBlock ≠ some k
theorem DV.later [Gd] {B p gb : Nat} {vo : Value} {kv ov wv : Nat → Value} {s : DS} {w w' : World} (h : DV B p gb vo kv ov wv s w) (hb : Below w.heap.size w w') : DV B p gb vo kv ov wv s w' where
  hp := (hb.block p (Array.getElem?_eq_some_iff.1 h.hp).1).trans h.hp
  hg := (hb.block gb (Array.getElem?_eq_some_iff.1 h.hg).1).trans h.hg
  hw := own_later h.hw hb
  hk := fun i hi => own_later (h.hk i hi) hb
  hb := fun i hi => own_later (h.hb i hi) hb
  ho := fun i hi => own_later (h.ho i hi) hb
  ha := h.ha
  pB := h.pB
  gB := h.gB
  ok := h.ok
  hG := fun k hk => ⟨by obtain ⟨cs, e⟩ := (h.hG k hk).1; exact ⟨cs, (hb.block k (Array.getElem?_eq_some_iff.1 e).1).trans e⟩, (h.hG k hk).2⟩
  h8 := fun k hk => ⟨by obtain ⟨cs, e⟩ := (h.h8 k hk).1; exact ⟨cs, (hb.block k (Array.getElem?_eq_some_iff.1 e).1).trans e⟩, (h.h8 k hk).2⟩
/-- There is such a disk at block p. -/
def DI [Gd] (B p : Nat) (s : DS) (w : World) : Prop := ∃ gb vo kv ov wv, DV B p gb vo kv ov wv s w
theorem DI.later [Gd] {B p : Nat} {s : DS} {w w' : World} (h : DI B p s w) (hb : Below w.heap.size w w') : DI B p s w' := by
  obtain ⟨gb, vo, kv, ov, wv, h⟩ := h
  exact ⟨gb, vo, kv, ov, wv, h.later hb⟩
theorem DI.ok [Gd] {B p : Nat} {s : DS} {w : World} (h : DI B p s w) : s.Ok := by
  obtain ⟨gb, vo, kv, ov, wv, h⟩ := h
  exact h.ok

/-- From w to w' nothing below B was written, and no row but of a disk's own types. -/
structure Fr [Gd] (B : Nat) (w w' : World) : Prop where
  bel : Below B w w'
  stay : ∀ (k : Nat) (cs : Array Value) (t : TypeId) (fz : Nat × Nat), w.heap[k]? = some (Obj.cells cs t fz) → t ≠ 69 → t ≠ 73 → t ≠ 76 → t ≠ 3 → w'.heap[k]? = some (Obj.cells cs t fz)
  gd : ∀ (k : Nat) (cs : Array Value), Gd.g = some k → w.heap[k]? = some (Obj.cells cs 3 (0, 0)) → w'.heap[k]? = some (Obj.cells cs 3 (0, 0))
theorem Fr.refl [Gd] (B : Nat) (w : World) : Fr B w w := ⟨Below.refl _ _, fun _ _ _ _ h _ _ _ _ => h, fun _ _ _ h => h⟩
theorem Fr.trans [Gd] {B : Nat} {a b c : World} (h : Fr B a b) (k : Fr B b c) : Fr B a c := ⟨h.bel.trans k.bel, fun i cs t fz e n1 n2 n3 n4 => k.stay i cs t fz (h.stay i cs t fz e n1 n2 n3 n4) n1 n2 n3 n4, fun i cs hg e => k.gd i cs hg (h.gd i cs hg e)⟩
theorem Fr.of [Gd] {B : Nat} {w w' : World} (h : Below w.heap.size w w') (hB : B ≤ w.heap.size) : Fr B w w' := ⟨h.mono hB, fun i cs t fz e _ _ _ _ => (h.block i (Array.getElem?_eq_some_iff.1 e).1).trans e, fun i cs _ e => (h.block i (Array.getElem?_eq_some_iff.1 e).1).trans e⟩
theorem Fr.row [Gd] {B B' : Nat} {w w' : World} {e : TypeId} {size : Nat} {v : Value} {n : Nat} {xs : List Value} (f : Fr B w w') (h : w.ownsRow B' e size v n xs) (n1 : e ≠ 69) (n2 : e ≠ 73) (n3 : e ≠ 76) (n4 : e ≠ 3) : w'.ownsRow B' e size v n xs := by
  obtain ⟨h1, h2⟩ := h
  refine ⟨h1, ?_⟩
  rcases h2 with h2 | ⟨g, cap, cur, hv, hg, hc, h3⟩
  · exact Or.inl h2
  · exact Or.inr ⟨g, cap, cur, hv, hg, f.stay g _ _ _ hc n1 n2 n3 n4, h3⟩
theorem Fr.bytes [Gd] {B B' : Nat} {w w' : World} {v : Value} {xs : List Nat} (f : Fr B w w') (h : w.ownsRow B' 5 1 v xs.length (cellsOf xs)) : w'.ownsRow B' 5 1 v xs.length (cellsOf xs) :=
  f.row h (by decide) (by decide) (by decide) (by decide)
/-- A write to one block of a disk's own. -/
theorem Fr.one [Gd] {B g : Nat} {w w' : World} {cs : Array Value} {t : TypeId} (hg : w.heap[g]? = some (.cells cs t (0, 0))) (hB : B ≤ g) (ht : t = 69 ∨ t = 73 ∨ t = 76 ∨ (t = 3 ∧ ∀ j, Gd.g = some j → j ≠ g)) (ho : w'.os = w.os) (htp : w'.tape = w.tape) (hou : w'.output = w.output) (hs : w.heap.size ≤ w'.heap.size) (hb : ∀ k, k < w.heap.size → k ≠ g → w'.heap[k]? = w.heap[k]?) : Fr B w w' := by
  have hlt : g < w.heap.size := (Array.getElem?_eq_some_iff.1 hg).1
  refine ⟨⟨ho, htp, hou, hs, fun k hk => ?_⟩, fun k cs' t' fz e n1 n2 n3 n4 => ?_, fun k cs' hgk e => ?_⟩
  · rcases Nat.lt_or_ge k w.heap.size with h | h
    · exact hb k h (by omega)
    · omega
  · have hk : k ≠ g := by
      intro e'
      subst e'
      rw [hg] at e
      simp only [Option.some.injEq, Obj.cells.injEq] at e
      rcases ht with h | h | h | h
      · exact n1 (e.2.1.symm.trans h)
      · exact n2 (e.2.1.symm.trans h)
      · exact n3 (e.2.1.symm.trans h)
      · exact n4 (e.2.1.symm.trans h.1)
    rw [hb k (Array.getElem?_eq_some_iff.1 e).1 hk, e]
  · have hk : k ≠ g := by
      rcases ht with h | h | h | h
      · intro e'; subst e'; rw [hg] at e; simp only [Option.some.injEq, Obj.cells.injEq] at e; exact absurd (h.symm.trans e.2.1) (by decide)
      · intro e'; subst e'; rw [hg] at e; simp only [Option.some.injEq, Obj.cells.injEq] at e; exact absurd (h.symm.trans e.2.1) (by decide)
      · intro e'; subst e'; rw [hg] at e; simp only [Option.some.injEq, Obj.cells.injEq] at e; exact absurd (h.symm.trans e.2.1) (by decide)
      · exact h.2 k hgk
    rw [hb k (Array.getElem?_eq_some_iff.1 e).1 hk, e]
theorem Fr.set [Gd] {B g : Nat} {w : World} {cs : Array Value} {t : TypeId} (hg : w.heap[g]? = some (.cells cs t (0, 0))) (hB : B ≤ g) (ht : t = 69 ∨ t = 73 ∨ t = 76 ∨ False) (o : Nat) (u : Value) : Fr B w (w.setCell ⟨g, o, none⟩ u) :=
  Fr.one hg hB (ht.imp id (fun h => h.imp id (fun h => h.imp id False.elim))) rfl rfl rfl (by simp) (fun k _ hk => heap_setCell_other w ⟨g, o, none⟩ k u hk)
end Go.Proofs.Ytnapapgmeghgjaa
