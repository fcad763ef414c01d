/- Contracts of turn, Cut, Restart, Arm. -/
import Derived.Test.YtnapapgmeghgjaaB4
set_option linter.unusedVariables false
namespace Go.Proofs.Ytnapapgmeghgjaa
open Go.RowKit

/-- What is armed, the power and its count: the rest stays. -/
def DS.with (s : DS) (after : Int) (keep : Nat) (torn cut : Int) (down : Bool) (life : Int) : DS := ⟨s.kept, s.opens, after, keep, torn, cut, down, life⟩
theorem DV.put [Gd] {B p gb : Nat} {vo : Value} {kv ov wv : Nat → Value} {s : DS} {w w' : World} (h : DV B p gb vo kv ov wv s w) {after : Int} {keep : Nat} {torn cut : Int} {down : Bool} {life : Int}
    (hp : w'.heap[p]? = some (.cells (headV gb vo s.n after keep torn cut down life) 69 (0, 0))) (oth : ∀ i, i ≠ p → w'.heap[i]? = w.heap[i]?)
    (k1 : keep < 18446744073709551616) (k2 : after ≤ 9223372036854775807) (k3 : 0 ≤ life) (k4 : life ≤ 100000) :
    DV B p gb vo kv ov wv (s.with after keep torn cut down life) w' := by
  have ne : ∀ {i : Nat} {cs : Array Value} {t : TypeId}, w.heap[i]? = some (.cells cs t (0, 0)) → t ≠ 69 → i ≠ p := by
    intro i cs t e ht e2
    subst e2
    rw [h.hp] at e
    simp only [Option.some.injEq, Obj.cells.injEq] at e
    exact ht e.2.1.symm
  have row : ∀ {e : TypeId} {size n : Nat} {v : Value} {xs : List Value}, e ≠ 69 → w.ownsRow B e size v n xs → w'.ownsRow B e size v n xs := by
    intro e size n v xs he h0
    obtain ⟨h1, h2⟩ := h0
    refine ⟨h1, ?_⟩
    rcases h2 with h2 | ⟨g, cap, cur, hv, hg, hc, h3⟩
    · exact Or.inl h2
    · exact Or.inr ⟨g, cap, cur, hv, hg, by rw [oth g (ne hc he)]; exact hc, h3⟩
  have ok := h.ok
  exact ⟨hp, by rw [oth gb (ne h.hg (by decide))]; exact h.hg, row (by decide) h.hw, fun i hi => row (by decide) (h.hk i hi), fun i hi => row (by decide) (h.hb i hi), fun i hi => row (by decide) (h.ho i hi), h.ha, h.pB, h.gB, ⟨ok.n1, ok.n2, ok.kl, ok.kb, ok.at_, ok.bl, ok.bb, ok.mm, k1, k2, k3, k4⟩, fun k hk => ⟨by obtain ⟨cs, e⟩ := (h.hG k hk).1; exact ⟨cs, by rw [oth k (ne e (by decide))]; exact e⟩, (h.hG k hk).2⟩, fun k hk => ⟨by obtain ⟨cs, e⟩ := (h.h8 k hk).1; exact ⟨cs, by rw [oth k (ne e (by decide))]; exact e⟩, (h.h8 k hk).2⟩⟩
/-- Several stores into one block of the disk's own. -/
theorem chain [Gd] {B p : Nat} {t : TypeId} (hB : B ≤ p) (ht : t = 69 ∨ t = 73 ∨ t = 76 ∨ False) : ∀ (l : List (Nat × Value)) (w : World) (cs : Array Value), w.heap[p]? = some (.cells cs t (0, 0)) →
    (l.foldl (fun w x => w.setCell ⟨p, x.1, none⟩ x.2) w).heap[p]? = some (.cells (l.foldl (fun c x => c.setIfInBounds x.1 x.2) cs) t (0, 0)) ∧ Fr B w (l.foldl (fun w x => w.setCell ⟨p, x.1, none⟩ x.2) w) ∧ ∀ i, i ≠ p → (l.foldl (fun w x => w.setCell ⟨p, x.1, none⟩ x.2) w).heap[i]? = w.heap[i]?
  | [], w, cs, h => ⟨h, Fr.refl _ _, fun _ _ => rfl⟩
  | (o, u) :: l, w, cs, h => by
    obtain ⟨h1, h2, h3⟩ := chain hB ht l (w.setCell ⟨p, o, none⟩ u) _ (heap_setCell_same w p o cs t u h)
    exact ⟨h1, (Fr.set h hB ht o u).trans h2, fun i hi => (h3 i hi).trans (heap_setCell_other _ _ _ _ hi)⟩
def DS.lose (s : DS) (keep : Nat) (torn cut : Int) : DS := (s.settle keep torn cut).with 0 0 0 0 true (s.life + 1)
def DS.up (s : DS) : DS := s.with 0 0 0 0 false s.life

set_option maxRecDepth 100000 in
set_option maxHeartbeats 4000000 in
theorem turn_lose [Gd] (B p : Nat) (s : DS) (a : Int) (keep : Nat) (torn cut : Int) (w : World) (h : DI B p s w) (hB : B ≤ w.heap.size) (hkeep : keep < 18446744073709551616) (hd : s.down = false) (hl : s.life < 100000) :
    Calls Try.prog 38 #[.pointer (some ⟨p, 0, none⟩), .bool true, .agg #[.int .i64 a, .int .u64 (keep : Int), .int .i64 torn, .int .i64 cut]] w fun e w' => e = .returned (.tuple #[]) ∧ DI B p (s.lose keep torn cut) w' ∧ Fr B w w' := by
  have HL0 := hide h.ok.life0
  have HH := hide h
  obtain ⟨gb, vo, kv, ov, wv, h⟩ := h
  have c6 := h.c6
  rw [hd] at c6
  have hpl : p < w.heap.size := (Array.getElem?_eq_some_iff.1 h.hp).1
  have c6' : (w.alloc (.cells #[.int .i64 a, .int .u64 (keep : Int), .int .i64 torn, .int .i64 cut] 32)).cell? ⟨p, 6, none⟩ = some (.bool false) := ((below_box w _).cell hpl).trans c6
  have HB1 := hide (below_box w (.cells #[.int .i64 a, .int .u64 (keep : Int), .int .i64 torn, .int .i64 cut] 32))
  have HHL := hide hl
  clear h c6
  go_enter Try.func38, Try.ntmps38
  go_wp2_with fail
  refine (settle_any B p s a keep torn cut _ (HH.out.later HB1.out) (Nat.le_trans hB HB1.out.size) hkeep).mono ?_
  rintro e w2 ⟨rfl, hD2, hF2⟩
  have HF2 := hide ((Fr.of HB1.out hB).trans hF2)
  obtain ⟨gb2, vo2, kv2, ov2, wv2, D2⟩ := hD2
  have HD2 := hide D2
  have d7 := D2.c7
  have d2 := D2.c2
  have d3 := D2.c3
  have d4 := D2.c4
  have d5 := D2.c5
  have d6 := D2.c6
  have fz := D2.frz
  have e7 : (s.settle keep torn cut).life = s.life := rfl
  rw [e7] at d7
  have l0 := HL0.out
  have l1 := HHL.out
  clear hF2 D2 e7 c6'
  go_wp2
  go_end0
  obtain ⟨h1, h2, h3⟩ := chain HD2.out.pB (Or.inl rfl) [(7, Value.int .i64 (s.life + 1)), (2, .int .i64 0), (3, .int .u64 0), (4, .int .i64 0), (5, .int .i64 0), (6, .bool true)] w2 _ HD2.out.hp
  exact ⟨rfl, ⟨gb2, vo2, kv2, ov2, wv2, HD2.out.put h1 h3 (by omega) (by omega) (by have := HL0.out; omega) (by have := HHL.out; omega)⟩, HF2.out.trans h2⟩

set_option maxRecDepth 100000 in
set_option maxHeartbeats 4000000 in
theorem turn_up [Gd] (B p : Nat) (s : DS) (a : Int) (keep : Nat) (torn cut : Int) (w : World) (h : DI B p s w) (hB : B ≤ w.heap.size) (hd : s.down = true) :
    Calls Try.prog 38 #[.pointer (some ⟨p, 0, none⟩), .bool false, .agg #[.int .i64 a, .int .u64 (keep : Int), .int .i64 torn, .int .i64 cut]] w fun e w' => e = .returned (.tuple #[]) ∧ DI B p s.up w' ∧ Fr B w w' := by
  obtain ⟨gb, vo, kv, ov, wv, h⟩ := h
  have HB1 := hide (below_box w (.cells #[.int .i64 a, .int .u64 (keep : Int), .int .i64 torn, .int .i64 cut] 32))
  have HD2 := hide (h.later HB1.out)
  have HF1 := hide (Fr.of HB1.out hB)
  generalize hW : w.alloc (.cells #[.int .i64 a, .int .u64 (keep : Int), .int .i64 torn, .int .i64 cut] 32) = w2 at *
  have HW := hide hW
  have d7 := HD2.out.c7
  have d2 := HD2.out.c2
  have d3 := HD2.out.c3
  have d4 := HD2.out.c4
  have d5 := HD2.out.c5
  have d6 := HD2.out.c6
  have fz := HD2.out.frz
  rw [hd] at d6
  subst hW
  clear h
  go_enter Try.func38, Try.ntmps38
  go_wp2
  go_end0
  obtain ⟨h1, h2, h3⟩ := chain HD2.out.pB (Or.inl rfl) [(2, Value.int .i64 0), (3, .int .u64 0), (4, .int .i64 0), (5, .int .i64 0), (6, .bool false)] _ _ HD2.out.hp
  exact ⟨rfl, ⟨gb, vo, kv, ov, wv, HD2.out.put h1 h3 (by omega) (by omega) HD2.out.ok.life0 HD2.out.ok.life1⟩, HF1.out.trans h2⟩

set_option maxRecDepth 100000 in
theorem turn_same [Gd] (B p : Nat) (s : DS) (a : Int) (keep : Nat) (torn cut : Int) (w : World) (h : DI B p s w) (hB : B ≤ w.heap.size) :
    Calls Try.prog 38 #[.pointer (some ⟨p, 0, none⟩), .bool s.down, .agg #[.int .i64 a, .int .u64 (keep : Int), .int .i64 torn, .int .i64 cut]] w fun e w' => e = .returned (.tuple #[]) ∧ DI B p s w' ∧ Fr B w w' := by
  have HH := hide h
  obtain ⟨gb, vo, kv, ov, wv, h⟩ := h
  have HB1 := hide (below_box w (.cells #[.int .i64 a, .int .u64 (keep : Int), .int .i64 torn, .int .i64 cut] 32))
  have hpl : p < w.heap.size := (Array.getElem?_eq_some_iff.1 h.hp).1
  have c6 : (w.alloc (.cells #[.int .i64 a, .int .u64 (keep : Int), .int .i64 torn, .int .i64 cut] 32)).cell? ⟨p, 6, none⟩ = some (.bool s.down) := (HB1.out.cell hpl).trans h.c6
  have HF := hide (Fr.of HB1.out hB)
  have HD := hide (HH.out.later HB1.out)
  clear h
  generalize s.down = d at *
  go_enter Try.func38, Try.ntmps38
  go_wp2
  go_end0
  exact ⟨rfl, HD.out, HF.out⟩
end Go.Proofs.Ytnapapgmeghgjaa
