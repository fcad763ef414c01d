/- Contracts of the disk's small calls: New, has, Down, Life, Open, Blocks. -/
import Derived.Test.YtnapapgmeghgjaaB1
set_option linter.unusedVariables false
namespace Go.Proofs.Ytnapapgmeghgjaa
open Go.RowKit

theorem cell_blk {w : World} {p i : Nat} {cs : Array Value} {t : TypeId} (h : w.heap[p]? = some (.cells cs t (0, 0))) : w.cell? ⟨p, i, none⟩ = cs[i]? := cell_of_row w p i cs t (0, 0) h
theorem frz_blk {w : World} {p i : Nat} {cs : Array Value} {t : TypeId} (h : w.heap[p]? = some (.cells cs t (0, 0))) : w.frozen? ⟨p, i, none⟩ = false := frozen_of_row w p i cs t h
section
variable {B p gb : Nat} {vo : Value} {kv ov wv : Nat → Value} {s : DS} {w : World}
theorem DV.c0 [Gd] (h : DV B p gb vo kv ov wv s w) : w.cell? ⟨p, 0, none⟩ = some (.slice (some ⟨gb, 0, none⟩) s.n s.n) := cell_blk h.hp
theorem DV.c1 [Gd] (h : DV B p gb vo kv ov wv s w) : w.cell? ⟨p, 1, none⟩ = some vo := cell_blk h.hp
theorem DV.c2 [Gd] (h : DV B p gb vo kv ov wv s w) : w.cell? ⟨p, 2, none⟩ = some (.int .i64 s.after) := cell_blk h.hp
theorem DV.c3 [Gd] (h : DV B p gb vo kv ov wv s w) : w.cell? ⟨p, 3, none⟩ = some (.int .u64 (s.keep : Int)) := cell_blk h.hp
theorem DV.c4 [Gd] (h : DV B p gb vo kv ov wv s w) : w.cell? ⟨p, 4, none⟩ = some (.int .i64 s.torn) := cell_blk h.hp
theorem DV.c5 [Gd] (h : DV B p gb vo kv ov wv s w) : w.cell? ⟨p, 5, none⟩ = some (.int .i64 s.cut) := cell_blk h.hp
theorem DV.c6 [Gd] (h : DV B p gb vo kv ov wv s w) : w.cell? ⟨p, 6, none⟩ = some (.bool s.down) := cell_blk h.hp
theorem DV.c7 [Gd] (h : DV B p gb vo kv ov wv s w) : w.cell? ⟨p, 7, none⟩ = some (.int .i64 s.life) := cell_blk h.hp
theorem DV.frz [Gd] (h : DV B p gb vo kv ov wv s w) (i : Nat) : w.frozen? ⟨p, i, none⟩ = false := frz_blk h.hp
/-- The row of open writes, as a slice. -/
theorem DV.form [Gd] (h : DV B p gb vo kv ov wv s w) : ∃ a cap, vo = .slice a s.m cap ∧ s.m ≤ cap ∧ cap ≤ 9223372036854775807 ∧ (a = none → s.m = 0 ∧ cap = 0) := by
  rcases h.hw.2 with ⟨e, e0⟩ | ⟨g, cap, cur, e, _, _, h2, h3, _⟩
  · exact ⟨none, 0, by rw [e, e0], by omega, by omega, fun _ => ⟨e0, rfl⟩⟩
  · unfold maxLen at h3
    exact ⟨_, cap, e, h2, by omega, fun h => by cases h⟩
end

set_option maxRecDepth 100000 in
theorem has_any [Gd] (B p : Nat) (s : DS) (at_ : Int) (w : World) (h : DI B p s w) :
    Calls Try.prog 32 #[.pointer (some ⟨p, 0, none⟩), .int .i64 at_] w fun e w' => e = .returned (.bool (decide (0 ≤ at_ ∧ at_ < s.n))) ∧ w' = w := by
  obtain ⟨gb, vo, kv, ov, wv, h⟩ := h
  have c0 := h.c0
  by_cases h1 : 0 ≤ at_
  · have d1 : decide (0 ≤ at_) = true := decide_eq_true h1
    by_cases h2 : at_ < s.n
    · have d2 : decide (at_ < (s.n : Int)) = true := decide_eq_true h2
      have HD : Hid (decide (0 ≤ at_ ∧ at_ < s.n) = true) := decide_eq_true ⟨h1, h2⟩
      generalize s.n = n at *
      clear h
      go_enter Try.func32, Try.ntmps32
      go_wp2
      go_ret
      first | exact ⟨rfl, rfl⟩ | (rw [HD.out]; exact ⟨rfl, rfl⟩)
    · have d2 : decide (at_ < (s.n : Int)) = false := decide_eq_false h2
      have HD : Hid (decide (0 ≤ at_ ∧ at_ < s.n) = false) := decide_eq_false fun h => h2 h.2
      generalize s.n = n at *
      clear h
      go_enter Try.func32, Try.ntmps32
      go_wp2
      go_ret
      first | exact ⟨rfl, rfl⟩ | (rw [HD.out]; exact ⟨rfl, rfl⟩)
  · have d1 : decide (0 ≤ at_) = false := decide_eq_false h1
    have HD : Hid (decide (0 ≤ at_ ∧ at_ < s.n) = false) := decide_eq_false fun h => h1 h.1
    clear h
    go_enter Try.func32, Try.ntmps32
    go_wp2
    go_ret
    first | exact ⟨rfl, rfl⟩ | (rw [HD.out]; exact ⟨rfl, rfl⟩)
theorem down_any [Gd] (B p : Nat) (s : DS) (w : World) (h : DI B p s w) :
    Calls Try.prog 25 #[.pointer (some ⟨p, 0, none⟩)] w fun e w' => e = .returned (.bool s.down) ∧ w' = w := by
  obtain ⟨gb, vo, kv, ov, wv, h⟩ := h
  have c6 := h.c6
  clear h
  go_enter Try.func25, Try.ntmps25
  go_wp2
  go_ret
  exact ⟨rfl, rfl⟩
theorem life_any [Gd] (B p : Nat) (s : DS) (w : World) (h : DI B p s w) :
    Calls Try.prog 26 #[.pointer (some ⟨p, 0, none⟩)] w fun e w' => e = .returned (.int .i64 s.life) ∧ w' = w := by
  obtain ⟨gb, vo, kv, ov, wv, h⟩ := h
  have c7 := h.c7
  clear h
  go_enter Try.func26, Try.ntmps26
  go_wp2
  go_ret
  exact ⟨rfl, rfl⟩
theorem open_any [Gd] (B p : Nat) (s : DS) (w : World) (h : DI B p s w) :
    Calls Try.prog 27 #[.pointer (some ⟨p, 0, none⟩)] w fun e w' => e = .returned (.int .i64 (s.m : Nat)) ∧ w' = w := by
  obtain ⟨gb, vo, kv, ov, wv, h⟩ := h
  have c1 := h.c1
  obtain ⟨a, cap, rfl, _⟩ := h.form
  clear h
  go_enter Try.func27, Try.ntmps27
  go_wp2
  go_ret
  exact ⟨rfl, rfl⟩
theorem blocks_any [Gd] (B p : Nat) (s : DS) (w : World) (h : DI B p s w) :
    Calls Try.prog 28 #[.pointer (some ⟨p, 0, none⟩)] w fun e w' => e = .returned (.int .i64 (s.n : Nat)) ∧ w' = w := by
  obtain ⟨gb, vo, kv, ov, wv, h⟩ := h
  have c0 := h.c0
  clear h
  go_enter Try.func28, Try.ntmps28
  go_wp2
  go_ret
  exact ⟨rfl, rfl⟩

/-- A disk just made. -/
def DS.new (n : Nat) : DS := ⟨List.replicate n [], [], 0, 0, 0, 0, false, 0⟩
theorem made_two (n : Nat) : (madeCells (Value.agg #[.slice none 0 0, .slice none 0 0]).cells (n * 2)).toList = two (fun _ => .slice none 0 0) (fun _ => .slice none 0 0) n := by
  have h1 : (madeCells (Value.agg #[.slice none 0 0, .slice none 0 0]).cells (n * 2)).toList = List.replicate (n * 2) (.slice none 0 0) := by
    rw [List.eq_replicate_iff]
    refine ⟨by simp [size_madeCells], fun b hb => ?_⟩
    have e : (Value.agg #[.slice none 0 0, .slice none 0 0]).cells = #[.slice none 0 0, .slice none 0 0] := rfl
    rw [e] at hb
    simp only [madeCells, Array.toList_map, List.mem_map] at hb
    obtain ⟨j, _, rfl⟩ := hb
    have : j % 2 = 0 ∨ j % 2 = 1 := by omega
    rcases this with h | h <;> simp [h]
  have h2 : two (fun _ => Value.slice none 0 0) (fun _ => .slice none 0 0) n = List.replicate (n * 2) (.slice none 0 0) := by
    rw [List.eq_replicate_iff]
    refine ⟨two_len _ _ n, fun b hb => ?_⟩
    simp only [two, List.mem_flatMap, List.mem_cons, List.not_mem_nil, or_false] at hb
    obtain ⟨_, _, h⟩ := hb
    exact h.elim id id
  rw [h1, h2]
theorem info_block : (Try.prog.info? 73).map (fun i => (i.zero, i.size, i.bytes)) = some (some (.agg #[.slice none 0 0, .slice none 0 0]), 2, 48) := by kernel_rfl
theorem new_K (n i : Nat) : (DS.new n).K i = [] := by
  simp only [DS.K, DS.new, List.getD_eq_getElem?_getD, List.getElem?_replicate]
  split <;> rfl
theorem new_by (n i : Nat) : (DS.new n).by_ i = [] := rfl
theorem new_ok {n : Nat} (h1 : 1 ≤ n) (h2 : n ≤ 4096) : (DS.new n).Ok where
  n1 := by simpa [DS.n, DS.new] using h1
  n2 := by simpa [DS.n, DS.new] using h2
  kl := fun i => by rw [new_K]; exact Nat.zero_le _
  kb := fun i c hc => by rw [new_K] at hc; cases hc
  at_ := fun i hi => by simp [DS.m, DS.new] at hi
  bl := fun i => by rw [new_by]; exact Nat.zero_le _
  bb := fun i c hc => by rw [new_by] at hc; cases hc
  mm := by simp [DS.m, DS.new]
  keep := by simp [DS.new]
  after := by simp [DS.new]
  life0 := by simp [DS.new]
  life1 := by simp [DS.new]
theorem made_whole {w : World} {B g n : Nat} {e : TypeId} {xs : List Value} (h : w.ownsRow B e 2 (.slice (some ⟨g, 0, none⟩) n n) n xs) : w.heap[g]? = some (.cells xs.toArray e (0, 0)) ∧ B ≤ g := by
  rcases h.2 with ⟨e, _⟩ | ⟨g', cap, cur, e, h1, h2, h3, h4, h5, h6⟩
  · cases e
  · simp only [Value.slice.injEq, Option.some.injEq, Addr.mk.injEq, and_true, true_and] at e
    obtain ⟨rfl, rfl⟩ := e
    refine ⟨?_, h1⟩
    rw [h2, ← h6]
    congr 2
    apply Array.toList_inj.1
    simp only
    rw [List.take_of_length_le (by simp; omega)]

set_option maxRecDepth 100000 in
set_option maxHeartbeats 1000000 in
theorem new_any [Gd] (B n : Nat) (w : World) (h1 : 1 ≤ n) (h2 : n ≤ 4096) (hB : B ≤ w.heap.size) (hN : Gd.g = none) (hN8 : ∀ k, ¬ Gd.b k) :
    Calls Try.prog 9 #[.int .i64 (n : Int)] w fun e w' => ∃ p, e = .returned (.tuple #[.pointer (some ⟨p, 0, none⟩), .int .i64 0]) ∧ DI B p (DS.new n) w' ∧ Below w.heap.size w w' := by
  obtain ⟨i0, hi, hz0, hz1, hz2⟩ := info_parts info_block
  have HM := hide (made_two n)
  have HOK := hide (new_ok h1 h2)
  have d1 : decide ((n : Int) < 1) = false := decide_eq_false (by omega)
  have d2 : decide ((4096 : Int) < (n : Int)) = false := decide_eq_false (by omega)
  go_enter Try.func9, Try.ntmps9
  go_wp2_with (refine wpList_make_full w rfl _ _ 66 rfl w.heap.size 73 i0 (.agg #[.slice none 0 0, .slice none 0 0]) 2 Try.underlying66 hi hz0 hz1 .i64 .i64 n n n rfl rfl rfl rfl (by rw [hz2]; omega) (by unfold maxLen; omega) (Nat.le_refl _) ?_; intro w1 ho1 hg1; rw [HM.out] at ho1; have HO1 := hide (made_whole ho1); have HG1 := hide ((Below.refl w.heap.size w).grown hg1 (Nat.le_refl _) (fun k hk => by cases hk)); clear ho1 hg1)
  go_ret2
  have HB2 := HG1.out.alloc HG1.out.size (.cells #[.slice (some ⟨w.heap.size, 0, none⟩) n n, .slice none 0 0, .int .i64 0, .int .u64 0, .int .i64 0, .int .i64 0, .bool false, .int .i64 0] 69)
  have e : (DS.new n).n = n := by simp [DS.n, DS.new]
  refine ⟨w1.heap.size, rfl, ⟨w.heap.size, .slice none 0 0, fun _ => .slice none 0 0, fun _ => .slice none 0 0, fun _ => .slice none 0 0, ?_⟩, HB2⟩
  refine ⟨?_, ?_, World.ownsRow_nil _ _ _ _, ?_, ?_, ?_, ?_, Nat.le_trans hB HG1.out.size, hB, HOK.out, (fun k hk => by rw [hN] at hk; cases hk), (fun k hk => absurd hk (hN8 k))⟩
  · rw [e]
    exact heap_alloc_new w1 _
  · rw [e, Below.heap_alloc _ _ _ (Array.getElem?_eq_some_iff.1 HO1.out.1).1]
    exact HO1.out.1
  · intro i _
    rw [new_K]
    exact World.ownsRow_nil _ _ _ _
  · intro i hi
    simp [DS.m, DS.new] at hi
  · intro i _
    exact World.ownsRow_nil _ _ _ _
  · intro i j k _ _ _ h
    cases h
theorem new_none (w : World) : Calls Try.prog 9 #[.int .i64 0] w fun e w' => e = .returned (.tuple #[.pointer none, .int .i64 1]) ∧ w' = w := by
  go_enter Try.func9, Try.ntmps9
  go_wp2
  go_ret2
  exact ⟨rfl, rfl⟩
end Go.Proofs.Ytnapapgmeghgjaa
