/- Contract of Arm; slices of one byte. -/
import Derived.Test.YtnapapgmeghgjaaC1
set_option linter.unusedVariables false
namespace Go.Proofs.Ytnapapgmeghgjaa
open Go.RowKit

set_option maxRecDepth 100000 in
set_option maxHeartbeats 1000000 in
theorem arm_any [Gd] (B p : Nat) (s : DS) (after : Int) (keep : Nat) (torn cut : Int) (w : World) (h : DI B p s w) (hB : B ≤ w.heap.size) (hkeep : keep < 18446744073709551616) (hafter : after ≤ 9223372036854775807) :
    Calls Try.prog 16 #[.pointer (some ⟨p, 0, none⟩), .agg #[.int .i64 after, .int .u64 (keep : Int), .int .i64 torn, .int .i64 cut]] w fun e w' => e = .returned (.tuple #[]) ∧ DI B p (s.arm after keep torn cut) w' ∧ Fr B w w' := by
  obtain ⟨gb, vo, kv, ov, wv, h⟩ := h
  have HB1 := hide (below_box w (.cells #[.int .i64 after, .int .u64 (keep : Int), .int .i64 torn, .int .i64 cut] 32))
  have HD2 := hide (h.later HB1.out)
  have HF1 := hide (Fr.of HB1.out hB)
  have d2 := HD2.out.c2
  have d3 := HD2.out.c3
  have d4 := HD2.out.c4
  have d5 := HD2.out.c5
  have d6 := HD2.out.c6
  have fz := HD2.out.frz
  have HA : Hid (s.arm after keep torn cut = if s.down then s else s.with after keep torn cut s.down s.life) := rfl
  cases hd : s.down with
  | true =>
    rw [hd] at d6 HA
    clear h
    go_enter Try.func16, Try.ntmps16
    go_wp2
    go_end0
    rw [HA.out]
    exact ⟨rfl, ⟨gb, vo, kv, ov, wv, HD2.out⟩, HF1.out⟩
  | false =>
    rw [hd] at d6
    have HL := hide hd
    clear h hd
    go_enter Try.func16, Try.ntmps16
    go_wp2
    go_end0
    obtain ⟨h1, h2, h3⟩ := chain HD2.out.pB (Or.inl rfl) [(2, Value.int .i64 after), (3, .int .u64 (keep : Int)), (4, .int .i64 torn), (5, .int .i64 cut)] _ _ HD2.out.hp
    rw [HA.out, HL.out]
    refine ⟨rfl, ⟨gb, vo, kv, ov, wv, ?_⟩, HF1.out.trans h2⟩
    have := HD2.out.put (down := s.down) (life := s.life) h1 h3 hkeep hafter HD2.out.ok.life0 HD2.out.ok.life1
    rw [HL.out] at this
    exact this

theorem bs_lit {w : World} {g x : Nat} (h : w.heap[g]? = some (.cells #[.int .u8 (x : Nat)] 5 (0, 0))) (hx : x < 256) : BS w (some ⟨g, 0, none⟩) 1 1 [x] := by
  refine BS.of rfl (by omega) (by omega) (by omega) (by simpa using hx) ?_
  intro i hi
  obtain rfl : i = 0 := by omega
  rw [cell_blk h]
  rfl
/-- A slice of one byte that was just laid: it stays through whatever a disk does. -/
theorem lit_stay [Gd] {B : Nat} {w : World} {x : Nat} (hx : x < 256) : ∀ ww, Fr B (w.alloc (.cells #[.int .u8 (x : Nat)] 5)) ww → BS ww (some ⟨w.heap.size, 0, none⟩) 1 1 [x] := by
  intro ww f
  exact bs_lit (f.stay _ _ _ _ (heap_alloc_new w _) (by decide) (by decide) (by decide) (by decide)) hx

theorem write_lit [Gd] (B p : Nat) (s : DS) (at_ x : Nat) (w : World) (h : DI B p s w) (hB : B ≤ w.heap.size) (hd : s.down = false) (ha : at_ < s.n) (hf : ¬ s.after = 1) (hlf : s.life < 100000) (hm : s.m < 100000) (hx : x < 256) :
    Calls Try.prog 12 #[.pointer (some ⟨p, 0, none⟩), .int .i64 (at_ : Int), .slice (some ⟨w.heap.size, 0, none⟩) 1 1] (w.alloc (.cells #[.int .u8 (x : Int)] 5)) fun e w' => e = .returned (.int .i64 0) ∧ DI B p (s.tick.wrote at_ [x]) w' ∧ Fr B w w' := by
  have hb := below_box w (.cells #[.int .u8 (x : Int)] 5)
  refine (write_ok B p s at_ _ 1 1 [x] _ (h.later hb) (Nat.le_trans hB hb.size) hd ha hf hlf hm (by unfold blk; simp) (by simpa using hx) rfl (lit_stay hx)).mono ?_
  rintro e w' ⟨h1, h2, h3⟩
  exact ⟨h1, h2, (Fr.of hb hB).trans h3⟩
theorem row_first {w : World} {B g : Nat} {xs : List Nat} {x : Nat} (h : w.ownsRow B 5 1 (.slice (some ⟨g, 0, none⟩) blk blk) blk (cellsOf (pad (x :: xs)))) : w.cell? ⟨g, 0, none⟩ = some (.int .u8 (x : Nat)) := by
  rw [h.cellAt 0 (by unfold blk; omega)]
  rfl

end Go.Proofs.Ytnapapgmeghgjaa
