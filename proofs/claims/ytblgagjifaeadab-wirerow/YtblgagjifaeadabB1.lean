/- Contract of headlandlaw1.told: it is true. -/
import Derived.Test.YtblgagjifaeadabA6
import Derived.Test.YtblgagjifaeadabA9
import Derived.Lib.SlBytesConst
namespace Go.Proofs.Ytblgagjifaeadab
open Go.RowKit

theorem BS.lit (w : World) (xs : List Nat) (n : Nat) (fr : Nat × Nat) (hl : xs.length = n) (hr : n ≤ 140737488355328) (hb : ∀ c ∈ xs, c < 256) :
    BS (w.alloc (.cells (cellsOf xs).toArray 5 fr)) (some ⟨w.heap.size, 0, Option.none⟩) n n xs := by
  refine BS.of hl (Nat.le_refl _) hr (by omega) hb (fun i hi => ?_)
  rw [cell_of_row _ _ _ _ _ _ (heap_alloc_new w _), Nat.zero_add, List.getElem?_toArray, cellsOf_get xs i (by omega)]

set_option maxRecDepth 100000 in
set_option maxHeartbeats 1000000 in
theorem told_any (w : World) : Calls Try.prog 8 #[] w fun e w' => e = .returned (.bool true) ∧ Below w.heap.size w w' := by
  have kc := fun (w : World) (C : Array Value) (n c : Nat) => Lib.run_convert_bytes_const (P := Try.prog) w 24 5 C n c Try.underlying24 Try.underlying5
  go_enter Try.func8, Try.ntmps8
  go_wp2_with fail
  have c1 := readUint_any _ 3 3 [9, 130, 44] 1 _ (BS.lit w [9, 130, 44] 3 (0, 0) rfl (by decide) (by decide))
  rw [show ruN [9, 130, 44] 1 = 300 by decide, show ruP [9, 130, 44] 1 = 3 by decide, show ruE [9, 130, 44] 1 = 0 by decide] at c1
  refine c1.mono ?_
  rintro e w1 ⟨rfl, hw1⟩
  have hb1 : Below w.heap.size w w1 := by rw [hw1]; exact (Below.refl _ _).alloc (Nat.le_refl _) _
  clear hw1 c1
  go_wp2_with fail
  have c2 := readUint_any _ 2 2 [128, 1] 0 _ (BS.lit w1 [128, 1] 2 (0, 0) rfl (by decide) (by decide))
  rw [show ruN [128, 1] 0 = 0 by decide, show ruP [128, 1] 0 = 0 by decide, show ruE [128, 1] 0 = 11 by decide] at c2
  refine c2.mono ?_
  rintro e w2 ⟨rfl, hw2⟩
  have hb2 : Below w.heap.size w w2 := by rw [hw2]; exact hb1.alloc hb1.size _
  clear hw2 c2 hb1
  go_wp2_with fail
  have c3 := readBytes_ok _ 4 4 [2, 7, 8, 9] 0 5 _ (BS.lit w2 [2, 7, 8, 9] 4 (0, 0) rfl (by decide) (by decide)) (by decide)
  rw [show rbP [2, 7, 8, 9] 0 5 = 3 by decide, show rbS [2, 7, 8, 9] 0 5 = [7, 8] by decide] at c3
  refine c3.mono ?_
  rintro e w3 ⟨g, n, rfl, hg, hbs, -, hw3⟩
  have hb3 : Below w.heap.size w w3 := (hb2.alloc hb2.size _).trans (hw3.mono (by simp; have := hb2.size; omega))
  clear hw3 c3 hb2 hg
  obtain rfl : n = 2 := hbs.hlen.symm
  have ht := run_text hbs
  rw [show str [7, 8] = { data := #[7, 8] } from rfl] at ht
  clear hbs
  go_wp2_with fail
  have c4 := sum_any _ 8 8 [104, 101, 97, 100, 108, 97, 110, 100] _ (BS.lit w3 [104, 101, 97, 100, 108, 97, 110, 100] 8 (8, 9) rfl (by decide) (by decide))
  rw [show 4294967295 - crc 4294967295 [104, 101, 97, 100, 108, 97, 110, 100] = 1543401768 by decide +kernel] at c4
  refine c4.mono ?_
  rintro e w4 ⟨rfl, hw4⟩
  have hb4 : Below w.heap.size w w4 := (hb3.alloc hb3.size _).trans (hw4.mono (by simp; have := hb3.size; omega))
  clear hw4 c4 hb3
  go_wp2
  go_ret
  exact ⟨rfl, hb4⟩
end Go.Proofs.Ytblgagjifaeadab
