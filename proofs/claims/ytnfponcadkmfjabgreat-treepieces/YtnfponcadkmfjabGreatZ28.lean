import Derived.Test.YtnfponcadkmfjabGreatZ23
import Derived.Handy
import Derived.Laws.Rows
import Derived.Laws.ResultCell
set_option linter.unusedVariables false
namespace Go.Proofs.YtnfponcadkmfjabGreat
open Go.RowKit
def badH (num root n : Nat) : Bool := decide (4611686018427387904 < num) || (decide (root ≠ 0 ∧ root < 2) || decide (n ≤ root)) || decide (num = 0 ∧ root ≠ 0)
def rdH (xs : List Nat) (n : Nat) : Int × Nat :=
  if xs = zs blk then (0, 0)
  else if badH (ordN ((xs.drop 4).take 8)) (ordN ((xs.drop 12).take 4)) n then (-1, 0)
  else if xs = pad (headB (ordN ((xs.drop 4).take 8)) (ordN ((xs.drop 12).take 4))) then ((ordN ((xs.drop 4).take 8) : Int), ordN ((xs.drop 12).take 4)) else (-1, 0)
theorem bs_nil (w : World) : BS w none 0 0 [] := BS.none w none 0 (by omega) (fun _ => rfl)
theorem set2 {w : World} {g : Nat} {t : TypeId} {a b x y : Value} (h : w.heap[g]? = some (.cells #[a, b] t (0, 0))) : ((w.setCell ⟨g, 0, none⟩ x).setCell ⟨g, 1, none⟩ y).heap[g]? = some (.cells #[x, y] t (0, 0)) := by
  rw [heap_setCell_same _ g 1 _ t y (heap_setCell_same w g 0 _ t x h)]
  rfl
theorem info_head : (Tryz.prog.info? 128).map (·.size) = some 2 := by kernel_rfl
theorem pad_nil : pad [] = zs blk := by simp [pad]
set_option maxRecDepth 100000 in
set_option maxHeartbeats 4000000 in
theorem readHead_any (g n : Nat) (xs : List Nat) (w : World) (h : BS w (some ⟨g, 0, none⟩) blk blk xs) (hn : n ≤ 4096) (hn0 : 1 ≤ n) :
    Calls Tryz.prog 111 #[.slice (some ⟨g, 0, none⟩) blk blk, .int .i64 (n : Int)] w fun e w' => e = .returned (.agg #[.int .i64 (rdH xs n).1, .int .i64 ((rdH xs n).2 : Nat)]) ∧ Below w.heap.size w w' := by
  have hz : ∀ ww, (zeroValue 128).run Tryz.prog ww = .ok (.agg #[.int .i64 0, .int .i64 0]) ww := fun ww => by kernel_rfl
  have H := hide h
  have HB8 : Hid (blk = 8192) := rfl
  have b8 : ((blk : Nat) : Int) = 8192 := rfl
  have HR : Hid (rdH xs n = if xs = zs blk then (0, 0)
    else if badH (ordN ((xs.drop 4).take 8)) (ordN ((xs.drop 12).take 4)) n then (-1, 0)
    else if xs = pad (headB (ordN ((xs.drop 4).take 8)) (ordN ((xs.drop 12).take 4))) then ((ordN ((xs.drop 4).take 8) : Int), ordN ((xs.drop 12).take 4)) else (-1, 0)) := rfl
  have HS1 := hide (bs_sub h 4 8 (by unfold blk; omega))
  have HS2 := hide (bs_sub h 12 4 (by unfold blk; omega))
  have HBA := hide (below_box w (.cells #[.int .i64 0, .int .i64 0] 128))
  generalize rdH xs n = R at *
  clear h
  go_enter Tryz.func111, Tryz.ntmps111
  go_wp2_with fail
  refine (pwhole_any none 0 0 [] _ (bs_nil _) (by unfold blk; omega)).mono ?_
  rintro e w1 ⟨rfl, ho1, hb1⟩
  rw [pad_nil] at ho1
  have e1 : (w.alloc (.cells #[.int .i64 0, .int .i64 0] 128)).heap.size = w.heap.size + 1 := by simp
  rw [e1] at ho1 hb1
  have HB1 := hide (HBA.out.trans (hb1.mono (Nat.le_succ _)))
  have HZ1 := hide (BS.ofOwns ho1 (by unfold blk; omega) (zs_lt blk))
  have HX1 := hide (H.out.later HB1.out (Nat.le_refl _))
  have HEQ := hide (equal_any _ _ _ _ _ _ xs (zs blk) w1 HX1.out HZ1.out)
  have r4 : w1.heap[w.heap.size]? = some (.cells #[.int .i64 0, .int .i64 0] 128 (0, 0)) := (hb1.block _ (by simp)).trans (heap_alloc_new w _)
  clear ho1 hb1 e1
  generalize hN : blk = N at *
  have HN := hide hN
  clear hN
  have c40 : w1.cell? ⟨w.heap.size, 0, none⟩ = some (.int .i64 0) := cell_blk r4
  have c41 : w1.cell? ⟨w.heap.size, 1, none⟩ = some (.int .i64 0) := cell_blk r4
  have f40 : w1.frozen? ⟨w.heap.size, 0, none⟩ = false := frz_blk r4
  have f41 : w1.frozen? ⟨w.heap.size, 1, none⟩ = false := frz_blk r4
  have HR4 := hide r4
  clear r4
  by_cases h0 : xs = zs N
  · rw [if_pos h0] at HR
    rw [decide_eq_true h0] at HEQ
    obtain rfl : R = (0, 0) := HR.out
    clear HR h0
    go_wp2_with fail
    refine HEQ.out.mono ?_
    rintro e w2 ⟨rfl, rfl⟩
    go_wp2
    (try simp only [Exit.inBlock, Exit.then])
    exact bodyPost_ret (results_cell_row Tryz.results111 _ _ w.heap.size _ _ _ _ rfl (set2 HR4.out) Tryz.underlying128 rfl info_head) rfl ⟨rfl, (HB1.out.setCell (Nat.le_refl _) _).setCell (Nat.le_refl _) _⟩
  · rw [if_neg h0] at HR
    rw [decide_eq_false h0] at HEQ
    clear h0
    go_wp2_with fail
    refine HEQ.out.mono ?_
    rintro e w2 ⟨rfl, rfl⟩
    have hnn : ordN ((xs.drop 4).take 8) < 18446744073709551616 := by
      have h1 := ordN_lt HS1.out.hbyte 8 (by rw [HS1.out.hlen]; exact Nat.le_refl _)
      rw [List.take_of_length_le (by rw [HS1.out.hlen]; exact Nat.le_refl _)] at h1
      exact h1
    have hrr : ordN ((xs.drop 12).take 4) < 4294967296 := by
      have h1 := ordN_lt HS2.out.hbyte 4 (by rw [HS2.out.hlen]; exact Nat.le_refl _)
      rw [List.take_of_length_le (by rw [HS2.out.hlen]; exact Nat.le_refl _)] at h1
      exact h1
    go_wp2_with fail
    refine (orderedNumber_any _ 8 _ _ w2 (HS1.out.later HB1.out (Nat.le_refl _)) (by omega)).mono ?_
    rintro e w3 ⟨rfl, rfl⟩
    go_wp2_with fail
    refine (orderedNumber_any _ 4 _ _ w3 (HS2.out.later HB1.out (Nat.le_refl _)) (by omega)).mono ?_
    rintro e w4 ⟨rfl, rfl⟩
    generalize ordN ((xs.drop 4).take 8) = num at *
    generalize ordN ((xs.drop 12).take 4) = root at *
    have HBD : Hid (badH num root n = (decide (4611686018427387904 < num) || (decide (root ≠ 0 ∧ root < 2) || decide (n ≤ root)) || decide (num = 0 ∧ root ≠ 0))) := rfl
    generalize badH num root n = bad at *
    have hn1 : ¬ (n : Int) ≤ 0 := by omega
    cases bad with
    | true =>
      rw [if_pos rfl] at HR
      obtain rfl : R = (-1, 0) := HR.out
      clear HR
      have hbad := HBD.out
      simp only [Bool.or_eq_true, decide_eq_true_eq, eq_comm (a := true)] at hbad
      clear HBD
      have k0 : root = 0 ∨ root = 1 ∨ (2 ≤ root ∧ root < n) ∨ (2 ≤ root ∧ n ≤ root) := by omega
      have m0 : 4611686018427387904 < num ∨ num = 0 ∨ (0 < num ∧ num ≤ 4611686018427387904) := by omega
      rcases k0 with rfl | rfl | ⟨k1, k2⟩ | ⟨k1, k2⟩
      · rcases m0 with m1 | rfl | ⟨m1, m2⟩
        · have p1 : (4611686018427387904 : Int) < (num : Int) := by omega
          clear hbad hnn hrr
          clear m1
          go_wp2
          (try simp only [Exit.inBlock, Exit.then])
          exact bodyPost_ret (results_cell_row Tryz.results111 _ _ w.heap.size _ _ _ _ rfl (set2 HR4.out) Tryz.underlying128 rfl info_head) rfl ⟨rfl, (HB1.out.setCell (Nat.le_refl _) _).setCell (Nat.le_refl _) _⟩
        · exfalso; omega
        · exfalso; omega
      · rcases m0 with m1 | rfl | ⟨m1, m2⟩
        · have p1 : (4611686018427387904 : Int) < (num : Int) := by omega
          clear hbad hnn hrr
          clear m1
          go_wp2
          (try simp only [Exit.inBlock, Exit.then])
          exact bodyPost_ret (results_cell_row Tryz.results111 _ _ w.heap.size _ _ _ _ rfl (set2 HR4.out) Tryz.underlying128 rfl info_head) rfl ⟨rfl, (HB1.out.setCell (Nat.le_refl _) _).setCell (Nat.le_refl _) _⟩
        · clear hbad hnn hrr
          go_wp2
          (try simp only [Exit.inBlock, Exit.then])
          exact bodyPost_ret (results_cell_row Tryz.results111 _ _ w.heap.size _ _ _ _ rfl (set2 HR4.out) Tryz.underlying128 rfl info_head) rfl ⟨rfl, (HB1.out.setCell (Nat.le_refl _) _).setCell (Nat.le_refl _) _⟩
        · have p1 : ¬ (4611686018427387904 : Int) < (num : Int) := by omega
          have p2 : ((num : Int) == 0) = false := by simp; omega
          clear hbad hnn hrr
          clear m1 m2
          go_wp2
          (try simp only [Exit.inBlock, Exit.then])
          exact bodyPost_ret (results_cell_row Tryz.results111 _ _ w.heap.size _ _ _ _ rfl (set2 HR4.out) Tryz.underlying128 rfl info_head) rfl ⟨rfl, (HB1.out.setCell (Nat.le_refl _) _).setCell (Nat.le_refl _) _⟩
      · rcases m0 with m1 | rfl | ⟨m1, m2⟩
        · have q1 : ((root : Int) != 0) = true := by simp; omega
          have q2 : ¬ (root : Int) < 2 := by omega
          have q3 : ¬ (n : Int) ≤ (root : Int) := by omega
          have p1 : (4611686018427387904 : Int) < (num : Int) := by omega
          clear hbad hnn hrr
          clear k1 k2
          clear m1
          go_wp2
          (try simp only [Exit.inBlock, Exit.then])
          exact bodyPost_ret (results_cell_row Tryz.results111 _ _ w.heap.size _ _ _ _ rfl (set2 HR4.out) Tryz.underlying128 rfl info_head) rfl ⟨rfl, (HB1.out.setCell (Nat.le_refl _) _).setCell (Nat.le_refl _) _⟩
        · have q1 : ((root : Int) != 0) = true := by simp; omega
          have q2 : ¬ (root : Int) < 2 := by omega
          have q3 : ¬ (n : Int) ≤ (root : Int) := by omega
          clear hbad hnn hrr
          clear k1 k2
          go_wp2
          (try simp only [Exit.inBlock, Exit.then])
          exact bodyPost_ret (results_cell_row Tryz.results111 _ _ w.heap.size _ _ _ _ rfl (set2 HR4.out) Tryz.underlying128 rfl info_head) rfl ⟨rfl, (HB1.out.setCell (Nat.le_refl _) _).setCell (Nat.le_refl _) _⟩
        · exfalso; omega
      · rcases m0 with m1 | rfl | ⟨m1, m2⟩
        · have q1 : ((root : Int) != 0) = true := by simp; omega
          have q2 : ¬ (root : Int) < 2 := by omega
          have q3 : (n : Int) ≤ (root : Int) := by omega
          have p1 : (4611686018427387904 : Int) < (num : Int) := by omega
          clear hbad hnn hrr
          clear k1 k2
          clear m1
          go_wp2
          (try simp only [Exit.inBlock, Exit.then])
          exact bodyPost_ret (results_cell_row Tryz.results111 _ _ w.heap.size _ _ _ _ rfl (set2 HR4.out) Tryz.underlying128 rfl info_head) rfl ⟨rfl, (HB1.out.setCell (Nat.le_refl _) _).setCell (Nat.le_refl _) _⟩
        · have q1 : ((root : Int) != 0) = true := by simp; omega
          have q2 : ¬ (root : Int) < 2 := by omega
          have q3 : (n : Int) ≤ (root : Int) := by omega
          clear hbad hnn hrr
          clear k1 k2
          go_wp2
          (try simp only [Exit.inBlock, Exit.then])
          exact bodyPost_ret (results_cell_row Tryz.results111 _ _ w.heap.size _ _ _ _ rfl (set2 HR4.out) Tryz.underlying128 rfl info_head) rfl ⟨rfl, (HB1.out.setCell (Nat.le_refl _) _).setCell (Nat.le_refl _) _⟩
        · have q1 : ((root : Int) != 0) = true := by simp; omega
          have q2 : ¬ (root : Int) < 2 := by omega
          have q3 : (n : Int) ≤ (root : Int) := by omega
          have p1 : ¬ (4611686018427387904 : Int) < (num : Int) := by omega
          have p2 : ((num : Int) == 0) = false := by simp; omega
          clear hbad hnn hrr
          clear k1 k2
          clear m1 m2
          go_wp2
          (try simp only [Exit.inBlock, Exit.then])
          exact bodyPost_ret (results_cell_row Tryz.results111 _ _ w.heap.size _ _ _ _ rfl (set2 HR4.out) Tryz.underlying128 rfl info_head) rfl ⟨rfl, (HB1.out.setCell (Nat.le_refl _) _).setCell (Nat.le_refl _) _⟩
    | false =>
      rw [if_neg (by simp)] at HR
      have hbad := HBD.out
      clear HBD
      have g1 : ¬ (4611686018427387904 : Int) < (num : Int) := by simp only [eq_comm (a := false), Bool.or_eq_false_iff, decide_eq_false_iff_not] at hbad; omega
      have g2 : root = 0 ∨ (2 ≤ root ∧ root < n ∧ num ≠ 0) := by simp only [eq_comm (a := false), Bool.or_eq_false_iff, decide_eq_false_iff_not] at hbad; omega
      clear hbad
      have HPL := hide (headB_len num root)
      have HPB := hide (headB_lt num root)
      have BX := hide (fun ww => headBytes_any num root ww (by omega) (by omega))
      have RB := hide (heap_alloc_new w4 (.cells #[.int .i64 (num : Int), .int .i64 (root : Int)] 128))
      have HBB := hide (below_box w4 (.cells #[.int .i64 (num : Int), .int .i64 (root : Int)] 128))
      have e8 : (w4.alloc (.cells #[.int .i64 (num : Int), .int .i64 (root : Int)] 128)).heap.size = w4.heap.size + 1 := by simp
      rcases g2 with g2 | ⟨k1, k2, k3⟩
      · have q1 : ((root : Int) != 0) = false := by simp; omega
        have q3 : ¬ (n : Int) ≤ (root : Int) := by omega
        clear g2
        by_cases hz0 : num = 0
        · have p2 : ((num : Int) == 0) = true := by simp; omega
          clear hz0
          clear hnn hrr
          go_wp2_with fail
          refine (BX.out _).mono ?_
          rintro e w5 ⟨v5, rfl, ho5, hb5⟩
          rw [e8] at ho5 hb5
          obtain ⟨a5, c5, rfl, B5⟩ := bs_row (xs := headB num root) (by rw [HPL.out]; exact ho5) (by rw [HPL.out]; omega) HPB.out
          rw [HPL.out] at B5
          have HBS5 := hide B5
          have HB5 := hide (HBB.out.trans (hb5.mono (Nat.le_succ _)))
          have r85 := (hb5.block _ (Nat.lt_succ_self _)).trans RB.out
          have HR8 := hide r85
          clear ho5 hb5 B5 r85 e8
          go_wp2_with fail
          refine (pwhole_any a5 20 c5 (headB num root) w5 HBS5.out (by rw [HN.out, HB8.out]; omega)).mono ?_
          rintro e w6 ⟨rfl, ho6, hb6⟩
          rw [HN.out] at ho6 ⊢
          have HB6 := hide (HB5.out.trans (hb6.mono HB5.out.size))
          have HBS6 := hide (BS.ofOwns ho6 (by rw [HB8.out]; omega) (pad_lt HPB.out))
          have HR86 := hide ((hb6.block _ (Array.getElem?_eq_some_iff.1 HR8.out).1).trans HR8.out)
          have HX6 := hide (HX1.out.later HB6.out (Nat.le_refl _))
          have r46 := (HB6.out.block _ (Array.getElem?_eq_some_iff.1 HR4.out).1).trans HR4.out
          have HR46 := hide r46
          have HBT := hide (HB1.out.trans (HB6.out.mono HB1.out.size))
          have d80 : w6.cell? ⟨w4.heap.size, 0, none⟩ = some (.int .i64 (num : Int)) := cell_blk HR86.out
          have d81 : w6.cell? ⟨w4.heap.size, 1, none⟩ = some (.int .i64 (root : Int)) := cell_blk HR86.out
          have d40 : w6.cell? ⟨w.heap.size, 0, none⟩ = some (.int .i64 0) := cell_blk r46
          have d41 : w6.cell? ⟨w.heap.size, 1, none⟩ = some (.int .i64 0) := cell_blk r46
          have e40 : w6.frozen? ⟨w.heap.size, 0, none⟩ = false := frz_blk r46
          have e41 : w6.frozen? ⟨w.heap.size, 1, none⟩ = false := frz_blk r46
          have HEQ6 := hide (equal_any _ _ _ _ _ _ xs (pad (headB num root)) w6 HX6.out HBS6.out)
          clear ho6 hb6 r46 c40 c41 f40 f41
          by_cases h2 : xs = pad (headB num root)
          · rw [if_pos h2] at HR
            obtain rfl : R = ((num : Int), root) := HR.out
            rw [decide_eq_true h2] at HEQ6
            clear HR h2
            go_wp2_with fail
            refine HEQ6.out.mono ?_
            rintro e w7 ⟨rfl, rfl⟩
            go_wp2
            (try simp only [Exit.inBlock, Exit.then])
            exact bodyPost_ret (results_cell_row Tryz.results111 _ _ w.heap.size _ _ _ _ rfl (set2 HR46.out) Tryz.underlying128 rfl info_head) rfl ⟨rfl, (HBT.out.setCell (Nat.le_refl _) _).setCell (Nat.le_refl _) _⟩
          · rw [if_neg h2] at HR
            obtain rfl : R = (-1, 0) := HR.out
            rw [decide_eq_false h2] at HEQ6
            clear HR h2
            go_wp2_with fail
            refine HEQ6.out.mono ?_
            rintro e w7 ⟨rfl, rfl⟩
            go_wp2
            (try simp only [Exit.inBlock, Exit.then])
            exact bodyPost_ret (results_cell_row Tryz.results111 _ _ w.heap.size _ _ _ _ rfl (set2 HR46.out) Tryz.underlying128 rfl info_head) rfl ⟨rfl, (HBT.out.setCell (Nat.le_refl _) _).setCell (Nat.le_refl _) _⟩
        · have p2 : ((num : Int) == 0) = false := by simp; omega
          clear hz0
          clear hnn hrr
          go_wp2_with fail
          refine (BX.out _).mono ?_
          rintro e w5 ⟨v5, rfl, ho5, hb5⟩
          rw [e8] at ho5 hb5
          obtain ⟨a5, c5, rfl, B5⟩ := bs_row (xs := headB num root) (by rw [HPL.out]; exact ho5) (by rw [HPL.out]; omega) HPB.out
          rw [HPL.out] at B5
          have HBS5 := hide B5
          have HB5 := hide (HBB.out.trans (hb5.mono (Nat.le_succ _)))
          have r85 := (hb5.block _ (Nat.lt_succ_self _)).trans RB.out
          have HR8 := hide r85
          clear ho5 hb5 B5 r85 e8
          go_wp2_with fail
          refine (pwhole_any a5 20 c5 (headB num root) w5 HBS5.out (by rw [HN.out, HB8.out]; omega)).mono ?_
          rintro e w6 ⟨rfl, ho6, hb6⟩
          rw [HN.out] at ho6 ⊢
          have HB6 := hide (HB5.out.trans (hb6.mono HB5.out.size))
          have HBS6 := hide (BS.ofOwns ho6 (by rw [HB8.out]; omega) (pad_lt HPB.out))
          have HR86 := hide ((hb6.block _ (Array.getElem?_eq_some_iff.1 HR8.out).1).trans HR8.out)
          have HX6 := hide (HX1.out.later HB6.out (Nat.le_refl _))
          have r46 := (HB6.out.block _ (Array.getElem?_eq_some_iff.1 HR4.out).1).trans HR4.out
          have HR46 := hide r46
          have HBT := hide (HB1.out.trans (HB6.out.mono HB1.out.size))
          have d80 : w6.cell? ⟨w4.heap.size, 0, none⟩ = some (.int .i64 (num : Int)) := cell_blk HR86.out
          have d81 : w6.cell? ⟨w4.heap.size, 1, none⟩ = some (.int .i64 (root : Int)) := cell_blk HR86.out
          have d40 : w6.cell? ⟨w.heap.size, 0, none⟩ = some (.int .i64 0) := cell_blk r46
          have d41 : w6.cell? ⟨w.heap.size, 1, none⟩ = some (.int .i64 0) := cell_blk r46
          have e40 : w6.frozen? ⟨w.heap.size, 0, none⟩ = false := frz_blk r46
          have e41 : w6.frozen? ⟨w.heap.size, 1, none⟩ = false := frz_blk r46
          have HEQ6 := hide (equal_any _ _ _ _ _ _ xs (pad (headB num root)) w6 HX6.out HBS6.out)
          clear ho6 hb6 r46 c40 c41 f40 f41
          by_cases h2 : xs = pad (headB num root)
          · rw [if_pos h2] at HR
            obtain rfl : R = ((num : Int), root) := HR.out
            rw [decide_eq_true h2] at HEQ6
            clear HR h2
            go_wp2_with fail
            refine HEQ6.out.mono ?_
            rintro e w7 ⟨rfl, rfl⟩
            go_wp2
            (try simp only [Exit.inBlock, Exit.then])
            exact bodyPost_ret (results_cell_row Tryz.results111 _ _ w.heap.size _ _ _ _ rfl (set2 HR46.out) Tryz.underlying128 rfl info_head) rfl ⟨rfl, (HBT.out.setCell (Nat.le_refl _) _).setCell (Nat.le_refl _) _⟩
          · rw [if_neg h2] at HR
            obtain rfl : R = (-1, 0) := HR.out
            rw [decide_eq_false h2] at HEQ6
            clear HR h2
            go_wp2_with fail
            refine HEQ6.out.mono ?_
            rintro e w7 ⟨rfl, rfl⟩
            go_wp2
            (try simp only [Exit.inBlock, Exit.then])
            exact bodyPost_ret (results_cell_row Tryz.results111 _ _ w.heap.size _ _ _ _ rfl (set2 HR46.out) Tryz.underlying128 rfl info_head) rfl ⟨rfl, (HBT.out.setCell (Nat.le_refl _) _).setCell (Nat.le_refl _) _⟩
      · have q1 : ((root : Int) != 0) = true := by simp; omega
        have q2 : ¬ (root : Int) < 2 := by omega
        have q3 : ¬ (n : Int) ≤ (root : Int) := by omega
        have p2 : ((num : Int) == 0) = false := by simp; omega
        clear k1 k2 k3
        clear hnn hrr
        go_wp2_with fail
        refine (BX.out _).mono ?_
        rintro e w5 ⟨v5, rfl, ho5, hb5⟩
        rw [e8] at ho5 hb5
        obtain ⟨a5, c5, rfl, B5⟩ := bs_row (xs := headB num root) (by rw [HPL.out]; exact ho5) (by rw [HPL.out]; omega) HPB.out
        rw [HPL.out] at B5
        have HBS5 := hide B5
        have HB5 := hide (HBB.out.trans (hb5.mono (Nat.le_succ _)))
        have r85 := (hb5.block _ (Nat.lt_succ_self _)).trans RB.out
        have HR8 := hide r85
        clear ho5 hb5 B5 r85 e8
        go_wp2_with fail
        refine (pwhole_any a5 20 c5 (headB num root) w5 HBS5.out (by rw [HN.out, HB8.out]; omega)).mono ?_
        rintro e w6 ⟨rfl, ho6, hb6⟩
        rw [HN.out] at ho6 ⊢
        have HB6 := hide (HB5.out.trans (hb6.mono HB5.out.size))
        have HBS6 := hide (BS.ofOwns ho6 (by rw [HB8.out]; omega) (pad_lt HPB.out))
        have HR86 := hide ((hb6.block _ (Array.getElem?_eq_some_iff.1 HR8.out).1).trans HR8.out)
        have HX6 := hide (HX1.out.later HB6.out (Nat.le_refl _))
        have r46 := (HB6.out.block _ (Array.getElem?_eq_some_iff.1 HR4.out).1).trans HR4.out
        have HR46 := hide r46
        have HBT := hide (HB1.out.trans (HB6.out.mono HB1.out.size))
        have d80 : w6.cell? ⟨w4.heap.size, 0, none⟩ = some (.int .i64 (num : Int)) := cell_blk HR86.out
        have d81 : w6.cell? ⟨w4.heap.size, 1, none⟩ = some (.int .i64 (root : Int)) := cell_blk HR86.out
        have d40 : w6.cell? ⟨w.heap.size, 0, none⟩ = some (.int .i64 0) := cell_blk r46
        have d41 : w6.cell? ⟨w.heap.size, 1, none⟩ = some (.int .i64 0) := cell_blk r46
        have e40 : w6.frozen? ⟨w.heap.size, 0, none⟩ = false := frz_blk r46
        have e41 : w6.frozen? ⟨w.heap.size, 1, none⟩ = false := frz_blk r46
        have HEQ6 := hide (equal_any _ _ _ _ _ _ xs (pad (headB num root)) w6 HX6.out HBS6.out)
        clear ho6 hb6 r46 c40 c41 f40 f41
        by_cases h2 : xs = pad (headB num root)
        · rw [if_pos h2] at HR
          obtain rfl : R = ((num : Int), root) := HR.out
          rw [decide_eq_true h2] at HEQ6
          clear HR h2
          go_wp2_with fail
          refine HEQ6.out.mono ?_
          rintro e w7 ⟨rfl, rfl⟩
          go_wp2
          (try simp only [Exit.inBlock, Exit.then])
          exact bodyPost_ret (results_cell_row Tryz.results111 _ _ w.heap.size _ _ _ _ rfl (set2 HR46.out) Tryz.underlying128 rfl info_head) rfl ⟨rfl, (HBT.out.setCell (Nat.le_refl _) _).setCell (Nat.le_refl _) _⟩
        · rw [if_neg h2] at HR
          obtain rfl : R = (-1, 0) := HR.out
          rw [decide_eq_false h2] at HEQ6
          clear HR h2
          go_wp2_with fail
          refine HEQ6.out.mono ?_
          rintro e w7 ⟨rfl, rfl⟩
          go_wp2
          (try simp only [Exit.inBlock, Exit.then])
          exact bodyPost_ret (results_cell_row Tryz.results111 _ _ w.heap.size _ _ _ _ rfl (set2 HR46.out) Tryz.underlying128 rfl info_head) rfl ⟨rfl, (HBT.out.setCell (Nat.le_refl _) _).setCell (Nat.le_refl _) _⟩
end Go.Proofs.YtnfponcadkmfjabGreat
