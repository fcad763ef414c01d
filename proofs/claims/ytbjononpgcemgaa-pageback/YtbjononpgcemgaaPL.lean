/- Heads that are read as they were written; the laws' helper told. -/
import Derived.Test.YtbjononpgcemgaaPH
import Derived.Test.YtbjononpgcemgaaPI
import Derived.Test.YtbjononpgcemgaaPK
set_option linter.unusedVariables false
namespace Go.Proofs.Ytbjononpgcemgaa
open Go.RowKit

theorem rdH_zero (n : Nat) : rdH (pad []) n = (0, 0) := by
  unfold rdH
  rw [if_pos pad_nil]
theorem take_at {a b c : List Nat} {k j : Nat} (ha : a.length = k) (hb : b.length = j) : ((a ++ (b ++ c)).drop k).take j = b := by
  subst ha hb
  rw [List.drop_left, List.take_left]
theorem rdH_head {num root n : Nat} (hn : num ≤ 4611686018427387904) (hr : root < n) (hr1 : root ≠ 1) (h0 : num = 0 → root = 0) (hn2 : n ≤ 4096) : rdH (pad (headB num root)) n = ((num : Int), root) := by
  have e1 : pad (headB num root) = [104, 101, 97, 100] ++ (ord num 8 ++ (ord root 4 ++ ((ord num 8).drop 4 ++ zs (blk - (headB num root).length)))) := by
    unfold pad
    generalize zs (blk - (headB num root).length) = Z
    rw [headB]
    simp only [List.append_assoc]
  have e2 : pad (headB num root) = ([104, 101, 97, 100] ++ ord num 8) ++ (ord root 4 ++ ((ord num 8).drop 4 ++ zs (blk - (headB num root).length))) := by
    rw [e1]
    simp only [List.append_assoc]
  have k1 : ordN (((pad (headB num root)).drop 4).take 8) = num := by
    rw [e1, take_at (a := [104, 101, 97, 100]) (k := 4) rfl (ord_len num 8)]
    exact ordN_ord 8 num (by omega)
  have k2 : ordN (((pad (headB num root)).drop 12).take 4) = root := by
    rw [e2, take_at (by rw [List.length_append, ord_len]; rfl) (ord_len root 4)]
    exact ordN_ord 4 root (by omega)
  unfold rdH
  rw [if_neg (by
    intro e
    have h1 : (pad (headB num root)).getD 0 0 = 104 := by rw [e1]; rfl
    rw [e] at h1
    exact absurd h1 (show ¬ (zs blk).getD 0 0 = 104 by
      have : (zs blk).getD 0 0 = 0 := by unfold zs blk; rfl
      omega)), k1, k2, if_neg (by
    simp only [badH, Bool.or_eq_true, decide_eq_true_eq, not_or]
    omega), if_pos rfl]
theorem lastH_zero : lastH (0, 0) (0, 0) = some (0, 0) := by decide
/-- The head that counts: the newer one stands in its block. -/
theorem lastH_odd {a : Int × Nat} {num root : Nat} (h : a.1 < (num : Int)) (ho : num % 2 = 1) : lastH a ((num : Int), root) = some (num, root) := by
  unfold lastH
  rw [if_pos h, if_neg (by simp only; omega), if_neg (by simp only; rw [if_neg (by omega)]; omega)]
  rfl
theorem lastH_even {b : Int × Nat} {num root : Nat} (h : b.1 ≤ (num : Int)) (ho : num % 2 = 0) : lastH ((num : Int), root) b = some (num, root) := by
  unfold lastH
  rw [if_neg (show ¬ (num : Int) < b.1 by omega), if_neg (by simp only; omega), if_neg (by simp only; rw [if_pos (by omega)]; omega)]
  rfl

section
variable {B p q : Nat} {s : DS} {t : PS} {w : World}
theorem put_lit [Gd] (x i : Nat) (h : ST B p q s t w) (hB : B ≤ w.heap.size) (hl : s.life = t.life) (hi : lowF t.st = some i) (hin : i < s.n) (hd : s.down = false) (hf : ¬ s.after = 1) (hlf : s.life < 100000) (hm : s.m < 100000) (hx : x < 256) :
    Calls Try.prog 10 #[.pointer (some ⟨q, 0, none⟩), .slice (some ⟨w.heap.size, 0, none⟩) 1 1] (w.alloc (.cells #[.int .u8 (x : Int)] 5)) fun e w' => e = .returned (.tuple #[.int .i64 (i : Int), .int .i64 0]) ∧ ST B p q (s.tick.wrote i (laidP [x])) (t.set i 2) w' ∧ Fp B w w' := by
  have hb := below_box w (.cells #[.int .u8 (x : Int)] 5)
  refine (put_ok (some ⟨w.heap.size, 0, none⟩) 1 1 [x] i (h.later hb) (Nat.le_trans hB hb.size) hl (by omega) hi hin hd hf hlf hm (bs_lit (heap_alloc_new w _) hx)).mono ?_
  rintro e w' ⟨h1, h2, h3⟩
  exact ⟨h1, h2, (Fp.of hb hB).trans h3⟩
end
/-- A block to which no open write goes is left as it is. -/
theorem setK_none (s : DS) (keep : Nat) (torn cut : Int) (b : Nat) : ∀ k, (∀ r, r < k → s.at_ r ≠ b) → s.setK keep torn cut k b = s.K b
  | 0, _ => rfl
  | k + 1, h => by
    rw [DS.setK, if_neg (fun e => h k (by omega) e.symm)]
    exact setK_none s keep torn cut b k (fun r hr => h r (by omega))
/-- What a block reads as behind a write, a call, a flush. -/
theorem show_wrote (s : DS) (a : Nat) (xs : List Nat) (b : Nat) : (s.wrote a xs).show b = if b = a then xs else s.show b := by
  unfold DS.show
  rw [wrote_idx]
  by_cases h : b = a
  · rw [if_pos h, if_pos h, List.getLast?_append]
    exact wrote_by_m s a xs
  · rw [if_neg h, if_neg h]
    cases hl : (s.idx b).getLast? with
    | none => rfl
    | some j => exact wrote_by s a xs (idx_mem (List.mem_of_getLast? hl)).1
theorem tick_same {s : DS} (hf : ¬ s.after = 1) : s.tick.opens = s.opens ∧ s.tick.kept = s.kept := by
  unfold DS.tick
  split
  · exact ⟨rfl, rfl⟩
  · first | exact ⟨rfl, rfl⟩ | (rw [if_neg hf]; exact ⟨rfl, rfl⟩)
theorem show_of {s s' : DS} (h1 : s'.opens = s.opens) (h2 : s'.kept = s.kept) (b : Nat) : s'.show b = s.show b := by
  have e1 : s'.idx b = s.idx b := by simp only [DS.idx, DS.m, DS.at_, h1]
  unfold DS.show
  rw [e1]
  cases (s.idx b).getLast? with
  | none => simp only [DS.K, h2]
  | some j => simp only [DS.by_, h1]
theorem show_tick {s : DS} (hf : ¬ s.after = 1) (b : Nat) : s.tick.show b = s.show b := show_of (tick_same hf).1 (tick_same hf).2 b
theorem show_settled (s : DS) (b : Nat) (h : b < s.n) : (s.settle 18446744073709551615 (-1) 0).show b = s.show b := by
  have e : (s.settle 18446744073709551615 (-1) 0).show b = (s.settle 18446744073709551615 (-1) 0).K b := rfl
  rw [e, settle_K _ _ _ _ _ h, setK_all]
  rfl
theorem flush_is {s : DS} (hd : s.down = false) (hf : ¬ s.after = 1) : s.flush = s.tick.settle 18446744073709551615 (-1) 0 := by
  unfold DS.flush
  rw [hd]
  simp only [Bool.false_eq_true, if_false]
  rw [if_neg hf]
theorem show_flush {s : DS} (hd : s.down = false) (hf : ¬ s.after = 1) (b : Nat) (h : b < s.n) : s.flush.show b = s.show b := by
  rw [flush_is hd hf, show_settled _ _ (by rw [(tick_n hf).1]; exact h), show_tick hf]
theorem commit_is {s : DS} {num root : Nat} {H : List Nat} (hH : headB num root = H) (h1 : ¬ s.after = 1) (h2 : ¬ s.flush.after = 1) : s.commit num root = ((s.flush.tick.wrote (num % 2) H).flush, (s.flush.tick.wrote (num % 2) H).flushE) := by
  unfold DS.commit
  rw [if_neg h1, if_neg h2, hH]
end Go.Proofs.Ytbjononpgcemgaa
