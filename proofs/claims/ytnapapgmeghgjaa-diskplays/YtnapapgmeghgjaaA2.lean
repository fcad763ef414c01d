/- Contracts of disk.keptBytes, disk.laid and bytes.Clone. -/
import Derived.Test.YtnapapgmeghgjaaA1
set_option linter.unusedVariables false
namespace Go.Proofs.Ytnapapgmeghgjaa
open Go.RowKit

/-- A Loss as a value. -/
def lossV (after : Int) (keep : Nat) (torn cut : Int) : Value := .agg #[.int .i64 after, .int .u64 (keep : Int), .int .i64 torn, .int .i64 cut]
def keptN (keep : Nat) (torn cut : Int) (i : Nat) : Nat := if (i : Int) = torn then (min (max cut 0) 8192).toNat else if keep / 2 ^ (i % 64) % 2 = 1 then blk else 0

theorem keep_bit (keep m : Nat) (h : keep < 18446744073709551616) : bits BinOp.and IntKind.u64 ((keep : Int) / 2 ^ m) 1 = ((keep / 2 ^ m % 2 : Nat) : Int) := by
  have e : (keep : Int) / 2 ^ m = ((keep / 2 ^ m : Nat) : Int) := by simp
  have l : keep / 2 ^ m ≤ keep := Nat.div_le_self _ _
  rw [e, and_one_u64 _ (Int.natCast_nonneg _) (by omega)]
  omega

set_option maxRecDepth 100000 in
set_option maxHeartbeats 1000000 in
theorem keptBytes_any (after : Int) (keep : Nat) (torn cut : Int) (i : Nat) (w : World) (hi : i < 1000000) (hk : keep < 18446744073709551616) :
    Calls Try.prog 44 #[.agg #[.int .i64 after, .int .u64 (keep : Int), .int .i64 torn, .int .i64 cut], .int .i64 i] w fun e w' => e = .returned (.int .i64 (keptN keep torn cut i : Nat)) ∧ Below w.heap.size w w' := by
  have hb := keep_bit keep (i % 64) hk
  have HN : Hid (keptN keep torn cut i = if (i : Int) = torn then (min (max cut 0) 8192).toNat else if keep / 2 ^ (i % 64) % 2 = 1 then blk else 0) := rfl
  generalize keptN keep torn cut i = n at *
  generalize hB : keep / 2 ^ (i % 64) % 2 = b at hb HN
  clear hB
  by_cases ht : (i : Int) = torn
  · have hn := HN.out
    rw [if_pos ht] at hn
    have t1 : ((i : Int) == torn) = true := by simp [ht]
    by_cases c1 : cut < 0
    · have HQ : Hid ((n : Int) = 0) := by show _ = _; omega
      clear hn HN ht hb
      go_enter Try.func44, Try.ntmps44
      go_wp2
      go_ret
      rw [HQ.out]
      exact ⟨rfl, (Below.refl _ _).alloc (Nat.le_refl _) _⟩
    · by_cases c2 : 8192 < cut
      · have HQ : Hid ((n : Int) = 8192) := by show _ = _; omega
        clear hn HN ht hb
        go_enter Try.func44, Try.ntmps44
        go_wp2
        go_ret
        rw [HQ.out]
        exact ⟨rfl, (Below.refl _ _).alloc (Nat.le_refl _) _⟩
      · have HQ : Hid ((n : Int) = cut) := by show _ = _; omega
        clear hn HN ht hb
        go_enter Try.func44, Try.ntmps44
        go_wp2
        go_ret
        rw [HQ.out]
        exact ⟨rfl, (Below.refl _ _).alloc (Nat.le_refl _) _⟩
  · have hn := HN.out
    rw [if_neg ht] at hn
    have t1 : ((i : Int) == torn) = false := by simp [ht]
    by_cases c1 : b = 1
    · rw [if_pos c1] at hn
      have HQ : Hid ((n : Int) = 8192) := by show _ = _; rw [hn]; rfl
      subst c1
      clear hn HN ht
      go_enter Try.func44, Try.ntmps44
      go_wp2
      go_ret
      rw [HQ.out]
      exact ⟨rfl, (Below.refl _ _).alloc (Nat.le_refl _) _⟩
    · rw [if_neg c1] at hn
      have HQ : Hid ((n : Int) = 0) := by show _ = _; rw [hn]; rfl
      have t2 : ((b : Int) == 1) = false := by simp; omega
      clear hn HN ht c1
      go_enter Try.func44, Try.ntmps44
      go_wp2
      go_ret
      rw [HQ.out]
      exact ⟨rfl, (Below.refl _ _).alloc (Nat.le_refl _) _⟩

/-- A block's bytes with the first ones of a write over them. -/
def laidL (old b : List Nat) (k : Nat) : List Nat := if k = 0 then old else if k = blk then b else (pad b).take k ++ (pad old).drop k
theorem laidL_len {xs ys : List Nat} {k : Nat} (h1 : xs.length ≤ blk) (h2 : ys.length ≤ blk) (hk : k ≤ blk) : (laidL xs ys k).length ≤ blk := by
  unfold laidL
  split
  · exact h1
  · split
    · exact h2
    · rw [List.length_append, List.length_take, List.length_drop, pad_len h1, pad_len h2]; omega
theorem laidL_lt {xs ys : List Nat} {k : Nat} (h1 : ∀ n ∈ xs, n < 256) (h2 : ∀ n ∈ ys, n < 256) : ∀ n ∈ laidL xs ys k, n < 256 := by
  unfold laidL
  split
  · exact h1
  · split
    · exact h2
    · intro n hn
      rcases List.mem_append.1 hn with h | h
      · exact pad_lt h2 n (List.mem_of_mem_take h)
      · exact pad_lt h1 n (List.mem_of_mem_drop h)
theorem splice_laid {xs ys : List Nat} {k : Nat} (h1 : xs.length ≤ blk) (h2 : ys.length ≤ blk) (hk : k ≤ blk) : splice (cellsOf (pad xs)) 0 (cellsOf ((pad ys).take k)) = cellsOf ((pad ys).take k ++ (pad xs).drop k) := by
  rw [splice, List.take_zero, List.nil_append, cellsOf_length, cellsOf_drop, cellsOf_append, List.length_take, pad_len h2, Nat.zero_add, Nat.min_eq_left hk]
theorem own_later {w w' : World} {base : Nat} {e : TypeId} {size : Nat} {v : Value} {n : Nat} {xs : List Value} (h : w.ownsRow base e size v n xs) (hb : Below w.heap.size w w') : w'.ownsRow base e size v n xs := by
  obtain ⟨h1, h2⟩ := h
  refine ⟨h1, ?_⟩
  rcases h2 with h2 | ⟨g, cap, cur, hv, hg, hc, h3⟩
  · exact Or.inl h2
  · refine Or.inr ⟨g, cap, cur, hv, hg, ?_, h3⟩
    rw [hb.block g (Array.getElem?_eq_some_iff.1 hc).1]
    exact hc
theorem own_base {w : World} {base base' : Nat} {e : TypeId} {size : Nat} {v : Value} {n : Nat} {xs : List Value} (h : w.ownsRow base e size v n xs) (hb : base' ≤ base) : w.ownsRow base' e size v n xs := by
  obtain ⟨h1, h2⟩ := h
  refine ⟨h1, ?_⟩
  rcases h2 with h2 | ⟨g, cap, cur, hv, hg, hc, h3⟩
  · exact Or.inl h2
  · exact Or.inr ⟨g, cap, cur, hv, Nat.le_trans hb hg, hc, h3⟩

set_option maxRecDepth 100000 in
set_option maxHeartbeats 1000000 in
theorem laid_any (B : Nat) (v1 v2 : Value) (xs ys : List Nat) (k : Nat) (w : World) (h1 : w.ownsRow B 5 1 v1 xs.length (cellsOf xs)) (h2 : w.ownsRow B 5 1 v2 ys.length (cellsOf ys)) (hB : B ≤ w.heap.size)
    (l1 : xs.length ≤ blk) (l2 : ys.length ≤ blk) (b1 : ∀ n ∈ xs, n < 256) (b2 : ∀ n ∈ ys, n < 256) (hk : k ≤ blk) :
    Calls Try.prog 43 #[v1, v2, .int .i64 k] w fun e w' => ∃ v, e = .returned v ∧ w'.ownsRow B 5 1 v (laidL xs ys k).length (cellsOf (laidL xs ys k)) ∧ Below w.heap.size w w' ∧ (v = v1 ∨ v = v2 ∨ v.ownBlock = some w.heap.size) := by
  by_cases c0 : k = 0
  · have e : laidL xs ys k = xs := by unfold laidL; rw [if_pos c0]
    rw [e]
    subst c0
    have H1 := hide h1
    clear h1 h2
    go_enter Try.func43, Try.ntmps43
    go_wp2
    go_ret
    exact ⟨_, rfl, H1.out, Below.refl _ _, Or.inl rfl⟩
  · by_cases c1 : k = blk
    · have e : laidL xs ys k = ys := by unfold laidL; rw [if_neg c0, if_pos c1]
      rw [e]
      subst c1
      have H2 := hide h2
      have hb : ((blk : Nat) : Int) = 8192 := rfl
      clear h1 h2
      go_enter Try.func43, Try.ntmps43
      go_wp2
      go_ret
      exact ⟨_, rfl, H2.out, Below.refl _ _, Or.inr (Or.inl rfl)⟩
    · obtain ⟨i0, hi, hz0, hz1, hz2⟩ := info_parts info5
      have e : laidL xs ys k = (pad ys).take k ++ (pad xs).drop k := by unfold laidL; rw [if_neg c0, if_neg c1]
      rw [e]
      have hb : blk = 8192 := rfl
      obtain ⟨a1, cp1, rfl, s1⟩ := bs_row h1 (by omega) b1
      obtain ⟨a2, cp2, rfl, s2⟩ := bs_row h2 (by omega) b2
      have S1 := hide s1
      have S2 := hide s2
      have HSP := hide (splice_laid l1 l2 hk)
      have k1 : ((k : Int) == 0) = false := by simp; omega
      have k2 : ((k : Int) == 8192) = false := by simp; omega
      have HP2 := hide (pad_len l2)
      have HP1 := hide (pad_len l1)
      have HLT := hide (pad_lt b2)
      have HW := hide (fun ww (hh : BS ww a1 xs.length cp1 xs) => whole_any a1 xs.length cp1 xs ww hh l1)
      have HW2 := hide (fun ww (hh : BS ww a2 ys.length cp2 ys) => whole_any a2 ys.length cp2 ys ww hh l2)
      have HB8 := hide hb
      have HBW := hide hB
      clear h1 h2 s1 s2 c0 c1 e hb
      generalize blk = N at *
      have k3 : (0 : Int) ≤ (k : Int) := by omega
      have k4 : (k : Int) ≤ (N : Int) := by omega
      go_enter Try.func43, Try.ntmps43
      go_wp2_with fail
      refine (HW.out _ S1.out).mono ?_
      rintro e w1 ⟨rfl, ho1, hb1⟩
      have HO1 := hide ho1
      have HB1 := hide hb1
      clear ho1 hb1
      go_wp2_with fail
      refine (HW2.out _ (S2.out.later HB1.out (Nat.le_refl _))).mono ?_
      rintro e w2 ⟨rfl, ho2, hb2⟩
      have HO2 := hide (own_later HO1.out hb2)
      have HO3 := hide (bs_take (BS.ofOwns ho2 (by have := HB8.out; omega) HLT.out) k hk)
      have HB2 := hide (HB1.out.trans (hb2.mono HB1.out.size))
      clear ho2 hb2
      go_wp2_with (refine wpList_copy_splice rfl (.tmp 17) (.tmp 21) 29 29 rfl 5 Try.underlying29 (by rw [hi]; simp [hz1]) _ _ N N k N rfl rfl w.heap.size 0 (cellsOf (pad xs)) 5 (own_whole HO2.out).1 (cellsOf ((pad ys).take k)) (by rw [cellsOf_length, List.length_take, HP2.out]) (fun h => ⟨rfl, bs_src HO3.out h⟩) (by rw [cellsOf_length, cellsOf_length, List.length_take, HP1.out, HP2.out]; omega) (cellsOf_one _) w.heap.size w HB2.out (Nat.le_refl _) ?_; intro w3 HR3 hb3; rw [HSP.out] at HR3; have HB3 := hide hb3; clear hb3)
      go_ret
      have hlen : ((pad ys).take k ++ (pad xs).drop k).length = N := by rw [List.length_append, List.length_take, List.length_drop, HP1.out, HP2.out]; omega
      refine ⟨_, rfl, ?_, HB3.out, Or.inr (Or.inr rfl)⟩
      rw [hlen]
      exact whole_own HR3.out HBW.out hlen (by rw [HB8.out]; unfold maxLen; omega)
end Go.Proofs.Ytnapapgmeghgjaa
