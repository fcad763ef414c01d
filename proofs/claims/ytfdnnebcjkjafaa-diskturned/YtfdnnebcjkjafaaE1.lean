/- What DiskArmed leans on: masks, states of an armed disk, calls on it. -/
import Derived.Test.YtfdnnebcjkjafaaC3
set_option linter.unusedVariables false
namespace Go.Proofs.Ytfdnnebcjkjafaa
open Go.RowKit

theorem i64_mask (n : Int) (b : Nat) (hb : b ≤ 16) (m : Int) (hm : m = 2 ^ b - 1) : bits .and .i64 n m = n % 2 ^ b := by
  have hm2 : (BitVec.ofInt 64 m).toNat = 2 ^ b - 1 := by
    rw [BitVec.toNat_ofInt, hm]
    have h1 : (1 : Nat) ≤ 2 ^ b := Nat.one_le_two_pow
    have h2 : (2 : Nat) ^ b ≤ 2 ^ 16 := Nat.pow_le_pow_right (by omega) hb
    have e : ((2 : Int) ^ b - 1) = ((2 ^ b - 1 : Nat) : Int) := by
      rw [Int.ofNat_sub h1]
      simp
    rw [e]
    omega
  have key : (BitVec.ofInt 64 n &&& BitVec.ofInt 64 m).toNat = (n % ((2 ^ 64 : Nat) : Int)).toNat % 2 ^ b := by
    rw [BitVec.toNat_and, BitVec.toNat_ofInt, hm2, Nat.and_two_pow_sub_one_eq_mod]
  show IntKind.i64.wrap ((BitVec.ofInt 64 n &&& BitVec.ofInt 64 m).toNat : Nat) = n % 2 ^ b
  rw [key, IntKind.wrap_i64]
  have hc : b = 0 ∨ b = 1 ∨ b = 2 ∨ b = 3 ∨ b = 4 ∨ b = 5 ∨ b = 6 ∨ b = 7 ∨ b = 8 ∨ b = 9 ∨ b = 10 ∨ b = 11 ∨ b = 12 ∨ b = 13 ∨ b = 14 ∨ b = 15 ∨ b = 16 := by omega
  rcases hc with rfl | rfl | rfl | rfl | rfl | rfl | rfl | rfl | rfl | rfl | rfl | rfl | rfl | rfl | rfl | rfl | rfl <;> omega
theorem i64_and15 (n : Int) : bits .and .i64 n 15 = n % 16 := i64_mask n 4 (by omega) 15 (by decide)
theorem i64_and3 (n : Int) : bits .and .i64 n 3 = n % 4 := i64_mask n 2 (by omega) 3 (by decide)

/-- A disk armed at the M-th call, behind k calls. -/
structure ArmS (s : DS) (k M : Nat) : Prop where
  n4 : s.n = 4
  mle : s.m ≤ k
  st : (k < M ∧ s.down = false ∧ s.after = (M : Int) - (k : Int) ∧ s.life = 0) ∨ (M ≤ k ∧ s.down = true ∧ s.life = 1)
theorem lose_n (s : DS) (keep : Nat) (torn cut : Int) : (s.lose keep torn cut).n = s.n ∧ (s.lose keep torn cut).m = 0 ∧ (s.lose keep torn cut).down = true ∧ (s.lose keep torn cut).life = s.life + 1 := ⟨settle_n s keep torn cut, rfl, rfl, rfl⟩
theorem tick_one {s : DS} (h : s.after = 1) : s.tick = s.lose s.keep s.torn s.cut := by
  unfold DS.tick
  rw [if_neg (by omega), if_pos h]
theorem tick_more {s : DS} (h : 1 < s.after) : s.tick = s.with (s.after - 1) s.keep s.torn s.cut s.down s.life := by
  unfold DS.tick
  rw [if_neg (by omega), if_neg (by omega)]
theorem tick_none {s : DS} (h : s.after < 1) : s.tick = s := by
  unfold DS.tick
  rw [if_pos h]
theorem ArmS.last {s : DS} {k M : Nat} (h : ArmS s k M) (hk : k + 1 = M) : ArmS s.tick (k + 1) M ∧ s.after = 1 ∧ s.down = false ∧ s.life = 0 := by
  rcases h.st with ⟨h1, h2, h3, h4⟩ | ⟨h1, _⟩
  · have ha : s.after = 1 := by omega
    obtain ⟨e1, e2, e3, e4⟩ := lose_n s s.keep s.torn s.cut
    refine ⟨?_, ha, h2, h4⟩
    rw [tick_one ha]
    exact ⟨by rw [e1]; exact h.n4, by rw [e2]; omega, Or.inr ⟨by omega, e3, by rw [e4, h4]; rfl⟩⟩
  · omega
theorem ArmS.tick {s : DS} {k M : Nat} (h : ArmS s k M) (hk : k + 1 < M) : (s.tick.n = 4 ∧ s.tick.m = s.m ∧ s.tick.down = false ∧ s.tick.after = (M : Int) - ((k + 1 : Nat) : Int) ∧ s.tick.life = 0) ∧ ¬ s.after = 1 ∧ s.down = false ∧ s.life = 0 := by
  rcases h.st with ⟨h1, h2, h3, h4⟩ | ⟨h1, _⟩
  · have ha : 1 < s.after := by omega
    refine ⟨?_, by omega, h2, h4⟩
    rw [tick_more ha]
    exact ⟨h.n4, rfl, h2, by show s.after - 1 = _; omega, h4⟩
  · omega

def armE (k M : Nat) : Int := if k + 1 < M then 0 else 20
theorem flush_armed (B p : Nat) (s : DS) (k M : Nat) (w : World) (h : DI B p s w) (hB : B ≤ w.heap.size) (hs : ArmS s k M) :
    Calls Try.prog 14 #[.pointer (some ⟨p, 0, none⟩)] w fun e w' => ∃ s', e = .returned (.int .i64 (armE k M)) ∧ DI B p s' w' ∧ Fr B w w' ∧ ArmS s' (k + 1) M := by
  have hl : s.life < 100000 := by rcases hs.st with ⟨_, _, _, h⟩ | ⟨_, _, h⟩ <;> omega
  refine (flush_any B p s w h hB hl).mono ?_
  rintro e w' ⟨rfl, hD, hF⟩
  refine ⟨s.flush, ?_, hD, hF, ?_⟩
  · congr 2
    unfold DS.flushE armE
    rcases hs.st with ⟨h1, h2, h3, h4⟩ | ⟨h1, h2, h3⟩
    · simp only [h2, Bool.false_eq_true, if_false]
      by_cases hk : k + 1 < M
      · rw [if_pos hk, if_neg (by omega)]
      · rw [if_neg hk, if_pos (by omega)]
    · simp only [h2, if_true]
      rw [if_neg (by omega)]
  · by_cases hk : k + 1 < M
    · obtain ⟨⟨e1, e2, e3, e4, e5⟩, hn, hd, _⟩ := hs.tick hk
      have e : s.flush = s.tick.settle 18446744073709551615 (-1) 0 := by unfold DS.flush; simp only [hd, Bool.false_eq_true, if_false]; rw [if_neg hn]
      rw [e]
      exact ⟨by rw [settle_n]; exact e1, Nat.zero_le _, Or.inl ⟨hk, e3, e4, e5⟩⟩
    · by_cases hk2 : k + 1 = M
      · obtain ⟨h1, ha, hd, _⟩ := hs.last hk2
        have e : s.flush = s.tick := by unfold DS.flush; simp only [hd, Bool.false_eq_true, if_false]; rw [if_pos ha]
        rw [e]
        exact h1
      · rcases hs.st with ⟨h1, _⟩ | ⟨h1, h2, h3⟩
        · omega
        · have e : s.flush = s := by unfold DS.flush; simp only [h2, if_true]
          rw [e]
          exact ⟨hs.n4, Nat.le_trans hs.mle (by omega), Or.inr ⟨by omega, h2, h3⟩⟩
theorem write_armed (B p : Nat) (s : DS) (k M at_ x : Nat) (w : World) (h : DI B p s w) (hB : B ≤ w.heap.size) (hs : ArmS s k M) (ha : at_ < 4) (hx : x < 256) (hk9 : k < 1000) :
    Calls Try.prog 12 #[.pointer (some ⟨p, 0, none⟩), .int .i64 (at_ : Int), .slice (some ⟨w.heap.size, 0, none⟩) 1 1] (w.alloc (.cells #[.int .u8 (x : Int)] 5)) fun e w' => ∃ s', e = .returned (.int .i64 (armE k M)) ∧ DI B p s' w' ∧ Fr B w w' ∧ ArmS s' (k + 1) M := by
  have hb := below_box w (.cells #[.int .u8 (x : Int)] 5)
  have hf := Fr.of hb hB
  have hmk := hs.mle
  have hn4 := hs.n4
  by_cases hk : k + 1 < M
  · obtain ⟨⟨e1, e2, e3, e4, e5⟩, hn, hd, hl⟩ := hs.tick hk
    refine (write_lit B p s at_ x w h hB hd (by omega) hn (by omega) (by omega) hx).mono ?_
    rintro e w' ⟨rfl, hD, hF⟩
    exact ⟨_, by unfold armE; rw [if_pos hk], hD, hF, ⟨e1, by rw [wrote_m, e2]; omega, Or.inl ⟨hk, e3, e4, e5⟩⟩⟩
  · by_cases hk2 : k + 1 = M
    · obtain ⟨h1, ha1, hd, hl⟩ := hs.last hk2
      refine (write_fails B p s at_ _ 1 1 _ (h.later hb) (Nat.le_trans hB hb.size) hd (by omega) (by unfold blk; omega) ha1 (by omega)).mono ?_
      rintro e w' ⟨rfl, hD, hF⟩
      exact ⟨_, by unfold armE; rw [if_neg hk], hD, hf.trans hF, h1⟩
    · rcases hs.st with ⟨h1, _⟩ | ⟨h1, h2, h3⟩
      · omega
      · refine (write_down B p s at_ _ _ (h.later hb) h2).mono ?_
        rintro e w' ⟨rfl, rfl⟩
        exact ⟨s, by unfold armE; rw [if_neg hk], h.later hb, hf, ⟨hs.n4, by omega, Or.inr ⟨by omega, h2, h3⟩⟩⟩
/-- A Write at a block that there is not is refused, with power or without. -/
theorem write_nine (B p : Nat) (s : DS) (k M : Nat) (w : World) (h : DI B p s w) (hs : ArmS s k M) :
    Calls Try.prog 12 #[.pointer (some ⟨p, 0, none⟩), .int .i64 9, .slice none 0 0] w fun e w' => ∃ E, e = .returned (.int .i64 E) ∧ w' = w ∧ (E == 0) = false := by
  rcases hs.st with ⟨_, h2, _⟩ | ⟨_, h2, _⟩
  · refine (write_arg B p s 9 none 0 0 w h h2 (by rw [hs.n4]; omega)).mono ?_
    rintro e w' ⟨rfl, rfl⟩
    exact ⟨1, rfl, rfl, rfl⟩
  · refine (write_down B p s 9 _ w h h2).mono ?_
    rintro e w' ⟨rfl, rfl⟩
    exact ⟨20, rfl, rfl, rfl⟩
theorem down_armed (B p : Nat) (s : DS) (k M : Nat) (w : World) (h : DI B p s w) (hs : ArmS s k M) :
    Calls Try.prog 25 #[.pointer (some ⟨p, 0, none⟩)] w fun e w' => e = .returned (.bool (decide (M ≤ k))) ∧ w' = w := by
  refine (down_any B p s w h).mono ?_
  rintro e w' ⟨rfl, rfl⟩
  refine ⟨?_, rfl⟩
  rcases hs.st with ⟨h1, h2, _⟩ | ⟨h1, h2, _⟩
  · rw [h2, decide_eq_false (by omega)]
  · rw [h2, decide_eq_true h1]
/-- A disk with power and nothing armed. -/
structure CalmS (s : DS) : Prop where
  n4 : s.n = 4
  mle : s.m ≤ 100
  dn : s.down = false
  af : s.after = 0
  l0 : s.life < 1000
theorem flush_calm (B p : Nat) (s : DS) (w : World) (h : DI B p s w) (hB : B ≤ w.heap.size) (hs : CalmS s) :
    Calls Try.prog 14 #[.pointer (some ⟨p, 0, none⟩)] w fun e w' => ∃ s', e = .returned (.int .i64 0) ∧ DI B p s' w' ∧ Fr B w w' ∧ CalmS s' ∧ s'.m = 0 := by
  have hl := hs.l0
  have haf := hs.af
  refine (flush_any B p s w h hB (by omega)).mono ?_
  rintro e w' ⟨rfl, hD, hF⟩
  have e : s.flush = s.settle 18446744073709551615 (-1) 0 := by unfold DS.flush; simp only [hs.dn, Bool.false_eq_true, if_false]; rw [if_neg (by omega), tick_none (by omega)]
  refine ⟨s.flush, ?_, hD, hF, ?_, by rw [e]; rfl⟩
  · congr 2
    unfold DS.flushE
    simp only [hs.dn, Bool.false_eq_true, if_false]
    rw [if_neg (by omega)]
  · rw [e]
    exact ⟨by rw [settle_n]; exact hs.n4, Nat.zero_le _, hs.dn, hs.af, hs.l0⟩
theorem write_calm (B p : Nat) (s : DS) (at_ : Nat) (w : World) (h : DI B p s w) (hB : B ≤ w.heap.size) (hs : CalmS s) (ha : at_ < 4) (hm : s.m < 90) :
    Calls Try.prog 12 #[.pointer (some ⟨p, 0, none⟩), .int .i64 (at_ : Int), .slice none 0 0] w fun e w' => ∃ s', e = .returned (.int .i64 0) ∧ DI B p s' w' ∧ Fr B w w' ∧ CalmS s' := by
  have hl := hs.l0
  have haf := hs.af
  have hn4 := hs.n4
  refine (write_ok B p s at_ none 0 0 [] w h hB hs.dn (by omega) (by omega) (by omega) (by omega) (Nat.zero_le _) (by simp) rfl (fun ww _ => BS.none ww none 0 (by omega) (fun _ => rfl))).mono ?_
  rintro e w' ⟨rfl, hD, hF⟩
  rw [tick_none (by omega)] at hD
  exact ⟨_, rfl, hD, hF, ⟨hs.n4, by rw [wrote_m]; omega, hs.dn, hs.af, hs.l0⟩⟩
end Go.Proofs.Ytfdnnebcjkjafaa
