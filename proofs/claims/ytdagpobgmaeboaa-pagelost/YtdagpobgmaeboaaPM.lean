/- The walk of the law PageLost: whatever texts and losses, it returns true and writes nothing that was there. -/
import Derived.Test.YtdagpobgmaeboaaPL
import Derived.Test.YtdagpobgmaeboaaF4
set_option linter.unusedVariables false
namespace Go.Proofs.Ytdagpobgmaeboaa
open Go.RowKit

/-- The states behind k Puts. -/
def pst (k : Nat) : List Nat := (List.range 20).map fun j => if j < 2 then 0 else if j < 2 + k then 2 else 1
theorem pst_low : ∀ k : Fin 11, lowF (pst k.val) = some (2 + k.val) := by decide
theorem pst_next : ∀ k : Fin 11, (pst k.val).set (2 + k.val) 2 = pst (k.val + 1) := by decide
/-- A disk of 20 blocks on which only pages were written, and its Store. -/
structure LP (s : DS) (t : PS) (k : Nat) : Prop where
  n20 : s.n = 20
  mm : s.m = k
  dn : s.down = false
  af : s.after = 0
  lf : s.life = 0
  at2 : ∀ r, r < s.m → 2 ≤ s.at_ r
  k0 : s.K 0 = [] ∧ s.K 1 = []
  tl : t.life = 0
  ts : t.st = pst k
  low : lowF t.st = some (2 + k)
theorem lp_start : LP (DS.new 20) ⟨newSt 20, 0, 0, 0⟩ 0 := ⟨rfl, rfl, rfl, rfl, rfl, (fun r h => absurd h (Nat.not_lt_zero r)), ⟨rfl, rfl⟩, rfl, rfl, rfl⟩
theorem LP.next {s : DS} {t : PS} {k : Nat} (h : LP s t k) (hk : k < 10) (xs : List Nat) : LP (s.tick.wrote (2 + k) xs) (t.set (2 + k) 2) (k + 1) := by
  have haf := h.af
  have e0 : s.tick = s := tick_none (by omega)
  rw [e0]
  have ets : (t.set (2 + k) 2).st = pst (k + 1) := by
    show t.st.set (2 + k) 2 = _
    rw [h.ts]
    exact pst_next ⟨k, by omega⟩
  refine ⟨h.n20, by rw [wrote_m, h.mm], h.dn, h.af, h.lf, fun r hr => ?_, h.k0, h.tl, ets, by rw [ets]; exact pst_low ⟨k + 1, by omega⟩⟩
  rw [wrote_m] at hr
  rcases Nat.lt_or_ge r s.m with h1 | h1
  · rw [wrote_at s _ xs h1]; exact h.at2 r h1
  · obtain rfl : r = s.m := by omega
    rw [wrote_at_m]; omega
/-- A block to which no open write goes is left as it is. -/
theorem setK_none (s : DS) (keep : Nat) (torn cut : Int) (b : Nat) : ∀ k, (∀ r, r < k → s.at_ r ≠ b) → s.setK keep torn cut k b = s.K b
  | 0, _ => rfl
  | k + 1, h => by
    rw [DS.setK, if_neg (fun e => h k (by omega) e.symm)]
    exact setK_none s keep torn cut b k (fun r hr => h r (by omega))
structure LQ (s : DS) (d : Bool) : Prop where
  n20 : s.n = 20
  dn : s.down = d
  lf : s.life = 1
  m0 : s.opens = []
  k0 : s.K 0 = [] ∧ s.K 1 = []
theorem lost_cut {s : DS} {t : PS} {k : Nat} (h : LP s t k) (keep : Nat) (torn cut : Int) : LQ (s.cutS keep torn cut) true := by
  have e : s.cutS keep torn cut = s.lose keep torn cut := by unfold DS.cutS; rw [h.dn]; rfl
  have hl := lose_n s keep torn cut
  rw [e]
  refine ⟨by rw [hl.1, h.n20], hl.2.2.1, by rw [hl.2.2.2, h.lf]; rfl, rfl, ?_, ?_⟩
  · show (s.settle keep torn cut).K 0 = []
    rw [settle_K _ _ _ _ _ (by rw [h.n20]; omega), setK_none s _ _ _ 0 s.m (fun r hr => by have := h.at2 r hr; omega)]
    exact h.k0.1
  · show (s.settle keep torn cut).K 1 = []
    rw [settle_K _ _ _ _ _ (by rw [h.n20]; omega), setK_none s _ _ _ 1 s.m (fun r hr => by have := h.at2 r hr; omega)]
    exact h.k0.2
structure LR (s : DS) : Prop extends LQ s false where
  last : lastH (rdH (pad (s.show 0)) s.n) (rdH (pad (s.show 1)) s.n) = some (0, 0)
theorem lost_up {s : DS} (h : LQ s true) : LR s.restart := by
  have e : s.restart = s.up := by unfold DS.restart; rw [h.dn]; rfl
  rw [e]
  have k0 : s.up.show 0 = [] := by
    have : s.up.show 0 = s.show 0 := show_of rfl rfl 0
    rw [this]
    have e2 : s.show 0 = s.K 0 := by unfold DS.show DS.idx DS.m; rw [h.m0]; rfl
    rw [e2, h.k0.1]
  have k1 : s.up.show 1 = [] := by
    have : s.up.show 1 = s.show 1 := show_of rfl rfl 1
    rw [this]
    have e2 : s.show 1 = s.K 1 := by unfold DS.show DS.idx DS.m; rw [h.m0]; rfl
    rw [e2, h.k0.2]
  refine ⟨⟨h.n20, rfl, h.lf, h.m0, h.k0⟩, ?_⟩
  rw [k0, k1, rdH_zero]
  exact lastH_zero

set_option maxRecDepth 100000 in
set_option maxHeartbeats 8000000 in
theorem pageLost_walk (a1 : Option Addr) (T cap1 b1 o1 : Nat) (A : Nat → Option Addr) (L C : Nat → Nat) (tf : Nat → List Nat) (a2 : Option Addr) (n2 cap2 : Nat) (lq : Nat → LV) (w : World) (h1 : TXS w a1 T 100 b1 o1 A L C tf) (h2 : LS w a2 n2 7 3 lq) :
    Calls Try.prog 8 #[.slice a1 T cap1, .slice a2 n2 cap2] w fun e w' => e = .returned (.bool true) ∧ Below w.heap.size w w' := by
  have HB0 : Hid (w.heap.size ≤ w.heap.size) := Nat.le_refl _
  have H1 := hide h1
  have H2 := hide h2
  have t63 := h1.hl
  have n63 := h2.hl
  have hz : ∀ ww, (zeroValue 38).run Try.prog ww = .ok (.agg #[.int .i64 0, .int .u64 0, .int .i64 0, .int .i64 0]) ww := fun ww => by kernel_rfl
  obtain ⟨s0, hs0⟩ : ∃ s, s = DS.new 20 := ⟨_, rfl⟩
  obtain ⟨t0, ht0⟩ : ∃ t : PS, t = ⟨newSt 20, 0, 0, 0⟩ := ⟨_, rfl⟩
  have HP0 : Hid (LP s0 t0 0) := by rw [hs0, ht0]; exact lp_start
  have HL0 : Hid (lastH (rdH (pad (s0.show 0)) s0.n) (rdH (pad (s0.show 1)) s0.n) = some (0, 0)) := by
    show _ = _
    rw [hs0]
    show lastH (rdH (pad []) _) (rdH (pad []) _) = _
    rw [rdH_zero]
    exact lastH_zero
  have HS0 := hide hs0
  have HT0 := hide ht0
  clear hs0 ht0 h1 h2
  go_enter Try.func8, Try.ntmps8
  go_wp2_with fail
  refine (new_any w.heap.size 20 w (by omega) (by omega) HB0.out).mono ?_
  rintro e w1 ⟨p, rfl, hD1, hb1⟩
  rw [← HS0.out] at hD1
  have HD1 := hide hD1
  have HF1 := hide (Fp.of hb1 HB0.out)
  clear hD1 hb1
  go_wp2_with fail
  refine (open_ok w.heap.size p s0 0 0 w1 HD1.out HF1.out.bel.size HP0.out.dn (by rw [HP0.out.n20]; omega) HL0.out (by omega) (by omega)).mono ?_
  rintro e w2 ⟨q, rfl, hS2, hb2⟩
  rw [HP0.out.n20, HP0.out.lf, ← HT0.out] at hS2
  have HS2 := hide hS2
  have HF2 := hide (HF1.out.trans (Fp.of hb2 HF1.out.bel.size))
  clear hS2 hb2 HD1 HF1
  go_wp2_with fail
  go_loopw [9] (fun i wr => ∃ k : Nat, k ≤ 10 ∧ i = .int .i64 k ∧ ∃ s t, LP s t k ∧ ST w.heap.size p q s t wr ∧ Fp w.heap.size w wr) (fun i _ => 10 - (intOf i).toNat)
  case atStart => exact ⟨0, by omega, rfl, s0, t0, HP0.out, HS2.out, HF2.out⟩
  case round =>
    clear HS2 HF2 HP0 HL0 HS0 HT0 s0 t0
    obtain ⟨k, hk, rfl, s, t, hP, hS, hF⟩ := hrel
    have HSP := hide hP
    have HST := hide hS
    have HFP := hide hF
    clear hP hS hF
    by_cases hgo : k < T ∧ k < 10
    · have i1 : (k : Int) < (T : Int) := by omega
      have i2 : (k : Int) < 10 := by omega
      obtain rfl : a1 = some ⟨b1, o1, none⟩ := H1.out.place (by omega)
      have hc0 := H1.out.cell k hgo.1
      have HC0 := hide hc0
      have hcp := H1.out.cap k hgo.1
      have HBS := hide (H1.out.bs k hgo.1)
      generalize A k = aa at *
      generalize L k = ll at *
      generalize C k = cc at *
      generalize tf k = xs at *
      obtain ⟨m, hm⟩ : ∃ m, m = min ll 100 := ⟨_, rfl⟩
      rw [← hm] at HBS
      have e0 : (if (100 : Int) < (ll : Int) then (100 : Int) else (ll : Int)) = (m : Int) := by split <;> omega
      have em : min (ll : Int) 100 = (m : Int) := by omega
      have u0 : (0 : Int) ≤ (m : Int) := by omega
      have v0 : (m : Int) ≤ (cc : Int) := by omega
      have m100 : m ≤ 100 := by omega
      have y0 : (cc : Int) ≤ 9223372036854775807 := by omega
      have k10 : k < 10 := hgo.2
      have HX : Hid ((fun wx => wx.cell? ⟨b1, o1 + k, none⟩ = some (.slice aa ll cc)) wr) := (HFP.out.bel.cell (cell_lt hc0)).trans hc0
      clear hgo hm hc0 hcp
      go_wp2_with fail
      refine wp_region_noPanic ?_
      refine wp_region_held_drew (S := fun wx => wx.cell? ⟨b1, o1 + k, none⟩ = some (.slice aa ll cc)) (by kernel_rfl) HX.out (fun hHeld => ?_)
      refine wpAnyH_takeAt (i := 0) (d := 45) (v := ?vx0) (by kernel_rfl) (by kernel_rfl) (by kernel_rfl) (by kernel_rfl) (fun _ _ _ h => h) ?hyx0 (by assumption) ?restx0
      case hyx0 =>
        intro oi ho
        simp only [List.getElem?_toArray, List.getElem?_cons_zero, Option.some.injEq] at ho
        subst ho
        refine Or.inl ⟨by rfl, ?_⟩
        intro wx hSw
        try dsimp only at hSw
        go_simp
        try rfl
      try simp only [Act.put, List.setIfInBounds_toArray, List.set_cons_zero, List.set_cons_succ]
      refine wpAnyH_takeAt (i := 1) (d := 46) (v := ?vx1) (by kernel_rfl) (by kernel_rfl) (by kernel_rfl) (by kernel_rfl) (fun _ _ _ h => h) ?hyx1 (by assumption) ?restx1
      case hyx1 =>
        intro oi ho
        simp only [List.getElem?_toArray, List.getElem?_cons_succ, List.getElem?_cons_zero, Option.some.injEq] at ho
        subst ho
        refine Or.inl ⟨by rfl, ?_⟩
        intro wx hSw
        try dsimp only at hSw
        go_simp
        try rfl
      try simp only [Act.put, List.setIfInBounds_toArray, List.set_cons_zero, List.set_cons_succ]
      refine wpAnyH_takeAt (i := 2) (d := 47) (v := ?vx2) (by kernel_rfl) (by kernel_rfl) (by kernel_rfl) (by kernel_rfl) (fun _ _ _ h => h) ?hyx2 (by assumption) ?restx2
      case hyx2 =>
        intro oi ho
        simp only [List.getElem?_toArray, List.getElem?_cons_succ, List.getElem?_cons_zero, Option.some.injEq] at ho
        subst ho
        refine Or.inl ⟨by rfl, ?_⟩
        intro wx hSw
        try dsimp only at hSw
        go_simp
        try rfl
      try simp only [Act.put, List.setIfInBounds_toArray, List.set_cons_zero, List.set_cons_succ]
      refine wpAnyH_takeAt (i := 3) (d := 48) (v := ?vx3) (by kernel_rfl) (by kernel_rfl) (by kernel_rfl) (by kernel_rfl) (fun _ _ _ h => h) ?hyx3 (by assumption) ?restx3
      case hyx3 =>
        intro oi ho
        simp only [List.getElem?_toArray, List.getElem?_cons_succ, List.getElem?_cons_zero, Option.some.injEq] at ho
        subst ho
        refine Or.inl ⟨by rfl, ?_⟩
        intro wx hSw
        try dsimp only at hSw
        go_simp
        try rfl
      try simp only [Act.put, List.setIfInBounds_toArray, List.set_cons_zero, List.set_cons_succ]
      refine wpAnyH_takeAt (i := 4) (d := 49) (v := ?vx4) (by kernel_rfl) (by kernel_rfl) (by kernel_rfl) (by kernel_rfl) (fun _ _ _ h => h) ?hyx4 (by assumption) ?restx4
      case hyx4 =>
        intro oi ho
        simp only [List.getElem?_toArray, List.getElem?_cons_succ, List.getElem?_cons_zero, Option.some.injEq] at ho
        subst ho
        refine Or.inl ⟨by rfl, ?_⟩
        intro wx hSw
        try dsimp only at hSw
        go_simp
        try rfl
      try simp only [Act.put, List.setIfInBounds_toArray, List.set_cons_zero, List.set_cons_succ]
      refine wpAnyH_takeAt (i := 5) (d := 50) (v := ?vx5) (by kernel_rfl) (by kernel_rfl) (by kernel_rfl) (by kernel_rfl) (fun _ _ _ h => h) ?hyx5 (by assumption) ?restx5
      case hyx5 =>
        intro oi ho
        simp only [List.getElem?_toArray, List.getElem?_cons_succ, List.getElem?_cons_zero, Option.some.injEq] at ho
        subst ho
        refine Or.inl ⟨by rfl, ?_⟩
        intro wx hSw
        try dsimp only at hSw
        go_simp
        try rfl
      try simp only [Act.put, List.setIfInBounds_toArray, List.set_cons_zero, List.set_cons_succ]
      refine wpAnyH_takeAt (i := 6) (d := 51) (v := ?vx6) (by kernel_rfl) (by kernel_rfl) (by kernel_rfl) (by kernel_rfl) (fun _ _ _ h => h) ?hyx6 (by assumption) ?restx6
      case hyx6 =>
        intro oi ho
        simp only [List.getElem?_toArray, List.getElem?_cons_succ, List.getElem?_cons_zero, Option.some.injEq] at ho
        subst ho
        refine Or.inl ⟨by rfl, ?_⟩
        intro wx hSw
        try dsimp only at hSw
        go_simp
        try rfl
      try simp only [Act.put, List.setIfInBounds_toArray, List.set_cons_zero, List.set_cons_succ]
      refine wpAnyH_takeAt (i := 7) (d := 52) (v := ?vx7) (by kernel_rfl) (by kernel_rfl) (by kernel_rfl) (by kernel_rfl) (fun _ _ _ h => h) ?hyx7 (by assumption) ?restx7
      case hyx7 =>
        intro oi ho
        simp only [List.getElem?_toArray, List.getElem?_cons_succ, List.getElem?_cons_zero, Option.some.injEq] at ho
        subst ho
        refine Or.inl ⟨by rfl, ?_⟩
        intro wx hSw
        try dsimp only at hSw
        go_simp
        try rfl
      try simp only [Act.put, List.setIfInBounds_toArray, List.set_cons_zero, List.set_cons_succ]
      refine wpAnyH_takeAt (i := 8) (d := 53) (v := ?vx8) (by kernel_rfl) (by kernel_rfl) (by kernel_rfl) (by kernel_rfl) (fun _ _ _ h => h) ?hyx8 (by assumption) ?restx8
      case hyx8 =>
        intro oi ho
        simp only [List.getElem?_toArray, List.getElem?_cons_succ, List.getElem?_cons_zero, Option.some.injEq] at ho
        subst ho
        refine Or.inl ⟨by rfl, ?_⟩
        intro wx hSw
        try dsimp only at hSw
        go_simp
        try rfl
      try simp only [Act.put, List.setIfInBounds_toArray, List.set_cons_zero, List.set_cons_succ]
      refine wpAnyH_takeAt (i := 9) (d := 54) (v := ?vx9) (by kernel_rfl) (by kernel_rfl) (by kernel_rfl) (by kernel_rfl) (fun _ _ _ h => h) ?hyx9 (by assumption) ?restx9
      case hyx9 =>
        intro oi ho
        simp only [List.getElem?_toArray, List.getElem?_cons_succ, List.getElem?_cons_zero, Option.some.injEq] at ho
        subst ho
        refine Or.inl ⟨by rfl, ?_⟩
        intro wx hSw
        try dsimp only at hSw
        go_simp
        try rfl
      try simp only [Act.put, List.setIfInBounds_toArray, List.set_cons_zero, List.set_cons_succ]
      refine wpAnyH_takeAt (i := 10) (d := 55) (v := ?vx10) (by kernel_rfl) (by kernel_rfl) (by kernel_rfl) (by kernel_rfl) (fun _ _ _ h => h) ?hyx10 (by assumption) ?restx10
      case hyx10 =>
        intro oi ho
        simp only [List.getElem?_toArray, List.getElem?_cons_succ, List.getElem?_cons_zero, Option.some.injEq] at ho
        subst ho
        refine Or.inl ⟨by rfl, ?_⟩
        intro wx hSw
        try dsimp only at hSw
        go_simp
        try rfl
      try simp only [Act.put, List.setIfInBounds_toArray, List.set_cons_zero, List.set_cons_succ]
      refine wpAnyH_takeAt (i := 11) (d := 56) (v := ?vx11) (by kernel_rfl) (by kernel_rfl) (by kernel_rfl) (by kernel_rfl) (fun _ _ _ h => h) ?hyx11 (by assumption) ?restx11
      case hyx11 =>
        intro oi ho
        simp only [List.getElem?_toArray, List.getElem?_cons_succ, List.getElem?_cons_zero, Option.some.injEq] at ho
        subst ho
        refine Or.inl ⟨by rfl, ?_⟩
        intro wx hSw
        try dsimp only at hSw
        go_simp
        try rfl
      try simp only [Act.put, List.setIfInBounds_toArray, List.set_cons_zero, List.set_cons_succ]
      refine wpAnyH_comesAt (i := 12) (by kernel_rfl) (by kernel_rfl) ?_
      intro o ho K hK
      simp only [List.getElem?_toArray, List.getElem?_cons_succ, List.getElem?_cons_zero, Option.some.injEq] at ho
      subst ho
      go_simp
      refine (put_ok aa m cc xs (2 + k) (HST.out.later ((Below.refl _ _).drew)) HFP.out.bel.size (by rw [HSP.out.lf, HSP.out.tl]) (by omega) HSP.out.low (by rw [HSP.out.n20]; omega) HSP.out.dn (by rw [HSP.out.af]; omega) (by rw [HSP.out.lf]; omega) (by rw [HSP.out.mm]; omega) (HBS.out.later (HFP.out.bel.drew) (Nat.le_refl _))).mono ?_
      rintro e w4 ⟨rfl, hS4, hF4⟩
      have HS4 := hide hS4
      have HF4 := hide (HFP.out.trans ((Fp.of ((Below.refl _ wr).drew) HFP.out.bel.size).trans hF4))
      have HX4 : Hid ((fun wx => wx.cell? ⟨b1, o1 + k, none⟩ = some (.slice aa ll cc)) w4) := (HF4.out.bel.cell (cell_lt HC0.out)).trans HC0.out
      clear hS4 hF4 hHeld
      refine hK.out _ _ HX4.out (fun hHeld => ?_)
      clear hK K
      try simp only [Act.put, List.setIfInBounds_toArray, List.set_cons_zero, List.set_cons_succ]
      refine wpAnyH_done (by kernel_rfl) ?_ _
      refine NoPanic.normal ?_
      have HN := hide (HSP.out.next k10 (laidP xs))
      go_wp2
      go_roundw
      case rel => exact ⟨k + 1, by omega, by go_num, _, _, HN.out, HS4.out, HF4.out⟩
      case measure => simp [intOf]; omega
    · have hgo2 : ¬ (k : Int) < (T : Int) ∨ ((k : Int) < (T : Int) ∧ ¬ (k : Int) < 10) := by omega
      clear hgo
      have X0 := hide (below_box wr (.cells #[.int .i64 0, .int .u64 0, .int .i64 (-1), .int .i64 0] 38))
      by_cases hn2 : 0 < n2
      · obtain ⟨b, o, rfl, hcs⟩ := H2.out.place hn2
        have hc := hcs 0 hn2
        simp only [Nat.zero_mul, Nat.add_zero] at hc
        generalize lq 0 = lv at *
        obtain ⟨la, lk, lt, lc⟩ := lv
        have HLK := hide hc.keep
        have d0 := (X0.out.cell (Nat.lt_of_lt_of_le (cell_lt hc.c0) HFP.out.bel.size)).trans ((HFP.out.bel.cell (cell_lt hc.c0)).trans hc.c0)
        have d1 := (X0.out.cell (Nat.lt_of_lt_of_le (cell_lt hc.c1) HFP.out.bel.size)).trans ((HFP.out.bel.cell (cell_lt hc.c1)).trans hc.c1)
        have d2 := (X0.out.cell (Nat.lt_of_lt_of_le (cell_lt hc.c2) HFP.out.bel.size)).trans ((HFP.out.bel.cell (cell_lt hc.c2)).trans hc.c2)
        have d3 := (X0.out.cell (Nat.lt_of_lt_of_le (cell_lt hc.c3) HFP.out.bel.size)).trans ((HFP.out.bel.cell (cell_lt hc.c3)).trans hc.c3)
        simp only at d0 d1 d2 d3
        have X2 := hide (below_box wr (.cells #[.int .i64 la, .int .u64 (lk : Int), .int .i64 lt, .int .i64 lc] 38))
        have HST2 := hide (HST.out.later X2.out)
        have HFP2 := hide (HFP.out.trans (Fp.of X2.out HFP.out.bel.size))
        have HBZ := hide HFP2.out.bel.size
        have i5 : (0 : Int) < (n2 : Int) := by omega
        clear hc hcs hn2
        rcases hgo2 with i1 | ⟨i1, i2⟩
        · skip
          go_wp2_with fail
          refine (cut_any w.heap.size p s la lk lt lc _ HST2.out.1 HBZ.out HLK.out (by rw [HSP.out.lf]; omega)).mono ?_
          rintro e w3 ⟨rfl, hD3, hF3⟩
          have HST3 := hide (HST2.out.disk hD3 hF3)
          have HF3 := hide (HFP2.out.trans (Fp.ofFr hF3))
          have HCS := hide (lost_cut HSP.out lk lt lc)
          generalize s.cutS lk lt lc = s3 at *
          clear hD3 hF3
          have HNE : Hid (s3.life ≠ t.life) := by show _ ≠ _; rw [HCS.out.lf, HSP.out.tl]; omega
          go_wp2_with fail
          refine (put_dead (.slice none 0 0) HST3.out HNE.out).mono ?_
          rintro e w4 ⟨rfl, hb⟩
          have HST4 := hide (HST3.out.later hb)
          have HF4 := hide (HF3.out.trans (Fp.of hb HF3.out.bel.size))
          clear hb
          go_wp2_with fail
          refine (get_dead 2 HST4.out HNE.out).mono ?_
          rintro e w5 ⟨rfl, hb⟩
          have HST5 := hide (HST4.out.later hb)
          have HF5 := hide (HF4.out.trans (Fp.of hb HF4.out.bel.size))
          clear hb
          go_wp2_with fail
          refine (commit_dead 0 HST5.out HNE.out).mono ?_
          rintro e w6 ⟨rfl, hb⟩
          have HST6 := hide (HST5.out.later hb)
          have HF6 := hide (HF5.out.trans (Fp.of hb HF5.out.bel.size))
          clear hb
          go_wp2_with fail
          refine (free_dead 2 HST6.out HNE.out).mono ?_
          rintro e w7 ⟨rfl, hb⟩
          have HST7 := hide (HST6.out.later hb)
          have HF7 := hide (HF6.out.trans (Fp.of hb HF6.out.bel.size))
          clear hb
          have HBX := hide (below_box w7 (.cells #[.int .i64 2] 3))
          go_wp2_with fail
          refine (hold_dead _ (HST7.out.later HBX.out) HNE.out).mono ?_
          rintro e w8 ⟨rfl, hb⟩
          have HB8 := hide (HBX.out.trans (hb.mono HBX.out.size))
          have HST8 := hide (HST7.out.later HB8.out)
          have HF8 := hide (HF7.out.trans (Fp.of HB8.out HF7.out.bel.size))
          clear hb HBX HB8
          go_wp2_with fail
          refine (dead_yes HST8.out HNE.out).mono ?_
          rintro e w9 ⟨rfl, hb⟩
          have HST9 := hide (HST8.out.later hb)
          have HF9 := hide (HF8.out.trans (Fp.of hb HF8.out.bel.size))
          clear hb
          go_wp2_with fail
          refine (open_down w.heap.size p s3 _ HST9.out.1 (by rw [HCS.out.n20]; omega) HCS.out.dn).mono ?_
          rintro e w10 ⟨rfl, hb⟩
          have HST10 := hide (HST9.out.later hb)
          have HF10 := hide (HF9.out.trans (Fp.of hb HF9.out.bel.size))
          clear hb
          go_wp2_with fail
          refine (restart_any w.heap.size p s3 _ HST10.out.1 HF10.out.bel.size).mono ?_
          rintro e w11 ⟨rfl, hD11, hF11⟩
          have HST11 := hide (HST10.out.disk hD11 hF11)
          have HF11 := hide (HF10.out.trans (Fp.ofFr hF11))
          have HCU := hide (lost_up HCS.out)
          generalize s3.restart = s4 at *
          clear hD11 hF11
          have HNE4 : Hid (s4.life ≠ t.life) := by show _ ≠ _; rw [HCU.out.lf, HSP.out.tl]; omega
          go_wp2_with fail
          refine (dead_yes HST11.out HNE4.out).mono ?_
          rintro e w12 ⟨rfl, hb⟩
          have HD12 := hide (HST11.out.1.later hb)
          have HF12 := hide (HF11.out.trans (Fp.of hb HF11.out.bel.size))
          clear hb
          go_wp2_with fail
          refine (open_ok w.heap.size p s4 0 0 w12 HD12.out HF12.out.bel.size HCU.out.dn (by rw [HCU.out.n20]; omega) HCU.out.last (by omega) (by omega)).mono ?_
          rintro e w13 ⟨q2, rfl, hS13, hb⟩
          have HST13 := hide hS13
          have HF13 := hide (HF12.out.trans (Fp.of hb HF12.out.bel.size))
          clear hS13 hb
          go_wp2_with fail
          refine (told_any w13).mono ?_
          rintro e w14 ⟨rfl, hb⟩
          have HST14 := hide (HST13.out.later hb)
          have HF14 := hide (HF13.out.trans (Fp.of hb HF13.out.bel.size))
          clear hb
          have HLF := hide (left_any HST14.out)
          have HNM := hide (number_any HST14.out)
          have HRT := hide (root_any HST14.out)
          have HDN := hide (dead_no HST14.out rfl)
          have HC18 : Hid (cntF (newSt s4.n) = 18) := by show _ = _; rw [HCU.out.n20]; rfl
          simp only [HC18.out] at HLF
          go_wp2_with fail
          refine HLF.out.mono ?_
          rintro e w15 ⟨rfl, hq⟩
          have hq := hq.symm
          subst hq
          go_wp2_with fail
          refine HNM.out.mono ?_
          rintro e w16 ⟨rfl, hq⟩
          have hq := hq.symm
          subst hq
          go_wp2_with fail
          refine HRT.out.mono ?_
          rintro e w17 ⟨rfl, hq⟩
          have hq := hq.symm
          subst hq
          go_wp2_with fail
          refine HDN.out.mono ?_
          rintro e w18 ⟨rfl, hb⟩
          have HF18 := hide (HF14.out.trans (Fp.of hb HF14.out.bel.size))
          clear hb
          go_wp2
          go_ret
          exact ⟨rfl, HF18.out.bel⟩
        · skip
          go_wp2_with fail
          refine (cut_any w.heap.size p s la lk lt lc _ HST2.out.1 HBZ.out HLK.out (by rw [HSP.out.lf]; omega)).mono ?_
          rintro e w3 ⟨rfl, hD3, hF3⟩
          have HST3 := hide (HST2.out.disk hD3 hF3)
          have HF3 := hide (HFP2.out.trans (Fp.ofFr hF3))
          have HCS := hide (lost_cut HSP.out lk lt lc)
          generalize s.cutS lk lt lc = s3 at *
          clear hD3 hF3
          have HNE : Hid (s3.life ≠ t.life) := by show _ ≠ _; rw [HCS.out.lf, HSP.out.tl]; omega
          go_wp2_with fail
          refine (put_dead (.slice none 0 0) HST3.out HNE.out).mono ?_
          rintro e w4 ⟨rfl, hb⟩
          have HST4 := hide (HST3.out.later hb)
          have HF4 := hide (HF3.out.trans (Fp.of hb HF3.out.bel.size))
          clear hb
          go_wp2_with fail
          refine (get_dead 2 HST4.out HNE.out).mono ?_
          rintro e w5 ⟨rfl, hb⟩
          have HST5 := hide (HST4.out.later hb)
          have HF5 := hide (HF4.out.trans (Fp.of hb HF4.out.bel.size))
          clear hb
          go_wp2_with fail
          refine (commit_dead 0 HST5.out HNE.out).mono ?_
          rintro e w6 ⟨rfl, hb⟩
          have HST6 := hide (HST5.out.later hb)
          have HF6 := hide (HF5.out.trans (Fp.of hb HF5.out.bel.size))
          clear hb
          go_wp2_with fail
          refine (free_dead 2 HST6.out HNE.out).mono ?_
          rintro e w7 ⟨rfl, hb⟩
          have HST7 := hide (HST6.out.later hb)
          have HF7 := hide (HF6.out.trans (Fp.of hb HF6.out.bel.size))
          clear hb
          have HBX := hide (below_box w7 (.cells #[.int .i64 2] 3))
          go_wp2_with fail
          refine (hold_dead _ (HST7.out.later HBX.out) HNE.out).mono ?_
          rintro e w8 ⟨rfl, hb⟩
          have HB8 := hide (HBX.out.trans (hb.mono HBX.out.size))
          have HST8 := hide (HST7.out.later HB8.out)
          have HF8 := hide (HF7.out.trans (Fp.of HB8.out HF7.out.bel.size))
          clear hb HBX HB8
          go_wp2_with fail
          refine (dead_yes HST8.out HNE.out).mono ?_
          rintro e w9 ⟨rfl, hb⟩
          have HST9 := hide (HST8.out.later hb)
          have HF9 := hide (HF8.out.trans (Fp.of hb HF8.out.bel.size))
          clear hb
          go_wp2_with fail
          refine (open_down w.heap.size p s3 _ HST9.out.1 (by rw [HCS.out.n20]; omega) HCS.out.dn).mono ?_
          rintro e w10 ⟨rfl, hb⟩
          have HST10 := hide (HST9.out.later hb)
          have HF10 := hide (HF9.out.trans (Fp.of hb HF9.out.bel.size))
          clear hb
          go_wp2_with fail
          refine (restart_any w.heap.size p s3 _ HST10.out.1 HF10.out.bel.size).mono ?_
          rintro e w11 ⟨rfl, hD11, hF11⟩
          have HST11 := hide (HST10.out.disk hD11 hF11)
          have HF11 := hide (HF10.out.trans (Fp.ofFr hF11))
          have HCU := hide (lost_up HCS.out)
          generalize s3.restart = s4 at *
          clear hD11 hF11
          have HNE4 : Hid (s4.life ≠ t.life) := by show _ ≠ _; rw [HCU.out.lf, HSP.out.tl]; omega
          go_wp2_with fail
          refine (dead_yes HST11.out HNE4.out).mono ?_
          rintro e w12 ⟨rfl, hb⟩
          have HD12 := hide (HST11.out.1.later hb)
          have HF12 := hide (HF11.out.trans (Fp.of hb HF11.out.bel.size))
          clear hb
          go_wp2_with fail
          refine (open_ok w.heap.size p s4 0 0 w12 HD12.out HF12.out.bel.size HCU.out.dn (by rw [HCU.out.n20]; omega) HCU.out.last (by omega) (by omega)).mono ?_
          rintro e w13 ⟨q2, rfl, hS13, hb⟩
          have HST13 := hide hS13
          have HF13 := hide (HF12.out.trans (Fp.of hb HF12.out.bel.size))
          clear hS13 hb
          go_wp2_with fail
          refine (told_any w13).mono ?_
          rintro e w14 ⟨rfl, hb⟩
          have HST14 := hide (HST13.out.later hb)
          have HF14 := hide (HF13.out.trans (Fp.of hb HF13.out.bel.size))
          clear hb
          have HLF := hide (left_any HST14.out)
          have HNM := hide (number_any HST14.out)
          have HRT := hide (root_any HST14.out)
          have HDN := hide (dead_no HST14.out rfl)
          have HC18 : Hid (cntF (newSt s4.n) = 18) := by show _ = _; rw [HCU.out.n20]; rfl
          simp only [HC18.out] at HLF
          go_wp2_with fail
          refine HLF.out.mono ?_
          rintro e w15 ⟨rfl, hq⟩
          have hq := hq.symm
          subst hq
          go_wp2_with fail
          refine HNM.out.mono ?_
          rintro e w16 ⟨rfl, hq⟩
          have hq := hq.symm
          subst hq
          go_wp2_with fail
          refine HRT.out.mono ?_
          rintro e w17 ⟨rfl, hq⟩
          have hq := hq.symm
          subst hq
          go_wp2_with fail
          refine HDN.out.mono ?_
          rintro e w18 ⟨rfl, hb⟩
          have HF18 := hide (HF14.out.trans (Fp.of hb HF14.out.bel.size))
          clear hb
          go_wp2
          go_ret
          exact ⟨rfl, HF18.out.bel⟩
      · have i5 : ¬ (0 : Int) < (n2 : Int) := by omega
        obtain ⟨la, hla⟩ : ∃ la : Int, la = 0 := ⟨_, rfl⟩
        obtain ⟨lk, hlk⟩ : ∃ lk : Nat, lk = 0 := ⟨_, rfl⟩
        obtain ⟨lt, hlt⟩ : ∃ lt : Int, lt = -1 := ⟨_, rfl⟩
        obtain ⟨lc, hlc⟩ : ∃ lc : Int, lc = 0 := ⟨_, rfl⟩
        have HLK : Hid (lk < 18446744073709551616) := by show _ < _; omega
        have HST2 := hide (HST.out.later X0.out)
        have HFP2 := hide (HFP.out.trans (Fp.of X0.out HFP.out.bel.size))
        have HBZ := hide HFP2.out.bel.size
        have HV := hide (And.intro hla (And.intro hlk (And.intro hlt hlc)))
        clear hn2 hla hlk hlt hlc
        rcases hgo2 with i1 | ⟨i1, i2⟩
        · skip
          go_wp2_with fail
          rw [show (Value.agg #[Value.int .i64 0, .int .u64 0, .int .i64 (-1), .int .i64 0]) = .agg #[.int .i64 la, .int .u64 (lk : Int), .int .i64 lt, .int .i64 lc] by rw [HV.out.1, HV.out.2.1, HV.out.2.2.1, HV.out.2.2.2]; rfl]
          refine (cut_any w.heap.size p s la lk lt lc _ HST2.out.1 HBZ.out HLK.out (by rw [HSP.out.lf]; omega)).mono ?_
          rintro e w3 ⟨rfl, hD3, hF3⟩
          have HST3 := hide (HST2.out.disk hD3 hF3)
          have HF3 := hide (HFP2.out.trans (Fp.ofFr hF3))
          have HCS := hide (lost_cut HSP.out lk lt lc)
          generalize s.cutS lk lt lc = s3 at *
          clear hD3 hF3
          have HNE : Hid (s3.life ≠ t.life) := by show _ ≠ _; rw [HCS.out.lf, HSP.out.tl]; omega
          go_wp2_with fail
          refine (put_dead (.slice none 0 0) HST3.out HNE.out).mono ?_
          rintro e w4 ⟨rfl, hb⟩
          have HST4 := hide (HST3.out.later hb)
          have HF4 := hide (HF3.out.trans (Fp.of hb HF3.out.bel.size))
          clear hb
          go_wp2_with fail
          refine (get_dead 2 HST4.out HNE.out).mono ?_
          rintro e w5 ⟨rfl, hb⟩
          have HST5 := hide (HST4.out.later hb)
          have HF5 := hide (HF4.out.trans (Fp.of hb HF4.out.bel.size))
          clear hb
          go_wp2_with fail
          refine (commit_dead 0 HST5.out HNE.out).mono ?_
          rintro e w6 ⟨rfl, hb⟩
          have HST6 := hide (HST5.out.later hb)
          have HF6 := hide (HF5.out.trans (Fp.of hb HF5.out.bel.size))
          clear hb
          go_wp2_with fail
          refine (free_dead 2 HST6.out HNE.out).mono ?_
          rintro e w7 ⟨rfl, hb⟩
          have HST7 := hide (HST6.out.later hb)
          have HF7 := hide (HF6.out.trans (Fp.of hb HF6.out.bel.size))
          clear hb
          have HBX := hide (below_box w7 (.cells #[.int .i64 2] 3))
          go_wp2_with fail
          refine (hold_dead _ (HST7.out.later HBX.out) HNE.out).mono ?_
          rintro e w8 ⟨rfl, hb⟩
          have HB8 := hide (HBX.out.trans (hb.mono HBX.out.size))
          have HST8 := hide (HST7.out.later HB8.out)
          have HF8 := hide (HF7.out.trans (Fp.of HB8.out HF7.out.bel.size))
          clear hb HBX HB8
          go_wp2_with fail
          refine (dead_yes HST8.out HNE.out).mono ?_
          rintro e w9 ⟨rfl, hb⟩
          have HST9 := hide (HST8.out.later hb)
          have HF9 := hide (HF8.out.trans (Fp.of hb HF8.out.bel.size))
          clear hb
          go_wp2_with fail
          refine (open_down w.heap.size p s3 _ HST9.out.1 (by rw [HCS.out.n20]; omega) HCS.out.dn).mono ?_
          rintro e w10 ⟨rfl, hb⟩
          have HST10 := hide (HST9.out.later hb)
          have HF10 := hide (HF9.out.trans (Fp.of hb HF9.out.bel.size))
          clear hb
          go_wp2_with fail
          refine (restart_any w.heap.size p s3 _ HST10.out.1 HF10.out.bel.size).mono ?_
          rintro e w11 ⟨rfl, hD11, hF11⟩
          have HST11 := hide (HST10.out.disk hD11 hF11)
          have HF11 := hide (HF10.out.trans (Fp.ofFr hF11))
          have HCU := hide (lost_up HCS.out)
          generalize s3.restart = s4 at *
          clear hD11 hF11
          have HNE4 : Hid (s4.life ≠ t.life) := by show _ ≠ _; rw [HCU.out.lf, HSP.out.tl]; omega
          go_wp2_with fail
          refine (dead_yes HST11.out HNE4.out).mono ?_
          rintro e w12 ⟨rfl, hb⟩
          have HD12 := hide (HST11.out.1.later hb)
          have HF12 := hide (HF11.out.trans (Fp.of hb HF11.out.bel.size))
          clear hb
          go_wp2_with fail
          refine (open_ok w.heap.size p s4 0 0 w12 HD12.out HF12.out.bel.size HCU.out.dn (by rw [HCU.out.n20]; omega) HCU.out.last (by omega) (by omega)).mono ?_
          rintro e w13 ⟨q2, rfl, hS13, hb⟩
          have HST13 := hide hS13
          have HF13 := hide (HF12.out.trans (Fp.of hb HF12.out.bel.size))
          clear hS13 hb
          go_wp2_with fail
          refine (told_any w13).mono ?_
          rintro e w14 ⟨rfl, hb⟩
          have HST14 := hide (HST13.out.later hb)
          have HF14 := hide (HF13.out.trans (Fp.of hb HF13.out.bel.size))
          clear hb
          have HLF := hide (left_any HST14.out)
          have HNM := hide (number_any HST14.out)
          have HRT := hide (root_any HST14.out)
          have HDN := hide (dead_no HST14.out rfl)
          have HC18 : Hid (cntF (newSt s4.n) = 18) := by show _ = _; rw [HCU.out.n20]; rfl
          simp only [HC18.out] at HLF
          go_wp2_with fail
          refine HLF.out.mono ?_
          rintro e w15 ⟨rfl, hq⟩
          have hq := hq.symm
          subst hq
          go_wp2_with fail
          refine HNM.out.mono ?_
          rintro e w16 ⟨rfl, hq⟩
          have hq := hq.symm
          subst hq
          go_wp2_with fail
          refine HRT.out.mono ?_
          rintro e w17 ⟨rfl, hq⟩
          have hq := hq.symm
          subst hq
          go_wp2_with fail
          refine HDN.out.mono ?_
          rintro e w18 ⟨rfl, hb⟩
          have HF18 := hide (HF14.out.trans (Fp.of hb HF14.out.bel.size))
          clear hb
          go_wp2
          go_ret
          exact ⟨rfl, HF18.out.bel⟩
        · skip
          go_wp2_with fail
          rw [show (Value.agg #[Value.int .i64 0, .int .u64 0, .int .i64 (-1), .int .i64 0]) = .agg #[.int .i64 la, .int .u64 (lk : Int), .int .i64 lt, .int .i64 lc] by rw [HV.out.1, HV.out.2.1, HV.out.2.2.1, HV.out.2.2.2]; rfl]
          refine (cut_any w.heap.size p s la lk lt lc _ HST2.out.1 HBZ.out HLK.out (by rw [HSP.out.lf]; omega)).mono ?_
          rintro e w3 ⟨rfl, hD3, hF3⟩
          have HST3 := hide (HST2.out.disk hD3 hF3)
          have HF3 := hide (HFP2.out.trans (Fp.ofFr hF3))
          have HCS := hide (lost_cut HSP.out lk lt lc)
          generalize s.cutS lk lt lc = s3 at *
          clear hD3 hF3
          have HNE : Hid (s3.life ≠ t.life) := by show _ ≠ _; rw [HCS.out.lf, HSP.out.tl]; omega
          go_wp2_with fail
          refine (put_dead (.slice none 0 0) HST3.out HNE.out).mono ?_
          rintro e w4 ⟨rfl, hb⟩
          have HST4 := hide (HST3.out.later hb)
          have HF4 := hide (HF3.out.trans (Fp.of hb HF3.out.bel.size))
          clear hb
          go_wp2_with fail
          refine (get_dead 2 HST4.out HNE.out).mono ?_
          rintro e w5 ⟨rfl, hb⟩
          have HST5 := hide (HST4.out.later hb)
          have HF5 := hide (HF4.out.trans (Fp.of hb HF4.out.bel.size))
          clear hb
          go_wp2_with fail
          refine (commit_dead 0 HST5.out HNE.out).mono ?_
          rintro e w6 ⟨rfl, hb⟩
          have HST6 := hide (HST5.out.later hb)
          have HF6 := hide (HF5.out.trans (Fp.of hb HF5.out.bel.size))
          clear hb
          go_wp2_with fail
          refine (free_dead 2 HST6.out HNE.out).mono ?_
          rintro e w7 ⟨rfl, hb⟩
          have HST7 := hide (HST6.out.later hb)
          have HF7 := hide (HF6.out.trans (Fp.of hb HF6.out.bel.size))
          clear hb
          have HBX := hide (below_box w7 (.cells #[.int .i64 2] 3))
          go_wp2_with fail
          refine (hold_dead _ (HST7.out.later HBX.out) HNE.out).mono ?_
          rintro e w8 ⟨rfl, hb⟩
          have HB8 := hide (HBX.out.trans (hb.mono HBX.out.size))
          have HST8 := hide (HST7.out.later HB8.out)
          have HF8 := hide (HF7.out.trans (Fp.of HB8.out HF7.out.bel.size))
          clear hb HBX HB8
          go_wp2_with fail
          refine (dead_yes HST8.out HNE.out).mono ?_
          rintro e w9 ⟨rfl, hb⟩
          have HST9 := hide (HST8.out.later hb)
          have HF9 := hide (HF8.out.trans (Fp.of hb HF8.out.bel.size))
          clear hb
          go_wp2_with fail
          refine (open_down w.heap.size p s3 _ HST9.out.1 (by rw [HCS.out.n20]; omega) HCS.out.dn).mono ?_
          rintro e w10 ⟨rfl, hb⟩
          have HST10 := hide (HST9.out.later hb)
          have HF10 := hide (HF9.out.trans (Fp.of hb HF9.out.bel.size))
          clear hb
          go_wp2_with fail
          refine (restart_any w.heap.size p s3 _ HST10.out.1 HF10.out.bel.size).mono ?_
          rintro e w11 ⟨rfl, hD11, hF11⟩
          have HST11 := hide (HST10.out.disk hD11 hF11)
          have HF11 := hide (HF10.out.trans (Fp.ofFr hF11))
          have HCU := hide (lost_up HCS.out)
          generalize s3.restart = s4 at *
          clear hD11 hF11
          have HNE4 : Hid (s4.life ≠ t.life) := by show _ ≠ _; rw [HCU.out.lf, HSP.out.tl]; omega
          go_wp2_with fail
          refine (dead_yes HST11.out HNE4.out).mono ?_
          rintro e w12 ⟨rfl, hb⟩
          have HD12 := hide (HST11.out.1.later hb)
          have HF12 := hide (HF11.out.trans (Fp.of hb HF11.out.bel.size))
          clear hb
          go_wp2_with fail
          refine (open_ok w.heap.size p s4 0 0 w12 HD12.out HF12.out.bel.size HCU.out.dn (by rw [HCU.out.n20]; omega) HCU.out.last (by omega) (by omega)).mono ?_
          rintro e w13 ⟨q2, rfl, hS13, hb⟩
          have HST13 := hide hS13
          have HF13 := hide (HF12.out.trans (Fp.of hb HF12.out.bel.size))
          clear hS13 hb
          go_wp2_with fail
          refine (told_any w13).mono ?_
          rintro e w14 ⟨rfl, hb⟩
          have HST14 := hide (HST13.out.later hb)
          have HF14 := hide (HF13.out.trans (Fp.of hb HF13.out.bel.size))
          clear hb
          have HLF := hide (left_any HST14.out)
          have HNM := hide (number_any HST14.out)
          have HRT := hide (root_any HST14.out)
          have HDN := hide (dead_no HST14.out rfl)
          have HC18 : Hid (cntF (newSt s4.n) = 18) := by show _ = _; rw [HCU.out.n20]; rfl
          simp only [HC18.out] at HLF
          go_wp2_with fail
          refine HLF.out.mono ?_
          rintro e w15 ⟨rfl, hq⟩
          have hq := hq.symm
          subst hq
          go_wp2_with fail
          refine HNM.out.mono ?_
          rintro e w16 ⟨rfl, hq⟩
          have hq := hq.symm
          subst hq
          go_wp2_with fail
          refine HRT.out.mono ?_
          rintro e w17 ⟨rfl, hq⟩
          have hq := hq.symm
          subst hq
          go_wp2_with fail
          refine HDN.out.mono ?_
          rintro e w18 ⟨rfl, hb⟩
          have HF18 := hide (HF14.out.trans (Fp.of hb HF14.out.bel.size))
          clear hb
          go_wp2
          go_ret
          exact ⟨rfl, HF18.out.bel⟩
end Go.Proofs.Ytdagpobgmaeboaa
