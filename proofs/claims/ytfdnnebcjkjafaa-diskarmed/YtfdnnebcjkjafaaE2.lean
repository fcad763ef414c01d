/- The walk of the law DiskArmed: whatever row of bools and whatever number, it returns true and writes nothing that was there. -/
import Derived.Test.YtfdnnebcjkjafaaE1
set_option linter.unusedVariables false
namespace Go.Proofs.Ytfdnnebcjkjafaa
open Go.RowKit

theorem arm_start (q : Nat) : ArmS ((DS.new 4).arm ((q : Int) + 1) 0 0 0) 0 (q + 1) :=
  ⟨rfl, Nat.le_refl _, Or.inl ⟨by omega, rfl, by show (q : Int) + 1 = _; omega, rfl⟩⟩
theorem restart_calm {s : DS} {k M : Nat} (h : ArmS s k M) (hk : k ≤ 24) : CalmS (s.restart.arm 0 0 0 0) ∧ (s.restart.arm 0 0 0 0).m ≤ 24 ∧ s.restart.life = (if M ≤ k then 1 else 0) ∧ s.restart.life < 100000 := by
  have hm := h.mle
  rcases h.st with ⟨h1, h2, h3, h4⟩ | ⟨h1, h2, h3⟩
  · have e : s.restart = s := by unfold DS.restart; simp only [h2, Bool.false_eq_true, if_false]
    have e2 : s.arm 0 0 0 0 = s.with 0 0 0 0 s.down s.life := by unfold DS.arm; simp only [h2, Bool.false_eq_true, if_false]
    rw [e, e2, if_neg (by omega)]
    exact ⟨⟨h.n4, by show s.m ≤ 100; omega, h2, rfl, by show s.life < 1000; omega⟩, by show s.m ≤ 24; omega, h4, by omega⟩
  · have e : s.restart = s.up := by unfold DS.restart; simp only [h2, if_true]
    have e2 : s.up.arm 0 0 0 0 = s.up.with 0 0 0 0 s.up.down s.up.life := by unfold DS.arm; rfl
    rw [e, e2, if_pos h1]
    exact ⟨⟨h.n4, by show s.m ≤ 100; omega, rfl, rfl, by show s.life < 1000; omega⟩, by show s.m ≤ 24; omega, h3, by show s.life < 100000; omega⟩

set_option maxRecDepth 100000 in
set_option maxHeartbeats 8000000 in
theorem diskArmed_walk (a0 : Option Addr) (len cap : Nat) (fl : Nat → Bool) (n : Int) (w : World) (hlen : len ≤ 9223372036854775807) (h0 : 0 < len → ∃ b o, a0 = some ⟨b, o, none⟩ ∧ ∀ i, i < len → w.cell? ⟨b, o + i, none⟩ = some (.bool (fl i))) :
    Calls Try.prog 7 #[.slice a0 len cap, .int .i64 n] w fun e w' => e = .returned (.bool true) ∧ Below w.heap.size w w' := by
  obtain ⟨q, hq⟩ : ∃ q : Nat, n % 16 = (q : Int) := ⟨(n % 16).toNat, by omega⟩
  have hq16 : q < 16 := by omega
  have hmask : bits BinOp.and IntKind.i64 n 15 = (q : Int) := by rw [i64_and15]; exact hq
  have HB0 : Hid (w.heap.size ≤ w.heap.size) := Nat.le_refl _
  have H0 := hide h0
  clear hq h0
  go_enter Try.func7, Try.ntmps7
  go_wp2_with fail
  refine (new_any w.heap.size 4 w (by omega) (by omega) HB0.out).mono ?_
  rintro e w1 ⟨p, rfl, hD1, hb1⟩
  have HD1 := hide hD1
  have HF1 := hide (Fr.of hb1 HB0.out)
  clear hD1 hb1
  go_wp2_with fail
  refine (arm_any w.heap.size p (DS.new 4) ((q : Int) + 1) 0 0 0 w1 HD1.out HF1.out.bel.size (by omega) (by omega)).mono ?_
  rintro e w2 ⟨rfl, hD, hF⟩
  have HD2 := hide hD
  have HF2 := hide (HF1.out.trans hF)
  clear hD hF HD1 HF1
  go_wp2_with fail
  go_loopw [7] (fun i wr => ∃ (k : Nat) (s : DS), k ≤ len ∧ k ≤ 24 ∧ i = .int .i64 k ∧ DI w.heap.size p s wr ∧ Fr w.heap.size w wr ∧ ArmS s k (q + 1)) (fun i _ => 24 - (intOf i).toNat)
  case atStart => exact ⟨0, _, by omega, by omega, rfl, HD2.out, HF2.out, arm_start q⟩
  case round =>
    obtain ⟨k, s, hk1, hk2, rfl, hD, hF, hS⟩ := hrel
    have HD := hide hD
    have HF := hide hF
    have HS := hide hS
    clear hD hF hS HD2 HF2
    by_cases h1 : k < len
    · by_cases h2 : k < 24
      · obtain ⟨b, o, rfl, hcell⟩ := H0.out (by omega)
        have hc : wr.cell? ⟨b, o + k, none⟩ = some (.bool (fl k)) := (HF.out.bel.cell (cell_lt (hcell k h1))).trans (hcell k h1)
        have i1 : (0 : Int) ≤ (k : Int) := by omega
        have i2 : (k : Int) < (len : Int) := by omega
        have i3 : (k : Int) < 24 := by omega
        have hmk : bits BinOp.and IntKind.i64 (k : Int) 3 = ((k % 4 : Nat) : Int) := by rw [i64_and3]; omega
        have HBW := hide (Nat.le_trans HB0.out HF.out.bel.size)
        clear hcell
        cases hfl : fl k with
        | true =>
          rw [hfl] at hc
          go_wp2_with fail
          refine (flush_armed w.heap.size p s k (q + 1) wr HD.out HBW.out HS.out).mono ?_
          rintro e w3 ⟨s3, rfl, hD, hF, hS⟩
          have HD3 := hide hD
          have HF3 := hide (HF.out.trans hF)
          have HS3 := hide hS
          clear hD hF hS hc
          by_cases hk : k + 1 < q + 1
          · have e1 : armE k (q + 1) = 0 := by unfold armE; rw [if_pos hk]
            have e2 : decide (q + 1 ≤ k + 1) = false := decide_eq_false (by omega)
            have e3 : (k : Int) < (q : Int) := by omega
            have HE1 := hide e1
            have HE2 := hide e2
            clear e1 e2 hk
            rw [HE1.out]
            go_wp2_with fail
            refine (down_armed w.heap.size p s3 (k + 1) (q + 1) w3 HD3.out HS3.out).mono ?_
            rintro e w4 ⟨rfl, rfl⟩
            rw [HE2.out]
            go_wp2_with fail
            refine (write_nine w.heap.size p s3 (k + 1) (q + 1) w4 HD3.out HS3.out).mono ?_
            rintro e w5 ⟨E, rfl, rfl, hE⟩
            go_wp2
            go_roundw
            case rel => exact ⟨k + 1, s3, by omega, by omega, by go_num, HD3.out, HF3.out, HS3.out⟩
            case measure => simp [intOf]; omega
          · have e1 : armE k (q + 1) = 20 := by unfold armE; rw [if_neg hk]
            have e2 : decide (q + 1 ≤ k + 1) = true := decide_eq_true (by omega)
            have e3 : (q : Int) ≤ (k : Int) := by omega
            have HE1 := hide e1
            have HE2 := hide e2
            clear e1 e2 hk
            rw [HE1.out]
            go_wp2_with fail
            refine (down_armed w.heap.size p s3 (k + 1) (q + 1) w3 HD3.out HS3.out).mono ?_
            rintro e w4 ⟨rfl, rfl⟩
            rw [HE2.out]
            go_wp2_with fail
            refine (write_nine w.heap.size p s3 (k + 1) (q + 1) w4 HD3.out HS3.out).mono ?_
            rintro e w5 ⟨E, rfl, rfl, hE⟩
            go_wp2
            go_roundw
            case rel => exact ⟨k + 1, s3, by omega, by omega, by go_num, HD3.out, HF3.out, HS3.out⟩
            case measure => simp [intOf]; omega
        | false =>
          rw [hfl] at hc
          have k4 : k % 4 < 4 := by omega
          go_wp2_with fail
          refine (write_armed w.heap.size p s k (q + 1) (k % 4) k wr HD.out HBW.out HS.out k4 (by omega) (by omega)).mono ?_
          rintro e w3 ⟨s3, rfl, hD, hF, hS⟩
          have HD3 := hide hD
          have HF3 := hide (HF.out.trans hF)
          have HS3 := hide hS
          clear hD hF hS hc
          by_cases hk : k + 1 < q + 1
          · have e1 : armE k (q + 1) = 0 := by unfold armE; rw [if_pos hk]
            have e2 : decide (q + 1 ≤ k + 1) = false := decide_eq_false (by omega)
            have e3 : (k : Int) < (q : Int) := by omega
            have HE1 := hide e1
            have HE2 := hide e2
            clear e1 e2 hk
            rw [HE1.out]
            go_wp2_with fail
            refine (down_armed w.heap.size p s3 (k + 1) (q + 1) w3 HD3.out HS3.out).mono ?_
            rintro e w4 ⟨rfl, rfl⟩
            rw [HE2.out]
            go_wp2_with fail
            refine (write_nine w.heap.size p s3 (k + 1) (q + 1) w4 HD3.out HS3.out).mono ?_
            rintro e w5 ⟨E, rfl, rfl, hE⟩
            go_wp2
            go_roundw
            case rel => exact ⟨k + 1, s3, by omega, by omega, by go_num, HD3.out, HF3.out, HS3.out⟩
            case measure => simp [intOf]; omega
          · have e1 : armE k (q + 1) = 20 := by unfold armE; rw [if_neg hk]
            have e2 : decide (q + 1 ≤ k + 1) = true := decide_eq_true (by omega)
            have e3 : (q : Int) ≤ (k : Int) := by omega
            have HE1 := hide e1
            have HE2 := hide e2
            clear e1 e2 hk
            rw [HE1.out]
            go_wp2_with fail
            refine (down_armed w.heap.size p s3 (k + 1) (q + 1) w3 HD3.out HS3.out).mono ?_
            rintro e w4 ⟨rfl, rfl⟩
            rw [HE2.out]
            go_wp2_with fail
            refine (write_nine w.heap.size p s3 (k + 1) (q + 1) w4 HD3.out HS3.out).mono ?_
            rintro e w5 ⟨E, rfl, rfl, hE⟩
            go_wp2
            go_roundw
            case rel => exact ⟨k + 1, s3, by omega, by omega, by go_num, HD3.out, HF3.out, HS3.out⟩
            case measure => simp [intOf]; omega
      · have hk24 : 24 ≤ k := by omega
        have i3 : ¬ (k : Int) < 24 := by omega
        have i2 : (k : Int) < (len : Int) := by omega
        have HBW := hide (Nat.le_trans HB0.out HF.out.bel.size)
        have HC := hide (restart_calm HS.out hk2)
        clear H0
        go_wp2_with fail
        refine (down_armed w.heap.size p s k (q + 1) wr HD.out HS.out).mono ?_
        rintro e w3 ⟨rfl, rfl⟩
        go_wp2_with fail
        refine (restart_any w.heap.size p s w3 HD.out HBW.out).mono ?_
        rintro e w4 ⟨rfl, hD, hF⟩
        have HD4 := hide hD
        have HF4 := hide (HF.out.trans hF)
        clear hD hF HD HF
        go_wp2_with fail
        refine (life_any w.heap.size p s.restart w4 HD4.out).mono ?_
        rintro e w5 ⟨rfl, rfl⟩
        rw [HC.out.2.2.1]
        have hdl : decide (q + 1 ≤ k) = ((if q + 1 ≤ k then (1 : Int) else 0) == 1) := by
          by_cases hx : q + 1 ≤ k
          · rw [decide_eq_true hx, if_pos hx]; rfl
          · rw [decide_eq_false hx, if_neg hx]; rfl
        rw [hdl]
        generalize (if q + 1 ≤ k then (1 : Int) else 0) = lf
        clear hdl
        cases hb : (lf == 1) with
        | _ =>
          go_wp2_with fail
          refine (arm_any w.heap.size p s.restart 0 0 0 0 w5 HD4.out (Nat.le_trans HB0.out HF4.out.bel.size) (by omega) (by omega)).mono ?_
          rintro e w6 ⟨rfl, hD, hF⟩
          have HD6 := hide hD
          have HF6 := hide (HF4.out.trans hF)
          clear hD hF HD4 HF4
          go_wp2_with fail
          go_loopw [10] (fun i wr => ∃ (k : Nat) (s : DS), k ≤ 20 ∧ i = .int .i64 k ∧ DI w.heap.size p s wr ∧ Fr w.heap.size w wr ∧ CalmS s ∧ s.m ≤ 24) (fun i _ => 20 - (intOf i).toNat)
          case atStart => exact ⟨0, _, by omega, rfl, HD6.out, HF6.out, HC.out.1, HC.out.2.1⟩
          case round =>
            obtain ⟨j, sj, hj, rfl, hD, hF, hS, hM⟩ := hrel
            have HD := hide hD
            have HF := hide hF
            have HS := hide hS
            have HM := hide hM
            clear hD hF hS hM HD6 HF6
            have HBW := hide (Nat.le_trans HB0.out HF.out.bel.size)
            by_cases h9 : j < 20
            · have i1 : (0 : Int) ≤ (j : Int) := by omega
              have i9 : (j : Int) < 20 := by omega
              have hmk : bits BinOp.and IntKind.i64 (j : Int) 3 = ((j % 4 : Nat) : Int) := by rw [i64_and3]; omega
              have j4 : j % 4 < 4 := by omega
              go_wp2_with fail
              refine (write_calm w.heap.size p sj (j % 4) wr HD.out HBW.out HS.out j4 (by have := HM.out; omega)).mono ?_
              rintro e w7 ⟨s7, rfl, hD, hF, hS⟩
              have HD7 := hide hD
              have HF7 := hide (HF.out.trans hF)
              have HS7 := hide hS
              clear hD hF hS
              go_wp2_with fail
              refine (flush_calm w.heap.size p s7 w7 HD7.out (Nat.le_trans HB0.out HF7.out.bel.size) HS7.out).mono ?_
              rintro e w8 ⟨s8, rfl, hD, hF, hS, hM⟩
              have HD8 := hide hD
              have HF8 := hide (HF7.out.trans hF)
              have HS8 := hide hS
              have HM8 := hide hM
              clear hD hF hS hM
              go_wp2
              go_roundw
              case rel => exact ⟨j + 1, s8, by omega, by go_num, HD8.out, HF8.out, HS8.out, by rw [HM8.out]; omega⟩
              case measure => simp [intOf]; omega
            · have i9 : ¬ (j : Int) < 20 := by omega
              go_wp2_with fail
              refine (told_any _).mono ?_
              rintro e w9 ⟨rfl, hb9⟩
              have HB9 := hide (HF.out.bel.trans (hb9.mono HF.out.bel.size))
              clear hb9
              go_wp2
              go_ret
              exact ⟨rfl, HB9.out⟩
    · have i2 : ¬ (k : Int) < (len : Int) := by omega
      have HBW := hide (Nat.le_trans HB0.out HF.out.bel.size)
      have HC := hide (restart_calm HS.out hk2)
      clear H0
      go_wp2_with fail
      refine (down_armed w.heap.size p s k (q + 1) wr HD.out HS.out).mono ?_
      rintro e w3 ⟨rfl, rfl⟩
      go_wp2_with fail
      refine (restart_any w.heap.size p s w3 HD.out HBW.out).mono ?_
      rintro e w4 ⟨rfl, hD, hF⟩
      have HD4 := hide hD
      have HF4 := hide (HF.out.trans hF)
      clear hD hF HD HF
      go_wp2_with fail
      refine (life_any w.heap.size p s.restart w4 HD4.out).mono ?_
      rintro e w5 ⟨rfl, rfl⟩
      rw [HC.out.2.2.1]
      have hdl : decide (q + 1 ≤ k) = ((if q + 1 ≤ k then (1 : Int) else 0) == 1) := by
        by_cases hx : q + 1 ≤ k
        · rw [decide_eq_true hx, if_pos hx]; rfl
        · rw [decide_eq_false hx, if_neg hx]; rfl
      rw [hdl]
      generalize (if q + 1 ≤ k then (1 : Int) else 0) = lf
      clear hdl
      cases hb : (lf == 1) with
      | _ =>
        go_wp2_with fail
        refine (arm_any w.heap.size p s.restart 0 0 0 0 w5 HD4.out (Nat.le_trans HB0.out HF4.out.bel.size) (by omega) (by omega)).mono ?_
        rintro e w6 ⟨rfl, hD, hF⟩
        have HD6 := hide hD
        have HF6 := hide (HF4.out.trans hF)
        clear hD hF HD4 HF4
        go_wp2_with fail
        go_loopw [10] (fun i wr => ∃ (k : Nat) (s : DS), k ≤ 20 ∧ i = .int .i64 k ∧ DI w.heap.size p s wr ∧ Fr w.heap.size w wr ∧ CalmS s ∧ s.m ≤ 24) (fun i _ => 20 - (intOf i).toNat)
        case atStart => exact ⟨0, _, by omega, rfl, HD6.out, HF6.out, HC.out.1, HC.out.2.1⟩
        case round =>
          obtain ⟨j, sj, hj, rfl, hD, hF, hS, hM⟩ := hrel
          have HD := hide hD
          have HF := hide hF
          have HS := hide hS
          have HM := hide hM
          clear hD hF hS hM HD6 HF6
          have HBW := hide (Nat.le_trans HB0.out HF.out.bel.size)
          by_cases h9 : j < 20
          · have i1 : (0 : Int) ≤ (j : Int) := by omega
            have i9 : (j : Int) < 20 := by omega
            have hmk : bits BinOp.and IntKind.i64 (j : Int) 3 = ((j % 4 : Nat) : Int) := by rw [i64_and3]; omega
            have j4 : j % 4 < 4 := by omega
            go_wp2_with fail
            refine (write_calm w.heap.size p sj (j % 4) wr HD.out HBW.out HS.out j4 (by have := HM.out; omega)).mono ?_
            rintro e w7 ⟨s7, rfl, hD, hF, hS⟩
            have HD7 := hide hD
            have HF7 := hide (HF.out.trans hF)
            have HS7 := hide hS
            clear hD hF hS
            go_wp2_with fail
            refine (flush_calm w.heap.size p s7 w7 HD7.out (Nat.le_trans HB0.out HF7.out.bel.size) HS7.out).mono ?_
            rintro e w8 ⟨s8, rfl, hD, hF, hS, hM⟩
            have HD8 := hide hD
            have HF8 := hide (HF7.out.trans hF)
            have HS8 := hide hS
            have HM8 := hide hM
            clear hD hF hS hM
            go_wp2
            go_roundw
            case rel => exact ⟨j + 1, s8, by omega, by go_num, HD8.out, HF8.out, HS8.out, by rw [HM8.out]; omega⟩
            case measure => simp [intOf]; omega
          · have i9 : ¬ (j : Int) < 20 := by omega
            go_wp2_with fail
            refine (told_any _).mono ?_
            rintro e w9 ⟨rfl, hb9⟩
            have HB9 := hide (HF.out.bel.trans (hb9.mono HF.out.bel.size))
            clear hb9
            go_wp2
            go_ret
            exact ⟨rfl, HB9.out⟩
theorem diskArmed_walkR (a0 : Option Addr) (len cap : Nat) (fl : Nat → Bool) (n : Int) (w : World) (hlen : len ≤ 9223372036854775807) (h0 : 0 < len → ∃ b o, a0 = some ⟨b, o, none⟩ ∧ ∀ i, i < len → w.cell? ⟨b, o + i, none⟩ = some (.bool (fl i))) (_hn : (Lit.int .i64 n).wf = true) :
    Calls Try.prog 7 #[.slice a0 len cap, .int .i64 n] w fun e w' => e = .returned (.bool true) ∧ Below w.heap.size w w' :=
  diskArmed_walk a0 len cap fl n w hlen h0
end Go.Proofs.Ytfdnnebcjkjafaa
