/- The walk of the law DiskTorn: whatever two rows of bytes and whatever cut, it returns true and writes nothing that was there. -/
import Derived.Test.YtfdnnebcjkjafaaD0
set_option linter.unusedVariables false
namespace Go.Proofs.Ytfdnnebcjkjafaa
open Go.RowKit

set_option maxRecDepth 100000 in
set_option maxHeartbeats 8000000 in
theorem diskTorn_walk (a0 : Option Addr) (len0 cap0 : Nat) (xs0 : List Nat) (a1 : Option Addr) (len1 cap1 : Nat) (xs1 : List Nat) (cut : Int) (w : World) (h0 : BS w a0 len0 cap0 xs0) (h1 : BS w a1 len1 cap1 xs1) :
    Calls Try.prog 6 #[.slice a0 len0 cap0, .slice a1 len1 cap1, .int .i64 cut] w fun e w' => e = .returned (.bool true) ∧ Below w.heap.size w w' := by
  obtain ⟨m0, hm0⟩ : ∃ m, m = min len0 300 := ⟨_, rfl⟩
  obtain ⟨m1, hm1⟩ : ∃ m, m = min len1 300 := ⟨_, rfl⟩
  have q0 := h0.hlen
  have q1 := h1.hlen
  have z0 := h0.hcap
  have z1 := h1.hcap
  have y0 := h0.hmax
  have y1 := h1.hmax
  have T0 := hide (bs_take h0 m0 (by omega))
  have T1 := hide (bs_take h1 m1 (by omega))
  have LA : (xs0.take m0).length = m0 := by rw [List.length_take]; omega
  have LB : (xs1.take m1).length = m1 := by rw [List.length_take]; omega
  have BA := T0.out.hbyte
  have BB := T1.out.hbyte
  have e0 : (if (300 : Int) < (len0 : Int) then (300 : Int) else (len0 : Int)) = (m0 : Int) := by split <;> omega
  have e1 : (if (300 : Int) < (len1 : Int) then (300 : Int) else (len1 : Int)) = (m1 : Int) := by split <;> omega
  have l0 : m0 ≤ 300 := by omega
  have l1 : m1 ≤ 300 := by omega
  have u0 : (0 : Int) ≤ (m0 : Int) := by omega
  have u1 : (0 : Int) ≤ (m1 : Int) := by omega
  have v0 : (m0 : Int) ≤ (cap0 : Int) := by omega
  have v1 : (m1 : Int) ≤ (cap1 : Int) := by omega
  clear hm0 hm1 h0 h1 q0 q1 z0 z1
  generalize hA : xs0.take m0 = A at *
  generalize hBx : xs1.take m1 = Bx at *
  clear hA hBx
  obtain ⟨s0, hs0⟩ : ∃ s, s = DS.new 2 := ⟨_, rfl⟩
  obtain ⟨s1, hs1⟩ : ∃ s, s = s0.tick.wrote 1 A := ⟨_, rfl⟩
  obtain ⟨s2, hs2⟩ : ∃ s, s = s1.flush := ⟨_, rfl⟩
  obtain ⟨s3, hs3⟩ : ∃ s, s = s2.tick.wrote 1 Bx := ⟨_, rfl⟩
  obtain ⟨s4, hs4⟩ : ∃ s, s = s3.cutS 18446744073709551615 0 cut := ⟨_, rfl⟩
  obtain ⟨s5, hs5⟩ : ∃ s, s = s4.restart := ⟨_, rfl⟩
  have FS := hide (torn_states A Bx cut s0 s1 s2 s3 s4 s5 hs0 hs1 hs2 hs3 hs4 hs5)
  have HLA := hide LA
  have HLB := hide LB
  have HBA := hide BA
  have HBB := hide BB
  have HS := hide (And.intro hs0 (And.intro hs1 (And.intro hs2 (And.intro hs3 (And.intro hs4 hs5)))))
  have HB0 : Hid (w.heap.size ≤ w.heap.size) := Nat.le_refl _
  clear LA LB BA BB hs0 hs1 hs2 hs3 hs4 hs5
  go_enter Try.func6, Try.ntmps6
  go_wp2_with fail
  refine (new_any w.heap.size 2 w (by omega) (by omega) HB0.out).mono ?_
  rintro e w1 ⟨p, rfl, hD1, hb1⟩
  rw [← HS.out.1] at hD1
  have HD1 := hide hD1
  have HF1 := hide (Fr.of hb1 HB0.out)
  clear hD1 hb1
  go_wp2_with fail
  go_quiet (fail)
  go_wp2_with fail
  have HF2 := hide (HF1.out.trans (Fr.of (below_drewN (Below.refl w1.heap.size w1) nq) HF1.out.bel.size))
  have HD2 := hide (HD1.out.later (below_drewN (Below.refl w1.heap.size w1) nq))
  refine (write_ok w.heap.size p s0 1 a0 m0 cap0 A _ HD2.out HF2.out.bel.size FS.out.1.1 FS.out.1.2.1 FS.out.1.2.2.1 (by rw [FS.out.1.2.2.2.1]; omega) (by rw [FS.out.1.2.2.2.2]; omega) (by rw [HLA.out]; unfold blk; omega) HBA.out HLA.out (fun ww f => T0.out.later (HF2.out.trans f).bel (Nat.le_refl _))).mono ?_
  rintro e w3 ⟨rfl, hD, hF⟩
  rw [← HS.out.2.1] at hD
  have HD3 := hide hD
  have HF3 := hide (HF2.out.trans hF)
  clear hD hF HD1 HF1 HD2 HF2
  go_wp2_with fail
  refine (flush_any w.heap.size p s1 w3 HD3.out HF3.out.bel.size (by rw [FS.out.2.1.1]; omega)).mono ?_
  rintro e w4 ⟨rfl, hD, hF⟩
  rw [← HS.out.2.2.1] at hD
  rw [FS.out.2.1.2]
  have HD4 := hide hD
  have HF4 := hide (HF3.out.trans hF)
  clear hD hF HD3 HF3
  go_wp2_with fail
  refine (write_ok w.heap.size p s2 1 a1 m1 cap1 Bx _ HD4.out HF4.out.bel.size FS.out.2.2.1.1 FS.out.2.2.1.2.1 FS.out.2.2.1.2.2.1 (by rw [FS.out.2.2.1.2.2.2.1]; omega) (by rw [FS.out.2.2.1.2.2.2.2]; omega) (by rw [HLB.out]; unfold blk; omega) HBB.out HLB.out (fun ww f => T1.out.later (HF4.out.trans f).bel (Nat.le_refl _))).mono ?_
  rintro e w5 ⟨rfl, hD, hF⟩
  rw [← HS.out.2.2.2.1] at hD
  have HD5 := hide hD
  have HF5 := hide (HF4.out.trans hF)
  clear hD hF HD4 HF4
  go_wp2_with fail
  refine (open_any w.heap.size p s3 w5 HD5.out).mono ?_
  rintro e w6 ⟨rfl, rfl⟩
  rw [FS.out.2.2.2.1.2]
  go_wp2_with fail
  refine (cut_any w.heap.size p s3 0 18446744073709551615 0 cut w6 HD5.out HF5.out.bel.size (by omega) (by rw [FS.out.2.2.2.1.1]; omega)).mono ?_
  rintro e w7 ⟨rfl, hD, hF⟩
  rw [← HS.out.2.2.2.2.1] at hD
  have HD7 := hide hD
  have HF7 := hide (HF5.out.trans hF)
  clear hD hF HD5 HF5
  go_wp2_with fail
  refine (restart_any w.heap.size p s4 w7 HD7.out HF7.out.bel.size).mono ?_
  rintro e w9 ⟨rfl, hD, hF⟩
  rw [← HS.out.2.2.2.2.2] at hD
  have HD9 := hide hD
  have HF9 := hide (HF7.out.trans hF)
  clear hD hF HD7 HF7
  go_wp2_with fail
  refine (read_ok w.heap.size p s5 1 w9 HD9.out HF9.out.bel.size FS.out.2.2.2.2.1 FS.out.2.2.2.2.2.1).mono ?_
  rintro e w10 ⟨g, rfl, ho, hb⟩
  rw [FS.out.2.2.2.2.2.2.1] at ho
  have HO := hide ho
  have HD10 := hide (HD9.out.later hb)
  have HF11 := hide (HF9.out.trans (Fr.of hb HF9.out.bel.size))
  clear ho hb HD9 HF9
  have HN8 : Hid (blk = 8192) := rfl
  have b8 : ((blk : Nat) : Int) = 8192 := rfl
  have HC : Hid (∀ k, k < 8192 → w10.cell? ⟨g, k, none⟩ = some (.int .u8 ((if k < keptN 18446744073709551615 0 cut 0 then sb (str Bx) k else sb (str A) k : Nat) : Int))) := by
    intro k hk
    rw [HO.out.cellAt k (by rw [HN8.out]; omega), cellsOf_get _ _ (by rw [pad_len (laidL_len (by rw [HLA.out]; unfold blk; omega) (by rw [HLB.out]; unfold blk; omega) (keptN_le _ _ _ _)), HN8.out]; exact hk)]
    rw [pad_laid (by rw [HLA.out]; unfold blk; omega) (by rw [HLB.out]; unfold blk; omega) (keptN_le _ _ _ _) (by rw [HN8.out]; exact hk), sb_str HBB.out, sb_str HBA.out]
  have HN0 : Hid (keptN 18446744073709551615 0 cut 0 = (min (max cut 0) 8192).toNat) := rfl
  have t1 := fun n => run_text (T0.out.later (below_drewN HF11.out.bel n) (Nat.le_refl _))
  have t2 := fun n => run_text (T1.out.later (below_drewN HF11.out.bel n) (Nat.le_refl _))
  have HM5 := hide (open_any w.heap.size p s5 w10 HD10.out)
  rw [FS.out.2.2.2.2.2.2.2] at HM5
  generalize keptN 18446744073709551615 0 cut 0 = n at *
  generalize str A = sx at *
  generalize str Bx = su at *
  clear HO
  generalize blk = N at *
  go_wp2_with fail
  refine HM5.out.mono ?_
  rintro e w11 ⟨rfl, rfl⟩
  by_cases c1 : cut < 0
  · have hn0 : n = 0 := by have := HN0.out; omega
    have HCUT := hide hn0
    clear hn0
    clear HN0
    go_wp2_with fail
    go_loopw [14] (fun i wr => ∃ k : Nat, k ≤ 8192 ∧ i = .int .i64 k ∧ ∃ n, wr = w11.drewN n) (fun i _ => 8192 - (intOf i).toNat)
    case atStart => exact ⟨0, by omega, rfl, 0, rfl⟩
    case round =>
      obtain ⟨k, hk, rfl, nd, HW⟩ := hrel
      by_cases hlt : k < 8192
      · have i1 : (0 : Int) ≤ (k : Int) := by omega
        have i2 : (k : Int) < ((N : Nat) : Int) := by have := HN8.out; omega
        have i3 : (k : Int) < 8192 := by omega
        have hc : wr.cell? ⟨g, k, none⟩ = _ := (by rw [HW]; rfl : wr.cell? ⟨g, k, none⟩ = w11.cell? ⟨g, k, none⟩).trans (HC.out k hlt)
        have t3 : ∀ n, (convert 29 9 (.slice a0 m0 cap0)).run Try.prog (wr.drewN n) = .ok (.string sx) (wr.drewN n) := fun n => by rw [HW, World.drewN_drewN]; exact t1 _
        have t4 : ∀ n, (convert 29 9 (.slice a1 m1 cap1)).run Try.prog (wr.drewN n) = .ok (.string su) (wr.drewN n) := fun n => by rw [HW, World.drewN_drewN]; exact t2 _
        have HW2 := hide HW
        have HA := hide (fun (s : ByteArray) (nn : Nat) => at_any s k (wr.drewN nn) (by omega))
        clear t1 t2 HW
        by_cases hn : k < n
        · exact absurd hn (by have := HCUT.out; omega)
        · rw [if_neg hn] at hc
          have d1 : decide ((k : Int) < 0) = false := decide_eq_false (by have := HCUT.out; omega)
          have d2 : decide (0 ≤ (k : Int)) = true := decide_eq_true (by have := HCUT.out; omega)
          clear hn hlt
          go_wp2_with fail
          go_quiet ((go_at_call 31; refine Calls.quiet_of_same (HA.out _ _)))
          go_wp2
          go_roundw
          case rel => exact ⟨k + 1, by omega, by go_num, _, by rw [HW2.out, World.drewN_drewN]⟩
          case measure => simp [intOf]; omega
      · have hk8 : k = 8192 := by omega
        have i3 : ¬ (k : Int) < 8192 := by omega
        have HW2 := hide HW
        clear HW hk8 t1 t2
        go_wp2_with fail
        refine (told_any _).mono ?_
        rintro e w12 ⟨rfl, hb⟩
        rw [HW2.out] at hb
        have HB := hide ((below_drewN HF11.out.bel nd).trans (hb.mono HF11.out.bel.size))
        clear hb
        go_wp2
        go_ret
        exact ⟨rfl, HB.out⟩
  · by_cases c2 : 8192 < cut
    · have hn0 : n = 8192 := by have := HN0.out; omega
      have HCUT := hide hn0
      clear hn0
      clear HN0
      go_wp2_with fail
      go_loopw [14] (fun i wr => ∃ k : Nat, k ≤ 8192 ∧ i = .int .i64 k ∧ ∃ n, wr = w11.drewN n) (fun i _ => 8192 - (intOf i).toNat)
      case atStart => exact ⟨0, by omega, rfl, 0, rfl⟩
      case round =>
        obtain ⟨k, hk, rfl, nd, HW⟩ := hrel
        by_cases hlt : k < 8192
        · have i1 : (0 : Int) ≤ (k : Int) := by omega
          have i2 : (k : Int) < ((N : Nat) : Int) := by have := HN8.out; omega
          have i3 : (k : Int) < 8192 := by omega
          have hc : wr.cell? ⟨g, k, none⟩ = _ := (by rw [HW]; rfl : wr.cell? ⟨g, k, none⟩ = w11.cell? ⟨g, k, none⟩).trans (HC.out k hlt)
          have t3 : ∀ n, (convert 29 9 (.slice a0 m0 cap0)).run Try.prog (wr.drewN n) = .ok (.string sx) (wr.drewN n) := fun n => by rw [HW, World.drewN_drewN]; exact t1 _
          have t4 : ∀ n, (convert 29 9 (.slice a1 m1 cap1)).run Try.prog (wr.drewN n) = .ok (.string su) (wr.drewN n) := fun n => by rw [HW, World.drewN_drewN]; exact t2 _
          have HW2 := hide HW
          have HA := hide (fun (s : ByteArray) (nn : Nat) => at_any s k (wr.drewN nn) (by omega))
          clear t1 t2 HW
          by_cases hn : k < n
          · rw [if_pos hn] at hc
            have d1 : decide ((k : Int) < 8192) = true := decide_eq_true (by have := HCUT.out; omega)
            have d2 : decide (8192 ≤ (k : Int)) = false := decide_eq_false (by have := HCUT.out; omega)
            clear hn hlt
            go_wp2_with fail
            go_quiet ((go_at_call 31; refine Calls.quiet_of_same (HA.out _ _)))
            go_wp2
            go_roundw
            case rel => exact ⟨k + 1, by omega, by go_num, _, by rw [HW2.out, World.drewN_drewN]⟩
            case measure => simp [intOf]; omega
          · exact absurd hlt (by have := HCUT.out; omega)
        · have hk8 : k = 8192 := by omega
          have i3 : ¬ (k : Int) < 8192 := by omega
          have HW2 := hide HW
          clear HW hk8 t1 t2
          go_wp2_with fail
          refine (told_any _).mono ?_
          rintro e w12 ⟨rfl, hb⟩
          rw [HW2.out] at hb
          have HB := hide ((below_drewN HF11.out.bel nd).trans (hb.mono HF11.out.bel.size))
          clear hb
          go_wp2
          go_ret
          exact ⟨rfl, HB.out⟩
    · have hn0 : (n : Int) = cut := by have := HN0.out; omega
      have HCUT := hide hn0
      clear hn0
      clear HN0
      go_wp2_with fail
      go_loopw [14] (fun i wr => ∃ k : Nat, k ≤ 8192 ∧ i = .int .i64 k ∧ ∃ n, wr = w11.drewN n) (fun i _ => 8192 - (intOf i).toNat)
      case atStart => exact ⟨0, by omega, rfl, 0, rfl⟩
      case round =>
        obtain ⟨k, hk, rfl, nd, HW⟩ := hrel
        by_cases hlt : k < 8192
        · have i1 : (0 : Int) ≤ (k : Int) := by omega
          have i2 : (k : Int) < ((N : Nat) : Int) := by have := HN8.out; omega
          have i3 : (k : Int) < 8192 := by omega
          have hc : wr.cell? ⟨g, k, none⟩ = _ := (by rw [HW]; rfl : wr.cell? ⟨g, k, none⟩ = w11.cell? ⟨g, k, none⟩).trans (HC.out k hlt)
          have t3 : ∀ n, (convert 29 9 (.slice a0 m0 cap0)).run Try.prog (wr.drewN n) = .ok (.string sx) (wr.drewN n) := fun n => by rw [HW, World.drewN_drewN]; exact t1 _
          have t4 : ∀ n, (convert 29 9 (.slice a1 m1 cap1)).run Try.prog (wr.drewN n) = .ok (.string su) (wr.drewN n) := fun n => by rw [HW, World.drewN_drewN]; exact t2 _
          have HW2 := hide HW
          have HA := hide (fun (s : ByteArray) (nn : Nat) => at_any s k (wr.drewN nn) (by omega))
          clear t1 t2 HW
          by_cases hn : k < n
          · rw [if_pos hn] at hc
            have d1 : decide ((k : Int) < cut) = true := decide_eq_true (by have := HCUT.out; omega)
            have d2 : decide (cut ≤ (k : Int)) = false := decide_eq_false (by have := HCUT.out; omega)
            clear hn hlt
            go_wp2_with fail
            go_quiet ((go_at_call 31; refine Calls.quiet_of_same (HA.out _ _)))
            go_wp2
            go_roundw
            case rel => exact ⟨k + 1, by omega, by go_num, _, by rw [HW2.out, World.drewN_drewN]⟩
            case measure => simp [intOf]; omega
          · rw [if_neg hn] at hc
            have d1 : decide ((k : Int) < cut) = false := decide_eq_false (by have := HCUT.out; omega)
            have d2 : decide (cut ≤ (k : Int)) = true := decide_eq_true (by have := HCUT.out; omega)
            clear hn hlt
            go_wp2_with fail
            go_quiet ((go_at_call 31; refine Calls.quiet_of_same (HA.out _ _)))
            go_wp2
            go_roundw
            case rel => exact ⟨k + 1, by omega, by go_num, _, by rw [HW2.out, World.drewN_drewN]⟩
            case measure => simp [intOf]; omega
        · have hk8 : k = 8192 := by omega
          have i3 : ¬ (k : Int) < 8192 := by omega
          have HW2 := hide HW
          clear HW hk8 t1 t2
          go_wp2_with fail
          refine (told_any _).mono ?_
          rintro e w12 ⟨rfl, hb⟩
          rw [HW2.out] at hb
          have HB := hide ((below_drewN HF11.out.bel nd).trans (hb.mono HF11.out.bel.size))
          clear hb
          go_wp2
          go_ret
          exact ⟨rfl, HB.out⟩
theorem diskTorn_walkR (a0 : Option Addr) (len0 cap0 : Nat) (xs0 : List Nat) (a1 : Option Addr) (len1 cap1 : Nat) (xs1 : List Nat) (cut : Int) (w : World) (h0 : BS w a0 len0 cap0 xs0) (_hr0 : len0 ≤ 140737488351232) (h1 : BS w a1 len1 cap1 xs1) (_hr1 : len1 ≤ 140737488351232) (_hc : (Lit.int .i64 cut).wf = true) :
    Calls Try.prog 6 #[.slice a0 len0 cap0, .slice a1 len1 cap1, .int .i64 cut] w fun e w' => e = .returned (.bool true) ∧ Below w.heap.size w w' :=
  diskTorn_walk a0 len0 cap0 xs0 a1 len1 cap1 xs1 cut w h0 h1
end Go.Proofs.Ytfdnnebcjkjafaa
