/- The laws' helper told. -/
import Derived.Test.YtnapapgmeghgjaaW4
set_option linter.unusedVariables false
namespace Go.Proofs.Ytnapapgmeghgjaa
open Go.RowKit

theorem told_any (w : World) : Calls Try.prog 29 #[] w fun e w' => e = .returned (.bool true) ∧ Below w.heap.size w w' := by
  letI : Gd := ⟨none, fun _ => False⟩
  obtain ⟨s0, hs0⟩ : ∃ s, s = DS.new 2 := ⟨_, rfl⟩
  obtain ⟨s1, hs1⟩ : ∃ s, s = s0.tick.wrote 0 [1] := ⟨_, rfl⟩
  obtain ⟨s2, hs2⟩ : ∃ s, s = s1.flush := ⟨_, rfl⟩
  obtain ⟨s3, hs3⟩ : ∃ s, s = s2.tick.wrote 0 [2] := ⟨_, rfl⟩
  obtain ⟨s4, hs4⟩ : ∃ s, s = s3.tick.wrote 1 [3] := ⟨_, rfl⟩
  obtain ⟨s5, hs5⟩ : ∃ s, s = s4.cutS 2 (-1) 0 := ⟨_, rfl⟩
  obtain ⟨s6, hs6⟩ : ∃ s, s = s5.restart := ⟨_, rfl⟩
  have F0 : Hid (s0.down = false ∧ 0 < s0.n ∧ ¬ s0.after = 1 ∧ s0.life = 0 ∧ s0.m = 0) := by subst hs0; exact ⟨rfl, by decide, by decide, rfl, rfl⟩
  have F1 : Hid (s1.life = 0 ∧ s1.flushE = 0) := by subst hs1 hs0; exact ⟨rfl, rfl⟩
  have F2 : Hid (s2.down = false ∧ 0 < s2.n ∧ ¬ s2.after = 1 ∧ s2.life = 0 ∧ s2.m = 0) := by subst hs2 hs1 hs0; exact ⟨rfl, by decide, by decide, rfl, rfl⟩
  have F3 : Hid (s3.down = false ∧ 1 < s3.n ∧ ¬ s3.after = 1 ∧ s3.life = 0 ∧ s3.m = 1) := by subst hs3 hs2 hs1 hs0; exact ⟨rfl, by decide, by decide, rfl, rfl⟩
  have F4 : Hid (s4.life = 0) := by subst hs4 hs3 hs2 hs1 hs0; exact rfl
  have F5 : Hid (s5.down = true) := by subst hs5 hs4 hs3 hs2 hs1 hs0; exact rfl
  have F6 : Hid (s6.down = false ∧ 1 < s6.n ∧ s6.show 0 = [1] ∧ s6.show 1 = [3] ∧ s6.life = 1 ∧ s6.m = 0) := by subst hs6 hs5 hs4 hs3 hs2 hs1 hs0; exact ⟨rfl, by decide, rfl, rfl, rfl, rfl⟩
  have HB0 : Hid (w.heap.size ≤ w.heap.size) := Nat.le_refl _
  go_enter Try.func29, Try.ntmps29
  go_wp2_with fail
  refine (new_any w.heap.size 2 w (by omega) (by omega) HB0.out rfl (fun _ h => h)).mono ?_
  rintro e w1 ⟨p, rfl, hD1, hb1⟩
  rw [← hs0] at hD1
  have HD1 := hide hD1
  have HF1 := hide (Fr.of hb1 HB0.out)
  clear hD1 hb1
  go_wp2_with fail
  refine (new_none _).mono ?_
  rintro e w2 ⟨rfl, rfl⟩
  go_wp2_with fail
  refine (write_lit w.heap.size p s0 0 1 w2 HD1.out HF1.out.bel.size F0.out.1 F0.out.2.1 F0.out.2.2.1 (by rw [F0.out.2.2.2.1]; omega) (by rw [F0.out.2.2.2.2]; omega) (by omega)).mono ?_
  rintro e w3 ⟨rfl, hD, hF⟩
  rw [← hs1] at hD
  have HD3 := hide hD
  have HF3 := hide (HF1.out.trans hF)
  clear hD hF HD1 HF1
  go_wp2_with fail
  refine (flush_any w.heap.size p s1 w3 HD3.out HF3.out.bel.size (by rw [F1.out.1]; omega)).mono ?_
  rintro e w4 ⟨rfl, hD, hF⟩
  rw [← hs2] at hD
  have HD4 := hide hD
  have HF4 := hide (HF3.out.trans hF)
  clear hD hF HD3 HF3
  go_wp2_with fail
  refine (write_lit w.heap.size p s2 0 2 w4 HD4.out HF4.out.bel.size F2.out.1 F2.out.2.1 F2.out.2.2.1 (by rw [F2.out.2.2.2.1]; omega) (by rw [F2.out.2.2.2.2]; omega) (by omega)).mono ?_
  rintro e w5 ⟨rfl, hD, hF⟩
  rw [← hs3] at hD
  have HD5 := hide hD
  have HF5 := hide (HF4.out.trans hF)
  clear hD hF HD4 HF4
  go_wp2_with fail
  refine (write_lit w.heap.size p s3 1 3 w5 HD5.out HF5.out.bel.size F3.out.1 F3.out.2.1 F3.out.2.2.1 (by rw [F3.out.2.2.2.1]; omega) (by rw [F3.out.2.2.2.2]; omega) (by omega)).mono ?_
  rintro e w6 ⟨rfl, hD, hF⟩
  rw [← hs4] at hD
  have HD6 := hide hD
  have HF6 := hide (HF5.out.trans hF)
  clear hD hF HD5 HF5
  go_wp2_with fail
  refine (cut_any w.heap.size p s4 0 2 (-1) 0 w6 HD6.out HF6.out.bel.size (by omega) (by rw [F4.out]; omega)).mono ?_
  rintro e w7 ⟨rfl, hD, hF⟩
  rw [← hs5] at hD
  have HD7 := hide hD
  have HF7 := hide (HF6.out.trans hF)
  clear hD hF HD6 HF6
  go_wp2_with fail
  refine (read_down w.heap.size p s5 0 w7 HD7.out F5.out).mono ?_
  rintro e w8 ⟨rfl, rfl⟩
  go_wp2_with fail
  refine (restart_any w.heap.size p s5 w8 HD7.out HF7.out.bel.size).mono ?_
  rintro e w9 ⟨rfl, hD, hF⟩
  rw [← hs6] at hD
  have HD9 := hide hD
  have HF9 := hide (HF7.out.trans hF)
  clear hD hF HD7 HF7
  go_wp2_with fail
  refine (read_ok w.heap.size p s6 0 w9 HD9.out HF9.out.bel.size F6.out.1 (by have := F6.out.2.1; omega)).mono ?_
  rintro e w10 ⟨g1, rfl, ho, hb⟩
  rw [F6.out.2.2.1] at ho
  have c1 := row_first ho
  have HD10 := hide (HD9.out.later hb)
  have HF10 := hide (HF9.out.trans (Fr.of hb HF9.out.bel.size))
  have HC1 := hide c1
  clear ho hb HD9 HF9 c1
  go_wp2_with fail
  refine (read_ok w.heap.size p s6 1 w10 HD10.out HF10.out.bel.size F6.out.1 F6.out.2.1).mono ?_
  rintro e w11 ⟨g2, rfl, ho, hb⟩
  rw [F6.out.2.2.2.1] at ho
  have c2 := row_first ho
  have c1 : w11.cell? ⟨g1, 0, none⟩ = some (.int .u8 1) := (hb.cell (cell_lt HC1.out)).trans HC1.out
  have HD11 := hide (HD10.out.later hb)
  have HF11 := hide (HF10.out.trans (Fr.of hb HF10.out.bel.size))
  clear ho hb HD10 HF10
  have b8 : ((blk : Nat) : Int) = 8192 := rfl
  generalize blk = N at *
  have HL := hide (life_any w.heap.size p s6 w11 HD11.out)
  rw [F6.out.2.2.2.2.1] at HL
  have HO := hide (open_any w.heap.size p s6 w11 HD11.out)
  rw [F6.out.2.2.2.2.2] at HO
  go_wp2_with fail
  refine HL.out.mono ?_
  rintro e w12 ⟨rfl, rfl⟩
  go_wp2_with fail
  refine HO.out.mono ?_
  rintro e w13 ⟨rfl, rfl⟩
  go_wp2
  go_ret
  exact ⟨rfl, HF11.out.bel⟩
end Go.Proofs.Ytnapapgmeghgjaa
