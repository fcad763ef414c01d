/- The laws' helper told. -/
import Derived.Test.YtbjononpgcemgaaPL
set_option linter.unusedVariables false
namespace Go.Proofs.Ytbjononpgcemgaa
open Go.RowKit

theorem told_states (L1 L2 L3 H : List Nat) (s0 s1 s2 s3 s4 : DS) (hs0 : s0 = DS.new 5) (hs1 : s1 = s0.tick.wrote 2 L1) (hs2 : s2 = s1.tick.wrote 3 L2) (hs3 : s3 = (s2.flush.tick.wrote (1 % 2) H).flush) (hs4 : s4 = s3.tick.wrote 4 L3) :
    (s0.down = false ∧ s0.n = 5 ∧ ¬ s0.after = 1 ∧ s0.life = 0 ∧ s0.m = 0 ∧ s0.show 0 = [] ∧ s0.show 1 = []) ∧ (s1.down = false ∧ s1.n = 5 ∧ ¬ s1.after = 1 ∧ s1.life = 0 ∧ s1.m = 1) ∧ (s2.down = false ∧ s2.n = 5 ∧ ¬ s2.after = 1 ∧ s2.life = 0 ∧ ¬ s2.flush.after = 1 ∧ (s2.flush.tick.wrote (1 % 2) H).flushE = 0) ∧
    (s3.down = false ∧ s3.n = 5 ∧ ¬ s3.after = 1 ∧ s3.life = 0 ∧ s3.m = 0) ∧ (s4.down = false ∧ s4.n = 5 ∧ s4.life = 0 ∧ s4.show 0 = [] ∧ s4.show 1 = H ∧ s4.show 3 = L2) := by
  have q0 : s0.down = false ∧ s0.n = 5 ∧ ¬ s0.after = 1 ∧ s0.life = 0 ∧ s0.m = 0 ∧ s0.show 0 = [] ∧ s0.show 1 = [] := by subst hs0; exact ⟨rfl, rfl, (show ¬ (0 : Int) = 1 by omega), rfl, rfl, rfl, rfl⟩
  have q1 : s1.down = false ∧ s1.n = 5 ∧ ¬ s1.after = 1 ∧ s1.life = 0 ∧ s1.m = 1 := by subst hs1 hs0; exact ⟨rfl, rfl, (show ¬ (0 : Int) = 1 by omega), rfl, rfl⟩
  have q2 : s2.down = false ∧ s2.n = 5 ∧ ¬ s2.after = 1 ∧ s2.life = 0 ∧ ¬ s2.flush.after = 1 ∧ (s2.flush.tick.wrote (1 % 2) H).flushE = 0 := by subst hs2 hs1 hs0; exact ⟨rfl, rfl, (show ¬ (0 : Int) = 1 by omega), rfl, (show ¬ (0 : Int) = 1 by omega), rfl⟩
  have q3 : s3.down = false ∧ s3.n = 5 ∧ ¬ s3.after = 1 ∧ s3.life = 0 ∧ s3.m = 0 := by subst hs3 hs2 hs1 hs0; exact ⟨rfl, rfl, (show ¬ (0 : Int) = 1 by omega), rfl, rfl⟩
  have q4 : s4.down = false ∧ s4.n = 5 ∧ s4.life = 0 := by subst hs4 hs3 hs2 hs1 hs0; exact ⟨rfl, rfl, rfl⟩
  have z : ∀ b, b < 5 → s4.show b = if b = 4 then L3 else if b = 1 then H else if b = 3 then L2 else if b = 2 then L1 else s0.show b := by
    intro b hb
    have r := flush_facts q2.1 q2.2.2.1
    have r2 := tick_facts (s := s2.flush) q2.2.2.2.2.1
    have r3 : (s2.flush.tick.wrote (1 % 2) H).down = false := r2.1.trans r.2.1
    have r4 : ¬ (s2.flush.tick.wrote (1 % 2) H).after = 1 := by subst hs2 hs1 hs0; exact (show ¬ (0 : Int) = 1 by omega)
    have r5 : b < (s2.flush.tick.wrote (1 % 2) H).n := by show b < s2.flush.tick.n; rw [r2.2.2.1, r.2.2.1, q2.2.1]; exact hb
    rw [hs4, show_wrote, show_tick q3.2.2.1, hs3, show_flush r3 r4 b r5, show_wrote, show_tick q2.2.2.2.2.1, show_flush q2.1 q2.2.2.1 b (by rw [q2.2.1]; exact hb), hs2, show_wrote, show_tick q1.2.2.1, hs1, show_wrote, show_tick q0.2.2.1]
  refine ⟨q0, q1, q2, q3, q4.1, q4.2.1, q4.2.2, ?_, ?_, ?_⟩
  · rw [z 0 (by omega)]; exact q0.2.2.2.2.2.1
  · rw [z 1 (by omega)]; rfl
  · rw [z 3 (by omega)]; rfl
theorem told_pages (t0 t1 t2 t3 t4 t5 : PS) (h0 : t0 = ⟨newSt 5, 0, 0, 0⟩) (h1 : t1 = t0.set 2 2) (h2 : t2 = t1.set 3 2) (h3 : t3 = t2.committed 3) (h4 : t4 = t3.set 2 3) (h5 : t5 = t4.set 4 2) :
    (t0.life = 0 ∧ lowF t0.st = some 2) ∧ (t1.life = 0 ∧ lowF t1.st = some 3) ∧ (t2.life = 0 ∧ t2.of 3 = 2 ∧ t2.num = 0) ∧ (t3.life = 0 ∧ 2 < t3.st.length ∧ t3.st.getD 2 0 = 2) ∧ (t4.life = 0 ∧ lowF t4.st = some 4) ∧ (t5.life = 0 ∧ lowF t5.st = none ∧ t5.of 3 = 2) := by
  subst h5 h4 h3 h2 h1 h0
  exact ⟨⟨rfl, rfl⟩, ⟨rfl, rfl⟩, ⟨rfl, rfl, rfl⟩, ⟨rfl, (show 2 < 5 by omega), rfl⟩, ⟨rfl, rfl⟩, ⟨rfl, rfl, rfl⟩⟩
set_option maxRecDepth 100000 in
set_option maxHeartbeats 8000000 in
theorem told_any (w : World) : Calls Try.prog 19 #[] w fun e w' => e = .returned (.bool true) ∧ Below w.heap.size w w' := by
  letI : Gd := ⟨none⟩
  obtain ⟨H, hH⟩ : ∃ H, headB 1 3 = H := ⟨_, rfl⟩
  obtain ⟨s0, hs0⟩ : ∃ s, s = DS.new 5 := ⟨_, rfl⟩
  obtain ⟨s1, hs1⟩ : ∃ s, s = s0.tick.wrote 2 (laidP [1]) := ⟨_, rfl⟩
  obtain ⟨s2, hs2⟩ : ∃ s, s = s1.tick.wrote 3 (laidP [2]) := ⟨_, rfl⟩
  obtain ⟨s3, hs3⟩ : ∃ s, s = (s2.flush.tick.wrote (1 % 2) H).flush := ⟨_, rfl⟩
  obtain ⟨s4, hs4⟩ : ∃ s, s = s3.tick.wrote 4 (laidP [3]) := ⟨_, rfl⟩
  have FS := hide (told_states _ _ _ _ s0 s1 s2 s3 s4 hs0 hs1 hs2 hs3 hs4)
  obtain ⟨t0, ht0⟩ : ∃ t : PS, t = ⟨newSt 5, 0, 0, 0⟩ := ⟨_, rfl⟩
  obtain ⟨t1, ht1⟩ : ∃ t : PS, t = t0.set 2 2 := ⟨_, rfl⟩
  obtain ⟨t2, ht2⟩ : ∃ t : PS, t = t1.set 3 2 := ⟨_, rfl⟩
  obtain ⟨t3, ht3⟩ : ∃ t : PS, t = t2.committed 3 := ⟨_, rfl⟩
  obtain ⟨t4, ht4⟩ : ∃ t : PS, t = t3.set 2 3 := ⟨_, rfl⟩
  obtain ⟨t5, ht5⟩ : ∃ t : PS, t = t4.set 4 2 := ⟨_, rfl⟩
  have FT := hide (told_pages t0 t1 t2 t3 t4 t5 ht0 ht1 ht2 ht3 ht4 ht5)
  have HCM : Hid (s2.commit 1 3 = (s3, 0)) := by
    show _ = _
    rw [commit_is hH FS.out.2.2.1.2.2.1 FS.out.2.2.1.2.2.2.2.1, ← hs3, FS.out.2.2.1.2.2.2.2.2]
  have HL0 : Hid (lastH (rdH (pad (s0.show 0)) s0.n) (rdH (pad (s0.show 1)) s0.n) = some (0, 0)) := by
    show _ = _
    rw [FS.out.1.2.2.2.2.2.1, FS.out.1.2.2.2.2.2.2, rdH_zero]
    exact lastH_zero
  have HL4 : Hid (lastH (rdH (pad (s4.show 0)) s4.n) (rdH (pad (s4.show 1)) s4.n) = some (1, 3)) := by
    show _ = _
    rw [FS.out.2.2.2.2.2.2.2.1, FS.out.2.2.2.2.2.2.2.2.1, FS.out.2.2.2.2.2.1, rdH_zero, ← hH, rdH_head (by omega) (by omega) (by omega) (by omega) (by omega)]
    exact lastH_odd (by decide) rfl
  have HPG : Hid (pageOf (pad (s4.show 3)) = some [2]) := by
    show _ = _
    rw [FS.out.2.2.2.2.2.2.2.2.2]
    exact pageOf_laid [2] (by simp)
  have HSS := hide (And.intro hs0 (And.intro hs1 (And.intro hs2 (And.intro hs3 hs4))))
  have HTT := hide (And.intro ht0 (And.intro ht1 (And.intro ht2 (And.intro ht3 (And.intro ht4 ht5)))))
  have HB0 : Hid (w.heap.size ≤ w.heap.size) := Nat.le_refl _
  clear hs0 hs1 hs2 hs3 hs4 ht0 ht1 ht2 ht3 ht4 ht5 hH
  go_enter Try.func19, Try.ntmps19
  go_wp2_with fail
  refine (new_any w.heap.size 5 w (by omega) (by omega) HB0.out rfl).mono ?_
  rintro e w1 ⟨p, rfl, hD1, hb1⟩
  rw [← HSS.out.1] at hD1
  have HD1 := hide hD1
  have HF1 := hide (Fp.of hb1 HB0.out)
  clear hD1 hb1
  go_wp2_with fail
  refine (open_ok w.heap.size p s0 0 0 w1 HD1.out HF1.out.bel.size FS.out.1.1 (by rw [FS.out.1.2.1]; omega) HL0.out (by omega) (by omega)).mono ?_
  rintro e w2 ⟨q, rfl, hS2, hb2⟩
  rw [FS.out.1.2.1, FS.out.1.2.2.2.1, ← HTT.out.1] at hS2
  have HS2 := hide hS2
  have HF2 := hide (HF1.out.trans (Fp.of hb2 HF1.out.bel.size))
  clear hS2 hb2 HD1 HF1
  go_wp2_with fail
  refine (put_lit 1 2 HS2.out HF2.out.bel.size (by rw [FS.out.1.2.2.2.1, FT.out.1.1]) FT.out.1.2 (by rw [FS.out.1.2.1]; omega) FS.out.1.1 FS.out.1.2.2.1 (by rw [FS.out.1.2.2.2.1]; omega) (by rw [FS.out.1.2.2.2.2.1]; omega) (by omega)).mono ?_
  rintro e w3 ⟨rfl, hS, hF⟩
  rw [← HSS.out.2.1, ← HTT.out.2.1] at hS
  have HS3 := hide hS
  have HF3 := hide (HF2.out.trans hF)
  clear hS hF HS2 HF2
  go_wp2_with fail
  refine (put_lit 2 3 HS3.out HF3.out.bel.size (by rw [FS.out.2.1.2.2.2.1, FT.out.2.1.1]) FT.out.2.1.2 (by rw [FS.out.2.1.2.1]; omega) FS.out.2.1.1 FS.out.2.1.2.2.1 (by rw [FS.out.2.1.2.2.2.1]; omega) (by rw [FS.out.2.1.2.2.2.2]; omega) (by omega)).mono ?_
  rintro e w4 ⟨rfl, hS, hF⟩
  rw [← HSS.out.2.2.1, ← HTT.out.2.2.1] at hS
  have HS4 := hide hS
  have HF4 := hide (HF3.out.trans hF)
  clear hS hF HS3 HF3
  have HC4 := hide (commit_any 3 HS4.out HF4.out.bel.size (by rw [FS.out.2.2.1.2.2.2.1, FT.out.2.2.1.1]) FS.out.2.2.1.1 (by rw [FS.out.2.2.1.2.1]; omega) (by rw [FS.out.2.2.1.2.2.2.1]; omega) (Or.inr FT.out.2.2.1.2.1) (by omega) (by rw [FT.out.2.2.1.2.2]; omega))
  rw [FT.out.2.2.1.2.2, HCM.out] at HC4
  go_wp2_with fail
  refine HC4.out.mono ?_
  rintro e w5 ⟨rfl, hS, hF⟩
  simp only [if_true] at hS
  rw [← HTT.out.2.2.2.1] at hS
  have HS5 := hide hS
  have HF5 := hide (HF4.out.trans hF)
  clear hS hF HS4 HF4 HC4
  go_wp2_with fail
  refine (free_ok 2 HS5.out HF5.out.bel.size (by rw [FS.out.2.2.2.1.2.2.2.1, FT.out.2.2.2.1.1]) FT.out.2.2.2.1.2.1 FT.out.2.2.2.1.2.2).mono ?_
  rintro e w6 ⟨rfl, hS, hF⟩
  rw [← HTT.out.2.2.2.2.1] at hS
  have HS6 := hide hS
  have HF6 := hide (HF5.out.trans hF)
  clear hS hF HS5 HF5
  go_wp2_with fail
  refine (put_lit 3 4 HS6.out HF6.out.bel.size (by rw [FS.out.2.2.2.1.2.2.2.1, FT.out.2.2.2.2.1.1]) FT.out.2.2.2.2.1.2 (by rw [FS.out.2.2.2.1.2.1]; omega) FS.out.2.2.2.1.1 FS.out.2.2.2.1.2.2.1 (by rw [FS.out.2.2.2.1.2.2.2.1]; omega) (by rw [FS.out.2.2.2.1.2.2.2.2]; omega) (by omega)).mono ?_
  rintro e w7 ⟨rfl, hS, hF⟩
  rw [← HSS.out.2.2.2.2, ← HTT.out.2.2.2.2.2] at hS
  have HS7 := hide hS
  have HF7 := hide (HF6.out.trans hF)
  clear hS hF HS6 HF6
  have HBX := hide (below_box w7 (.cells #[.int .u8 4] 5))
  go_wp2_with fail
  refine (put_full (some ⟨w7.heap.size, 0, none⟩) 1 1 (HS7.out.later HBX.out) (by rw [FS.out.2.2.2.2.2.2.1, FT.out.2.2.2.2.2.1]) (by omega) FT.out.2.2.2.2.2.2.1).mono ?_
  rintro e w8 ⟨rfl, hb⟩
  have HB8 := hide (HBX.out.trans (hb.mono HBX.out.size))
  have HS8 := hide (HS7.out.later HB8.out)
  have HF8 := hide (HF7.out.trans (Fp.of HB8.out HF7.out.bel.size))
  clear hb HS7 HF7 HBX HB8
  go_wp2_with fail
  refine (open_ok w.heap.size p s4 1 3 w8 HS8.out.1 HF8.out.bel.size FS.out.2.2.2.2.1 (by rw [FS.out.2.2.2.2.2.1]; omega) HL4.out (by omega) (by omega)).mono ?_
  rintro e w9 ⟨q2, rfl, hS9, hb9⟩
  have HS9 := hide (HS8.out.later hb9)
  have HT9 := hide hS9
  have HF9 := hide (HF8.out.trans (Fp.of hb9 HF8.out.bel.size))
  clear hS9 hb9 HS8 HF8
  have HG := hide (get_any 3 HS9.out HF9.out.bel.size (by rw [FS.out.2.2.2.2.2.2.1, FT.out.2.2.2.2.2.1]) (by rw [FS.out.2.2.2.2.2.1]; omega) (by have := FT.out.2.2.2.2.2.2.2; show t5.of 3 ≠ 0; omega) FS.out.2.2.2.2.1)
  rw [HPG.out] at HG
  go_wp2_with fail
  refine HG.out.mono ?_
  rintro e w10 ⟨⟨v10, rfl, ho10⟩, hb10⟩
  obtain ⟨a10, c10, rfl, B10⟩ := bs_row ho10 (by simp) (by simp)
  have tx := run_text B10
  have HT10 := hide (HT9.out.later hb10)
  have HF10 := hide (HF9.out.trans (Fp.of hb10 HF9.out.bel.size))
  clear ho10 hb10 HS9 HT9 HF9 HG B10
  have SB : Hid ((str [2]).toList = [2]) := by show _ = _; rw [ByteArray.toList_eq, str, strOfNums_data]; rfl
  have HRT := hide (root_any HT10.out)
  have HNM := hide (number_any HT10.out)
  generalize hl1 : [2].length = l1 at *
  clear hl1
  generalize str [2] = sx at *
  go_wp2_with fail
  refine HRT.out.mono ?_
  rintro e w11 ⟨rfl, hq⟩
  have hq := hq.symm
  subst hq
  go_wp2_with fail
  refine HNM.out.mono ?_
  rintro e w12 ⟨rfl, hq⟩
  have hq := hq.symm
  subst hq
  go_wp2
  go_ret
  refine ⟨?_, HF10.out.bel⟩
  show Ending.returned (.bool (sx.toList == [2])) = _
  rw [SB.out]
  rfl
end Go.Proofs.Ytbjononpgcemgaa
