/- The walk of the law PageFlips: whatever bytes, bits and pattern, it returns true and writes nothing that was there. -/
import Derived.Test.YtdagpobgmaeboaaPO
set_option linter.unusedVariables false
namespace Go.Proofs.Ytdagpobgmaeboaa
open Go.RowKit

set_option maxRecDepth 100000 in
set_option maxHeartbeats 8000000 in
theorem pageFlips_walk (a0 : Option Addr) (len0 cap0 : Nat) (xs0 : List Nat) (i j k : Int) (patI : Int) (w : World) (h0 : BS w a0 len0 cap0 xs0) (_hr : len0 ≤ 140737488351232) (hp : (Lit.int .u32 patI).wf = true) :
    Calls Try.prog 6 #[.slice a0 len0 cap0, .int .i64 i, .int .i64 j, .int .i64 k, .int .u32 patI] w fun e w' => e = .returned (.bool true) ∧ Below w.heap.size w w' := by
  obtain ⟨pat, hpat, rfl⟩ : ∃ pat : Nat, pat < 4294967296 ∧ patI = (pat : Int) := by
    have := bounds_u32 hp
    exact ⟨patI.toNat, by omega, by omega⟩
  obtain ⟨ci, hci, qi⟩ := mask16 i
  obtain ⟨cj, hcj, qj⟩ := mask16 j
  obtain ⟨ck, hck, qk⟩ := mask16 k
  obtain ⟨o, ho, qo⟩ := mask1 i
  obtain ⟨k40, hk40, q40⟩ := mask40 i
  obtain ⟨m, hm⟩ : ∃ m, m = min len0 500 := ⟨_, rfl⟩
  have q0 := h0.hlen
  have z0 := h0.hcap
  have y0 := h0.hmax
  have T0 := hide (bs_take h0 m (by omega))
  have LA : (xs0.take m).length = m := by rw [List.length_take]; omega
  have BA := hide T0.out.hbyte
  have e0 : (if (500 : Int) < (len0 : Int) then (500 : Int) else (len0 : Int)) = (m : Int) := by split <;> omega
  have em : min (len0 : Int) 500 = (m : Int) := by omega
  have l0 : m ≤ 500 := by omega
  have u0 : (0 : Int) ≤ (m : Int) := by omega
  have v0 : (m : Int) ≤ (cap0 : Int) := by omega
  clear hm h0 q0 z0 hp
  generalize hA : xs0.take m = xs at *
  clear hA
  have HLA := hide LA
  obtain ⟨us, hus⟩ : ∃ us : Nat, us = 8 * (m + 6) := ⟨_, rfl⟩
  obtain ⟨c, hc⟩ : ∃ c, c = c3 ci cj ck := ⟨_, rfl⟩
  obtain ⟨f, hf⟩ : ∃ f : Nat → Nat, f = fun x => if o = 1 then c x % us else c x := ⟨_, rfl⟩
  have HCB : Hid (∀ x, c x < 65536) := by
    intro x
    rw [hc]
    unfold c3
    split
    · exact hci
    · split
      · exact hcj
      · exact hck
  have HFB : Hid (∀ x, f x < 65536) := by
    intro x
    have := HCB.out x
    rw [hf]
    simp only
    split
    · exact Nat.lt_of_le_of_lt (Nat.mod_le _ _) this
    · exact this
  have HFE : Hid (∀ x, f x = if o = 1 then c x % us else c x) := fun x => by rw [hf]
  have HA0 : Hid (arr f c 0 = #[.int .i64 (ci : Int), .int .i64 (cj : Int), .int .i64 (ck : Int)]) := by
    show _ = _
    rw [hc]
    rfl
  obtain ⟨X, hX⟩ : ∃ X, X = pad (laidP xs) := ⟨_, rfl⟩
  have HXL : Hid (X.length = 8192) := by show _ = _; rw [hX]; exact pad_len (by rw [laidP_len, LA]; unfold blk; omega)
  have HXB : Hid (∀ c ∈ X, c < 256) := by rw [hX]; exact pad_lt (laidP_lt BA.out)
  have HXP : Hid (pageOf X = some xs) := by show _ = _; rw [hX]; exact pageOf_laid xs (by omega)
  have H3N := hide (three_none HXL.out HXB.out HXP.out (HFB.out 0) (HFB.out 1) (HFB.out 2))
  have HBK := hide (Yk_back HXL.out HFB.out)
  obtain ⟨at_, hat⟩ : ∃ at_ : Nat, at_ = 32 + k40 % (us - 32) := ⟨_, rfl⟩
  have ha32 : 32 ≤ at_ := by omega
  have haus : at_ < us := by have := Nat.mod_lt k40 (show 0 < us - 32 by omega); omega
  have qat : (32 : Int) + (k40 : Int) % ((us : Int) - 32) = (at_ : Int) := by
    rw [hat]
    have : (us : Int) - 32 = ((us - 32 : Nat) : Int) := by omega
    rw [this]
    push_cast
    rfl
  have us1 : (48 : Int) ≤ (us : Int) := by omega
  have us2 : (us : Int) ≤ 4048 := by omega
  have qus : (8 : Int) * ((m : Int) + 6) = (us : Int) := by omega
  obtain ⟨s0, hs0⟩ : ∃ s, s = DS.new 4 := ⟨_, rfl⟩
  obtain ⟨s1, hs1⟩ : ∃ s, s = s0.tick.wrote 2 (laidP xs) := ⟨_, rfl⟩
  obtain ⟨t0, ht0⟩ : ∃ t : PS, t = ⟨newSt 4, 0, 0, 0⟩ := ⟨_, rfl⟩
  obtain ⟨t1, ht1⟩ : ∃ t : PS, t = t0.set 2 2 := ⟨_, rfl⟩
  have HZ1 : Hid (FZ s1 X) := by rw [hs1, hs0, hX]; exact flips_states xs
  have HP0 : Hid (s0.down = false ∧ s0.n = 4 ∧ ¬ s0.after = 1 ∧ s0.life = 0 ∧ s0.m = 0) := by subst hs0; exact ⟨rfl, rfl, (show ¬ (0 : Int) = 1 by omega), rfl, rfl⟩
  have HT0 : Hid (t0.life = 0 ∧ lowF t0.st = some 2) := by subst ht0; exact ⟨rfl, rfl⟩
  have HT1 : Hid (t1.life = 0 ∧ t1.of 2 = 2) := by subst ht1 ht0; exact ⟨rfl, rfl⟩
  have HL0 : Hid (lastH (rdH (pad (s0.show 0)) s0.n) (rdH (pad (s0.show 1)) s0.n) = some (0, 0)) := by
    show _ = _
    rw [hs0]
    show lastH (rdH (pad []) _) (rdH (pad []) _) = _
    rw [rdH_zero]
    exact lastH_zero
  have HS0 := hide hs0
  have HS1 := hide hs1
  have HTT := hide (And.intro ht0 ht1)
  have HB0 : Hid (w.heap.size ≤ w.heap.size) := Nat.le_refl _
  have HUS := hide hus
  clear hs0 hs1 ht0 ht1 hX hc hf hat hus LA hci hcj hck hk40
  go_enter Try.func6, Try.ntmps6
  go_wp2_with fail
  refine (new_any w.heap.size 4 w (by omega) (by omega) HB0.out).mono ?_
  rintro e w1 ⟨p, rfl, hD1, hb1⟩
  rw [← HS0.out] at hD1
  have HD1 := hide hD1
  have HF1 := hide (Fp.of hb1 HB0.out)
  clear hD1 hb1
  go_wp2_with fail
  refine (open_ok w.heap.size p s0 0 0 w1 HD1.out HF1.out.bel.size HP0.out.1 (by rw [HP0.out.2.1]; omega) HL0.out (by omega) (by omega)).mono ?_
  rintro e w2 ⟨q, rfl, hS2, hb2⟩
  rw [HP0.out.2.1, HP0.out.2.2.2.1, ← HTT.out.1] at hS2
  have HS2 := hide hS2
  have HF2 := hide (HF1.out.trans (Fp.of hb2 HF1.out.bel.size))
  clear hS2 hb2 HD1 HF1
  go_wp2_with fail
  refine (put_ok a0 m cap0 xs 2 HS2.out HF2.out.bel.size (by rw [HP0.out.2.2.2.1, HT0.out.1]) (by omega) HT0.out.2 (by rw [HP0.out.2.1]; omega) HP0.out.1 HP0.out.2.2.1 (by rw [HP0.out.2.2.2.1]; omega) (by rw [HP0.out.2.2.2.2]; omega) (T0.out.later HF2.out.bel (Nat.le_refl _))).mono ?_
  rintro e w3 ⟨rfl, hS, hF⟩
  rw [← HS1.out, ← HTT.out.2] at hS
  have HS3 := hide hS
  have HF3 := hide (HF2.out.trans hF)
  clear hS hF HS2 HF2
  have HBX := hide (below_box w3 (.cells #[.int .i64 (ci : Int), .int .i64 (cj : Int), .int .i64 (ck : Int)] 71))
  go_wp2_with fail
  have HG : Hid (w.heap.size ≤ w3.heap.size) := HF3.out.bel.size
  have HFX := hide (HF3.out.trans (Fp.of HBX.out HF3.out.bel.size))
  have HSX := hide (HS3.out.later HBX.out)
  have HRX := hide (heap_alloc_new w3 (.cells #[.int .i64 (ci : Int), .int .i64 (cj : Int), .int .i64 (ck : Int)] 71))
  rw [← HA0.out] at HRX HSX HFX
  obtain ⟨g, hg⟩ : ∃ g, g = w3.heap.size := ⟨_, rfl⟩
  rw [← hg] at HRX HG
  rw [← hg]
  clear hg
  go_loopw [19] (fun x wr => ∃ n : Nat, n ≤ 3 ∧ x = .int .i64 n ∧ wr.heap[g]? = some (.cells (arr f c n) 71 (0, 0)) ∧ ∃ s, FZ s (Yk X f n) ∧ ST w.heap.size p q s t1 wr ∧ Fp w.heap.size w wr) (fun x _ => 3 - (intOf x).toNat)
  case atStart => exact ⟨0, by omega, rfl, by rw [HA0.out] at HRX ⊢; exact HRX.out, s1, HZ1.out, by rw [HA0.out] at HSX; exact HSX.out, by rw [HA0.out] at HFX; exact HFX.out⟩
  case round =>
    clear HFX HSX HRX HF3 HS3 HBX
    obtain ⟨n, hn, rfl, hR, s, hz, hS, hF⟩ := hrel
    have HR := hide hR
    have HZ := hide hz
    have HS := hide hS
    have HF := hide hF
    clear hR hz hS hF
    by_cases hlt : n < 3
    · have i3 : (n : Int) < 3 := by omega
      have cc : wr.cell? ⟨g, n, none⟩ = some (.int .i64 (c n : Nat)) := (cell_blk HR.out).trans (arr_get f c hlt)
      have fz := frz_blk (i := n) HR.out
      have HAS := hide (arr_set f c hlt)
      have HAM := hide (arr_same f c hlt)
      have HFN := hide (HFE.out n)
      have hcb := HCB.out n
      have HFL := hide (HFB.out n)
      generalize c n = cn at *
      by_cases ho1 : o = 1
      · subst ho1
        rw [if_pos rfl] at HFN
        have HE : Hid ((cn : Int) % (us : Int) = ((f n : Nat) : Int)) := by show _ = _; rw [HFN.out]; rfl
        have HRS : Hid ((wr.setCell ⟨g, n, none⟩ (.int .i64 ((f n : Nat) : Int))).heap[g]? = some (.cells (arr f c (n + 1)) 71 (0, 0))) := by
          show _ = _
          rw [heap_setCell_same wr g n _ _ _ HR.out, HAS.out]
        have HSS := hide (HS.out.other (o := n) (u := .int .i64 ((f n : Nat) : Int)) HR.out)
        have HFS := hide (HF.out.set_new (o := n) (u := .int .i64 ((f n : Nat) : Int)) HG.out HG.out)
        clear hlt
        go_wp2_with fail
        rw [HE.out]
        refine (flip_st (f n) HSS.out HFS.out.bel.size HZ.out HFL.out).mono ?_
        rintro e w5 ⟨rfl, s5, hz5, hS5, hF5⟩
        have HZ5 := hide hz5
        have HS5 := hide hS5
        have HR5 := hide (hF5.stay _ _ _ _ HRS.out (by decide) (by decide) (by decide) (by decide))
        have HF5 := hide (HFS.out.trans (Fp.ofFr hF5))
        clear hz5 hS5 hF5
        go_wp2
        exact ⟨⟨n + 1, by omega, by go_num, HR5.out, s5, HZ5.out, HS5.out, HF5.out⟩, by simp [intOf]; omega⟩
      · have q1 : ((o : Int) == 1) = false := by simp; omega
        rw [if_neg ho1] at HFN
        have HRS := hide HR.out
        rw [HAM.out HFN.out] at HRS
        have HFS := HF
        rw [← HFN.out] at cc
        clear hlt ho1
        go_wp2_with fail
        refine (flip_st (f n) HS.out HFS.out.bel.size HZ.out HFL.out).mono ?_
        rintro e w5 ⟨rfl, s5, hz5, hS5, hF5⟩
        have HZ5 := hide hz5
        have HS5 := hide hS5
        have HR5 := hide (hF5.stay _ _ _ _ HRS.out (by decide) (by decide) (by decide) (by decide))
        have HF5 := hide (HFS.out.trans (Fp.ofFr hF5))
        clear hz5 hS5 hF5
        go_wp2
        exact ⟨⟨n + 1, by omega, by go_num, HR5.out, s5, HZ5.out, HS5.out, HF5.out⟩, by simp [intOf]; omega⟩
    · obtain rfl : n = 3 := by omega
      clear hlt hn HZ1 HL0 HP0 HS0 HS1
      have HG1 := hide (get_any 2 HS.out HF.out.bel.size (by rw [HZ.out.lf, HT1.out.1]) (by rw [HZ.out.n4]; omega) (by have := HT1.out.2; show t1.of 2 ≠ 0; omega) HZ.out.dn)
      rw [HZ.out.sh, show pageOf (Yk X f 3) = none from H3N.out] at HG1
      go_wp2_with fail
      refine HG1.out.mono ?_
      rintro e w4 ⟨rfl, hb4⟩
      have HS4 := hide (HS.out.later hb4)
      have HF4 := hide (HF.out.trans (Fp.of hb4 HF.out.bel.size))
      have HR4 := hide ((hb4.block _ (Array.getElem?_eq_some_iff.1 HR.out).1).trans HR.out)
      have HZ4 := hide HZ.out
      clear hb4 HG1 HS HF HR HZ
      go_wp2_with fail
      go_loopw [22] (fun x wx => ∃ n : Nat, n ≤ 3 ∧ x = .int .i64 n ∧ wx.heap[g]? = some (.cells (arr f c 3) 71 (0, 0)) ∧ ∃ s, FZ s (Yk (Yk X f 3) f n) ∧ ST w.heap.size p q s t1 wx ∧ Fp w.heap.size w wx) (fun x _ => 3 - (intOf x).toNat)
      case atStart => exact ⟨0, by omega, rfl, HR4.out, s, HZ4.out, HS4.out, HF4.out⟩
      case round =>
        clear HS4 HF4 HR4 HZ4 s
        obtain ⟨n, hn, rfl, hR, s, hz, hS, hF⟩ := hrel
        have HR := hide hR
        have HZ := hide hz
        have HS := hide hS
        have HF := hide hF
        clear hR hz hS hF
        by_cases hlt : n < 3
        · have i3 : (n : Int) < 3 := by omega
          have cc : wr.cell? ⟨g, n, none⟩ = some (.int .i64 (f n : Nat)) := (cell_blk HR.out).trans (arr_all f c hlt)
          have HFL := hide (HFB.out n)
          have HRS := HR
          have HFS := HF
          clear hlt
          go_wp2_with fail
          refine (flip_st (f n) HS.out HFS.out.bel.size HZ.out HFL.out).mono ?_
          rintro e w5 ⟨rfl, s5, hz5, hS5, hF5⟩
          have HZ5 := hide hz5
          have HS5 := hide hS5
          have HR5 := hide (hF5.stay _ _ _ _ HRS.out (by decide) (by decide) (by decide) (by decide))
          have HF5 := hide (HFS.out.trans (Fp.ofFr hF5))
          clear hz5 hS5 hF5
          go_wp2
          exact ⟨⟨n + 1, by omega, by go_num, HR5.out, s5, HZ5.out, HS5.out, HF5.out⟩, by simp [intOf]; omega⟩
        · obtain rfl : n = 3 := by omega
          clear hlt hn
          rw [HBK.out] at HZ
          have HG1 := hide (get_any 2 HS.out HF.out.bel.size (by rw [HZ.out.lf, HT1.out.1]) (by rw [HZ.out.n4]; omega) (by have := HT1.out.2; show t1.of 2 ≠ 0; omega) HZ.out.dn)
          rw [HZ.out.sh, HXP.out] at HG1
          go_wp2_with fail
          refine HG1.out.mono ?_
          rintro e w4 ⟨⟨v4, rfl, ho4⟩, hb4⟩
          obtain ⟨a4, c4, rfl, B4⟩ := bs_row ho4 (by rw [HLA.out]; omega) BA.out
          have tx := run_text B4
          have HS4 := hide (HS.out.later hb4)
          have HF4 := hide (HF.out.trans (Fp.of hb4 HF.out.bel.size))
          have ty := run_text (T0.out.later HF4.out.bel (Nat.le_refl _))
          have HZ4 := hide HZ.out
          rw [HLA.out] at tx ⊢
          clear hb4 ho4 HG1 HS HF HR HZ B4
          have HSX : Hid (str xs = str xs) := rfl
          generalize hsx : str xs = sx at tx ty
          have HSX2 := hide hsx
          clear hsx HSX
          have HP0 := hide (bu_start HXL.out HXB.out at_)
          go_wp2_with fail
          clear tx ty
          go_loopw [27, 26] (fun x tn wx => ∃ n : Nat, n ≤ 32 ∧ x = .int .i64 n ∧ ∃ tc : Nat, tc ≤ n ∧ tn = .int .i64 tc ∧ (tc = 0 ↔ pat % 2 ^ n = 0) ∧ ∃ s Y, FZ s Y ∧ Bu X Y at_ (pat % 2 ^ n) ∧ (pat % 2 ^ n = 0 → Y = X) ∧ ST w.heap.size p q s t1 wx ∧ Fp w.heap.size w wx) (fun x _ _ => 32 - (intOf x).toNat)
          case atStart => exact ⟨0, by omega, rfl, 0, by omega, rfl, by simp [Nat.mod_one], s, X, HZ4.out, by rw [Nat.pow_zero, Nat.mod_one]; exact HP0.out, fun _ => rfl, HS4.out, HF4.out⟩
          case round =>
            clear HS4 HF4 HZ4 HP0 s
            obtain ⟨n, hn, rfl, tc, htc, rfl, htz, s, Y, hz, hbu, hyx, hS, hF⟩ := hrel
            have HZ := hide hz
            have HS := hide hS
            have HF := hide hF
            have HBU := hide hbu
            have HYX := hide hyx
            have HTZ := hide htz
            clear hz hS hF hbu hyx htz
            by_cases hlt : n < 32
            · have i3 : (n : Int) < 32 := by omega
              have i4 : (at_ : Int) + (n : Int) < 65536 := by omega
              have pb := pat_bit pat n hpat
              have HPN := hide (pat_next pat n)
              have HPL : Hid (pat % 2 ^ n < 2 ^ n) := Nat.mod_lt _ (Nat.two_pow_pos n)
              generalize pat / 2 ^ n % 2 = d at *
              by_cases hd : d = 1
              · subst hd
                rw [if_pos rfl] at HPN
                have HPP : Hid (0 < 2 ^ n) := Nat.two_pow_pos n
                clear hlt
                go_wp2_with fail
                refine (flip_st (at_ + n) HS.out HF.out.bel.size HZ.out (by omega)).mono ?_
                rintro e w5 ⟨rfl, s5, hz5, hS5, hF5⟩
                have HZ5 := hide hz5
                have HS5 := hide hS5
                have HF5 := hide (HF.out.trans (Fp.ofFr hF5))
                have HBN := hide (HBU.out.next (x := n) ha32 (by omega) HPL.out)
                clear hz5 hS5 hF5
                go_wp2
                refine ⟨⟨n + 1, by omega, by go_num, tc + 1, by omega, by go_num, ?_, s5, _, HZ5.out, by rw [HPN.out]; exact HBN.out, ?_, HS5.out, HF5.out⟩, by simp [intOf]; omega⟩
                · rw [HPN.out]
                  have := HPP.out
                  omega
                · rw [HPN.out]
                  have := HPP.out
                  omega
              · have hd0 : ¬ d = 1 := hd
                rw [if_neg hd, Nat.add_zero] at HPN
                have q1 : ((d : Int) == 1) = false := by simp; omega
                clear hlt hd hd0
                go_wp2
                exact ⟨⟨n + 1, by omega, by go_num, tc, by omega, rfl, by rw [HPN.out]; exact HTZ.out, s, Y, HZ.out, by rw [HPN.out]; exact HBU.out, by rw [HPN.out]; exact HYX.out, HS.out, HF.out⟩, by simp [intOf]; omega⟩
            · obtain rfl : n = 32 := by omega
              have HPE : Hid (pat % 2 ^ 32 = pat) := Nat.mod_eq_of_lt (by omega)
              rw [HPE.out] at HTZ HBU HYX
              clear hlt hn
              have HG1 := hide (get_any 2 HS.out HF.out.bel.size (by rw [HZ.out.lf, HT1.out.1]) (by rw [HZ.out.n4]; omega) (by have := HT1.out.2; show t1.of 2 ≠ 0; omega) HZ.out.dn)
              rw [HZ.out.sh] at HG1
              by_cases hp0 : pat = 0
              · rw [HYX.out hp0, HXP.out] at HG1
                obtain rfl : tc = 0 := HTZ.out.2 hp0
                clear hp0
                go_wp2_with fail
                refine HG1.out.mono ?_
                rintro e w4 ⟨⟨v4, rfl, ho4⟩, hb4⟩
                obtain ⟨a4, c4, rfl, B4⟩ := bs_row ho4 (by rw [HLA.out]; omega) BA.out
                have HF4 := hide (HF.out.trans (Fp.of hb4 HF.out.bel.size))
                have HB4 := hide B4
                clear hb4 ho4 HG1 HS HF HZ B4
                rw [HLA.out] at HB4 ⊢
                go_wp2_with fail
                refine (told_any w4).mono ?_
                rintro e w5 ⟨rfl, hb5⟩
                have HF5 := hide (HF4.out.trans (Fp.of hb5 HF4.out.bel.size))
                have tx := run_text (HB4.out.later hb5 (Nat.le_refl _))
                have ty := run_text (T0.out.later HF5.out.bel (Nat.le_refl _))
                rw [HSX2.out] at tx ty
                clear hb5
                go_wp2
                go_ret
                exact ⟨rfl, HF5.out.bel⟩
              · rw [HBU.out.none HXB.out HXP.out hpat hp0] at HG1
                have htc0 : 0 < tc := by have := HTZ.out; omega
                have q1 : (0 : Int) < (tc : Int) := by omega
                have q2 : ((tc : Int) == 0) = false := by simp; omega
                clear hp0
                go_wp2_with fail
                refine HG1.out.mono ?_
                rintro e w4 ⟨rfl, hb4⟩
                have HF4 := hide (HF.out.trans (Fp.of hb4 HF.out.bel.size))
                clear hb4 HG1 HS HF HZ
                go_wp2_with fail
                refine (told_any w4).mono ?_
                rintro e w5 ⟨rfl, hb5⟩
                have HF5 := hide (HF4.out.trans (Fp.of hb5 HF4.out.bel.size))
                clear hb5
                go_wp2
                go_ret
                exact ⟨rfl, HF5.out.bel⟩
end Go.Proofs.Ytdagpobgmaeboaa
