/- The walk of the law PageKeeps: whatever texts and losses, it returns true and writes nothing that was there. -/
import Derived.Test.YtdagpobgmaeboaaPQ
import Derived.Test.YtdagpobgmaeboaaPR
import Derived.Test.YtdagpobgmaeboaaF4
set_option linter.unusedVariables false
namespace Go.Proofs.Ytdagpobgmaeboaa
open Go.RowKit

/-- A Store's states with the page R held alone. -/
def hst (R : Nat) : List Nat := if R = 0 then newSt 12 else (newSt 12).set R 2
section
variable {R : Nat} (h : R = 0 ∨ R = 2 ∨ R = 3)
include h
theorem hst_low : lowF (hst R) = some (nid R) := by rcases h with rfl | rfl | rfl <;> decide
theorem hst_len : (hst R).length = 12 := by rcases h with rfl | rfl | rfl <;> decide
theorem hst_held (h0 : R ≠ 0) : ((hst R).set (nid R) 2).getD R 0 = 2 := by rcases h with rfl | rfl | rfl <;> first | exact absurd rfl h0 | decide
theorem hst_new : ((hst R).set (nid R) 2).getD (nid R) 0 = 2 ∧ (((hst R).set (nid R) 2).set R 3).getD (nid R) 0 = 2 := by rcases h with rfl | rfl | rfl <;> decide
theorem hst_zero (h0 : R = 0) : backF ((hst R).set (nid R) 2) = hst (nid R) := by subst h0; decide
theorem hst_back (h0 : R ≠ 0) : backF (((hst R).set (nid R) 2).set R 3) = hst (nid R) := by rcases h with rfl | rfl | rfl <;> first | exact absurd rfl h0 | decide
theorem hst_hold (h0 : R ≠ 0) : (newSt 12).set R 2 = hst R ∧ (newSt 12).getD R 0 ≠ 0 ∧ R < (newSt 12).length := by rcases h with rfl | rfl | rfl <;> first | exact absurd rfl h0 | decide
end
/-- Where a round of PageKeeps stands. -/
structure KW (p q : Nat) (s : DS) (N R : Nat) (xs : List Nat) (k : Nat) (w wr : World) : Prop where
  kd : KD s N R xs
  dn : s.down = false
  l0 : 0 ≤ s.life
  lk : s.life ≤ (k : Int)
  nk : N ≤ k
  st : ST w.heap.size p q s ⟨hst R, s.life, N, R⟩ wr
  fp : Fp w.heap.size w wr
theorem KW.ok {p q : Nat} {s : DS} {N R : Nat} {xs : List Nat} {k : Nat} {w wr : World} (h : KW p q s N R xs k w wr) : s.Ok := h.st.1.ok
theorem of_nat (t : PS) (i : Nat) : t.of (i : Int) = t.st.getD i 0 := by unfold PS.of; rw [if_pos (by omega), Int.toNat_natCast]
theorem KW.later {p q : Nat} {s : DS} {N R : Nat} {xs : List Nat} {k : Nat} {w wr w2 : World} (h : KW p q s N R xs k w wr) (hb : Below wr.heap.size wr w2) : KW p q s N R xs k w w2 := ⟨h.kd, h.dn, h.l0, h.lk, h.nk, h.st.later hb, h.fp.trans (Fp.of hb h.fp.bel.size)⟩
theorem KW.arm {p q : Nat} {s : DS} {N R : Nat} {xs : List Nat} {k : Nat} {w wr w2 : World} (h : KW p q s N R xs k w wr) (after : Int) (keep : Nat) (torn cut : Int) (hd : DI w.heap.size p (s.arm after keep torn cut) w2) (hf : Fr w.heap.size wr w2) : KW p q (s.arm after keep torn cut) N R xs k w w2 := by
  have e : s.arm after keep torn cut = s.with after keep torn cut s.down s.life := by unfold DS.arm; rw [h.dn]; rfl
  have hs := h.st.disk hd hf
  rw [e] at hs ⊢
  exact ⟨h.kd.of rfl rfl, h.dn, h.l0, h.lk, h.nk, hs, h.fp.trans (Fp.ofFr hf)⟩
theorem str_nil : (⟨#[]⟩ : ByteArray) = str [] := by rfl
theorem lose_ok {s : DS} (h : s.Ok) (hl : s.life < 100000) (keep : Nat) (torn cut : Int) : (s.lose keep torn cut).Ok := by
  have k := settle_ok h keep torn cut
  have l0 := h.life0
  exact ⟨k.n1, k.n2, k.kl, k.kb, k.at_, k.bl, k.bb, k.mm, by show (0 : Nat) < _; omega, by show (0 : Int) ≤ _; omega, by show 0 ≤ s.life + 1; omega, by show s.life + 1 ≤ _; omega⟩
theorem flush_ok_of {B p : Nat} {s : DS} {w : World} (h : DI B p s w) (hd : s.down = false) (hf : ¬ s.after = 1) : s.flush.Ok := by
  rw [flush_is hd hf]
  have hk := h.ok
  have ht : s.tick.Ok := by
    unfold DS.tick
    split
    · exact hk
    · first | skip | rw [if_neg hf]
      exact ⟨hk.n1, hk.n2, hk.kl, hk.kb, hk.at_, hk.bl, hk.bb, hk.mm, hk.keep, by show s.after - 1 ≤ _; have := hk.after; omega, hk.life0, hk.life1⟩
  exact settle_ok ht _ _ _

set_option maxRecDepth 100000 in
set_option maxHeartbeats 16000000 in
theorem pageKeeps_walk (a1 : Option Addr) (T cap1 b1 o1 : Nat) (A : Nat → Option Addr) (L C : Nat → Nat) (tf : Nat → List Nat) (a2 : Option Addr) (n2 cap2 : Nat) (lq : Nat → LV) (w : World) (h1 : TXS w a1 T 200 b1 o1 A L C tf) (h2 : LS w a2 n2 4 0 lq) :
    Calls Try.prog 5 #[.slice a1 T cap1, .slice a2 n2 cap2] w fun e w' => e = .returned (.bool true) ∧ Below w.heap.size w w' := by
  have HB0 : Hid (w.heap.size ≤ w.heap.size) := Nat.le_refl _
  have H1 := hide h1
  have H2 := hide h2
  have t63 := h1.hl
  have n63 := h2.hl
  obtain ⟨s0, hs0⟩ : ∃ s, s = DS.new 12 := ⟨_, rfl⟩
  have HK0 : Hid (KD s0 0 0 []) := by rw [hs0]; exact kd_start
  have HS0 : Hid (s0.down = false ∧ s0.life = 0 ∧ s0 = DS.new 12) := by rw [hs0]; exact ⟨rfl, rfl, rfl⟩
  have HNIL := hide str_nil
  clear hs0 h1 h2
  go_enter Try.func5, Try.ntmps5
  go_wp2_with fail
  refine (new_any w.heap.size 12 w (by omega) (by omega) HB0.out).mono ?_
  rintro e w1 ⟨p, rfl, hD1, hb1⟩
  rw [← HS0.out.2.2] at hD1
  have HD1 := hide hD1
  have HF1 := hide (Fp.of hb1 HB0.out)
  clear hD1 hb1
  go_wp2_with fail
  refine (open_ok w.heap.size p s0 0 0 w1 HD1.out HF1.out.bel.size HS0.out.1 (by rw [HK0.out.n12]; omega) (HK0.out.last (by omega)) (by omega) (by omega)).mono ?_
  rintro e w2 ⟨q0, rfl, hS2, hb2⟩
  rw [HK0.out.n12] at hS2
  have HKW0 : Hid (KW p q0 s0 0 0 [] 0 w w2) := ⟨HK0.out, HS0.out.1, by rw [HS0.out.2.1]; omega, by rw [HS0.out.2.1]; omega, by omega, hS2, HF1.out.trans (Fp.of hb2 HF1.out.bel.size)⟩
  clear hS2 hb2 HD1 HF1
  go_wp2_with fail
  go_loopw [12, 9, 10, 11, 7] (fun i r n l sp wr => ∃ k : Nat, k ≤ 12 ∧ i = .int .i64 k ∧ ∃ (N R : Nat) (xs : List Nat) (s : DS) (q : Nat), r = .int .i64 (R : Int) ∧ n = .int .i64 (N : Int) ∧ l = .string (str xs) ∧ sp = .pointer (some ⟨q, 0, none⟩) ∧ KW p q s N R xs k w wr) (fun i _ _ _ _ _ => 12 - (intOf i).toNat)
  case atStart => exact ⟨0, by omega, rfl, 0, 0, [], s0, q0, rfl, rfl, by rw [← HNIL.out], rfl, HKW0.out⟩
  case round =>
    clear HKW0 HK0 HS0 s0 HNIL
    obtain ⟨k, hk, rfl, N, R, xs, s, q, rfl, rfl, rfl, rfl, hKW⟩ := hrel
    have HKW := hide hKW
    have nb : (N : Int) ≤ 12 := by have := hKW.nk; omega
    clear hKW
    obtain ⟨sx, HSX⟩ : ∃ sx, Hid (str xs = sx) := ⟨_, rfl⟩
    rw [HSX.out]
    by_cases hgo : k < T ∧ k < 12
    · have i1 : (k : Int) < (T : Int) := by omega
      have i2 : (k : Int) < 12 := by omega
      obtain rfl : a1 = some ⟨b1, o1, none⟩ := H1.out.place (by omega)
      have HC0 := hide (H1.out.cell k hgo.1)
      have hcp := H1.out.cap k hgo.1
      have HBS := hide (H1.out.bs k hgo.1)
      generalize A k = aa at *
      generalize L k = ll at *
      generalize C k = cc at *
      generalize tf k = ys at *
      obtain ⟨m, hm⟩ : ∃ m, m = min ll 200 := ⟨_, rfl⟩
      rw [← hm] at HBS
      have e0 : (if (200 : Int) < (ll : Int) then (200 : Int) else (ll : Int)) = (m : Int) := by split <;> omega
      have em : min (ll : Int) 200 = (m : Int) := by omega
      have u0 : (0 : Int) ≤ (m : Int) := by omega
      have v0 : (m : Int) ≤ (cc : Int) := by omega
      have m200 : m ≤ 200 := by omega
      have y0 : (cc : Int) ≤ 9223372036854775807 := by omega
      have k12 : k < 12 := hgo.2
      have HYL : Hid (ys.length ≤ 200) := by show _ ≤ _; rw [HBS.out.hlen]; exact m200
      have HYB := hide HBS.out.hbyte
      obtain ⟨sy, HSY⟩ : ∃ sy, Hid (str ys = sy) := ⟨_, rfl⟩
      have HSS : Hid (sy.size = m) := by show _ = _; rw [← HSY.out, str_size, HBS.out.hlen]
      have HSL : Hid (sl sy = ys) := by show _ = _; rw [← HSY.out, sl_str HYB.out]
      clear hgo hm hcp
      by_cases hn2 : k < n2
      · have i5 : (k : Int) < (n2 : Int) := by omega
        obtain ⟨b, o, rfl, hcs⟩ := H2.out.place (by omega)
        have hc := hcs k hn2
        simp only [Nat.add_zero] at hc
        generalize lq k = lv at *
        obtain ⟨la, lk, lt, lc⟩ := lv
        have HLK := hide (And.intro hc.keep hc.after)
        have d0 := (HKW.out.fp.bel.cell (cell_lt hc.c0)).trans hc.c0
        have d1 := (HKW.out.fp.bel.cell (cell_lt hc.c1)).trans hc.c1
        have d2 := (HKW.out.fp.bel.cell (cell_lt hc.c2)).trans hc.c2
        have d3 := (HKW.out.fp.bel.cell (cell_lt hc.c3)).trans hc.c3
        simp only at d0 d1 d2 d3
        clear hc hcs hn2
        go_wp2_with fail
        refine (arm_any w.heap.size p s la lk lt lc wr HKW.out.st.1 HKW.out.fp.bel.size HLK.out.1 HLK.out.2).mono ?_
        rintro e wa ⟨rfl, hDa, hFa⟩
        have HKW2 := hide (HKW.out.arm la lk lt lc hDa hFa)
        clear hDa hFa d0 d1 d2 d3 HKW
        generalize s.arm la lk lt lc = s at *
        have HKW := HKW2
        clear HKW2
        have HM0 : Hid (s.m = 0) := by show _ = _; unfold DS.m; rw [HKW.out.kd.m0]; rfl
        have HC1 := (HKW.out.fp.bel.cell (cell_lt HC0.out)).trans HC0.out
        have tq := fun nn => run_text (HBS.out.later (below_drewN HKW.out.fp.bel nn) (Nat.le_refl _))
        rw [HSY.out] at tq
        go_wp2_with fail
        go_quiet (fail)
        have HKQ := hide (HKW.out.later (below_drewN (Below.refl _ _) nq))
        obtain ⟨cp, w4, hconv, hb4, hbs4⟩ := conv_run sy (wa.drewN nq) (by have := HSS.out; omega)
        rw [HSS.out] at hconv hbs4
        have HK4 := hide (HKQ.out.later hb4)
        have HBS4 := hide (hbs4 w.heap.size w4 (Fr.refl _ _))
        rw [HSL.out] at HBS4
        clear hb4 hbs4 tq HC1 HKQ
        by_cases hr0 : R = 0
        · have HR0 := hide hr0
          have qr : ((R : Int) != 0) = false := by simp; omega
          clear hr0
          by_cases hf : s.after = 1
          · have HRP := hide (round_put HKW.out.kd hf)
            go_wp2_with fail
            refine (put_fails _ m cp ys (nid R) (HK4.out.st) HK4.out.fp.bel.size rfl (by omega) (hst_low HKW.out.kd.rr) (by rw [HKW.out.kd.n12]; have := (nid_cases HKW.out.kd.rr).1; omega) HKW.out.dn hf (by have := HKW.out.lk; omega) (by have := HM0.out; omega) HBS4.out).mono ?_
            rintro e w5 ⟨rfl, hS5, hF5⟩
            obtain ⟨s5, hs5⟩ : ∃ s5, s5 = s.tick := ⟨_, rfl⟩
            rw [← hs5] at hS5 HRP
            have HST5 := hide hS5
            have HF5 := hide (HK4.out.fp.trans hF5)
            have HK5 := hide HRP.out.1
            have HD5 := hide HRP.out.2.1
            have HL5 := hide HRP.out.2.2
            clear hS5 hF5 hs5 HRP hf
            have HDW := hide (down_any w.heap.size p s5 _ HST5.out.1)
            rw [HD5.out] at HDW
            go_wp2_with fail
            refine HDW.out.mono ?_
            rintro e w6 ⟨rfl, hq⟩
            have hq := hq.symm
            subst hq
            go_wp2_with fail
            refine (restart_any w.heap.size p s5 _ HST5.out.1 HF5.out.bel.size).mono ?_
            rintro e w7 ⟨rfl, hD7, hF7⟩
            have HDI7 := hide hD7
            have HF7 := hide (HF5.out.trans (Fp.ofFr hF7))
            have HUP : Hid (KD s5.restart N R xs ∧ s5.restart.down = false ∧ s5.restart.life = s5.life) := by
              have e : s5.restart = s5.up := by unfold DS.restart; rw [HD5.out]; rfl
              rw [e]
              exact ⟨HK5.out.of rfl rfl, rfl, rfl⟩
            generalize s5.restart = s6 at *
            clear hD7 hF7 HDW HST5 HF5
            have HL6 := hide (HUP.out.1.last (by have := HKW.out.nk; omega))
            go_wp2_with fail
            refine (open_ok w.heap.size p s6 N R _ HDI7.out HF7.out.bel.size HUP.out.2.1 (by rw [HUP.out.1.n12]; omega) HL6.out (by have := HKW.out.nk; omega) (by have := HUP.out.1.rr; omega)).mono ?_
            rintro e w8 ⟨q2, rfl, hS8, hb8⟩
            rw [HUP.out.1.n12] at hS8
            have HST8 := hide hS8
            have HF8 := hide (HF7.out.trans (Fp.of hb8 HF7.out.bel.size))
            clear hS8 hb8 HDI7 HF7
            have HNM := hide (number_any HST8.out)
            have HRT := hide (root_any HST8.out)
            simp only at HNM HRT
            skip
            go_wp2_with fail
            refine HNM.out.mono ?_
            rintro e w9 ⟨rfl, hq⟩
            have hq := hq.symm
            subst hq
            go_wp2_with fail
            refine HRT.out.mono ?_
            rintro e w10 ⟨rfl, hq⟩
            have hq := hq.symm
            subst hq
            have HKN : Hid (KW p q2 s6 N R xs (k + 1) w w8) := by
              refine ⟨HUP.out.1, HUP.out.2.1, by rw [HUP.out.2.2, HL5.out]; have := HKW.out.l0; omega, by rw [HUP.out.2.2, HL5.out]; have := HKW.out.lk; omega, by have := HKW.out.nk; omega, ?_, HF8.out⟩
              have e : hst R = newSt 12 := by unfold hst; rw [if_pos HR0.out]
              rw [e]
              exact HST8.out
            go_wp2
            go_roundw
            case rel => exact ⟨k + 1, by omega, by go_num, N, R, xs, s6, q2, rfl, rfl, by rw [HSX.out], rfl, HKN.out⟩
            case measure => simp [intOf]; omega
          · go_wp2_with fail
            refine (put_ok _ m cp ys (nid R) (HK4.out.st) HK4.out.fp.bel.size rfl (by omega) (hst_low HKW.out.kd.rr) (by rw [HKW.out.kd.n12]; have := (nid_cases HKW.out.kd.rr).1; omega) HKW.out.dn hf (by have := HKW.out.lk; omega) (by have := HM0.out; omega) HBS4.out).mono ?_
            rintro e w5 ⟨rfl, hS5, hF5⟩
            have HOK := hide hS5.1.ok
            have HTF := hide (tick_facts hf)
            have HST1 := hide hS5
            have HF1 := hide (HK4.out.fp.trans hF5)
            have HRC := hide (fun (s' : DS) (E : Int) (hc : (s.tick.wrote (nid R) (laidP ys)).commit (N + 1) (nid R) = (s', E)) (okf : (s.tick.wrote (nid R) (laidP ys)).flush.Ok) => round_commit HKW.out.kd HKW.out.dn hf (by have := HKW.out.nk; omega) HYL.out HYB.out HOK.out hc okf)
            have HCP : Hid (KD (s.tick.wrote (nid R) (laidP ys)).flush N R xs ∨ True) := Or.inr trivial
            have HD1 : Hid ((s.tick.wrote (nid R) (laidP ys)).down = false) := HTF.out.1.trans HKW.out.dn
            have HL1 : Hid ((s.tick.wrote (nid R) (laidP ys)).life = s.life) := HTF.out.2.1
            have HN1 : Hid ((s.tick.wrote (nid R) (laidP ys)).n = 12) := HTF.out.2.2.1.trans HKW.out.kd.n12
            generalize s.tick.wrote (nid R) (laidP ys) = s1 at *
            clear hS5 hF5 hf HTF
            have HCM := hide (commit_any (nid R) HST1.out HF1.out.bel.size HL1.out HD1.out (by rw [HN1.out]; omega) (by rw [HL1.out]; have := HKW.out.lk; omega) (Or.inr (by rw [of_nat]; exact (hst_new HKW.out.kd.rr).1)) (by have := (nid_cases HKW.out.kd.rr).1; omega) (by show N < _; have := HKW.out.nk; omega))
            have HOF : Hid (∀ s' E, s1.commit (N + 1) (nid R) = (s', E) → (E = 0 ∧ KD s' (N + 1) (nid R) ys ∧ s'.down = false ∧ s'.life = s.life) ∨ (E = 20 ∧ s'.down = true ∧ s'.life = s.life + 1 ∧ (KD s' N R xs ∨ KD s' (N + 1) (nid R) ys))) := by
              intro s' E hc
              by_cases hf1 : s1.after = 1
              · exact HRC.out s' E hc (by
                  have e : s1.flush = s1.lose s1.keep s1.torn s1.cut := by
                    unfold DS.flush
                    rw [HD1.out]
                    simp only [Bool.false_eq_true, if_false]
                    rw [if_pos hf1, tick_one hf1]
                  rw [e]
                  exact lose_ok HST1.out.1.ok (by rw [HL1.out]; have := HKW.out.lk; omega) _ _ _)
              · exact HRC.out s' E hc (flush_ok_of HST1.out.1 HD1.out hf1)
            rw [show (PS.set ⟨hst R, s.life, N, R⟩ (nid R) 2).num = N from rfl] at HCM
            generalize hCR : s1.commit (N + 1) (nid R) = CR at *
            obtain ⟨s5, E⟩ := CR
            have HWAY := hide (HOF.out s5 E rfl)
            clear HOF HRC hCR HCP
            try simp only at HCM
            rcases HWAY.out with ⟨hE, hK, hd, hl⟩ | ⟨hE, hd, hl, hK⟩
            · subst hE
              go_wp2_with fail
              refine HCM.out.mono ?_
              rintro e w7 ⟨rfl, hS7, hF7⟩
              simp only [if_true] at hS7
              have HKN : Hid (KW p q s5 (N + 1) (nid R) ys (k + 1) w w7) := by
                refine ⟨hK, hd, by rw [hl]; exact HKW.out.l0, by rw [hl]; have := HKW.out.lk; omega, by have := HKW.out.nk; omega, ?_, HF1.out.trans hF7⟩
                have e := hst_zero HKW.out.kd.rr HR0.out
                rw [← e, hl]
                exact hS7
              clear hS7 hF7 hK hd hl HWAY
              go_wp2
              go_roundw
              case rel => exact ⟨k + 1, by omega, by go_num, N + 1, nid R, ys, s5, q, rfl, by push_cast; rfl, by rw [HSY.out], rfl, HKN.out⟩
              case measure => simp [intOf]; omega
            · subst hE
              have HD5 := hide hd
              have HL5 := hide hl
              go_wp2_with fail
              refine HCM.out.mono ?_
              rintro e w7 ⟨rfl, hS7, hF7⟩
              have HST5 := hide hS7
              have HF5 := hide (HF1.out.trans hF7)
              clear hS7 hF7 hd hl HWAY HCM
              rcases hK with hK | hK
              · have HK5 := hide hK
                clear hK
                have HDW := hide (down_any w.heap.size p s5 _ HST5.out.1)
                rw [HD5.out] at HDW
                go_wp2_with fail
                refine HDW.out.mono ?_
                rintro e w6 ⟨rfl, hq⟩
                have hq := hq.symm
                subst hq
                go_wp2_with fail
                refine (restart_any w.heap.size p s5 _ HST5.out.1 HF5.out.bel.size).mono ?_
                rintro e w7 ⟨rfl, hD7, hF7⟩
                have HDI7 := hide hD7
                have HF7 := hide (HF5.out.trans (Fp.ofFr hF7))
                have HUP : Hid (KD s5.restart N R xs ∧ s5.restart.down = false ∧ s5.restart.life = s5.life) := by
                  have e : s5.restart = s5.up := by unfold DS.restart; rw [HD5.out]; rfl
                  rw [e]
                  exact ⟨HK5.out.of rfl rfl, rfl, rfl⟩
                generalize s5.restart = s6 at *
                clear hD7 hF7 HDW HST5 HF5
                have HL6 := hide (HUP.out.1.last (by have := HKW.out.nk; omega))
                go_wp2_with fail
                refine (open_ok w.heap.size p s6 N R _ HDI7.out HF7.out.bel.size HUP.out.2.1 (by rw [HUP.out.1.n12]; omega) HL6.out (by have := HKW.out.nk; omega) (by have := HUP.out.1.rr; omega)).mono ?_
                rintro e w8 ⟨q2, rfl, hS8, hb8⟩
                rw [HUP.out.1.n12] at hS8
                have HST8 := hide hS8
                have HF8 := hide (HF7.out.trans (Fp.of hb8 HF7.out.bel.size))
                clear hS8 hb8 HDI7 HF7
                have HNM := hide (number_any HST8.out)
                have HRT := hide (root_any HST8.out)
                simp only at HNM HRT
                skip
                go_wp2_with fail
                refine HNM.out.mono ?_
                rintro e w9 ⟨rfl, hq⟩
                have hq := hq.symm
                subst hq
                go_wp2_with fail
                refine HRT.out.mono ?_
                rintro e w10 ⟨rfl, hq⟩
                have hq := hq.symm
                subst hq
                have HKN : Hid (KW p q2 s6 N R xs (k + 1) w w8) := by
                  refine ⟨HUP.out.1, HUP.out.2.1, by rw [HUP.out.2.2, HL5.out]; have := HKW.out.l0; omega, by rw [HUP.out.2.2, HL5.out]; have := HKW.out.lk; omega, by have := HKW.out.nk; omega, ?_, HF8.out⟩
                  have e : hst R = newSt 12 := by unfold hst; rw [if_pos HR0.out]
                  rw [e]
                  exact HST8.out
                go_wp2
                go_roundw
                case rel => exact ⟨k + 1, by omega, by go_num, N, R, xs, s6, q2, rfl, rfl, by rw [HSX.out], rfl, HKN.out⟩
                case measure => simp [intOf]; omega
              · have HK5 := hide hK
                clear hK
                have HDW := hide (down_any w.heap.size p s5 _ HST5.out.1)
                rw [HD5.out] at HDW
                go_wp2_with fail
                refine HDW.out.mono ?_
                rintro e w6 ⟨rfl, hq⟩
                have hq := hq.symm
                subst hq
                go_wp2_with fail
                refine (restart_any w.heap.size p s5 _ HST5.out.1 HF5.out.bel.size).mono ?_
                rintro e w7 ⟨rfl, hD7, hF7⟩
                have HDI7 := hide hD7
                have HF7 := hide (HF5.out.trans (Fp.ofFr hF7))
                have HUP : Hid (KD s5.restart (N + 1) (nid R) ys ∧ s5.restart.down = false ∧ s5.restart.life = s5.life) := by
                  have e : s5.restart = s5.up := by unfold DS.restart; rw [HD5.out]; rfl
                  rw [e]
                  exact ⟨HK5.out.of rfl rfl, rfl, rfl⟩
                generalize s5.restart = s6 at *
                clear hD7 hF7 HDW HST5 HF5
                have HL6 := hide (HUP.out.1.last (by have := HKW.out.nk; omega))
                go_wp2_with fail
                refine (open_ok w.heap.size p s6 (N + 1) (nid R) _ HDI7.out HF7.out.bel.size HUP.out.2.1 (by rw [HUP.out.1.n12]; omega) HL6.out (by have := HKW.out.nk; omega) (by have := HUP.out.1.rr; omega)).mono ?_
                rintro e w8 ⟨q2, rfl, hS8, hb8⟩
                rw [HUP.out.1.n12] at hS8
                have HST8 := hide hS8
                have HF8 := hide (HF7.out.trans (Fp.of hb8 HF7.out.bel.size))
                clear hS8 hb8 HDI7 HF7
                have HNM := hide (number_any HST8.out)
                have HRT := hide (root_any HST8.out)
                simp only at HNM HRT
                push_cast at HNM
                go_wp2_with fail
                refine HNM.out.mono ?_
                rintro e w9 ⟨rfl, hq⟩
                have hq := hq.symm
                subst hq
                go_wp2_with fail
                refine HRT.out.mono ?_
                rintro e w10 ⟨rfl, hq⟩
                have hq := hq.symm
                subst hq
                have HRN : Hid ((nid R) ≠ 0) := by have := (nid_cases HKW.out.kd.rr).1; show nid R ≠ 0; omega
                have HHH := hide (hst_hold HUP.out.1.rr HRN.out)
                have qz : (((nid R) : Nat) : Int) ≠ 0 := by have := HRN.out; omega
                have qz2 : ((((nid R) : Nat) : Int) != 0) = true := by rw [bne_iff_ne]; exact qz
                have HGT := hide (get_any (nid R) HST8.out HF8.out.bel.size rfl (by rw [HUP.out.1.n12]; have := HUP.out.1.rr; omega) (by rw [of_nat]; exact HHH.out.2.1) HUP.out.2.1)
                rw [show_none HUP.out.1.m0, HUP.out.1.pg HRN.out, pageOf_laid ys (by have := HUP.out.1.xl; omega)] at HGT
                clear qz
                go_wp2_with fail
                refine HGT.out.mono ?_
                rintro e w11 ⟨⟨v11, rfl, ho11⟩, hb11⟩
                obtain ⟨a11, c11, rfl, B11⟩ := bs_row ho11 (by have := HUP.out.1.xl; omega) HUP.out.1.xb
                have tx := run_text B11
                rw [HSY.out] at tx
                have HST11 := hide (HST8.out.later hb11)
                have HF11 := hide (HF8.out.trans (Fp.of hb11 HF8.out.bel.size))
                have HHO := hide (hold_one (nid R) HST11.out HF11.out.bel.size rfl HHH.out.2.2 HHH.out.2.1)
                clear hb11 ho11 B11 HGT HST8 HF8
                go_wp2_with fail
                refine HHO.out.mono ?_
                rintro e w12 ⟨rfl, hS12, hF12⟩
                have HKN : Hid (KW p q2 s6 (N + 1) (nid R) ys (k + 1) w w12) := by
                  refine ⟨HUP.out.1, HUP.out.2.1, by rw [HUP.out.2.2, HL5.out]; have := HKW.out.l0; omega, by rw [HUP.out.2.2, HL5.out]; have := HKW.out.lk; omega, by have := HKW.out.nk; omega, ?_, HF11.out.trans hF12⟩
                  have e := HHH.out.1
                  rw [← e]
                  exact hS12
                clear hS12 hF12
                go_wp2
                go_roundw
                case rel => exact ⟨k + 1, by omega, by go_num, (N + 1), (nid R), ys, s6, q2, rfl, by push_cast; rfl, by rw [HSY.out], rfl, HKN.out⟩
                case measure => simp [intOf]; omega
        · have HR0 := hide hr0
          have qr : ((R : Int) != 0) = true := by simp; omega
          clear hr0
          by_cases hf : s.after = 1
          · have HRP := hide (round_put HKW.out.kd hf)
            go_wp2_with fail
            refine (put_fails _ m cp ys (nid R) (HK4.out.st) HK4.out.fp.bel.size rfl (by omega) (hst_low HKW.out.kd.rr) (by rw [HKW.out.kd.n12]; have := (nid_cases HKW.out.kd.rr).1; omega) HKW.out.dn hf (by have := HKW.out.lk; omega) (by have := HM0.out; omega) HBS4.out).mono ?_
            rintro e w5 ⟨rfl, hS5, hF5⟩
            obtain ⟨s5, hs5⟩ : ∃ s5, s5 = s.tick := ⟨_, rfl⟩
            rw [← hs5] at hS5 HRP
            have HST5 := hide hS5
            have HF5 := hide (HK4.out.fp.trans hF5)
            have HK5 := hide HRP.out.1
            have HD5 := hide HRP.out.2.1
            have HL5 := hide HRP.out.2.2
            clear hS5 hF5 hs5 HRP hf
            have HDW := hide (down_any w.heap.size p s5 _ HST5.out.1)
            rw [HD5.out] at HDW
            go_wp2_with fail
            refine HDW.out.mono ?_
            rintro e w6 ⟨rfl, hq⟩
            have hq := hq.symm
            subst hq
            go_wp2_with fail
            refine (restart_any w.heap.size p s5 _ HST5.out.1 HF5.out.bel.size).mono ?_
            rintro e w7 ⟨rfl, hD7, hF7⟩
            have HDI7 := hide hD7
            have HF7 := hide (HF5.out.trans (Fp.ofFr hF7))
            have HUP : Hid (KD s5.restart N R xs ∧ s5.restart.down = false ∧ s5.restart.life = s5.life) := by
              have e : s5.restart = s5.up := by unfold DS.restart; rw [HD5.out]; rfl
              rw [e]
              exact ⟨HK5.out.of rfl rfl, rfl, rfl⟩
            generalize s5.restart = s6 at *
            clear hD7 hF7 HDW HST5 HF5
            have HL6 := hide (HUP.out.1.last (by have := HKW.out.nk; omega))
            go_wp2_with fail
            refine (open_ok w.heap.size p s6 N R _ HDI7.out HF7.out.bel.size HUP.out.2.1 (by rw [HUP.out.1.n12]; omega) HL6.out (by have := HKW.out.nk; omega) (by have := HUP.out.1.rr; omega)).mono ?_
            rintro e w8 ⟨q2, rfl, hS8, hb8⟩
            rw [HUP.out.1.n12] at hS8
            have HST8 := hide hS8
            have HF8 := hide (HF7.out.trans (Fp.of hb8 HF7.out.bel.size))
            clear hS8 hb8 HDI7 HF7
            have HNM := hide (number_any HST8.out)
            have HRT := hide (root_any HST8.out)
            simp only at HNM HRT
            skip
            go_wp2_with fail
            refine HNM.out.mono ?_
            rintro e w9 ⟨rfl, hq⟩
            have hq := hq.symm
            subst hq
            go_wp2_with fail
            refine HRT.out.mono ?_
            rintro e w10 ⟨rfl, hq⟩
            have hq := hq.symm
            subst hq
            have HRN : Hid (R ≠ 0) := HR0.out
            have HHH := hide (hst_hold HUP.out.1.rr HRN.out)
            have qz : ((R : Nat) : Int) ≠ 0 := by have := HRN.out; omega
            have qz2 : (((R : Nat) : Int) != 0) = true := by rw [bne_iff_ne]; exact qz
            have HGT := hide (get_any R HST8.out HF8.out.bel.size rfl (by rw [HUP.out.1.n12]; have := HUP.out.1.rr; omega) (by rw [of_nat]; exact HHH.out.2.1) HUP.out.2.1)
            rw [show_none HUP.out.1.m0, HUP.out.1.pg HRN.out, pageOf_laid xs (by have := HUP.out.1.xl; omega)] at HGT
            clear qz
            go_wp2_with fail
            refine HGT.out.mono ?_
            rintro e w11 ⟨⟨v11, rfl, ho11⟩, hb11⟩
            obtain ⟨a11, c11, rfl, B11⟩ := bs_row ho11 (by have := HUP.out.1.xl; omega) HUP.out.1.xb
            have tx := run_text B11
            rw [HSX.out] at tx
            have HST11 := hide (HST8.out.later hb11)
            have HF11 := hide (HF8.out.trans (Fp.of hb11 HF8.out.bel.size))
            have HHO := hide (hold_one R HST11.out HF11.out.bel.size rfl HHH.out.2.2 HHH.out.2.1)
            clear hb11 ho11 B11 HGT HST8 HF8
            go_wp2_with fail
            refine HHO.out.mono ?_
            rintro e w12 ⟨rfl, hS12, hF12⟩
            have HKN : Hid (KW p q2 s6 N R xs (k + 1) w w12) := by
              refine ⟨HUP.out.1, HUP.out.2.1, by rw [HUP.out.2.2, HL5.out]; have := HKW.out.l0; omega, by rw [HUP.out.2.2, HL5.out]; have := HKW.out.lk; omega, by have := HKW.out.nk; omega, ?_, HF11.out.trans hF12⟩
              have e := HHH.out.1
              rw [← e]
              exact hS12
            clear hS12 hF12
            go_wp2
            go_roundw
            case rel => exact ⟨k + 1, by omega, by go_num, N, R, xs, s6, q2, rfl, rfl, by rw [HSX.out], rfl, HKN.out⟩
            case measure => simp [intOf]; omega
          · go_wp2_with fail
            refine (put_ok _ m cp ys (nid R) (HK4.out.st) HK4.out.fp.bel.size rfl (by omega) (hst_low HKW.out.kd.rr) (by rw [HKW.out.kd.n12]; have := (nid_cases HKW.out.kd.rr).1; omega) HKW.out.dn hf (by have := HKW.out.lk; omega) (by have := HM0.out; omega) HBS4.out).mono ?_
            rintro e w5 ⟨rfl, hS5, hF5⟩
            have HOK := hide hS5.1.ok
            have HTF := hide (tick_facts hf)
            have HST1 := hide hS5
            have HF1 := hide (HK4.out.fp.trans hF5)
            have HRC := hide (fun (s' : DS) (E : Int) (hc : (s.tick.wrote (nid R) (laidP ys)).commit (N + 1) (nid R) = (s', E)) (okf : (s.tick.wrote (nid R) (laidP ys)).flush.Ok) => round_commit HKW.out.kd HKW.out.dn hf (by have := HKW.out.nk; omega) HYL.out HYB.out HOK.out hc okf)
            have HCP : Hid (KD (s.tick.wrote (nid R) (laidP ys)).flush N R xs ∨ True) := Or.inr trivial
            have HD1 : Hid ((s.tick.wrote (nid R) (laidP ys)).down = false) := HTF.out.1.trans HKW.out.dn
            have HL1 : Hid ((s.tick.wrote (nid R) (laidP ys)).life = s.life) := HTF.out.2.1
            have HN1 : Hid ((s.tick.wrote (nid R) (laidP ys)).n = 12) := HTF.out.2.2.1.trans HKW.out.kd.n12
            generalize s.tick.wrote (nid R) (laidP ys) = s1 at *
            clear hS5 hF5 hf HTF
            go_wp2_with fail
            refine (free_ok R HST1.out HF1.out.bel.size HL1.out (by show R < ((hst R).set (nid R) 2).length; rw [List.length_set, hst_len HKW.out.kd.rr]; have := HKW.out.kd.rr; omega) (hst_held HKW.out.kd.rr HR0.out)).mono ?_
            rintro e w6 ⟨rfl, hS6, hF6⟩
            have HST2 := hide hS6
            have HF2 := hide (HF1.out.trans hF6)
            clear hS6 hF6 HST1 HF1
            have HCM := hide (commit_any (nid R) HST2.out HF2.out.bel.size HL1.out HD1.out (by rw [HN1.out]; omega) (by rw [HL1.out]; have := HKW.out.lk; omega) (Or.inr (by rw [of_nat]; exact (hst_new HKW.out.kd.rr).2)) (by have := (nid_cases HKW.out.kd.rr).1; omega) (by show N < _; have := HKW.out.nk; omega))
            have HOF : Hid (∀ s' E, s1.commit (N + 1) (nid R) = (s', E) → (E = 0 ∧ KD s' (N + 1) (nid R) ys ∧ s'.down = false ∧ s'.life = s.life) ∨ (E = 20 ∧ s'.down = true ∧ s'.life = s.life + 1 ∧ (KD s' N R xs ∨ KD s' (N + 1) (nid R) ys))) := by
              intro s' E hc
              by_cases hf1 : s1.after = 1
              · exact HRC.out s' E hc (by
                  have e : s1.flush = s1.lose s1.keep s1.torn s1.cut := by
                    unfold DS.flush
                    rw [HD1.out]
                    simp only [Bool.false_eq_true, if_false]
                    rw [if_pos hf1, tick_one hf1]
                  rw [e]
                  exact lose_ok HST2.out.1.ok (by rw [HL1.out]; have := HKW.out.lk; omega) _ _ _)
              · exact HRC.out s' E hc (flush_ok_of HST2.out.1 HD1.out hf1)
            rw [show (PS.set (PS.set ⟨hst R, s.life, N, R⟩ (nid R) 2) R 3).num = N from rfl] at HCM
            generalize hCR : s1.commit (N + 1) (nid R) = CR at *
            obtain ⟨s5, E⟩ := CR
            have HWAY := hide (HOF.out s5 E rfl)
            clear HOF HRC hCR HCP
            try simp only at HCM
            rcases HWAY.out with ⟨hE, hK, hd, hl⟩ | ⟨hE, hd, hl, hK⟩
            · subst hE
              go_wp2_with fail
              refine HCM.out.mono ?_
              rintro e w7 ⟨rfl, hS7, hF7⟩
              simp only [if_true] at hS7
              have HKN : Hid (KW p q s5 (N + 1) (nid R) ys (k + 1) w w7) := by
                refine ⟨hK, hd, by rw [hl]; exact HKW.out.l0, by rw [hl]; have := HKW.out.lk; omega, by have := HKW.out.nk; omega, ?_, HF2.out.trans hF7⟩
                have e := hst_back HKW.out.kd.rr HR0.out
                rw [← e, hl]
                exact hS7
              clear hS7 hF7 hK hd hl HWAY
              go_wp2
              go_roundw
              case rel => exact ⟨k + 1, by omega, by go_num, N + 1, nid R, ys, s5, q, rfl, by push_cast; rfl, by rw [HSY.out], rfl, HKN.out⟩
              case measure => simp [intOf]; omega
            · subst hE
              have HD5 := hide hd
              have HL5 := hide hl
              go_wp2_with fail
              refine HCM.out.mono ?_
              rintro e w7 ⟨rfl, hS7, hF7⟩
              have HST5 := hide hS7
              have HF5 := hide (HF2.out.trans hF7)
              clear hS7 hF7 hd hl HWAY HCM
              rcases hK with hK | hK
              · have HK5 := hide hK
                clear hK
                have HDW := hide (down_any w.heap.size p s5 _ HST5.out.1)
                rw [HD5.out] at HDW
                go_wp2_with fail
                refine HDW.out.mono ?_
                rintro e w6 ⟨rfl, hq⟩
                have hq := hq.symm
                subst hq
                go_wp2_with fail
                refine (restart_any w.heap.size p s5 _ HST5.out.1 HF5.out.bel.size).mono ?_
                rintro e w7 ⟨rfl, hD7, hF7⟩
                have HDI7 := hide hD7
                have HF7 := hide (HF5.out.trans (Fp.ofFr hF7))
                have HUP : Hid (KD s5.restart N R xs ∧ s5.restart.down = false ∧ s5.restart.life = s5.life) := by
                  have e : s5.restart = s5.up := by unfold DS.restart; rw [HD5.out]; rfl
                  rw [e]
                  exact ⟨HK5.out.of rfl rfl, rfl, rfl⟩
                generalize s5.restart = s6 at *
                clear hD7 hF7 HDW HST5 HF5
                have HL6 := hide (HUP.out.1.last (by have := HKW.out.nk; omega))
                go_wp2_with fail
                refine (open_ok w.heap.size p s6 N R _ HDI7.out HF7.out.bel.size HUP.out.2.1 (by rw [HUP.out.1.n12]; omega) HL6.out (by have := HKW.out.nk; omega) (by have := HUP.out.1.rr; omega)).mono ?_
                rintro e w8 ⟨q2, rfl, hS8, hb8⟩
                rw [HUP.out.1.n12] at hS8
                have HST8 := hide hS8
                have HF8 := hide (HF7.out.trans (Fp.of hb8 HF7.out.bel.size))
                clear hS8 hb8 HDI7 HF7
                have HNM := hide (number_any HST8.out)
                have HRT := hide (root_any HST8.out)
                simp only at HNM HRT
                skip
                go_wp2_with fail
                refine HNM.out.mono ?_
                rintro e w9 ⟨rfl, hq⟩
                have hq := hq.symm
                subst hq
                go_wp2_with fail
                refine HRT.out.mono ?_
                rintro e w10 ⟨rfl, hq⟩
                have hq := hq.symm
                subst hq
                have HRN : Hid (R ≠ 0) := HR0.out
                have HHH := hide (hst_hold HUP.out.1.rr HRN.out)
                have qz : ((R : Nat) : Int) ≠ 0 := by have := HRN.out; omega
                have qz2 : (((R : Nat) : Int) != 0) = true := by rw [bne_iff_ne]; exact qz
                have HGT := hide (get_any R HST8.out HF8.out.bel.size rfl (by rw [HUP.out.1.n12]; have := HUP.out.1.rr; omega) (by rw [of_nat]; exact HHH.out.2.1) HUP.out.2.1)
                rw [show_none HUP.out.1.m0, HUP.out.1.pg HRN.out, pageOf_laid xs (by have := HUP.out.1.xl; omega)] at HGT
                clear qz
                go_wp2_with fail
                refine HGT.out.mono ?_
                rintro e w11 ⟨⟨v11, rfl, ho11⟩, hb11⟩
                obtain ⟨a11, c11, rfl, B11⟩ := bs_row ho11 (by have := HUP.out.1.xl; omega) HUP.out.1.xb
                have tx := run_text B11
                rw [HSX.out] at tx
                have HST11 := hide (HST8.out.later hb11)
                have HF11 := hide (HF8.out.trans (Fp.of hb11 HF8.out.bel.size))
                have HHO := hide (hold_one R HST11.out HF11.out.bel.size rfl HHH.out.2.2 HHH.out.2.1)
                clear hb11 ho11 B11 HGT HST8 HF8
                go_wp2_with fail
                refine HHO.out.mono ?_
                rintro e w12 ⟨rfl, hS12, hF12⟩
                have HKN : Hid (KW p q2 s6 N R xs (k + 1) w w12) := by
                  refine ⟨HUP.out.1, HUP.out.2.1, by rw [HUP.out.2.2, HL5.out]; have := HKW.out.l0; omega, by rw [HUP.out.2.2, HL5.out]; have := HKW.out.lk; omega, by have := HKW.out.nk; omega, ?_, HF11.out.trans hF12⟩
                  have e := HHH.out.1
                  rw [← e]
                  exact hS12
                clear hS12 hF12
                go_wp2
                go_roundw
                case rel => exact ⟨k + 1, by omega, by go_num, N, R, xs, s6, q2, rfl, rfl, by rw [HSX.out], rfl, HKN.out⟩
                case measure => simp [intOf]; omega
              · have HK5 := hide hK
                clear hK
                have HDW := hide (down_any w.heap.size p s5 _ HST5.out.1)
                rw [HD5.out] at HDW
                go_wp2_with fail
                refine HDW.out.mono ?_
                rintro e w6 ⟨rfl, hq⟩
                have hq := hq.symm
                subst hq
                go_wp2_with fail
                refine (restart_any w.heap.size p s5 _ HST5.out.1 HF5.out.bel.size).mono ?_
                rintro e w7 ⟨rfl, hD7, hF7⟩
                have HDI7 := hide hD7
                have HF7 := hide (HF5.out.trans (Fp.ofFr hF7))
                have HUP : Hid (KD s5.restart (N + 1) (nid R) ys ∧ s5.restart.down = false ∧ s5.restart.life = s5.life) := by
                  have e : s5.restart = s5.up := by unfold DS.restart; rw [HD5.out]; rfl
                  rw [e]
                  exact ⟨HK5.out.of rfl rfl, rfl, rfl⟩
                generalize s5.restart = s6 at *
                clear hD7 hF7 HDW HST5 HF5
                have HL6 := hide (HUP.out.1.last (by have := HKW.out.nk; omega))
                go_wp2_with fail
                refine (open_ok w.heap.size p s6 (N + 1) (nid R) _ HDI7.out HF7.out.bel.size HUP.out.2.1 (by rw [HUP.out.1.n12]; omega) HL6.out (by have := HKW.out.nk; omega) (by have := HUP.out.1.rr; omega)).mono ?_
                rintro e w8 ⟨q2, rfl, hS8, hb8⟩
                rw [HUP.out.1.n12] at hS8
                have HST8 := hide hS8
                have HF8 := hide (HF7.out.trans (Fp.of hb8 HF7.out.bel.size))
                clear hS8 hb8 HDI7 HF7
                have HNM := hide (number_any HST8.out)
                have HRT := hide (root_any HST8.out)
                simp only at HNM HRT
                push_cast at HNM
                go_wp2_with fail
                refine HNM.out.mono ?_
                rintro e w9 ⟨rfl, hq⟩
                have hq := hq.symm
                subst hq
                go_wp2_with fail
                refine HRT.out.mono ?_
                rintro e w10 ⟨rfl, hq⟩
                have hq := hq.symm
                subst hq
                have HRN : Hid ((nid R) ≠ 0) := by have := (nid_cases HKW.out.kd.rr).1; show nid R ≠ 0; omega
                have HHH := hide (hst_hold HUP.out.1.rr HRN.out)
                have qz : (((nid R) : Nat) : Int) ≠ 0 := by have := HRN.out; omega
                have qz2 : ((((nid R) : Nat) : Int) != 0) = true := by rw [bne_iff_ne]; exact qz
                have HGT := hide (get_any (nid R) HST8.out HF8.out.bel.size rfl (by rw [HUP.out.1.n12]; have := HUP.out.1.rr; omega) (by rw [of_nat]; exact HHH.out.2.1) HUP.out.2.1)
                rw [show_none HUP.out.1.m0, HUP.out.1.pg HRN.out, pageOf_laid ys (by have := HUP.out.1.xl; omega)] at HGT
                clear qz
                go_wp2_with fail
                refine HGT.out.mono ?_
                rintro e w11 ⟨⟨v11, rfl, ho11⟩, hb11⟩
                obtain ⟨a11, c11, rfl, B11⟩ := bs_row ho11 (by have := HUP.out.1.xl; omega) HUP.out.1.xb
                have tx := run_text B11
                rw [HSY.out] at tx
                have HST11 := hide (HST8.out.later hb11)
                have HF11 := hide (HF8.out.trans (Fp.of hb11 HF8.out.bel.size))
                have HHO := hide (hold_one (nid R) HST11.out HF11.out.bel.size rfl HHH.out.2.2 HHH.out.2.1)
                clear hb11 ho11 B11 HGT HST8 HF8
                go_wp2_with fail
                refine HHO.out.mono ?_
                rintro e w12 ⟨rfl, hS12, hF12⟩
                have HKN : Hid (KW p q2 s6 (N + 1) (nid R) ys (k + 1) w w12) := by
                  refine ⟨HUP.out.1, HUP.out.2.1, by rw [HUP.out.2.2, HL5.out]; have := HKW.out.l0; omega, by rw [HUP.out.2.2, HL5.out]; have := HKW.out.lk; omega, by have := HKW.out.nk; omega, ?_, HF11.out.trans hF12⟩
                  have e := HHH.out.1
                  rw [← e]
                  exact hS12
                clear hS12 hF12
                go_wp2
                go_roundw
                case rel => exact ⟨k + 1, by omega, by go_num, (N + 1), (nid R), ys, s6, q2, rfl, by push_cast; rfl, by rw [HSY.out], rfl, HKN.out⟩
                case measure => simp [intOf]; omega
      · have i5 : ¬ (k : Int) < (n2 : Int) := by omega
        clear hn2
        obtain ⟨wa, HWA⟩ : ∃ wa, Hid (wr = wa) := ⟨_, rfl⟩
        rw [HWA.out] at HKW ⊢
        have HM0 : Hid (s.m = 0) := by show _ = _; unfold DS.m; rw [HKW.out.kd.m0]; rfl
        have HC1 := (HKW.out.fp.bel.cell (cell_lt HC0.out)).trans HC0.out
        have tq := fun nn => run_text (HBS.out.later (below_drewN HKW.out.fp.bel nn) (Nat.le_refl _))
        rw [HSY.out] at tq
        go_wp2_with fail
        go_quiet (fail)
        have HKQ := hide (HKW.out.later (below_drewN (Below.refl _ _) nq))
        obtain ⟨cp, w4, hconv, hb4, hbs4⟩ := conv_run sy (wa.drewN nq) (by have := HSS.out; omega)
        rw [HSS.out] at hconv hbs4
        have HK4 := hide (HKQ.out.later hb4)
        have HBS4 := hide (hbs4 w.heap.size w4 (Fr.refl _ _))
        rw [HSL.out] at HBS4
        clear hb4 hbs4 tq HC1 HKQ
        by_cases hr0 : R = 0
        · have HR0 := hide hr0
          have qr : ((R : Int) != 0) = false := by simp; omega
          clear hr0
          by_cases hf : s.after = 1
          · have HRP := hide (round_put HKW.out.kd hf)
            go_wp2_with fail
            refine (put_fails _ m cp ys (nid R) (HK4.out.st) HK4.out.fp.bel.size rfl (by omega) (hst_low HKW.out.kd.rr) (by rw [HKW.out.kd.n12]; have := (nid_cases HKW.out.kd.rr).1; omega) HKW.out.dn hf (by have := HKW.out.lk; omega) (by have := HM0.out; omega) HBS4.out).mono ?_
            rintro e w5 ⟨rfl, hS5, hF5⟩
            obtain ⟨s5, hs5⟩ : ∃ s5, s5 = s.tick := ⟨_, rfl⟩
            rw [← hs5] at hS5 HRP
            have HST5 := hide hS5
            have HF5 := hide (HK4.out.fp.trans hF5)
            have HK5 := hide HRP.out.1
            have HD5 := hide HRP.out.2.1
            have HL5 := hide HRP.out.2.2
            clear hS5 hF5 hs5 HRP hf
            have HDW := hide (down_any w.heap.size p s5 _ HST5.out.1)
            rw [HD5.out] at HDW
            go_wp2_with fail
            refine HDW.out.mono ?_
            rintro e w6 ⟨rfl, hq⟩
            have hq := hq.symm
            subst hq
            go_wp2_with fail
            refine (restart_any w.heap.size p s5 _ HST5.out.1 HF5.out.bel.size).mono ?_
            rintro e w7 ⟨rfl, hD7, hF7⟩
            have HDI7 := hide hD7
            have HF7 := hide (HF5.out.trans (Fp.ofFr hF7))
            have HUP : Hid (KD s5.restart N R xs ∧ s5.restart.down = false ∧ s5.restart.life = s5.life) := by
              have e : s5.restart = s5.up := by unfold DS.restart; rw [HD5.out]; rfl
              rw [e]
              exact ⟨HK5.out.of rfl rfl, rfl, rfl⟩
            generalize s5.restart = s6 at *
            clear hD7 hF7 HDW HST5 HF5
            have HL6 := hide (HUP.out.1.last (by have := HKW.out.nk; omega))
            go_wp2_with fail
            refine (open_ok w.heap.size p s6 N R _ HDI7.out HF7.out.bel.size HUP.out.2.1 (by rw [HUP.out.1.n12]; omega) HL6.out (by have := HKW.out.nk; omega) (by have := HUP.out.1.rr; omega)).mono ?_
            rintro e w8 ⟨q2, rfl, hS8, hb8⟩
            rw [HUP.out.1.n12] at hS8
            have HST8 := hide hS8
            have HF8 := hide (HF7.out.trans (Fp.of hb8 HF7.out.bel.size))
            clear hS8 hb8 HDI7 HF7
            have HNM := hide (number_any HST8.out)
            have HRT := hide (root_any HST8.out)
            simp only at HNM HRT
            skip
            go_wp2_with fail
            refine HNM.out.mono ?_
            rintro e w9 ⟨rfl, hq⟩
            have hq := hq.symm
            subst hq
            go_wp2_with fail
            refine HRT.out.mono ?_
            rintro e w10 ⟨rfl, hq⟩
            have hq := hq.symm
            subst hq
            have HKN : Hid (KW p q2 s6 N R xs (k + 1) w w8) := by
              refine ⟨HUP.out.1, HUP.out.2.1, by rw [HUP.out.2.2, HL5.out]; have := HKW.out.l0; omega, by rw [HUP.out.2.2, HL5.out]; have := HKW.out.lk; omega, by have := HKW.out.nk; omega, ?_, HF8.out⟩
              have e : hst R = newSt 12 := by unfold hst; rw [if_pos HR0.out]
              rw [e]
              exact HST8.out
            go_wp2
            go_roundw
            case rel => exact ⟨k + 1, by omega, by go_num, N, R, xs, s6, q2, rfl, rfl, by rw [HSX.out], rfl, HKN.out⟩
            case measure => simp [intOf]; omega
          · go_wp2_with fail
            refine (put_ok _ m cp ys (nid R) (HK4.out.st) HK4.out.fp.bel.size rfl (by omega) (hst_low HKW.out.kd.rr) (by rw [HKW.out.kd.n12]; have := (nid_cases HKW.out.kd.rr).1; omega) HKW.out.dn hf (by have := HKW.out.lk; omega) (by have := HM0.out; omega) HBS4.out).mono ?_
            rintro e w5 ⟨rfl, hS5, hF5⟩
            have HOK := hide hS5.1.ok
            have HTF := hide (tick_facts hf)
            have HST1 := hide hS5
            have HF1 := hide (HK4.out.fp.trans hF5)
            have HRC := hide (fun (s' : DS) (E : Int) (hc : (s.tick.wrote (nid R) (laidP ys)).commit (N + 1) (nid R) = (s', E)) (okf : (s.tick.wrote (nid R) (laidP ys)).flush.Ok) => round_commit HKW.out.kd HKW.out.dn hf (by have := HKW.out.nk; omega) HYL.out HYB.out HOK.out hc okf)
            have HCP : Hid (KD (s.tick.wrote (nid R) (laidP ys)).flush N R xs ∨ True) := Or.inr trivial
            have HD1 : Hid ((s.tick.wrote (nid R) (laidP ys)).down = false) := HTF.out.1.trans HKW.out.dn
            have HL1 : Hid ((s.tick.wrote (nid R) (laidP ys)).life = s.life) := HTF.out.2.1
            have HN1 : Hid ((s.tick.wrote (nid R) (laidP ys)).n = 12) := HTF.out.2.2.1.trans HKW.out.kd.n12
            generalize s.tick.wrote (nid R) (laidP ys) = s1 at *
            clear hS5 hF5 hf HTF
            have HCM := hide (commit_any (nid R) HST1.out HF1.out.bel.size HL1.out HD1.out (by rw [HN1.out]; omega) (by rw [HL1.out]; have := HKW.out.lk; omega) (Or.inr (by rw [of_nat]; exact (hst_new HKW.out.kd.rr).1)) (by have := (nid_cases HKW.out.kd.rr).1; omega) (by show N < _; have := HKW.out.nk; omega))
            have HOF : Hid (∀ s' E, s1.commit (N + 1) (nid R) = (s', E) → (E = 0 ∧ KD s' (N + 1) (nid R) ys ∧ s'.down = false ∧ s'.life = s.life) ∨ (E = 20 ∧ s'.down = true ∧ s'.life = s.life + 1 ∧ (KD s' N R xs ∨ KD s' (N + 1) (nid R) ys))) := by
              intro s' E hc
              by_cases hf1 : s1.after = 1
              · exact HRC.out s' E hc (by
                  have e : s1.flush = s1.lose s1.keep s1.torn s1.cut := by
                    unfold DS.flush
                    rw [HD1.out]
                    simp only [Bool.false_eq_true, if_false]
                    rw [if_pos hf1, tick_one hf1]
                  rw [e]
                  exact lose_ok HST1.out.1.ok (by rw [HL1.out]; have := HKW.out.lk; omega) _ _ _)
              · exact HRC.out s' E hc (flush_ok_of HST1.out.1 HD1.out hf1)
            rw [show (PS.set ⟨hst R, s.life, N, R⟩ (nid R) 2).num = N from rfl] at HCM
            generalize hCR : s1.commit (N + 1) (nid R) = CR at *
            obtain ⟨s5, E⟩ := CR
            have HWAY := hide (HOF.out s5 E rfl)
            clear HOF HRC hCR HCP
            try simp only at HCM
            rcases HWAY.out with ⟨hE, hK, hd, hl⟩ | ⟨hE, hd, hl, hK⟩
            · subst hE
              go_wp2_with fail
              refine HCM.out.mono ?_
              rintro e w7 ⟨rfl, hS7, hF7⟩
              simp only [if_true] at hS7
              have HKN : Hid (KW p q s5 (N + 1) (nid R) ys (k + 1) w w7) := by
                refine ⟨hK, hd, by rw [hl]; exact HKW.out.l0, by rw [hl]; have := HKW.out.lk; omega, by have := HKW.out.nk; omega, ?_, HF1.out.trans hF7⟩
                have e := hst_zero HKW.out.kd.rr HR0.out
                rw [← e, hl]
                exact hS7
              clear hS7 hF7 hK hd hl HWAY
              go_wp2
              go_roundw
              case rel => exact ⟨k + 1, by omega, by go_num, N + 1, nid R, ys, s5, q, rfl, by push_cast; rfl, by rw [HSY.out], rfl, HKN.out⟩
              case measure => simp [intOf]; omega
            · subst hE
              have HD5 := hide hd
              have HL5 := hide hl
              go_wp2_with fail
              refine HCM.out.mono ?_
              rintro e w7 ⟨rfl, hS7, hF7⟩
              have HST5 := hide hS7
              have HF5 := hide (HF1.out.trans hF7)
              clear hS7 hF7 hd hl HWAY HCM
              rcases hK with hK | hK
              · have HK5 := hide hK
                clear hK
                have HDW := hide (down_any w.heap.size p s5 _ HST5.out.1)
                rw [HD5.out] at HDW
                go_wp2_with fail
                refine HDW.out.mono ?_
                rintro e w6 ⟨rfl, hq⟩
                have hq := hq.symm
                subst hq
                go_wp2_with fail
                refine (restart_any w.heap.size p s5 _ HST5.out.1 HF5.out.bel.size).mono ?_
                rintro e w7 ⟨rfl, hD7, hF7⟩
                have HDI7 := hide hD7
                have HF7 := hide (HF5.out.trans (Fp.ofFr hF7))
                have HUP : Hid (KD s5.restart N R xs ∧ s5.restart.down = false ∧ s5.restart.life = s5.life) := by
                  have e : s5.restart = s5.up := by unfold DS.restart; rw [HD5.out]; rfl
                  rw [e]
                  exact ⟨HK5.out.of rfl rfl, rfl, rfl⟩
                generalize s5.restart = s6 at *
                clear hD7 hF7 HDW HST5 HF5
                have HL6 := hide (HUP.out.1.last (by have := HKW.out.nk; omega))
                go_wp2_with fail
                refine (open_ok w.heap.size p s6 N R _ HDI7.out HF7.out.bel.size HUP.out.2.1 (by rw [HUP.out.1.n12]; omega) HL6.out (by have := HKW.out.nk; omega) (by have := HUP.out.1.rr; omega)).mono ?_
                rintro e w8 ⟨q2, rfl, hS8, hb8⟩
                rw [HUP.out.1.n12] at hS8
                have HST8 := hide hS8
                have HF8 := hide (HF7.out.trans (Fp.of hb8 HF7.out.bel.size))
                clear hS8 hb8 HDI7 HF7
                have HNM := hide (number_any HST8.out)
                have HRT := hide (root_any HST8.out)
                simp only at HNM HRT
                skip
                go_wp2_with fail
                refine HNM.out.mono ?_
                rintro e w9 ⟨rfl, hq⟩
                have hq := hq.symm
                subst hq
                go_wp2_with fail
                refine HRT.out.mono ?_
                rintro e w10 ⟨rfl, hq⟩
                have hq := hq.symm
                subst hq
                have HKN : Hid (KW p q2 s6 N R xs (k + 1) w w8) := by
                  refine ⟨HUP.out.1, HUP.out.2.1, by rw [HUP.out.2.2, HL5.out]; have := HKW.out.l0; omega, by rw [HUP.out.2.2, HL5.out]; have := HKW.out.lk; omega, by have := HKW.out.nk; omega, ?_, HF8.out⟩
                  have e : hst R = newSt 12 := by unfold hst; rw [if_pos HR0.out]
                  rw [e]
                  exact HST8.out
                go_wp2
                go_roundw
                case rel => exact ⟨k + 1, by omega, by go_num, N, R, xs, s6, q2, rfl, rfl, by rw [HSX.out], rfl, HKN.out⟩
                case measure => simp [intOf]; omega
              · have HK5 := hide hK
                clear hK
                have HDW := hide (down_any w.heap.size p s5 _ HST5.out.1)
                rw [HD5.out] at HDW
                go_wp2_with fail
                refine HDW.out.mono ?_
                rintro e w6 ⟨rfl, hq⟩
                have hq := hq.symm
                subst hq
                go_wp2_with fail
                refine (restart_any w.heap.size p s5 _ HST5.out.1 HF5.out.bel.size).mono ?_
                rintro e w7 ⟨rfl, hD7, hF7⟩
                have HDI7 := hide hD7
                have HF7 := hide (HF5.out.trans (Fp.ofFr hF7))
                have HUP : Hid (KD s5.restart (N + 1) (nid R) ys ∧ s5.restart.down = false ∧ s5.restart.life = s5.life) := by
                  have e : s5.restart = s5.up := by unfold DS.restart; rw [HD5.out]; rfl
                  rw [e]
                  exact ⟨HK5.out.of rfl rfl, rfl, rfl⟩
                generalize s5.restart = s6 at *
                clear hD7 hF7 HDW HST5 HF5
                have HL6 := hide (HUP.out.1.last (by have := HKW.out.nk; omega))
                go_wp2_with fail
                refine (open_ok w.heap.size p s6 (N + 1) (nid R) _ HDI7.out HF7.out.bel.size HUP.out.2.1 (by rw [HUP.out.1.n12]; omega) HL6.out (by have := HKW.out.nk; omega) (by have := HUP.out.1.rr; omega)).mono ?_
                rintro e w8 ⟨q2, rfl, hS8, hb8⟩
                rw [HUP.out.1.n12] at hS8
                have HST8 := hide hS8
                have HF8 := hide (HF7.out.trans (Fp.of hb8 HF7.out.bel.size))
                clear hS8 hb8 HDI7 HF7
                have HNM := hide (number_any HST8.out)
                have HRT := hide (root_any HST8.out)
                simp only at HNM HRT
                push_cast at HNM
                go_wp2_with fail
                refine HNM.out.mono ?_
                rintro e w9 ⟨rfl, hq⟩
                have hq := hq.symm
                subst hq
                go_wp2_with fail
                refine HRT.out.mono ?_
                rintro e w10 ⟨rfl, hq⟩
                have hq := hq.symm
                subst hq
                have HRN : Hid ((nid R) ≠ 0) := by have := (nid_cases HKW.out.kd.rr).1; show nid R ≠ 0; omega
                have HHH := hide (hst_hold HUP.out.1.rr HRN.out)
                have qz : (((nid R) : Nat) : Int) ≠ 0 := by have := HRN.out; omega
                have qz2 : ((((nid R) : Nat) : Int) != 0) = true := by rw [bne_iff_ne]; exact qz
                have HGT := hide (get_any (nid R) HST8.out HF8.out.bel.size rfl (by rw [HUP.out.1.n12]; have := HUP.out.1.rr; omega) (by rw [of_nat]; exact HHH.out.2.1) HUP.out.2.1)
                rw [show_none HUP.out.1.m0, HUP.out.1.pg HRN.out, pageOf_laid ys (by have := HUP.out.1.xl; omega)] at HGT
                clear qz
                go_wp2_with fail
                refine HGT.out.mono ?_
                rintro e w11 ⟨⟨v11, rfl, ho11⟩, hb11⟩
                obtain ⟨a11, c11, rfl, B11⟩ := bs_row ho11 (by have := HUP.out.1.xl; omega) HUP.out.1.xb
                have tx := run_text B11
                rw [HSY.out] at tx
                have HST11 := hide (HST8.out.later hb11)
                have HF11 := hide (HF8.out.trans (Fp.of hb11 HF8.out.bel.size))
                have HHO := hide (hold_one (nid R) HST11.out HF11.out.bel.size rfl HHH.out.2.2 HHH.out.2.1)
                clear hb11 ho11 B11 HGT HST8 HF8
                go_wp2_with fail
                refine HHO.out.mono ?_
                rintro e w12 ⟨rfl, hS12, hF12⟩
                have HKN : Hid (KW p q2 s6 (N + 1) (nid R) ys (k + 1) w w12) := by
                  refine ⟨HUP.out.1, HUP.out.2.1, by rw [HUP.out.2.2, HL5.out]; have := HKW.out.l0; omega, by rw [HUP.out.2.2, HL5.out]; have := HKW.out.lk; omega, by have := HKW.out.nk; omega, ?_, HF11.out.trans hF12⟩
                  have e := HHH.out.1
                  rw [← e]
                  exact hS12
                clear hS12 hF12
                go_wp2
                go_roundw
                case rel => exact ⟨k + 1, by omega, by go_num, (N + 1), (nid R), ys, s6, q2, rfl, by push_cast; rfl, by rw [HSY.out], rfl, HKN.out⟩
                case measure => simp [intOf]; omega
        · have HR0 := hide hr0
          have qr : ((R : Int) != 0) = true := by simp; omega
          clear hr0
          by_cases hf : s.after = 1
          · have HRP := hide (round_put HKW.out.kd hf)
            go_wp2_with fail
            refine (put_fails _ m cp ys (nid R) (HK4.out.st) HK4.out.fp.bel.size rfl (by omega) (hst_low HKW.out.kd.rr) (by rw [HKW.out.kd.n12]; have := (nid_cases HKW.out.kd.rr).1; omega) HKW.out.dn hf (by have := HKW.out.lk; omega) (by have := HM0.out; omega) HBS4.out).mono ?_
            rintro e w5 ⟨rfl, hS5, hF5⟩
            obtain ⟨s5, hs5⟩ : ∃ s5, s5 = s.tick := ⟨_, rfl⟩
            rw [← hs5] at hS5 HRP
            have HST5 := hide hS5
            have HF5 := hide (HK4.out.fp.trans hF5)
            have HK5 := hide HRP.out.1
            have HD5 := hide HRP.out.2.1
            have HL5 := hide HRP.out.2.2
            clear hS5 hF5 hs5 HRP hf
            have HDW := hide (down_any w.heap.size p s5 _ HST5.out.1)
            rw [HD5.out] at HDW
            go_wp2_with fail
            refine HDW.out.mono ?_
            rintro e w6 ⟨rfl, hq⟩
            have hq := hq.symm
            subst hq
            go_wp2_with fail
            refine (restart_any w.heap.size p s5 _ HST5.out.1 HF5.out.bel.size).mono ?_
            rintro e w7 ⟨rfl, hD7, hF7⟩
            have HDI7 := hide hD7
            have HF7 := hide (HF5.out.trans (Fp.ofFr hF7))
            have HUP : Hid (KD s5.restart N R xs ∧ s5.restart.down = false ∧ s5.restart.life = s5.life) := by
              have e : s5.restart = s5.up := by unfold DS.restart; rw [HD5.out]; rfl
              rw [e]
              exact ⟨HK5.out.of rfl rfl, rfl, rfl⟩
            generalize s5.restart = s6 at *
            clear hD7 hF7 HDW HST5 HF5
            have HL6 := hide (HUP.out.1.last (by have := HKW.out.nk; omega))
            go_wp2_with fail
            refine (open_ok w.heap.size p s6 N R _ HDI7.out HF7.out.bel.size HUP.out.2.1 (by rw [HUP.out.1.n12]; omega) HL6.out (by have := HKW.out.nk; omega) (by have := HUP.out.1.rr; omega)).mono ?_
            rintro e w8 ⟨q2, rfl, hS8, hb8⟩
            rw [HUP.out.1.n12] at hS8
            have HST8 := hide hS8
            have HF8 := hide (HF7.out.trans (Fp.of hb8 HF7.out.bel.size))
            clear hS8 hb8 HDI7 HF7
            have HNM := hide (number_any HST8.out)
            have HRT := hide (root_any HST8.out)
            simp only at HNM HRT
            skip
            go_wp2_with fail
            refine HNM.out.mono ?_
            rintro e w9 ⟨rfl, hq⟩
            have hq := hq.symm
            subst hq
            go_wp2_with fail
            refine HRT.out.mono ?_
            rintro e w10 ⟨rfl, hq⟩
            have hq := hq.symm
            subst hq
            have HRN : Hid (R ≠ 0) := HR0.out
            have HHH := hide (hst_hold HUP.out.1.rr HRN.out)
            have qz : ((R : Nat) : Int) ≠ 0 := by have := HRN.out; omega
            have qz2 : (((R : Nat) : Int) != 0) = true := by rw [bne_iff_ne]; exact qz
            have HGT := hide (get_any R HST8.out HF8.out.bel.size rfl (by rw [HUP.out.1.n12]; have := HUP.out.1.rr; omega) (by rw [of_nat]; exact HHH.out.2.1) HUP.out.2.1)
            rw [show_none HUP.out.1.m0, HUP.out.1.pg HRN.out, pageOf_laid xs (by have := HUP.out.1.xl; omega)] at HGT
            clear qz
            go_wp2_with fail
            refine HGT.out.mono ?_
            rintro e w11 ⟨⟨v11, rfl, ho11⟩, hb11⟩
            obtain ⟨a11, c11, rfl, B11⟩ := bs_row ho11 (by have := HUP.out.1.xl; omega) HUP.out.1.xb
            have tx := run_text B11
            rw [HSX.out] at tx
            have HST11 := hide (HST8.out.later hb11)
            have HF11 := hide (HF8.out.trans (Fp.of hb11 HF8.out.bel.size))
            have HHO := hide (hold_one R HST11.out HF11.out.bel.size rfl HHH.out.2.2 HHH.out.2.1)
            clear hb11 ho11 B11 HGT HST8 HF8
            go_wp2_with fail
            refine HHO.out.mono ?_
            rintro e w12 ⟨rfl, hS12, hF12⟩
            have HKN : Hid (KW p q2 s6 N R xs (k + 1) w w12) := by
              refine ⟨HUP.out.1, HUP.out.2.1, by rw [HUP.out.2.2, HL5.out]; have := HKW.out.l0; omega, by rw [HUP.out.2.2, HL5.out]; have := HKW.out.lk; omega, by have := HKW.out.nk; omega, ?_, HF11.out.trans hF12⟩
              have e := HHH.out.1
              rw [← e]
              exact hS12
            clear hS12 hF12
            go_wp2
            go_roundw
            case rel => exact ⟨k + 1, by omega, by go_num, N, R, xs, s6, q2, rfl, rfl, by rw [HSX.out], rfl, HKN.out⟩
            case measure => simp [intOf]; omega
          · go_wp2_with fail
            refine (put_ok _ m cp ys (nid R) (HK4.out.st) HK4.out.fp.bel.size rfl (by omega) (hst_low HKW.out.kd.rr) (by rw [HKW.out.kd.n12]; have := (nid_cases HKW.out.kd.rr).1; omega) HKW.out.dn hf (by have := HKW.out.lk; omega) (by have := HM0.out; omega) HBS4.out).mono ?_
            rintro e w5 ⟨rfl, hS5, hF5⟩
            have HOK := hide hS5.1.ok
            have HTF := hide (tick_facts hf)
            have HST1 := hide hS5
            have HF1 := hide (HK4.out.fp.trans hF5)
            have HRC := hide (fun (s' : DS) (E : Int) (hc : (s.tick.wrote (nid R) (laidP ys)).commit (N + 1) (nid R) = (s', E)) (okf : (s.tick.wrote (nid R) (laidP ys)).flush.Ok) => round_commit HKW.out.kd HKW.out.dn hf (by have := HKW.out.nk; omega) HYL.out HYB.out HOK.out hc okf)
            have HCP : Hid (KD (s.tick.wrote (nid R) (laidP ys)).flush N R xs ∨ True) := Or.inr trivial
            have HD1 : Hid ((s.tick.wrote (nid R) (laidP ys)).down = false) := HTF.out.1.trans HKW.out.dn
            have HL1 : Hid ((s.tick.wrote (nid R) (laidP ys)).life = s.life) := HTF.out.2.1
            have HN1 : Hid ((s.tick.wrote (nid R) (laidP ys)).n = 12) := HTF.out.2.2.1.trans HKW.out.kd.n12
            generalize s.tick.wrote (nid R) (laidP ys) = s1 at *
            clear hS5 hF5 hf HTF
            go_wp2_with fail
            refine (free_ok R HST1.out HF1.out.bel.size HL1.out (by show R < ((hst R).set (nid R) 2).length; rw [List.length_set, hst_len HKW.out.kd.rr]; have := HKW.out.kd.rr; omega) (hst_held HKW.out.kd.rr HR0.out)).mono ?_
            rintro e w6 ⟨rfl, hS6, hF6⟩
            have HST2 := hide hS6
            have HF2 := hide (HF1.out.trans hF6)
            clear hS6 hF6 HST1 HF1
            have HCM := hide (commit_any (nid R) HST2.out HF2.out.bel.size HL1.out HD1.out (by rw [HN1.out]; omega) (by rw [HL1.out]; have := HKW.out.lk; omega) (Or.inr (by rw [of_nat]; exact (hst_new HKW.out.kd.rr).2)) (by have := (nid_cases HKW.out.kd.rr).1; omega) (by show N < _; have := HKW.out.nk; omega))
            have HOF : Hid (∀ s' E, s1.commit (N + 1) (nid R) = (s', E) → (E = 0 ∧ KD s' (N + 1) (nid R) ys ∧ s'.down = false ∧ s'.life = s.life) ∨ (E = 20 ∧ s'.down = true ∧ s'.life = s.life + 1 ∧ (KD s' N R xs ∨ KD s' (N + 1) (nid R) ys))) := by
              intro s' E hc
              by_cases hf1 : s1.after = 1
              · exact HRC.out s' E hc (by
                  have e : s1.flush = s1.lose s1.keep s1.torn s1.cut := by
                    unfold DS.flush
                    rw [HD1.out]
                    simp only [Bool.false_eq_true, if_false]
                    rw [if_pos hf1, tick_one hf1]
                  rw [e]
                  exact lose_ok HST2.out.1.ok (by rw [HL1.out]; have := HKW.out.lk; omega) _ _ _)
              · exact HRC.out s' E hc (flush_ok_of HST2.out.1 HD1.out hf1)
            rw [show (PS.set (PS.set ⟨hst R, s.life, N, R⟩ (nid R) 2) R 3).num = N from rfl] at HCM
            generalize hCR : s1.commit (N + 1) (nid R) = CR at *
            obtain ⟨s5, E⟩ := CR
            have HWAY := hide (HOF.out s5 E rfl)
            clear HOF HRC hCR HCP
            try simp only at HCM
            rcases HWAY.out with ⟨hE, hK, hd, hl⟩ | ⟨hE, hd, hl, hK⟩
            · subst hE
              go_wp2_with fail
              refine HCM.out.mono ?_
              rintro e w7 ⟨rfl, hS7, hF7⟩
              simp only [if_true] at hS7
              have HKN : Hid (KW p q s5 (N + 1) (nid R) ys (k + 1) w w7) := by
                refine ⟨hK, hd, by rw [hl]; exact HKW.out.l0, by rw [hl]; have := HKW.out.lk; omega, by have := HKW.out.nk; omega, ?_, HF2.out.trans hF7⟩
                have e := hst_back HKW.out.kd.rr HR0.out
                rw [← e, hl]
                exact hS7
              clear hS7 hF7 hK hd hl HWAY
              go_wp2
              go_roundw
              case rel => exact ⟨k + 1, by omega, by go_num, N + 1, nid R, ys, s5, q, rfl, by push_cast; rfl, by rw [HSY.out], rfl, HKN.out⟩
              case measure => simp [intOf]; omega
            · subst hE
              have HD5 := hide hd
              have HL5 := hide hl
              go_wp2_with fail
              refine HCM.out.mono ?_
              rintro e w7 ⟨rfl, hS7, hF7⟩
              have HST5 := hide hS7
              have HF5 := hide (HF2.out.trans hF7)
              clear hS7 hF7 hd hl HWAY HCM
              rcases hK with hK | hK
              · have HK5 := hide hK
                clear hK
                have HDW := hide (down_any w.heap.size p s5 _ HST5.out.1)
                rw [HD5.out] at HDW
                go_wp2_with fail
                refine HDW.out.mono ?_
                rintro e w6 ⟨rfl, hq⟩
                have hq := hq.symm
                subst hq
                go_wp2_with fail
                refine (restart_any w.heap.size p s5 _ HST5.out.1 HF5.out.bel.size).mono ?_
                rintro e w7 ⟨rfl, hD7, hF7⟩
                have HDI7 := hide hD7
                have HF7 := hide (HF5.out.trans (Fp.ofFr hF7))
                have HUP : Hid (KD s5.restart N R xs ∧ s5.restart.down = false ∧ s5.restart.life = s5.life) := by
                  have e : s5.restart = s5.up := by unfold DS.restart; rw [HD5.out]; rfl
                  rw [e]
                  exact ⟨HK5.out.of rfl rfl, rfl, rfl⟩
                generalize s5.restart = s6 at *
                clear hD7 hF7 HDW HST5 HF5
                have HL6 := hide (HUP.out.1.last (by have := HKW.out.nk; omega))
                go_wp2_with fail
                refine (open_ok w.heap.size p s6 N R _ HDI7.out HF7.out.bel.size HUP.out.2.1 (by rw [HUP.out.1.n12]; omega) HL6.out (by have := HKW.out.nk; omega) (by have := HUP.out.1.rr; omega)).mono ?_
                rintro e w8 ⟨q2, rfl, hS8, hb8⟩
                rw [HUP.out.1.n12] at hS8
                have HST8 := hide hS8
                have HF8 := hide (HF7.out.trans (Fp.of hb8 HF7.out.bel.size))
                clear hS8 hb8 HDI7 HF7
                have HNM := hide (number_any HST8.out)
                have HRT := hide (root_any HST8.out)
                simp only at HNM HRT
                skip
                go_wp2_with fail
                refine HNM.out.mono ?_
                rintro e w9 ⟨rfl, hq⟩
                have hq := hq.symm
                subst hq
                go_wp2_with fail
                refine HRT.out.mono ?_
                rintro e w10 ⟨rfl, hq⟩
                have hq := hq.symm
                subst hq
                have HRN : Hid (R ≠ 0) := HR0.out
                have HHH := hide (hst_hold HUP.out.1.rr HRN.out)
                have qz : ((R : Nat) : Int) ≠ 0 := by have := HRN.out; omega
                have qz2 : (((R : Nat) : Int) != 0) = true := by rw [bne_iff_ne]; exact qz
                have HGT := hide (get_any R HST8.out HF8.out.bel.size rfl (by rw [HUP.out.1.n12]; have := HUP.out.1.rr; omega) (by rw [of_nat]; exact HHH.out.2.1) HUP.out.2.1)
                rw [show_none HUP.out.1.m0, HUP.out.1.pg HRN.out, pageOf_laid xs (by have := HUP.out.1.xl; omega)] at HGT
                clear qz
                go_wp2_with fail
                refine HGT.out.mono ?_
                rintro e w11 ⟨⟨v11, rfl, ho11⟩, hb11⟩
                obtain ⟨a11, c11, rfl, B11⟩ := bs_row ho11 (by have := HUP.out.1.xl; omega) HUP.out.1.xb
                have tx := run_text B11
                rw [HSX.out] at tx
                have HST11 := hide (HST8.out.later hb11)
                have HF11 := hide (HF8.out.trans (Fp.of hb11 HF8.out.bel.size))
                have HHO := hide (hold_one R HST11.out HF11.out.bel.size rfl HHH.out.2.2 HHH.out.2.1)
                clear hb11 ho11 B11 HGT HST8 HF8
                go_wp2_with fail
                refine HHO.out.mono ?_
                rintro e w12 ⟨rfl, hS12, hF12⟩
                have HKN : Hid (KW p q2 s6 N R xs (k + 1) w w12) := by
                  refine ⟨HUP.out.1, HUP.out.2.1, by rw [HUP.out.2.2, HL5.out]; have := HKW.out.l0; omega, by rw [HUP.out.2.2, HL5.out]; have := HKW.out.lk; omega, by have := HKW.out.nk; omega, ?_, HF11.out.trans hF12⟩
                  have e := HHH.out.1
                  rw [← e]
                  exact hS12
                clear hS12 hF12
                go_wp2
                go_roundw
                case rel => exact ⟨k + 1, by omega, by go_num, N, R, xs, s6, q2, rfl, rfl, by rw [HSX.out], rfl, HKN.out⟩
                case measure => simp [intOf]; omega
              · have HK5 := hide hK
                clear hK
                have HDW := hide (down_any w.heap.size p s5 _ HST5.out.1)
                rw [HD5.out] at HDW
                go_wp2_with fail
                refine HDW.out.mono ?_
                rintro e w6 ⟨rfl, hq⟩
                have hq := hq.symm
                subst hq
                go_wp2_with fail
                refine (restart_any w.heap.size p s5 _ HST5.out.1 HF5.out.bel.size).mono ?_
                rintro e w7 ⟨rfl, hD7, hF7⟩
                have HDI7 := hide hD7
                have HF7 := hide (HF5.out.trans (Fp.ofFr hF7))
                have HUP : Hid (KD s5.restart (N + 1) (nid R) ys ∧ s5.restart.down = false ∧ s5.restart.life = s5.life) := by
                  have e : s5.restart = s5.up := by unfold DS.restart; rw [HD5.out]; rfl
                  rw [e]
                  exact ⟨HK5.out.of rfl rfl, rfl, rfl⟩
                generalize s5.restart = s6 at *
                clear hD7 hF7 HDW HST5 HF5
                have HL6 := hide (HUP.out.1.last (by have := HKW.out.nk; omega))
                go_wp2_with fail
                refine (open_ok w.heap.size p s6 (N + 1) (nid R) _ HDI7.out HF7.out.bel.size HUP.out.2.1 (by rw [HUP.out.1.n12]; omega) HL6.out (by have := HKW.out.nk; omega) (by have := HUP.out.1.rr; omega)).mono ?_
                rintro e w8 ⟨q2, rfl, hS8, hb8⟩
                rw [HUP.out.1.n12] at hS8
                have HST8 := hide hS8
                have HF8 := hide (HF7.out.trans (Fp.of hb8 HF7.out.bel.size))
                clear hS8 hb8 HDI7 HF7
                have HNM := hide (number_any HST8.out)
                have HRT := hide (root_any HST8.out)
                simp only at HNM HRT
                push_cast at HNM
                go_wp2_with fail
                refine HNM.out.mono ?_
                rintro e w9 ⟨rfl, hq⟩
                have hq := hq.symm
                subst hq
                go_wp2_with fail
                refine HRT.out.mono ?_
                rintro e w10 ⟨rfl, hq⟩
                have hq := hq.symm
                subst hq
                have HRN : Hid ((nid R) ≠ 0) := by have := (nid_cases HKW.out.kd.rr).1; show nid R ≠ 0; omega
                have HHH := hide (hst_hold HUP.out.1.rr HRN.out)
                have qz : (((nid R) : Nat) : Int) ≠ 0 := by have := HRN.out; omega
                have qz2 : ((((nid R) : Nat) : Int) != 0) = true := by rw [bne_iff_ne]; exact qz
                have HGT := hide (get_any (nid R) HST8.out HF8.out.bel.size rfl (by rw [HUP.out.1.n12]; have := HUP.out.1.rr; omega) (by rw [of_nat]; exact HHH.out.2.1) HUP.out.2.1)
                rw [show_none HUP.out.1.m0, HUP.out.1.pg HRN.out, pageOf_laid ys (by have := HUP.out.1.xl; omega)] at HGT
                clear qz
                go_wp2_with fail
                refine HGT.out.mono ?_
                rintro e w11 ⟨⟨v11, rfl, ho11⟩, hb11⟩
                obtain ⟨a11, c11, rfl, B11⟩ := bs_row ho11 (by have := HUP.out.1.xl; omega) HUP.out.1.xb
                have tx := run_text B11
                rw [HSY.out] at tx
                have HST11 := hide (HST8.out.later hb11)
                have HF11 := hide (HF8.out.trans (Fp.of hb11 HF8.out.bel.size))
                have HHO := hide (hold_one (nid R) HST11.out HF11.out.bel.size rfl HHH.out.2.2 HHH.out.2.1)
                clear hb11 ho11 B11 HGT HST8 HF8
                go_wp2_with fail
                refine HHO.out.mono ?_
                rintro e w12 ⟨rfl, hS12, hF12⟩
                have HKN : Hid (KW p q2 s6 (N + 1) (nid R) ys (k + 1) w w12) := by
                  refine ⟨HUP.out.1, HUP.out.2.1, by rw [HUP.out.2.2, HL5.out]; have := HKW.out.l0; omega, by rw [HUP.out.2.2, HL5.out]; have := HKW.out.lk; omega, by have := HKW.out.nk; omega, ?_, HF11.out.trans hF12⟩
                  have e := HHH.out.1
                  rw [← e]
                  exact hS12
                clear hS12 hF12
                go_wp2
                go_roundw
                case rel => exact ⟨k + 1, by omega, by go_num, (N + 1), (nid R), ys, s6, q2, rfl, by push_cast; rfl, by rw [HSY.out], rfl, HKN.out⟩
                case measure => simp [intOf]; omega
    · have hgo2 : ¬ (k : Int) < (T : Int) ∨ ((k : Int) < (T : Int) ∧ ¬ (k : Int) < 12) := by omega
      clear hgo
      rcases hgo2 with i1 | ⟨i1, i2⟩
      · go_wp2_with fail
        refine (told_any _).mono ?_
        rintro e w3 ⟨rfl, hb3⟩
        have HF3 := hide (HKW.out.fp.trans (Fp.of hb3 HKW.out.fp.bel.size))
        clear hb3
        go_wp2
        go_ret
        exact ⟨rfl, HF3.out.bel⟩
      · go_wp2_with fail
        refine (told_any _).mono ?_
        rintro e w3 ⟨rfl, hb3⟩
        have HF3 := hide (HKW.out.fp.trans (Fp.of hb3 HKW.out.fp.bel.size))
        clear hb3
        go_wp2
        go_ret
        exact ⟨rfl, HF3.out.bel⟩
end Go.Proofs.Ytdagpobgmaeboaa
