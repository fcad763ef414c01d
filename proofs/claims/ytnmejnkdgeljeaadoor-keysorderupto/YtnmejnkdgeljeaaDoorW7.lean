/- The walk of the law KeysOrder: whatever two lists of values of the bulk, it returns true and writes nothing that was there. -/
import Derived.Test.YtnmejnkdgeljeaaDoorW6
import Derived.BigQuiet
set_option linter.unusedVariables false
namespace Go.Proofs.YtnmejnkdgeljeaaDoor
open Go.RowKit
attribute [local go_sem ↓] Go.wp_at_zero Go.wp_at_succ

set_option maxRecDepth 100000 in
set_option maxHeartbeats 8000000 in
theorem keysOrder_walk (a0 : Option Addr) (n0 c0 : Nat) (xs0 : List Val) (a1 : Option Addr) (n1 c1 : Nat) (xs1 : List Val) (w : World) (h0 : VS w a0 n0 c0 xs0) (z0 : ∀ x ∈ xs0, x.2.2.size ≤ 1048576) (h1 : VS w a1 n1 c1 xs1) (z1 : ∀ x ∈ xs1, x.2.2.size ≤ 1048576) (hT : Lib.Utf8Tabs 0 1 w) :
    Calls Tryd.prog 5 #[.slice a0 n0 c0, .slice a1 n1 c1] w fun e w' => e = .returned (.bool true) ∧ Below w.heap.size w w' := by
  have rx := RL.right h0.hok z0
  have ry := RL.right h1.hok z1
  have H0 := hidj (And.intro h0 z0)
  have H1 := hidj (And.intro h1 z1)
  have HT := hidj hT
  have k0 := fun ww (hh : VS ww a0 n0 c0 xs0) => right_law a0 n0 c0 xs0 ww hh z0
  have k1 := fun ww (hh : VS ww a1 n1 c1 xs1) => right_law a1 n1 c1 xs1 ww hh z1
  generalize rightL xs0 = x at rx k0
  generalize rightL xs1 = y at ry k1
  have HK0 := hidj k0
  have HK1 := hidj k1
  have RX := hidj rx
  have RY := hidj ry
  clear h0 h1 z0 z1 hT k0 k1 rx ry
  go_enter Tryd.func5, Tryd.ntmps5
  go_wp2_with fail
  refine (HK0.out _ H0.out.1).mono ?_
  rintro e w1 ⟨v1, rfl, hv1⟩
  have HB1 := hidj hv1.bel
  have HO1 := hidj hv1.own
  clear hv1
  go_wp2_with fail
  refine (HK1.out _ (H1.out.1.later HB1.out)).mono ?_
  rintro e w2 ⟨v2, rfl, hv2⟩
  have HJ3 : Hid (J3x w w.heap.size w1.heap.size w1.heap.size v1 v2 v2 x y y w2) := ⟨ownsRow_later HO1.out hv2.bel, hv2.own, hv2.own, HB1.out.trans (hv2.bel.mono HB1.out.size), Utf8Tabs_below HT.out (HB1.out.trans (hv2.bel.mono HB1.out.size))⟩
  clear hv2
  obtain ⟨A1, C1, E1, -⟩ := vs_row HJ3.out.r1 (by have := RX.out.len; omega) RX.out.ok
  obtain ⟨A2, C2, E2, -⟩ := vs_row HJ3.out.r2 (by have := RY.out.len; omega) RY.out.ok
  subst E1 E2
  have VX : Hid (∀ ww, J3x w w.heap.size w1.heap.size w1.heap.size (.slice A1 x.length C1) (.slice A2 y.length C2) (.slice A2 y.length C2) x y y ww → VS ww A1 x.length C1 x ∧ VS ww A2 y.length C2 y) := by
    intro ww hh
    obtain ⟨p1, p2, e1, q1⟩ := vs_row hh.r1 (by have := RX.out.len; omega) RX.out.ok
    obtain ⟨p3, p4, e2, q2⟩ := vs_row hh.r2 (by have := RY.out.len; omega) RY.out.ok
    simp only [Value.slice.injEq, true_and] at e1 e2
    obtain ⟨rfl, rfl⟩ := e1
    obtain ⟨rfl, rfl⟩ := e2
    exact ⟨q1, q2⟩
  go_wp2_with fail
  refine (key_any A1 x.length C1 x _ (VX.out _ HJ3.out).1 (by have := RX.out.bytes; omega)).mono ?_
  rintro e w4 ⟨hk4, hb4⟩
  unfold KeyR at hk4
  rw [RX.out.noErr, if_pos rfl] at hk4
  obtain ⟨vp, rfl, hp4⟩ := hk4
  have HJ4 := J3x.next HJ3 hb4
  have HP4 := hidj hp4
  clear hb4 hp4
  go_wp2_with fail
  refine (key_any A2 y.length C2 y _ (VX.out _ HJ4.out).2 (by have := RY.out.bytes; omega)).mono ?_
  rintro e w5 ⟨hk5, hb5⟩
  unfold KeyR at hk5
  rw [RY.out.noErr, if_pos rfl] at hk5
  obtain ⟨vq, rfl, hq5⟩ := hk5
  have HJ5 := J3x.next HJ4 hb5
  have HP5 := hidj (And.intro (ownsRow_later HP4.out hb5) hq5)
  clear hb5 hq5
  go_wp2_with fail
  refine (compare_any A1 A2 x.length C1 y.length C2 x y _ (VX.out _ HJ5.out).1 (VX.out _ HJ5.out).2 RX.out.err RY.out.err HJ5.out.tab).mono ?_
  rintro e w6 ⟨rfl, hb6⟩
  have HJ6 := J3x.next HJ5 hb6
  have HP6 := hidj (And.intro (ownsRow_later HP5.out.1 hb6) (ownsRow_later HP5.out.2 hb6))
  clear hb6
  go_wp2_with fail
  refine (told_any _).mono ?_
  rintro e w7 ⟨rfl, hb7⟩
  have HJ7 := J3x.next HJ6 hb7
  have HP7 := hidj (And.intro (ownsRow_later HP6.out.1 hb7) (ownsRow_later HP6.out.2 hb7))
  clear hb7
  go_wp2_with fail
  refine (refCompare_any A1 A2 x.length C1 y.length C2 x y _ (VX.out _ HJ7.out).1 (VX.out _ HJ7.out).2 RX.out.err RY.out.err RX.out.small RY.out.small).mono ?_
  rintro e w8 ⟨rfl, hb8⟩
  have HJ8 := J3x.next HJ7 hb8
  have HP8 := hidj (And.intro (ownsRow_later HP7.out.1 hb8) (ownsRow_later HP7.out.2 hb8))
  clear hb8
  go_wp2_with fail
  refine (compare_any A2 A1 y.length C2 x.length C1 y x _ (VX.out _ HJ8.out).2 (VX.out _ HJ8.out).1 RY.out.err RX.out.err HJ8.out.tab).mono ?_
  rintro e w9 ⟨rfl, hb9⟩
  have HJ9 := J3x.next HJ8 hb9
  have HP9 := hidj (And.intro (ownsRow_later HP8.out.1 hb9) (ownsRow_later HP8.out.2 hb9))
  clear hb9
  have bx := RX.out.bytes
  have byy := RY.out.bytes
  have t1 := text_own HP9.out.1 (by omega) (keyBytes_lt x)
  have t2 := text_own HP9.out.2 (by omega) (keyBytes_lt y)
  have l1 := str_less (keyBytes_lt x) (keyBytes_lt y)
  have l2 := str_same (keyBytes_lt x) (keyBytes_lt y)
  have l3 := cmpL_range (keyBytes x) (keyBytes y)
  have l4 := cmpVs_zero RX.out.ok RX.out.noErr RY.out.ok RY.out.noErr
  rw [cmpVs_neg RX.out.ok RX.out.noErr RY.out.ok RY.out.noErr]
  rw [cmpVs_bytes x y RX.out.ok RX.out.noErr RY.out.ok RY.out.noErr] at l1 l2 l3
  generalize str (keyBytes x) = sx at t1 l1 l2
  generalize str (keyBytes y) = sy at t2 l1 l2
  clear bx byy
  have hs : sameV x y = decide (cmpVs x y = 0) := by unfold sameV; exact decide_eq_decide.2 l4.symm
  generalize cmpVs x y = u at l1 l2 l3 hs ⊢
  have HS := hidj hs
  clear hs l4
  have d1 : -1 ≤ u := by omega
  have d2 : u ≤ 1 := by omega
  clear l3
  go_wp2_with fail
  refine (same_any A1 A2 x.length C1 y.length C2 x y _ (VX.out _ HJ9.out).1 (VX.out _ HJ9.out).2).mono ?_
  rintro e w10 ⟨rfl, hb10⟩
  rw [HS.out]
  have HJ10 := J3x.next HJ9 hb10
  have HP10 := hidj (And.intro (ownsRow_later HP9.out.1 hb10) (ownsRow_later HP9.out.2 hb10))
  clear hb10 t1 t2 l1 l2
  obtain ⟨Ap, Cp, Ep, Bp⟩ := bs_row HP10.out.1 (by have := RX.out.bytes; omega) (keyBytes_lt x)
  subst Ep
  have HBp := hidj Bp
  clear Bp
  go_wp2_with fail
  refine (read_any Ap (keyBytes x).length Cp (keyBytes x) _ HBp.out (by have := RX.out.bytes; omega)).mono ?_
  rintro e w11 ⟨hr11, hb11⟩
  rw [rd_fore x RX.out.ok RX.out.noErr] at hr11
  obtain ⟨v11, rfl, ho11⟩ := hr11
  have HJ11 := J3x.next HJ10 hb11
  obtain ⟨A3, C3, E3, V3⟩ := vs_row ho11 (by have := RX.out.len; omega) RX.out.ok
  subst E3
  have HV3 := hidj V3
  clear hb11 ho11 V3
  go_wp2_with fail
  refine (same_any A3 A1 x.length C3 x.length C1 x x _ HV3.out (VX.out _ HJ11.out).1).mono ?_
  rintro e w12 ⟨rfl, hb12⟩
  rw [sameV_true rfl]
  have HJ12 := J3x.next HJ11 hb12
  clear hb12
  have V1 := (VX.out _ HJ12.out).1
  have V2 := (VX.out _ HJ12.out).2
  have c1 := V1.hcap
  have c2 := V2.hcap
  have m1 := V1.hroom
  have m2 := V2.hroom
  have HV1 := hidj V1
  have HV2 := hidj V2
  clear V1 V2
  have HR : Hid (w12.heap.size ≤ w12.heap.size) := Nat.le_refl _
  cases x with
  | nil =>
    simp only [List.length_nil] at *
    go_wp2_with fail
    go_quiet (fail)
    go_wp2
    go_ret
    exact ⟨rfl, below_drewN HJ12.out.bel _⟩
  | cons x0 xr =>
  have n1 : (0 : Int) < ((x0 :: xr).length : Int) := by simp only [List.length_cons]; omega
  generalize hL1 : (x0 :: xr).length = L1 at *
  have p1 : ((L1 : Int) == 0) = false := by simp; omega
  have p2 : decide ((L1 : Int) = 0) = false := decide_eq_false (by omega)
  have p3 : ¬ L1 = 0 := by omega
  cases y with
  | nil =>
    simp only [List.length_nil] at *
    go_wp2_with fail
    go_quiet (fail)
    go_wp2
    go_ret
    exact ⟨rfl, below_drewN HJ12.out.bel _⟩
  | cons y0 yr =>
  have n2 : (0 : Int) < ((y0 :: yr).length : Int) := by simp only [List.length_cons]; omega
  generalize hL2 : (y0 :: yr).length = L2 at *
  have p4 : ((L2 : Int) == 0) = false := by simp; omega
  have p5 : decide ((L2 : Int) = 0) = false := decide_eq_false (by omega)
  have p6 : ¬ L2 = 0 := by omega
  obtain ⟨b1, o1, e1⟩ := HV1.out.hform (by omega)
  obtain ⟨b2, o2, e2⟩ := HV2.out.hform (by omega)
  subst e1 e2
  have k1 := HV1.out.hcell b1 o1 rfl 0 (by omega)
  have k2 := HV2.out.hcell b2 o2 rfl 0 (by omega)
  have O1 := hidj (RX.out.ok x0 (by simp))
  have O2 := hidj (RY.out.ok y0 (by simp))
  have R1 := hidj (RX.out.err x0 (by simp))
  have R2 := hidj (RY.out.err y0 (by simp))
  have HL1 := hidj hL1
  have HL2 := hidj hL2
  have S1 := hidj (RX.out.small x0 (by simp))
  have S2 := hidj (RY.out.small y0 (by simp))
  clear hL1 hL2
  simp only [List.getD_cons_zero, Nat.zero_mul, Nat.add_zero] at k1 k2
  have HV := hidj (eqv_iff x0 y0)
  have q1 := HV1.out.lt (by omega)
  have q2 := HV2.out.lt (by omega)
  obtain ⟨xk, xn, xt⟩ := x0
  obtain ⟨yk, yn, yt⟩ := y0
  have g1 : ∀ ww, (binOp .eql 23 (.agg #[.int .i64 xk, .int .i64 xn, .string xt]) (.agg #[.int .i64 yk, .int .i64 yn, .string yt])).run Tryd.prog ww = .ok (.bool (eqv xk xn xt yk yn yt)) ww := fun ww => eql_av xk xn xt yk yn yt ww
  have g2 : ∀ p q ww, (eqGuard .eql 23 p q (.agg #[.int .i64 xk, .int .i64 xn, .string xt]) (.agg #[.int .i64 yk, .int .i64 yn, .string yt])).run Tryd.prog ww = .ok () ww := fun p q ww => run_eqGuard_agg ww .eql _ p q _ _ guardT_av
  simp only at HV k1 k2
  cases hE : eqv xk xn xt yk yn yt with
  | true =>
    rw [hE] at g1
    go_wp2_with fail
    go_quiet (fail)
    go_wp2
    go_ret
    exact ⟨rfl, below_drewN HJ12.out.bel _⟩
  | false =>
    rw [hE] at g1
    have HN : Hid (¬ ((xk, xn, xt) : Val) = (yk, yn, yt)) := by
      intro h
      have := HV.out.2 h
      rw [hE] at this
      cases this
    go_wp2_with fail
    go_quiet (fail)
    clear g1 g2
    go_wp2_with fail
    have E1 : keyErr [((xk, xn, xt) : Val)] = 0 := by simp only [keyErr, R1.out, if_true]
    have E2 : keyErr [((yk, yn, yt) : Val)] = 0 := by simp only [keyErr, R2.out, if_true]
    have B1 := bytes_len (xk, xn, xt) S1.out
    have B2 := bytes_len (yk, yn, yt) S2.out
    have HX0 := hidj (vs_one (w12.drewN nq) (xk, xn, xt) O1.out)
    have HB12 : Hid (Below w12.heap.size w12 ((w12.drewN nq).alloc (.cells #[.int .i64 xk, .int .i64 xn, .string xt] 23))) := (below_drewN (Below.refl w12.heap.size w12) nq).alloc (Nat.le_refl _) _
    have HEB := hidj (And.intro (And.intro E1 E2) (And.intro B1 B2))
    clear E1 E2 B1 B2
    refine (key_any _ 1 1 [(xk, xn, xt)] _ HX0.out (by rw [keyBytes_one]; have := HEB.out.2.1; omega)).mono ?_
    rintro e w13 ⟨hk13, hb13⟩
    unfold KeyR at hk13
    rw [HEB.out.1.1, if_pos rfl, keyBytes_one] at hk13
    obtain ⟨vu, rfl, hu⟩ := hk13
    have HB13 := hidj (HB12.out.trans (hb13.mono HB12.out.size))
    have HJ13 := J3x.next HJ12 HB13.out
    have k3 : w13.cell? ⟨b2, o2, none⟩ = some (.int .i64 yk) ∧ w13.cell? ⟨b2, o2 + 1, none⟩ = some (.int .i64 yn) ∧ w13.cell? ⟨b2, o2 + 2, none⟩ = some (.string yt) := ⟨(HB13.out.cell q2).trans k2.1, (HB13.out.cell q2).trans k2.2.1, (HB13.out.cell q2).trans k2.2.2⟩
    have HU := hidj hu
    clear hu hb13 k1 k2
    go_wp2_with fail
    have HY0 := hidj (vs_one w13 (yk, yn, yt) O2.out)
    have HB14 : Hid (Below w13.heap.size w13 (w13.alloc (.cells #[.int .i64 yk, .int .i64 yn, .string yt] 23))) := (Below.refl w13.heap.size w13).alloc (Nat.le_refl _) _
    refine (key_any _ 1 1 [(yk, yn, yt)] _ HY0.out (by rw [keyBytes_one]; have := HEB.out.2.2; omega)).mono ?_
    rintro e w14 ⟨hk14, hb14⟩
    unfold KeyR at hk14
    rw [HEB.out.1.2, if_pos rfl, keyBytes_one] at hk14
    obtain ⟨vv, rfl, hv⟩ := hk14
    have HB15 := hidj (HB14.out.trans (hb14.mono HB14.out.size))
    have HJ14 := J3x.next HJ13 HB15.out
    obtain ⟨Au, Cu, Eu, Bu⟩ := bs_row (ownsRow_later HU.out HB15.out) (by have := HEB.out.2.1; omega) (bytes_lt _)
    obtain ⟨Av, Cv, Ev, Bv⟩ := bs_row hv (by have := HEB.out.2.2; omega) (bytes_lt _)
    subst Eu Ev
    have lw := hidj (last_word O1.out R1.out O2.out R2.out HN.out)
    clear hv hb14 k3
    have z1 := Bu.hlen
    have z2 := Bv.hlen
    have z3 := Bu.hcap
    have z4 := Bv.hcap
    have z5 := Bu.hmax
    have z6 := Bv.hmax
    have HBU := hidj Bu
    have HBV := hidj Bv
    clear Bu Bv z1 z2
    generalize hM1 : (Val.bytes (xk, xn, xt)).length = M1 at *
    generalize hM2 : (Val.bytes (yk, yn, yt)).length = M2 at *
    have HM1 := hidj hM1
    clear hM1 hM2
    by_cases hl : M1 ≤ M2
    · have hpos : 0 < M2 := by
        obtain ⟨_, _, _, hne⟩ := rh_fore [] O1.out R1.out
        have := List.length_pos_iff.2 hne
        have := HM1.out
        omega
      obtain ⟨b7, o7, rfl, -, -⟩ := HBV.out.place hpos
      have lw2 := lw.out hl
      have t1 := fun n => run_text (HBU.out.later (below_drewN (Below.refl w14.heap.size w14) n) (Nat.le_refl _))
      have t2 := fun n => run_text (bs_take (HBV.out.later (below_drewN (Below.refl w14.heap.size w14) n) (Nat.le_refl _)) M1 hl)
      generalize str (Val.bytes (xk, xn, xt)) = su at lw2 t1
      generalize str ((Val.bytes (yk, yn, yt)).take M1) = sv at lw2 t2
      have y1 : decide ((M2 : Int) < (M1 : Int)) = false := decide_eq_false (by omega)
      have y2 : (0 : Int) ≤ (M1 : Int) := by omega
      have y3 : (M1 : Int) ≤ (Cv : Int) := by omega
      go_wp2_with fail
      go_quiet (fail)
      go_wp2
      go_ret
      exact ⟨rfl, below_drewN HJ14.out.bel _⟩
    · have y1 : decide ((M2 : Int) < (M1 : Int)) = true := decide_eq_true (by omega)
      go_wp2_with fail
      go_quiet (fail)
      go_wp2
      go_ret
      exact ⟨rfl, below_drewN HJ14.out.bel _⟩
end Go.Proofs.YtnmejnkdgeljeaaDoor
