/- The walk of the law KeysJoin: whatever three lists of values of the bulk, it returns true and writes nothing that was there. -/
import Derived.Test.YtnmejnkdgeljeaaDoorJ3
set_option linter.unusedVariables false
namespace Go.Proofs.YtnmejnkdgeljeaaDoor
open Go.RowKit

set_option maxRecDepth 100000 in
set_option maxHeartbeats 8000000 in
theorem keysJoin_walk (a0 : Option Addr) (n0 c0 : Nat) (xs0 : List Val) (a1 : Option Addr) (n1 c1 : Nat) (xs1 : List Val) (a2 : Option Addr) (n2 c2 : Nat) (xs2 : List Val) (w : World) (h0 : VS w a0 n0 c0 xs0) (z0 : ∀ x ∈ xs0, x.2.2.size ≤ 1048576) (h1 : VS w a1 n1 c1 xs1) (z1 : ∀ x ∈ xs1, x.2.2.size ≤ 1048576) (h2 : VS w a2 n2 c2 xs2) (z2 : ∀ x ∈ xs2, x.2.2.size ≤ 1048576) (hT : Lib.Utf8Tabs 0 1 w) :
    Calls Tryd.prog 8 #[.slice a0 n0 c0, .slice a1 n1 c1, .slice a2 n2 c2] w fun e w' => e = .returned (.bool true) ∧ Below w.heap.size w w' := by
  have rx := RL.right h0.hok z0
  have ry := RL.right h1.hok z1
  have rz := RL.right h2.hok z2
  have H0 := hidj (And.intro h0 z0)
  have H1 := hidj (And.intro h1 z1)
  have H2 := hidj (And.intro h2 z2)
  have HT := hidj hT
  have k0 := fun ww (hh : VS ww a0 n0 c0 xs0) => right_law a0 n0 c0 xs0 ww hh z0
  have k1 := fun ww (hh : VS ww a1 n1 c1 xs1) => right_law a1 n1 c1 xs1 ww hh z1
  have k2 := fun ww (hh : VS ww a2 n2 c2 xs2) => right_law a2 n2 c2 xs2 ww hh z2
  generalize rightL xs0 = x at rx k0
  generalize rightL xs1 = y at ry k1
  generalize rightL xs2 = z at rz k2
  have HK0 := hidj k0
  have HK1 := hidj k1
  have HK2 := hidj k2
  have RX := hidj rx
  have RY := hidj ry
  have RZ := hidj rz
  have RXY := hidj (rx.append ry)
  clear h0 h1 h2 z0 z1 z2 hT k0 k1 k2 rx ry rz
  go_enter Tryd.func8, Tryd.ntmps8
  go_wp2_with fail
  refine (HK0.out _ H0.out.1).mono ?_
  rintro e w1 ⟨v1, rfl, hv1⟩
  have HB1 := hidj hv1.bel
  have HO1 := hidj hv1.own
  clear hv1
  go_wp2_with fail
  refine (HK1.out _ (H1.out.1.later HB1.out)).mono ?_
  rintro e w2 ⟨v2, rfl, hv2⟩
  have HB2 := hidj (HB1.out.trans (hv2.bel.mono HB1.out.size))
  have HO2 := hidj (And.intro (ownsRow_later HO1.out hv2.bel) hv2.own)
  clear hv2
  go_wp2_with fail
  refine (HK2.out _ (H2.out.1.later HB2.out)).mono ?_
  rintro e w3 ⟨v3, rfl, hv3⟩
  have hb3 := HB2.out.trans (hv3.bel.mono HB2.out.size)
  have HJ3 : Hid (J3x w w.heap.size w1.heap.size w2.heap.size v1 v2 v3 x y z w3) := ⟨ownsRow_later HO2.out.1 hv3.bel, ownsRow_later HO2.out.2 hv3.bel, hv3.own, hb3, Utf8Tabs_below HT.out hb3⟩
  clear hv3 hb3
  obtain ⟨A1, C1, E1, -⟩ := vs_row HJ3.out.r1 (by have := RX.out.len; omega) RX.out.ok
  obtain ⟨A2, C2, E2, -⟩ := vs_row HJ3.out.r2 (by have := RY.out.len; omega) RY.out.ok
  obtain ⟨A3, C3, E3, -⟩ := vs_row HJ3.out.r3 (by have := RZ.out.len; omega) RZ.out.ok
  subst E1 E2 E3
  have VX : Hid (∀ ww, J3x w w.heap.size w1.heap.size w2.heap.size (.slice A1 x.length C1) (.slice A2 y.length C2) (.slice A3 z.length C3) x y z ww → VS ww A1 x.length C1 x ∧ VS ww A2 y.length C2 y ∧ VS ww A3 z.length C3 z) := by
    intro ww hh
    obtain ⟨p1, p2, e1, q1⟩ := vs_row hh.r1 (by have := RX.out.len; omega) RX.out.ok
    obtain ⟨p3, p4, e2, q2⟩ := vs_row hh.r2 (by have := RY.out.len; omega) RY.out.ok
    obtain ⟨p5, p6, e3, q3⟩ := vs_row hh.r3 (by have := RZ.out.len; omega) RZ.out.ok
    simp only [Value.slice.injEq, true_and] at e1 e2 e3
    obtain ⟨rfl, rfl⟩ := e1
    obtain ⟨rfl, rfl⟩ := e2
    obtain ⟨rfl, rfl⟩ := e3
    exact ⟨q1, q2, q3⟩
  go_wp2_with fail
  refine (key_any A1 x.length C1 x _ (VX.out _ HJ3.out).1 (by have := RX.out.bytes; omega)).mono ?_
  rintro e w4 ⟨hk4, hb4⟩
  unfold KeyR at hk4
  rw [RX.out.noErr, if_pos rfl] at hk4
  obtain ⟨vp, rfl, hp4⟩ := hk4
  have HJ4 := J3x.next HJ3 hb4
  have HP4 := hidj hp4
  clear hb4 hp4
  go_wp2_with fail
  refine (key_any A2 y.length C2 y _ (VX.out _ HJ4.out).2.1 (by have := RY.out.bytes; omega)).mono ?_
  rintro e w5 ⟨hk5, hb5⟩
  unfold KeyR at hk5
  rw [RY.out.noErr, if_pos rfl] at hk5
  obtain ⟨vq, rfl, hq5⟩ := hk5
  have HJ5 := J3x.next HJ4 hb5
  have HP5 := hidj (And.intro (ownsRow_later HP4.out hb5) hq5)
  clear hb5 hq5
  go_wp2_with fail
  refine (few_law _ _ x _ HJ5.out.r1 RX.out.len).mono ?_
  rintro e w6 ⟨v6, rfl, hv6⟩
  have HV6 := hidj hv6
  clear hv6
  have HS : Hid (w5.heap.size ≤ w5.heap.size) := Nat.le_refl _
  have HJ6 := J3x.next HJ5 HV6.out.bel
  have rxl := RX.out.len
  have ryl := RY.out.len
  go_wp2_with (at_builtin; refine wpList_append_vv rfl (.tmp 37) (.tmp 38) rfl w5 _ _ x y _ rfl rfl HV6.out HJ6.out.r2 (by omega) ?_; intro v7 w7 hV7; have HV7 := hV7.hid; clear hV7)
  have HJ7 := J3x.next HJ5 HV7.out.bel
  have HP7 := hidj (And.intro (ownsRow_later HP5.out.1 HV7.out.bel) (ownsRow_later HP5.out.2 HV7.out.bel))
  obtain ⟨A7, C7, E7, V7⟩ := vs_row HV7.out.own (by rw [List.length_append]; omega) RXY.out.ok
  subst E7
  have HV7s := hidj V7
  clear V7
  refine (key_any A7 (x ++ y).length C7 (x ++ y) _ HV7s.out (by have := RXY.out.bytes; omega)).mono ?_
  rintro e w8 ⟨hk8, hb8⟩
  unfold KeyR at hk8
  rw [RXY.out.noErr, if_pos rfl] at hk8
  obtain ⟨vb, rfl, hp8⟩ := hk8
  have HJ8 := J3x.next HJ7 hb8
  have HP8 := hidj (And.intro (ownsRow_later HP7.out.1 hb8) (And.intro (ownsRow_later HP7.out.2 hb8) hp8))
  clear hb8 hp8
  go_wp2_with fail
  refine (told_any _).mono ?_
  rintro e w9 ⟨rfl, hb9⟩
  have HJ9 := J3x.next HJ8 hb9
  have bx := RX.out.bytes
  have byy := RY.out.bytes
  have bxy := RXY.out.bytes
  have t1 := text_own (ownsRow_later HP8.out.1 hb9) (by omega) (keyBytes_lt x)
  have t2 := text_own (ownsRow_later HP8.out.2.1 hb9) (by omega) (keyBytes_lt y)
  have t3 := text_own (ownsRow_later HP8.out.2.2 hb9) (by omega) (keyBytes_lt (x ++ y))
  have hadd : ∀ ww, (Op.stringOp .add (str (keyBytes x)) (str (keyBytes y))).run Tryd.prog ww = .ok (.string (str (keyBytes (x ++ y)))) ww := fun ww => by
    rw [run_string_add_sum ww _ _ (by rw [str_sz, str_sz]; omega), str_add, keyBytes_append]
  clear hb9 bx byy bxy
  generalize str (keyBytes x) = sx at t1 hadd
  generalize str (keyBytes y) = sy at t2 hadd
  generalize str (keyBytes (x ++ y)) = sb at t3 hadd
  go_wp2_with fail
  refine (compare_any A1 A2 x.length C1 y.length C2 x y _ (VX.out _ HJ9.out).1 (VX.out _ HJ9.out).2.1 RX.out.err RY.out.err HJ9.out.tab).mono ?_
  rintro e w10 ⟨rfl, hb10⟩
  have HJ10 := J3x.next HJ9 hb10
  clear hb10 t1 t2 t3 hadd
  go_wp2_with fail
  refine (compare_any A2 A3 y.length C2 z.length C3 y z _ (VX.out _ HJ10.out).2.1 (VX.out _ HJ10.out).2.2 RY.out.err RZ.out.err HJ10.out.tab).mono ?_
  rintro e w11 ⟨rfl, hb11⟩
  have HJ11 := J3x.next HJ10 hb11
  clear hb11
  go_wp2_with fail
  refine (compare_any A1 A3 x.length C1 z.length C3 x z _ (VX.out _ HJ11.out).1 (VX.out _ HJ11.out).2.2 RX.out.err RZ.out.err HJ11.out.tab).mono ?_
  rintro e w12 ⟨rfl, hb12⟩
  have HJ12 := J3x.next HJ11 hb12
  clear hb12
  have c1 : cmpVs x y ≤ 0 → cmpVs y z ≤ 0 → cmpVs x z ≤ 0 := cmp_tr
  have c2 : cmpVs x y < 0 → cmpVs y z ≤ 0 → cmpVs x z < 0 := cmp_st
  have HC3 := hidj (cmp_pre x y)
  generalize cmpVs x y = u at c1 c2 ⊢
  generalize cmpVs y z = v at c1 c2 ⊢
  generalize cmpVs x z = q at c1 c2 ⊢
  by_cases d1 : u ≤ 0
  · by_cases d2 : v ≤ 0
    · have d3 : q ≤ 0 := c1 d1 d2
      by_cases d4 : u < 0
      · have d5 : q < 0 := c2 d4 d2
        clear c1 c2
        go_wp2_with fail
        refine (few_law _ _ x _ HJ12.out.r1 RX.out.len).mono ?_
        rintro e w13 ⟨v13, rfl, hv13⟩
        have HV13 := hidj hv13
        clear hv13
        have HJ13 := J3x.next HJ12 HV13.out.bel
        go_wp2_with (at_builtin; refine wpList_append_vv rfl (.tmp 99) (.tmp 100) rfl w12 _ _ x y _ rfl rfl HV13.out HJ13.out.r2 (by omega) ?_; intro v14 w14 hV14; have HV14 := hV14.hid; clear hV14)
        have HJ14 := J3x.next HJ12 HV14.out.bel
        obtain ⟨A8, C8, E8, V8⟩ := vs_row HV14.out.own (by rw [List.length_append]; omega) RXY.out.ok
        subst E8
        have HV8s := hidj V8
        clear V8
        refine (compare_any A8 A1 (x ++ y).length C8 x.length C1 (x ++ y) x _ HV8s.out (VX.out _ HJ14.out).1 RXY.out.err RX.out.err HJ14.out.tab).mono ?_
        rintro e w15 ⟨rfl, hb15⟩
        have HJ15 := J3x.next HJ14 hb15
        clear hb15
        have hpre := HC3.out
        generalize cmpVs (x ++ y) x = t at hpre ⊢
        go_wp2
        go_ret
        exact ⟨rfl, HJ15.out.bel⟩
      · clear c1 c2
        go_wp2_with fail
        refine (few_law _ _ x _ HJ12.out.r1 RX.out.len).mono ?_
        rintro e w13 ⟨v13, rfl, hv13⟩
        have HV13 := hidj hv13
        clear hv13
        have HJ13 := J3x.next HJ12 HV13.out.bel
        go_wp2_with (at_builtin; refine wpList_append_vv rfl (.tmp 99) (.tmp 100) rfl w12 _ _ x y _ rfl rfl HV13.out HJ13.out.r2 (by omega) ?_; intro v14 w14 hV14; have HV14 := hV14.hid; clear hV14)
        have HJ14 := J3x.next HJ12 HV14.out.bel
        obtain ⟨A8, C8, E8, V8⟩ := vs_row HV14.out.own (by rw [List.length_append]; omega) RXY.out.ok
        subst E8
        have HV8s := hidj V8
        clear V8
        refine (compare_any A8 A1 (x ++ y).length C8 x.length C1 (x ++ y) x _ HV8s.out (VX.out _ HJ14.out).1 RXY.out.err RX.out.err HJ14.out.tab).mono ?_
        rintro e w15 ⟨rfl, hb15⟩
        have HJ15 := J3x.next HJ14 hb15
        clear hb15
        have hpre := HC3.out
        generalize cmpVs (x ++ y) x = t at hpre ⊢
        go_wp2
        go_ret
        exact ⟨rfl, HJ15.out.bel⟩
    · clear c1 c2
      have d8 : decide (v ≤ 0) = false := decide_eq_false d2
      by_cases d4 : u < 0
      · go_wp2_with fail
        refine (few_law _ _ x _ HJ12.out.r1 RX.out.len).mono ?_
        rintro e w13 ⟨v13, rfl, hv13⟩
        have HV13 := hidj hv13
        clear hv13
        have HJ13 := J3x.next HJ12 HV13.out.bel
        go_wp2_with (at_builtin; refine wpList_append_vv rfl (.tmp 99) (.tmp 100) rfl w12 _ _ x y _ rfl rfl HV13.out HJ13.out.r2 (by omega) ?_; intro v14 w14 hV14; have HV14 := hV14.hid; clear hV14)
        have HJ14 := J3x.next HJ12 HV14.out.bel
        obtain ⟨A8, C8, E8, V8⟩ := vs_row HV14.out.own (by rw [List.length_append]; omega) RXY.out.ok
        subst E8
        have HV8s := hidj V8
        clear V8
        refine (compare_any A8 A1 (x ++ y).length C8 x.length C1 (x ++ y) x _ HV8s.out (VX.out _ HJ14.out).1 RXY.out.err RX.out.err HJ14.out.tab).mono ?_
        rintro e w15 ⟨rfl, hb15⟩
        have HJ15 := J3x.next HJ14 hb15
        clear hb15
        have hpre := HC3.out
        generalize cmpVs (x ++ y) x = t at hpre ⊢
        go_wp2
        go_ret
        exact ⟨rfl, HJ15.out.bel⟩
      · go_wp2_with fail
        refine (few_law _ _ x _ HJ12.out.r1 RX.out.len).mono ?_
        rintro e w13 ⟨v13, rfl, hv13⟩
        have HV13 := hidj hv13
        clear hv13
        have HJ13 := J3x.next HJ12 HV13.out.bel
        go_wp2_with (at_builtin; refine wpList_append_vv rfl (.tmp 99) (.tmp 100) rfl w12 _ _ x y _ rfl rfl HV13.out HJ13.out.r2 (by omega) ?_; intro v14 w14 hV14; have HV14 := hV14.hid; clear hV14)
        have HJ14 := J3x.next HJ12 HV14.out.bel
        obtain ⟨A8, C8, E8, V8⟩ := vs_row HV14.out.own (by rw [List.length_append]; omega) RXY.out.ok
        subst E8
        have HV8s := hidj V8
        clear V8
        refine (compare_any A8 A1 (x ++ y).length C8 x.length C1 (x ++ y) x _ HV8s.out (VX.out _ HJ14.out).1 RXY.out.err RX.out.err HJ14.out.tab).mono ?_
        rintro e w15 ⟨rfl, hb15⟩
        have HJ15 := J3x.next HJ14 hb15
        clear hb15
        have hpre := HC3.out
        generalize cmpVs (x ++ y) x = t at hpre ⊢
        go_wp2
        go_ret
        exact ⟨rfl, HJ15.out.bel⟩
  · have d6 : decide (u < 0) = false := decide_eq_false (by omega)
    have d7 : decide (u ≤ 0) = false := decide_eq_false d1
    clear c1 c2
    go_wp2_with fail
    refine (few_law _ _ x _ HJ12.out.r1 RX.out.len).mono ?_
    rintro e w13 ⟨v13, rfl, hv13⟩
    have HV13 := hidj hv13
    clear hv13
    have HJ13 := J3x.next HJ12 HV13.out.bel
    go_wp2_with (at_builtin; refine wpList_append_vv rfl (.tmp 99) (.tmp 100) rfl w12 _ _ x y _ rfl rfl HV13.out HJ13.out.r2 (by omega) ?_; intro v14 w14 hV14; have HV14 := hV14.hid; clear hV14)
    have HJ14 := J3x.next HJ12 HV14.out.bel
    obtain ⟨A8, C8, E8, V8⟩ := vs_row HV14.out.own (by rw [List.length_append]; omega) RXY.out.ok
    subst E8
    have HV8s := hidj V8
    clear V8
    refine (compare_any A8 A1 (x ++ y).length C8 x.length C1 (x ++ y) x _ HV8s.out (VX.out _ HJ14.out).1 RXY.out.err RX.out.err HJ14.out.tab).mono ?_
    rintro e w15 ⟨rfl, hb15⟩
    have HJ15 := J3x.next HJ14 hb15
    clear hb15
    have hpre := HC3.out
    generalize cmpVs (x ++ y) x = t at hpre ⊢
    go_wp2
    go_ret
    exact ⟨rfl, HJ15.out.bel⟩
end Go.Proofs.YtnmejnkdgeljeaaDoor
