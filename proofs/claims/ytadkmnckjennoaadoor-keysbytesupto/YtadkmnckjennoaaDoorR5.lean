/- Contract of keys.Read: the walk. -/
import Derived.Test.YtadkmnckjennoaaDoorR4
set_option linter.unusedVariables false
namespace Go.Proofs.YtadkmnckjennoaaDoor
open Go.RowKit

theorem bs_some_drop {w : World} {b o len cap : Nat} {xs : List Nat} (h : BS w (some ⟨b, o, none⟩) len cap xs) (p : Nat) (hp : p ≤ len) : BS w (some ⟨b, o + p, none⟩) (len - p) (cap - p) (xs.drop p) := by
  rcases Nat.eq_zero_or_pos len with h0 | h0
  · have e : p = 0 := by omega
    subst e
    simpa using h
  · obtain ⟨b', o', e, _, hc⟩ := h.place h0
    cases e
    exact bs_drop h p hp hc
theorem map_cons_append {α : Type} (o : Option (List α)) (p : List α) (x : α) : (o.map (x :: ·)).map (p ++ ·) = o.map ((p ++ [x]) ++ ·) := by
  cases o <;> simp

set_option maxRecDepth 100000 in
set_option maxHeartbeats 2000000 in
theorem read_any (a : Option Addr) (len cap : Nat) (xs : List Nat) (w : World) (h : BS w a len cap xs) (hl : len ≤ 33554432) :
    Calls Tryd.prog 17 #[.slice a len cap] w fun e w' => RdR (rd xs) w.heap.size e w' ∧ Below w.heap.size w w' := by
  have HX := hidr h
  clear h
  go_enter Tryd.func17, Tryd.ntmps17
  go_wp2
  go_loopw [0, 4] (fun s v wr => ∃ (a' : Option Addr) (l' c' : Nat) (ys : List Nat) (pre : List Val), s = .slice a' l' c' ∧ l' ≤ len ∧ pre.length + l' ≤ len ∧ BS w a' l' c' ys ∧ VW w wr v pre ∧ rd xs = (rd ys).map (pre ++ ·)) (fun s _ _ => match s with | .slice _ l _ => l | _ => 0)
  case atStart =>
    refine ⟨a, len, cap, xs, [], rfl, by omega, by simp, HX.out, ⟨World.ownsRow_nil _ _ _ _, Below.refl _ _⟩, ?_⟩
    cases rd xs <;> simp
  case round =>
    obtain ⟨a', l', c', ys, pre, rfl, hl1, hl2, hB, hV, hR⟩ := hrel
    have HB := hidr hB
    have HV := hV.hid
    have HR := hidr hR
    have hcap := hB.hcap
    have hmax := hB.hmax
    clear hB hV hR
    by_cases h0 : 0 < l'
    · obtain ⟨b, o, rfl, hbl, _⟩ := HB.out.place h0
      have h0' : (0 : Int) < (l' : Int) := by omega
      have hne : ys ≠ [] := by
        intro e
        have := HB.out.hlen
        rw [e] at this
        simp at this
        omega
      have HBr := hidr (HB.out.later HV.out.bel (Nat.le_refl _))
      cases hq : rh ys with
      | none =>
        have HQ := hidr (rd_none hne hq)
        have cR := fun ww (hh : BS ww (some ⟨b, o, none⟩) l' c' ys) => readHeld_any b o l' c' ys ww hh h0 (by omega)
        rw [hq] at cR
        unfold RHR at cR
        simp only at cR
        go_wp2_with (go_at_call 29; refine (cR _ HBr.out).mono ?_; rintro e w1 ⟨⟨hh, kk, rfl⟩, hb1⟩; have HB1 := hidr (HV.out.bel.trans (hb1.mono HV.out.bel.size)); clear hb1)
        go_ret2
        rw [HR.out, HQ.out]
        exact ⟨rfl, HB1.out⟩
      | some q =>
        obtain ⟨hh, k⟩ := q
        have HQ := hidr (rd_some hne hq)
        have hks := rh_size hne hq
        rw [HB.out.hlen] at hks
        obtain ⟨hk1, hk2⟩ := hks
        have cR := fun ww (hh : BS ww (some ⟨b, o, none⟩) l' c' ys) => readHeld_any b o l' c' ys ww hh h0 (by omega)
        rw [hq] at cR
        unfold RHR at cR
        simp only at cR
        have cL := release_any hh
        rw [out_ov] at cL
        unfold av at cL
        have k0 : (0 : Int) ≤ (k : Int) := by omega
        have k1 : (k : Int) ≤ (l' : Int) := by omega
        by_cases hkc : k < c'
        · have hkc' : (k : Int) < (c' : Int) := by omega
          go_wp2_with (first
            | (go_at_call 29; refine (cR _ HBr.out).mono ?_; rintro e w1 ⟨rfl, hb1⟩; have HV1 := (HV.out.later hb1).hid; clear hb1)
            | (go_at_call 30; refine (cL _).mono ?_; rintro e w2 ⟨rfl, hb2⟩; have HV2 := (HV1.out.later hb2).hid; clear hb2)
            | (at_builtin; refine wpList_append_v rfl (.tmp 19) (.tmp 22) rfl w _ pre rfl hh.ov.1 hh.ov.2.1 hh.ov.2.2 HV2.out rfl (by omega) ?_; intro v3 w3 hV3; have HV3 := hV3.hid; clear hV3))
          go_roundw
          case rel =>
            refine ⟨_, _, _, ys.drop k, pre ++ [hh.ov], rfl, by omega, by simp; omega, bs_some_drop HB.out k hk2, HV3.out, ?_⟩
            rw [HR.out, HQ.out]
            exact map_cons_append _ _ _
          case measure => simp; omega
        · have e1 : l' = c' := by omega
          have e2 : k = c' := by omega
          have HD : Hid (ys.drop k = []) := List.drop_eq_nil_of_le (by rw [HB.out.hlen]; omega)
          subst e1 e2
          go_wp2_with (first
            | (go_at_call 29; refine (cR _ HBr.out).mono ?_; rintro e w1 ⟨rfl, hb1⟩; have HV1 := (HV.out.later hb1).hid; clear hb1)
            | (go_at_call 30; refine (cL _).mono ?_; rintro e w2 ⟨rfl, hb2⟩; have HV2 := (HV1.out.later hb2).hid; clear hb2)
            | (at_builtin; refine wpList_append_v rfl (.tmp 19) (.tmp 22) rfl w _ pre rfl hh.ov.1 hh.ov.2.1 hh.ov.2.2 HV2.out rfl (by omega) ?_; intro v3 w3 hV3; have HV3 := hV3.hid; clear hV3))
          go_roundw
          case rel =>
            refine ⟨_, _, _, [], pre ++ [hh.ov], rfl, by omega, by simp; omega, BS.none w _ 0 (by omega) (fun h => by cases h), HV3.out, ?_⟩
            rw [HR.out, HQ.out, HD.out]
            exact map_cons_append _ _ _
          case measure => simp; omega
    · go_wp2
      go_ret2
      have e : ys = [] := List.eq_nil_of_length_eq_zero (by rw [HB.out.hlen]; omega)
      rw [HR.out, e, rd_nil]
      refine ⟨?_, HV.out.bel⟩
      simp only [Option.map_some, List.append_nil, RdR]
      exact ⟨_, rfl, HV.out.own⟩
end Go.Proofs.YtadkmnckjennoaaDoor
