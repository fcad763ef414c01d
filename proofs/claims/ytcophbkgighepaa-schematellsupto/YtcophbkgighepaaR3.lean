/- Contract of keys.readHeld: the first value of some bytes. -/
import Derived.Test.YtcophbkgighepaaR2
import Derived.Test.YtcophbkgighepaaD2
set_option linter.unusedVariables false
namespace Go.Proofs.Ytcophbkgighepaa
open Go.RowKit

/-- The first value and how many bytes it has. -/
def rh (xs : List Nat) : Option (H × Nat) :=
  if xs.getD 0 0 = 1 then some (.nothing, 1)
  else if xs.getD 0 0 = 2 then (if 8 ≤ (xs.drop 1).length then some (.number ((valHi ((xs.drop 1).take 8) : Int) - 9223372036854775808), 9) else none)
  else if xs.getD 0 0 = 4 then (if 1 ≤ (xs.drop 1).length ∧ valHi ((xs.drop 1).take 1) ≤ 1 then some (.truth (decide (valHi ((xs.drop 1).take 1) = 1)), 2) else none)
  else if xs.getD 0 0 = 3 then (rt (xs.drop 1)).map (fun p => (.text ⟨(encs p.1).toArray⟩, p.2 + 1))
  else none
/-- What readHeld tells. -/
def RHR (o : Option (H × Nat)) (e : Ending) : Prop := match o with
  | none => ∃ h k, e = .returned (.tuple #[h, k, .bool false])
  | some (h, k) => e = .returned (.tuple #[h.val, .int .i64 (k : Nat), .bool true])

theorem xor_back (n : Nat) (h : n < 18446744073709551616) : IntKind.i64.wrap (bits .xor .u64 (n : Int) 9223372036854775808) = (n : Int) - 9223372036854775808 := by
  have key : bits .xor .u64 (n : Int) 9223372036854775808 = ((n ^^^ 2 ^ 63 : Nat) : Int) := by
    have := u64_xor_nat n (2 ^ 63) (by omega) (by decide)
    simpa using this
  rw [key, IntKind.wrap_i64]
  by_cases h1 : n < 2 ^ 63
  · rw [nat_top n h1]; omega
  · obtain ⟨m, rfl⟩ : ∃ m, n = m + 2 ^ 63 := ⟨n - 2 ^ 63, by omega⟩
    rw [← nat_top m (by omega), Nat.xor_assoc, Nat.xor_self, Nat.xor_zero, nat_top m (by omega)]
    omega
theorem rt_le : ∀ (xs : List Nat) (rs : List Nat) (k : Nat), rt xs = some (rs, k) → k ≤ xs.length := by
  intro xs
  generalize hn : xs.length = n
  induction n using Nat.strongRecOn generalizing xs with
  | _ n ih =>
    intro rs k h
    rw [rt_eq] at h
    split at h
    · cases h
    · rename_i hl
      split at h
      · cases h; omega
      · split at h
        · cases hr : rt (xs.drop 3) with
          | none => rw [hr] at h; cases h
          | some q =>
            rw [hr] at h
            simp only [Option.map_some, Option.some.injEq, Prod.mk.injEq] at h
            have := ih (n - 3) (by omega) (xs.drop 3) (by rw [List.length_drop]; omega) q.1 q.2 hr
            omega
        · cases h
theorem kb (k : Nat) (hk : k < 255) (w : World) : Calls Try.prog 81 #[.int .i64 k] w fun e w' => e = .returned (.int .u8 (k + 1 : Nat)) ∧ w' = w := kindByte_any k w hk

set_option maxRecDepth 100000 in
set_option maxHeartbeats 2000000 in
theorem readHeld_any (b o len cap : Nat) (xs : List Nat) (w : World) (h : BS w (some ⟨b, o, none⟩) len cap xs) (h0 : 0 < len) (hl : len ≤ 33554432) :
    Calls Try.prog 70 #[.slice (some ⟨b, o, none⟩) len cap] w fun e w' => RHR (rh xs) e ∧ Below w.heap.size w w' := by
  have hcap := h.hcap
  have hmax := h.hmax
  obtain ⟨b', o', hbo, hbl, hc⟩ := h.place h0
  cases hbo
  have hc0 := hc 0 h0
  rw [Nat.add_zero] at hc0
  obtain ⟨x, Hx⟩ : ∃ x, Hid (xs.getD 0 0 = x) := ⟨_, rfl⟩
  have hxb : x < 256 := by rw [← Hx.out]; exact byteAt h.hbyte 0
  rw [Hx.out] at hc0
  have hbz : (x : Int) < 256 := by omega
  have hD := bs_drop h 1 h0 hc
  have HD := hidr hD
  have hlen := h.hlen
  have HL := hidr hlen
  have HBY := hidr h.hbyte
  have p1 : (1 : Int) ≤ (len : Int) := by omega
  clear h hc hD hlen
  by_cases c1 : x = 1
  · subst c1
    have e : rh xs = some (.nothing, 1) := by unfold rh; rw [Hx.out, if_pos rfl]
    rw [e]
    unfold RHR
    go_enter Try.func70, Try.ntmps70
    go_wp2
    all_goals go_ret3
    all_goals exact ⟨rfl, Below.refl _ _⟩
  · by_cases c2 : x = 2
    · subst c2
      by_cases hcp : 1 < cap
      · have hcp' : (1 : Int) < (cap : Int) := by omega
        have cH := fun ww (hh : BS ww (some ⟨b, o + 1, none⟩) (len - 1) (cap - 1) (xs.drop 1)) => readHigh_any (some ⟨b, o + 1, none⟩) (len - 1) (cap - 1) (xs.drop 1) 8 ww hh (by omega) (by omega)
        have hld : (xs.drop 1).length = len - 1 := by rw [List.length_drop, HL.out]
        by_cases h8 : 8 ≤ len - 1
        · obtain ⟨n, Hn⟩ : ∃ n, Hid (valHi ((xs.drop 1).take 8) = n) := ⟨_, rfl⟩
          have e1 : hiN (xs.drop 1) 8 = n := by rw [← Hn.out]; exact if_neg (by rw [hld]; omega)
          have e2 : hiOk (xs.drop 1) 8 = true := by unfold hiOk; rw [hld]; simp; omega
          rw [e1, e2] at cH
          have hn : n < 18446744073709551616 := by
            rw [← Hn.out]
            have h1 := valHi_lt ((xs.drop 1).take 8) fun m hm => HBY.out m (List.mem_of_mem_drop (List.mem_of_mem_take hm))
            have h2 : ((xs.drop 1).take 8).length ≤ 8 := by rw [List.length_take]; omega
            exact Nat.lt_of_lt_of_le h1 (Nat.le_trans (Nat.pow_le_pow_right (by decide) h2) (by decide))
          have hx2 := xor_back n hn
          have e : rh xs = some (.number ((n : Int) - 9223372036854775808), 9) := by unfold rh; rw [Hx.out, if_neg (by omega), if_pos rfl, if_pos (by rw [hld]; exact h8), Hn.out]
          have HE := hidr e
          clear e e1 e2 hn hld
          go_enter Try.func70, Try.ntmps70
          go_wp2_with (first | (go_at_call 85; refine (cH _ HD.out).mono ?_; rintro e w1 ⟨rfl, hw1⟩; have hw1 := hw1.symm; subst hw1) | go_in)
          go_ret3
          rw [HE.out]
          exact ⟨rfl, Below.refl _ _⟩
        · have e1 : hiN (xs.drop 1) 8 = 0 := if_pos (by rw [hld]; omega)
          have e2 : hiOk (xs.drop 1) 8 = false := by unfold hiOk; rw [hld]; simp; omega
          rw [e1, e2] at cH
          have e : rh xs = none := by unfold rh; rw [Hx.out, if_neg (by omega), if_pos rfl, if_neg (by rw [hld]; exact h8)]
          have HE := hidr e
          clear e e1 e2 hld
          go_enter Try.func70, Try.ntmps70
          go_wp2_with (first | (go_at_call 85; refine (cH _ HD.out).mono ?_; rintro e w1 ⟨rfl, hw1⟩; have hw1 := hw1.symm; subst hw1) | go_in)
          go_ret3
          rw [HE.out]
          exact ⟨⟨_, _, rfl⟩, Below.refl _ _⟩
      · have e3 : cap = 1 := by omega
        have e4 : len = 1 := by omega
        subst e3 e4
        have hld : (xs.drop 1).length = 0 := by rw [List.length_drop, HL.out]
        have cN := fun ww => readHigh_any (some ⟨b, o, none⟩) 0 0 [] 8 ww (BS.none ww (some ⟨b, o, none⟩) 0 (by omega) (fun h => by cases h)) (by omega) (by omega)
        have e5 : hiN [] 8 = 0 := by decide
        have e6 : hiOk [] 8 = false := by decide
        rw [e5, e6] at cN
        have e : rh xs = none := by unfold rh; rw [Hx.out, if_neg (by omega), if_pos rfl, if_neg (by rw [hld]; omega)]
        have HE := hidr e
        clear e e5 e6 hld
        go_enter Try.func70, Try.ntmps70
        go_wp2_with (first | (go_at_call 85; refine (cN _).mono ?_; rintro e w1 ⟨rfl, hw1⟩; have hw1 := hw1.symm; subst hw1) | go_in)
        go_ret3
        rw [HE.out]
        exact ⟨⟨_, _, rfl⟩, Below.refl _ _⟩
    · by_cases c4 : x = 4
      · subst c4
        by_cases hcp : 1 < cap
        · have hcp' : (1 : Int) < (cap : Int) := by omega
          have cH := fun ww (hh : BS ww (some ⟨b, o + 1, none⟩) (len - 1) (cap - 1) (xs.drop 1)) => readHigh_any (some ⟨b, o + 1, none⟩) (len - 1) (cap - 1) (xs.drop 1) 1 ww hh (by omega) (by omega)
          have hld : (xs.drop 1).length = len - 1 := by rw [List.length_drop, HL.out]
          by_cases h8 : 1 ≤ len - 1
          · obtain ⟨n, Hn⟩ : ∃ n, Hid (valHi ((xs.drop 1).take 1) = n) := ⟨_, rfl⟩
            have e1 : hiN (xs.drop 1) 1 = n := by rw [← Hn.out]; exact if_neg (by rw [hld]; omega)
            have e2 : hiOk (xs.drop 1) 1 = true := by unfold hiOk; rw [hld]; simp; omega
            rw [e1, e2] at cH
            have hn : n < 256 := by
              rw [← Hn.out]
              have h1 := valHi_lt ((xs.drop 1).take 1) fun m hm => HBY.out m (List.mem_of_mem_drop (List.mem_of_mem_take hm))
              have h2 : ((xs.drop 1).take 1).length ≤ 1 := by rw [List.length_take]; omega
              exact Nat.lt_of_lt_of_le h1 (Nat.le_trans (Nat.pow_le_pow_right (by decide) h2) (by decide))
            by_cases n0 : n = 0
            · subst n0
              have e : rh xs = some (.truth false, 2) := by unfold rh; rw [Hx.out, if_neg (by omega), if_neg (by omega), if_pos rfl, if_pos (by rw [hld, Hn.out]; omega), Hn.out]; rfl
              have HE := hidr e
              clear e e1 e2 hn hld
              go_enter Try.func70, Try.ntmps70
              go_wp2_with (first | (go_at_call 85; refine (cH _ HD.out).mono ?_; rintro e w1 ⟨rfl, hw1⟩; have hw1 := hw1.symm; subst hw1) | go_in)
              go_ret3
              rw [HE.out]
              exact ⟨rfl, Below.refl _ _⟩
            · by_cases n1 : n = 1
              · subst n1
                have e : rh xs = some (.truth true, 2) := by unfold rh; rw [Hx.out, if_neg (by omega), if_neg (by omega), if_pos rfl, if_pos (by rw [hld, Hn.out]; omega), Hn.out]; rfl
                have HE := hidr e
                clear e e1 e2 hn hld
                go_enter Try.func70, Try.ntmps70
                go_wp2_with (first | (go_at_call 85; refine (cH _ HD.out).mono ?_; rintro e w1 ⟨rfl, hw1⟩; have hw1 := hw1.symm; subst hw1) | go_in)
                go_ret3
                rw [HE.out]
                exact ⟨rfl, Below.refl _ _⟩
              · have e : rh xs = none := by unfold rh; rw [Hx.out, if_neg (by omega), if_neg (by omega), if_pos rfl, if_neg (by rw [hld, Hn.out]; omega)]
                have HE := hidr e
                have hn9 : decide ((n : Int) ≤ 1) = false := decide_eq_false (by omega)
                have hn8 : (n : Int) < 256 := by omega
                clear e e1 e2 hn hld n0 n1
                go_enter Try.func70, Try.ntmps70
                go_wp2_with (first | (go_at_call 85; refine (cH _ HD.out).mono ?_; rintro e w1 ⟨rfl, hw1⟩; have hw1 := hw1.symm; subst hw1) | go_in)
                go_ret3
                rw [HE.out]
                exact ⟨⟨_, _, rfl⟩, Below.refl _ _⟩
          · have e1 : hiN (xs.drop 1) 1 = 0 := if_pos (by rw [hld]; omega)
            have e2 : hiOk (xs.drop 1) 1 = false := by unfold hiOk; rw [hld]; simp; omega
            rw [e1, e2] at cH
            have e : rh xs = none := by unfold rh; rw [Hx.out, if_neg (by omega), if_neg (by omega), if_pos rfl, if_neg (by rw [hld]; omega)]
            have HE := hidr e
            clear e e1 e2 hld
            go_enter Try.func70, Try.ntmps70
            go_wp2_with (first | (go_at_call 85; refine (cH _ HD.out).mono ?_; rintro e w1 ⟨rfl, hw1⟩; have hw1 := hw1.symm; subst hw1) | go_in)
            go_ret3
            rw [HE.out]
            exact ⟨⟨_, _, rfl⟩, Below.refl _ _⟩
        · have e3 : cap = 1 := by omega
          have e4 : len = 1 := by omega
          subst e3 e4
          have hld : (xs.drop 1).length = 0 := by rw [List.length_drop, HL.out]
          have cN := fun ww => readHigh_any (some ⟨b, o, none⟩) 0 0 [] 1 ww (BS.none ww (some ⟨b, o, none⟩) 0 (by omega) (fun h => by cases h)) (by omega) (by omega)
          have e5 : hiN [] 1 = 0 := by decide
          have e6 : hiOk [] 1 = false := by decide
          rw [e5, e6] at cN
          have e : rh xs = none := by unfold rh; rw [Hx.out, if_neg (by omega), if_neg (by omega), if_pos rfl, if_neg (by rw [hld]; omega)]
          have HE := hidr e
          clear e e5 e6 hld
          go_enter Try.func70, Try.ntmps70
          go_wp2_with (first | (go_at_call 85; refine (cN _).mono ?_; rintro e w1 ⟨rfl, hw1⟩; have hw1 := hw1.symm; subst hw1) | go_in)
          go_ret3
          rw [HE.out]
          exact ⟨⟨_, _, rfl⟩, Below.refl _ _⟩
      · by_cases c3 : x = 3
        · subst c3
          have e : rh xs = (rt (xs.drop 1)).map (fun p => (.text ⟨(encs p.1).toArray⟩, p.2 + 1)) := by unfold rh; rw [Hx.out, if_neg (by omega), if_neg (by omega), if_neg (by omega), if_pos rfl]
          by_cases hcp : 1 < cap
          · have hcp' : (1 : Int) < (cap : Int) := by omega
            have cH := fun ww (hh : BS ww (some ⟨b, o + 1, none⟩) (len - 1) (cap - 1) (xs.drop 1)) => readText_any (some ⟨b, o + 1, none⟩) (len - 1) (cap - 1) (xs.drop 1) ww hh (by omega)
            have hrl := rt_le (xs.drop 1)
            have hld : (xs.drop 1).length = len - 1 := by rw [List.length_drop, HL.out]
            rw [hld] at hrl
            cases hR : rt (xs.drop 1) with
            | none =>
              rw [hR] at cH e
              have HE := hidr e
              clear e hld
              unfold RTR at cH
              go_enter Try.func70, Try.ntmps70
              go_wp2_with (first | (go_at_call 86; refine (cH _ HD.out).mono ?_; rintro e w1 ⟨rfl, hb1⟩; have HB1 := hidr hb1; clear hb1) | go_in)
              go_ret3
              rw [HE.out]
              exact ⟨⟨_, _, rfl⟩, HB1.out⟩
            | some q =>
              obtain ⟨rs, k⟩ := q
              rw [hR] at cH e hrl
              have hk := hrl rs k rfl
              have HE := hidr e
              clear e hrl hld
              unfold RTR at cH
              simp only at cH
              go_enter Try.func70, Try.ntmps70
              go_wp2_with (first | (go_at_call 86; refine (cH _ HD.out).mono ?_; rintro e w1 ⟨rfl, hb1⟩; have HB1 := hidr hb1; clear hb1) | go_in)
              go_ret3
              rw [HE.out]
              refine ⟨?_, HB1.out⟩
              show _ = _
              simp [H.val]
              omega
          · have e3 : cap = 1 := by omega
            have e4 : len = 1 := by omega
            subst e3 e4
            have hd : xs.drop 1 = [] := List.eq_nil_of_length_eq_zero (by rw [List.length_drop, HL.out])
            have cN := fun ww => readText_none (some ⟨b, o, none⟩) 0 ww (by omega) (fun h => by cases h)
            have e7 : rt [] = none := by decide
            rw [e7] at cN
            rw [hd, e7] at e
            have HE := hidr e
            clear e hd e7
            unfold RTR at cN
            go_enter Try.func70, Try.ntmps70
            go_wp2_with (first | (go_at_call 86; refine (cN _).mono ?_; rintro e w1 ⟨rfl, hb1⟩; have HB1 := hidr hb1; clear hb1) | go_in)
            go_ret3
            rw [HE.out]
            exact ⟨⟨_, _, rfl⟩, HB1.out⟩
        · have e : rh xs = none := by unfold rh; rw [Hx.out, if_neg c1, if_neg c2, if_neg c4, if_neg c3]
          have g1 : ((x : Int) == 1) = false := by simp; omega
          have g2 : ((x : Int) == 2) = false := by simp; omega
          have g3 : ((x : Int) == 3) = false := by simp; omega
          have g4 : ((x : Int) == 4) = false := by simp; omega
          have HE := hidr e
          clear e c1 c2 c3 c4
          go_enter Try.func70, Try.ntmps70
          go_wp2
          all_goals go_ret3
          all_goals rw [HE.out]
          all_goals exact ⟨⟨_, _, rfl⟩, Below.refl _ _⟩
end Go.Proofs.Ytcophbkgighepaa
