/- The walk of the law KeysTexts: whatever two texts of the bulk, it returns true and writes nothing that was there. -/
import Derived.Test.YtnmejnkdgeljeabDoorF2
import Derived.Test.YtnmejnkdgeljeabDoorB1
import Derived.Test.YtnmejnkdgeljeabDoorX2
set_option linter.unusedVariables false
namespace Go.Proofs.YtnmejnkdgeljeabDoor
open Go.RowKit

theorem bl_append (s t : ByteArray) : bl (s ++ t) = bl s ++ bl t := by unfold bl; rw [ByteArray.data_append]; simp
theorem size_append (s t : ByteArray) : (s ++ t).size = s.size + t.size := by rw [← bl_len, bl_append, List.length_append, bl_len, bl_len]
theorem fold_empty {s : ByteArray} (h : runes (bl s) = none) : foldS s = ⟨#[]⟩ := by rw [foldS, h]
theorem fold_append {s t : ByteArray} {ra rb : List Nat} (hA : runes (bl s) = some ra) (hB : runes (bl t) = some rb) : foldS (s ++ t) = foldS s ++ foldS t := by
  have h : runes (bl (s ++ t)) = some (ra ++ rb) := by rw [bl_append, runes_append hA, hB]; rfl
  have e1 : foldS (s ++ t) = ⟨(encs ((ra ++ rb).map foldR)).toArray⟩ := by rw [foldS, h]
  have e2 : foldS s = ⟨(encs (ra.map foldR)).toArray⟩ := by rw [foldS, hA]
  have e3 : foldS t = ⟨(encs (rb.map foldR)).toArray⟩ := by rw [foldS, hB]
  rw [e1, e2, e3]
  apply ByteArray.ext
  rw [ByteArray.data_append, List.map_append, encs_append]
  simp
theorem cmpL_pre (ra rb : List Nat) : cmpL ra (ra ++ rb) = if rb.isEmpty then 0 else -1 := by
  induction ra with
  | nil => cases rb <;> rfl
  | cons r ra ih => simpa [cmpL] using ih
theorem run_add (s t : ByteArray) (h : s.size + t.size ≤ 1048576) (w : World) : (Op.stringOp .add s t).run Tryd.prog w = .ok (.string (s ++ t)) w := run_string_add_sum w s t (by omega)

theorem enc_fold_len (r : Nat) : (enc (foldR r)).length = (enc r).length := by
  by_cases g : great r
  · have e : foldR r = r + 32 := if_pos g
    rw [e]
    unfold great at g
    by_cases h : r ≤ 90
    · rw [enc1 (r := r) (by omega), enc1 (r := r + 32) (by omega)]; rfl
    · rw [enc2 (r := r) (by omega) (by omega), enc2 (r := r + 32) (by omega) (by omega)]; rfl
  · have e : foldR r = r := if_neg g
    rw [e]
theorem encs_fold_len (rs : List Nat) : (encs (rs.map foldR)).length = (encs rs).length := by
  induction rs with
  | nil => rfl
  | cons r rs ih =>
    have e1 : encs ((r :: rs).map foldR) = enc (foldR r) ++ encs (rs.map foldR) := by simp [encs]
    have e2 : encs (r :: rs) = enc r ++ encs rs := by simp [encs]
    rw [e1, e2, List.length_append, List.length_append, ih, enc_fold_len]
theorem fold_size (s : ByteArray) : (foldS s).size ≤ s.size := by
  cases h : runes (bl s) with
  | none => rw [fold_empty h]; exact Nat.zero_le _
  | some rs =>
    have e : (foldS s).size = (encs (rs.map foldR)).length := by rw [foldS, h]; simp [ByteArray.size]
    have h1 := ((runes_iff (bl s) rs).1 h).1
    have h2 := bl_len s
    rw [h1] at h2
    rw [e, encs_fold_len, h2]
    exact Nat.le_refl _

set_option maxRecDepth 100000 in
set_option maxHeartbeats 2000000 in
theorem keysTexts_bad (s t : ByteArray) (w : World) (hz : s.size + t.size ≤ 1048576) (hbad : runes (bl s) = none ∨ runes (bl t) = none) :
    Calls Tryd.prog 3 #[.string s, .string t] w fun e w' => e = .returned (.bool true) ∧ Below w.heap.size w w' := by
  have c1 := fun w => runes_any s w (by omega)
  have c2 := fun w => runes_any t w (by omega)
  have c3 := fun w => runes_any (s ++ t) w (by rw [size_append]; omega)
  generalize countOf (runes (bl (s ++ t))) = k3 at c3
  have f1 := fun w => fold_any s w (by omega)
  have f2 := fun w => fold_any t w (by omega)
  have hadd := run_add s t hz
  cases hA : runes (bl s) with
  | none =>
    have e1 := fold_empty hA
    rw [e1] at f1
    rw [hA] at c1
    have g1 : ∀ w : World, Calls Tryd.prog 4 #[.string s] w fun e w' => e = .returned (.int .i64 (-1)) ∧ Below w.heap.size w w' := c1
    clear c1 e1
    cases hB : runes (bl t) with
    | none =>
      have e2 := fold_empty hB
      rw [e2] at f2
      rw [hB] at c2
      have g2 : ∀ w : World, Calls Tryd.prog 4 #[.string t] w fun e w' => e = .returned (.int .i64 (-1)) ∧ Below w.heap.size w w' := c2
      clear c2 e2
      go_enter Tryd.func3, Tryd.ntmps3
      go_wp2_with fail
      refine (g1 _).mono ?_
      rintro e w1 ⟨rfl, hb1⟩
      have HB1 := hidx hb1
      clear hb1
      go_wp2_with fail
      refine (g2 _).mono ?_
      rintro e w2 ⟨rfl, hb2⟩
      have HB2 := hidx (HB1.out.trans (hb2.mono HB1.out.size))
      clear hb2
      go_wp2_with fail
      refine (c3 _).mono ?_
      rintro e w3 ⟨rfl, hb3⟩
      have HB3 := hidx (HB2.out.trans (hb3.mono HB2.out.size))
      clear hb3
      go_wp2_with fail
      refine (told_any _).mono ?_
      rintro e w4 ⟨rfl, hb4⟩
      have HB4 := hidx (HB3.out.trans (hb4.mono HB3.out.size))
      clear hb4
      go_wp2_with fail
      refine (f1 _).mono ?_
      rintro e w5 ⟨rfl, hb5⟩
      have HB5 := hidx (HB4.out.trans (hb5.mono HB4.out.size))
      clear hb5
      go_wp2_with fail
      refine (f2 _).mono ?_
      rintro e w6 ⟨rfl, hb6⟩
      have HB6 := hidx (HB5.out.trans (hb6.mono HB5.out.size))
      clear hb6
      go_wp2
      go_ret
      exact ⟨rfl, HB6.out⟩
    | some rb =>
      rw [hB] at c2
      have g2 : ∀ w : World, Calls Tryd.prog 4 #[.string t] w fun e w' => e = .returned (.int .i64 (rb.length : Nat)) ∧ Below w.heap.size w w' := c2
      clear c2 f2
      go_enter Tryd.func3, Tryd.ntmps3
      go_wp2_with fail
      refine (g1 _).mono ?_
      rintro e w1 ⟨rfl, hb1⟩
      have HB1 := hidx hb1
      clear hb1
      go_wp2_with fail
      refine (g2 _).mono ?_
      rintro e w2 ⟨rfl, hb2⟩
      have HB2 := hidx (HB1.out.trans (hb2.mono HB1.out.size))
      clear hb2
      go_wp2_with fail
      refine (c3 _).mono ?_
      rintro e w3 ⟨rfl, hb3⟩
      have HB3 := hidx (HB2.out.trans (hb3.mono HB2.out.size))
      clear hb3
      go_wp2_with fail
      refine (told_any _).mono ?_
      rintro e w4 ⟨rfl, hb4⟩
      have HB4 := hidx (HB3.out.trans (hb4.mono HB3.out.size))
      clear hb4
      go_wp2_with fail
      refine (f1 _).mono ?_
      rintro e w5 ⟨rfl, hb5⟩
      have HB5 := hidx (HB4.out.trans (hb5.mono HB4.out.size))
      clear hb5
      go_wp2
      go_ret
      exact ⟨rfl, HB5.out⟩
  | some ra =>
    have hB : runes (bl t) = none := by rcases hbad with h | h; · rw [hA] at h; cases h
                                        · exact h
    have e2 := fold_empty hB
    rw [e2] at f2
    rw [hA] at c1
    rw [hB] at c2
    have g1 : ∀ w : World, Calls Tryd.prog 4 #[.string s] w fun e w' => e = .returned (.int .i64 (ra.length : Nat)) ∧ Below w.heap.size w w' := c1
    have g2 : ∀ w : World, Calls Tryd.prog 4 #[.string t] w fun e w' => e = .returned (.int .i64 (-1)) ∧ Below w.heap.size w w' := c2
    have hn : ¬ ((ra.length : Int) < 0) := by omega
    clear c1 c2 e2 f1
    go_enter Tryd.func3, Tryd.ntmps3
    go_wp2_with fail
    refine (g1 _).mono ?_
    rintro e w1 ⟨rfl, hb1⟩
    have HB1 := hidx hb1
    clear hb1
    go_wp2_with fail
    refine (g2 _).mono ?_
    rintro e w2 ⟨rfl, hb2⟩
    have HB2 := hidx (HB1.out.trans (hb2.mono HB1.out.size))
    clear hb2
    go_wp2_with fail
    refine (c3 _).mono ?_
    rintro e w3 ⟨rfl, hb3⟩
    have HB3 := hidx (HB2.out.trans (hb3.mono HB2.out.size))
    clear hb3
    go_wp2_with fail
    refine (told_any _).mono ?_
    rintro e w4 ⟨rfl, hb4⟩
    have HB4 := hidx (HB3.out.trans (hb4.mono HB3.out.size))
    clear hb4
    go_wp2_with fail
    refine (f2 _).mono ?_
    rintro e w5 ⟨rfl, hb5⟩
    have HB5 := hidx (HB4.out.trans (hb5.mono HB4.out.size))
    clear hb5
    go_wp2
    go_ret
    exact ⟨rfl, HB5.out⟩

set_option maxRecDepth 100000 in
set_option maxHeartbeats 2000000 in
theorem keysTexts_good (s t : ByteArray) (ra rb : List Nat) (w : World) (hz : s.size + t.size ≤ 1048576) (hA : runes (bl s) = some ra) (hB : runes (bl t) = some rb) (hT : Lib.Utf8Tabs 0 1 w) :
    Calls Tryd.prog 3 #[.string s, .string t] w fun e w' => e = .returned (.bool true) ∧ Below w.heap.size w w' := by
  have hAB : runes (bl (s ++ t)) = some (ra ++ rb) := by rw [bl_append, runes_append hA, hB]; rfl
  have c1 := fun w => runes_any s w (by omega)
  have c2 := fun w => runes_any t w (by omega)
  have c3 := fun w => runes_any (s ++ t) w (by rw [size_append]; omega)
  rw [hA] at c1
  rw [hB] at c2
  rw [hAB] at c3
  have g1 : ∀ w : World, Calls Tryd.prog 4 #[.string s] w fun e w' => e = .returned (.int .i64 (ra.length : Nat)) ∧ Below w.heap.size w w' := c1
  have g2 : ∀ w : World, Calls Tryd.prog 4 #[.string t] w fun e w' => e = .returned (.int .i64 (rb.length : Nat)) ∧ Below w.heap.size w w' := c2
  have ek : countOf (some (ra ++ rb)) = (ra.length : Int) + (rb.length : Int) := by simp [countOf]
  rw [ek] at c3
  clear c1 c2 ek
  have f1 := fun w => fold_any s w (by omega)
  have f2 := fun w => fold_any t w (by omega)
  have f3 := fun w => fold_any (s ++ t) w (by rw [size_append]; omega)
  rw [fold_append hA hB] at f3
  have hadd := run_add s t hz
  have hadd2 := run_add (foldS s) (foldS t) (by have := fold_size s; have := fold_size t; omega)
  have la := runes_len hA
  have lb := runes_len hB
  rw [bl_len] at la lb
  have n1 : ¬ ((ra.length : Int) < 0) := by omega
  have n2 : ¬ ((rb.length : Int) < 0) := by omega
  have m1 : (ra.length : Int) ≤ 1048576 := by omega
  have m2 : (rb.length : Int) ≤ 1048576 := by omega
  have mw : IntKind.i64.wrap ((ra.length : Int) + (rb.length : Int)) = (ra.length : Int) + (rb.length : Int) := by rw [IntKind.wrap_i64]; omega
  have em := empty_iff hB
  have cC := fun g1 g2 ww (b1 : Box g1 2 0 s ww) (b2 : Box g2 2 0 (s ++ t) ww) (tt : Lib.Utf8Tabs 0 1 ww) (l1 : g1 < ww.heap.size) (l2 : g2 < ww.heap.size) => compare_texts g1 g2 s (s ++ t) ra (ra ++ rb) ww (by omega) hA hAB b1 b2 tt l1 l2
  rw [cmpL_pre] at cC
  have cD := fun w => decode_any s w (by omega)
  have HA := hidx hA
  have HT := hidx hT
  have HC := hidx cC
  have HD := hidx cD
  have HZ := hidx hz
  clear hA hB hAB hT la lb cC cD hz
  generalize foldS s = fs at f1 f3 hadd2
  generalize foldS t = ft at f2 f3 hadd2
  go_enter Tryd.func3, Tryd.ntmps3
  go_wp2_with fail
  refine (g1 _).mono ?_
  rintro e w1 ⟨rfl, hb1⟩
  have HB1 := hidx hb1
  clear hb1
  go_wp2_with fail
  refine (g2 _).mono ?_
  rintro e w2 ⟨rfl, hb2⟩
  have HB2 := hidx (HB1.out.trans (hb2.mono HB1.out.size))
  clear hb2
  go_wp2_with fail
  refine (c3 _).mono ?_
  rintro e w3 ⟨rfl, hb3⟩
  have HB3 := hidx (HB2.out.trans (hb3.mono HB2.out.size))
  clear hb3
  have hs3 := HB3.out.size
  have HY : Hid (CY w w3.heap.size (w3.heap.size + 1) s (s ++ t) ((w3.alloc (.cells #[.int .i64 2, .int .i64 0, .string s] 26)).alloc (.cells #[.int .i64 2, .int .i64 0, .string (s ++ t)] 26))) := by
    have q1 : Below w3.heap.size w3 ((w3.alloc (.cells #[.int .i64 2, .int .i64 0, .string s] 26)).alloc (.cells #[.int .i64 2, .int .i64 0, .string (s ++ t)] 26)) := ((Below.refl _ w3).alloc (Nat.le_refl _) _).alloc (by simp) _
    have q2 := HB3.out.trans (q1.mono hs3)
    refine ⟨⟨?_, ?_, ?_⟩, ⟨?_, ?_, ?_⟩, q2, by simp; omega, by simp, Utf8Tabs_below HT.out q2⟩ <;> simp
  clear hs3
  go_wp2_with fail
  refine (f3 _).mono ?_
  rintro e w4 ⟨rfl, hb4⟩
  have HY4 := CY.next HY hb4
  clear hb4
  go_wp2_with fail
  refine (f1 _).mono ?_
  rintro e w5 ⟨rfl, hb5⟩
  have HY5 := CY.next HY4 hb5
  clear hb5
  go_wp2_with fail
  refine (f2 _).mono ?_
  rintro e w6 ⟨rfl, hb6⟩
  have HY6 := CY.next HY5 hb6
  clear hb6
  cases hq : rb.isEmpty with
  | true =>
    rw [hq] at em
    have HC2 : Hid (∀ (g1 g2 : Nat) (ww : World), Box g1 2 0 s ww → Box g2 2 0 (s ++ t) ww → Lib.Utf8Tabs 0 1 ww → g1 < ww.heap.size → g2 < ww.heap.size → Calls Tryd.prog 7 #[.slice (some ⟨g1, 0, none⟩) 1 1, .slice (some ⟨g2, 0, none⟩) 1 1] ww fun e w' => e = .returned (.int .i64 0) ∧ Below ww.heap.size ww w') := by
      have := HC.out
      rw [hq] at this
      exact this
    go_wp2_with fail
    refine (HC2.out _ _ _ HY6.out.s1 HY6.out.s2 HY6.out.tab HY6.out.l1 HY6.out.l2).mono ?_
    rintro e w7 ⟨rfl, hb7⟩
    have HY7 := CY.next HY6 hb7
    clear hb7
    go_wp2_with fail
    refine (HC2.out _ _ _ HY7.out.s1 HY7.out.s2 HY7.out.tab HY7.out.l1 HY7.out.l2).mono ?_
    rintro e w8 ⟨rfl, hb8⟩
    have HY8 := CY.next HY7 hb8
    clear hb8
    go_wp2_with fail
    refine (HD.out _).mono ?_
    rintro e w9 ⟨hd, hb9⟩
    unfold DecR at hd
    rw [HA.out] at hd
    obtain ⟨v9, rfl, ho9⟩ := hd
    have HB9 := hidx (HY8.out.bel.trans (hb9.mono HY8.out.bel.size))
    rcases ho9.2 with ⟨rfl, h0⟩ | ⟨g, cap, cur, rfl, _⟩
    · have h0' : (ra.length : Int) = 0 := by omega
      clear ho9 hb9
      go_wp2_with fail
      refine (told_any _).mono ?_
      rintro e w10 ⟨rfl, hb10⟩
      have HB10 := hidx (HB9.out.trans (hb10.mono HB9.out.size))
      clear hb10
      go_wp2
      go_ret
      exact ⟨rfl, HB10.out⟩
    · clear ho9 hb9
      go_wp2_with fail
      refine (told_any _).mono ?_
      rintro e w10 ⟨rfl, hb10⟩
      have HB10 := hidx (HB9.out.trans (hb10.mono HB9.out.size))
      clear hb10
      go_wp2
      go_ret
      exact ⟨rfl, HB10.out⟩
  | false =>
    rw [hq] at em
    have HC2 : Hid (∀ (g1 g2 : Nat) (ww : World), Box g1 2 0 s ww → Box g2 2 0 (s ++ t) ww → Lib.Utf8Tabs 0 1 ww → g1 < ww.heap.size → g2 < ww.heap.size → Calls Tryd.prog 7 #[.slice (some ⟨g1, 0, none⟩) 1 1, .slice (some ⟨g2, 0, none⟩) 1 1] ww fun e w' => e = .returned (.int .i64 (-1)) ∧ Below ww.heap.size ww w') := by
      have := HC.out
      rw [hq] at this
      exact this
    go_wp2_with fail
    refine (HC2.out _ _ _ HY6.out.s1 HY6.out.s2 HY6.out.tab HY6.out.l1 HY6.out.l2).mono ?_
    rintro e w7 ⟨rfl, hb7⟩
    have HY7 := CY.next HY6 hb7
    clear hb7
    go_wp2_with fail
    refine (HC2.out _ _ _ HY7.out.s1 HY7.out.s2 HY7.out.tab HY7.out.l1 HY7.out.l2).mono ?_
    rintro e w8 ⟨rfl, hb8⟩
    have HY8 := CY.next HY7 hb8
    clear hb8
    go_wp2_with fail
    refine (HD.out _).mono ?_
    rintro e w9 ⟨hd, hb9⟩
    unfold DecR at hd
    rw [HA.out] at hd
    obtain ⟨v9, rfl, ho9⟩ := hd
    have HB9 := hidx (HY8.out.bel.trans (hb9.mono HY8.out.bel.size))
    rcases ho9.2 with ⟨rfl, h0⟩ | ⟨g, cap, cur, rfl, _⟩
    · have h0' : (ra.length : Int) = 0 := by omega
      clear ho9 hb9
      go_wp2_with fail
      refine (told_any _).mono ?_
      rintro e w10 ⟨rfl, hb10⟩
      have HB10 := hidx (HB9.out.trans (hb10.mono HB9.out.size))
      clear hb10
      go_wp2
      go_ret
      exact ⟨rfl, HB10.out⟩
    · clear ho9 hb9
      go_wp2_with fail
      refine (told_any _).mono ?_
      rintro e w10 ⟨rfl, hb10⟩
      have HB10 := hidx (HB9.out.trans (hb10.mono HB9.out.size))
      clear hb10
      go_wp2
      go_ret
      exact ⟨rfl, HB10.out⟩

theorem keysTexts_walk (s t : ByteArray) (w : World) (hz : s.size + t.size ≤ 1048576) (hT : Lib.Utf8Tabs 0 1 w) :
    Calls Tryd.prog 3 #[.string s, .string t] w fun e w' => e = .returned (.bool true) ∧ Below w.heap.size w w' := by
  cases hA : runes (bl s) with
  | none => exact keysTexts_bad s t w hz (Or.inl hA)
  | some ra =>
    cases hB : runes (bl t) with
    | none => exact keysTexts_bad s t w hz (Or.inr hB)
    | some rb => exact keysTexts_good s t ra rb w hz hA hB hT
end Go.Proofs.YtnmejnkdgeljeabDoor
