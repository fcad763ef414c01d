/- Contracts of Cut, Restart, Arm, fails, Flush. -/
import Derived.Test.YtnapapgmeghgjaaB5
set_option linter.unusedVariables false
namespace Go.Proofs.Ytnapapgmeghgjaa
open Go.RowKit

def DS.cutS (s : DS) (keep : Nat) (torn cut : Int) : DS := if s.down then s else s.lose keep torn cut
def DS.restart (s : DS) : DS := if s.down then s.up else s
def DS.arm (s : DS) (after : Int) (keep : Nat) (torn cut : Int) : DS := if s.down then s else s.with after keep torn cut s.down s.life

set_option maxRecDepth 100000 in
theorem cut_any [Gd] (B p : Nat) (s : DS) (a : Int) (keep : Nat) (torn cut : Int) (w : World) (h : DI B p s w) (hB : B ≤ w.heap.size) (hkeep : keep < 18446744073709551616) (hl : s.life < 100000) :
    Calls Try.prog 18 #[.pointer (some ⟨p, 0, none⟩), .agg #[.int .i64 a, .int .u64 (keep : Int), .int .i64 torn, .int .i64 cut]] w fun e w' => e = .returned (.tuple #[]) ∧ DI B p (s.cutS keep torn cut) w' ∧ Fr B w w' := by
  have HB1 := hide (below_box w (.cells #[.int .i64 a, .int .u64 (keep : Int), .int .i64 torn, .int .i64 cut] 32))
  have HH := hide (h.later HB1.out)
  have HF := hide (Fr.of HB1.out hB)
  have HBB := hide (Nat.le_trans hB HB1.out.size)
  cases hd : s.down with
  | false =>
    have HC := hide (fun ww h1 h2 => turn_lose B p s a keep torn cut ww h1 h2 hkeep hd hl)
    have HE : Hid (s.cutS keep torn cut = s.lose keep torn cut) := by show _ = _; unfold DS.cutS; rw [hd]; rfl
    clear h hd hl
    go_enter Try.func18, Try.ntmps18
    go_wp2_with fail
    refine (HC.out _ HH.out HBB.out).mono ?_
    rintro e w2 ⟨rfl, hD2, hF2⟩
    have HD2 := hide hD2
    have HF2 := hide hF2
    clear hD2 hF2
    go_wp2
    go_end0
    rw [HE.out]
    exact ⟨rfl, HD2.out, HF.out.trans HF2.out⟩
  | true =>
    have HC := hide (fun ww h1 h2 => turn_same B p s a keep torn cut ww h1 h2)
    rw [hd] at HC
    have HE : Hid (s.cutS keep torn cut = s) := by show _ = _; unfold DS.cutS; rw [hd]; rfl
    clear h hd hl
    go_enter Try.func18, Try.ntmps18
    go_wp2_with fail
    refine (HC.out _ HH.out HBB.out).mono ?_
    rintro e w2 ⟨rfl, hD2, hF2⟩
    have HD2 := hide hD2
    have HF2 := hide hF2
    clear hD2 hF2
    go_wp2
    go_end0
    rw [HE.out]
    exact ⟨rfl, HD2.out, HF.out.trans HF2.out⟩

set_option maxRecDepth 100000 in
theorem restart_any [Gd] (B p : Nat) (s : DS) (w : World) (h : DI B p s w) (hB : B ≤ w.heap.size) :
    Calls Try.prog 20 #[.pointer (some ⟨p, 0, none⟩)] w fun e w' => e = .returned (.tuple #[]) ∧ DI B p s.restart w' ∧ Fr B w w' := by
  have HH := hide h
  cases hd : s.down with
  | false =>
    have HC := hide (fun ww h1 h2 => turn_same B p s 0 0 0 0 ww h1 h2)
    rw [hd] at HC
    have HE : Hid (s.restart = s) := by show _ = _; unfold DS.restart; rw [hd]; rfl
    clear h hd
    go_enter Try.func20, Try.ntmps20
    go_wp2_with fail
    refine (HC.out _ HH.out hB).mono ?_
    rintro e w2 ⟨rfl, hD2, hF2⟩
    have HD2 := hide hD2
    have HF2 := hide hF2
    clear hD2 hF2
    go_wp2
    go_end0
    rw [HE.out]
    exact ⟨rfl, HD2.out, HF2.out⟩
  | true =>
    have HC := hide (fun ww h1 h2 => turn_up B p s 0 0 0 0 ww h1 h2 hd)
    have HE : Hid (s.restart = s.up) := by show _ = _; unfold DS.restart; rw [hd]; rfl
    clear h hd
    go_enter Try.func20, Try.ntmps20
    go_wp2_with fail
    refine (HC.out _ HH.out hB).mono ?_
    rintro e w2 ⟨rfl, hD2, hF2⟩
    have HD2 := hide hD2
    have HF2 := hide hF2
    clear hD2 hF2
    go_wp2
    go_end0
    rw [HE.out]
    exact ⟨rfl, HD2.out, HF2.out⟩

/-- A call that is not refused: was it the one that was armed? -/
def DS.tick (s : DS) : DS := if s.after < 1 then s else if s.after = 1 then s.lose s.keep s.torn s.cut else s.with (s.after - 1) s.keep s.torn s.cut s.down s.life
theorem with_setK (s : DS) (a : Int) (k : Nat) (t c : Int) (d : Bool) (l : Int) (keep : Nat) (torn cut : Int) (i : Nat) : ∀ j, (s.with a k t c d l).setK keep torn cut j i = s.setK keep torn cut j i
  | 0 => rfl
  | j + 1 => by
    rw [DS.setK, DS.setK, with_setK s a k t c d l keep torn cut i j]
    rfl
theorem with_lose (s : DS) (a : Int) (k : Nat) (t c : Int) (d : Bool) (keep : Nat) (torn cut : Int) : (s.with a k t c d s.life).lose keep torn cut = s.lose keep torn cut := by
  unfold DS.lose DS.settle
  have e : (s.with a k t c d s.life).setK keep torn cut (s.with a k t c d s.life).m = s.setK keep torn cut s.m := by
    funext i
    exact with_setK s a k t c d s.life keep torn cut i _
  rw [e]
  rfl

set_option maxRecDepth 100000 in
set_option maxHeartbeats 2000000 in
theorem fails_any [Gd] (B p : Nat) (s : DS) (w : World) (h : DI B p s w) (hB : B ≤ w.heap.size) (hd : s.down = false) (hl : s.life < 100000) :
    Calls Try.prog 33 #[.pointer (some ⟨p, 0, none⟩)] w fun e w' => e = .returned (.bool (decide (s.after = 1))) ∧ DI B p s.tick w' ∧ Fr B w w' := by
  have HH := hide h
  have ok := h.ok
  obtain ⟨gb, vo, kv, ov, wv, h⟩ := h
  have HD := hide h
  have c2 := h.c2
  have HT : Hid (s.tick = if s.after < 1 then s else if s.after = 1 then s.lose s.keep s.torn s.cut else s.with (s.after - 1) s.keep s.torn s.cut s.down s.life) := rfl
  by_cases h1 : s.after < 1
  · have d1 : decide (s.after < 1) = true := decide_eq_true h1
    have HE : Hid (decide (s.after = 1) = false) := decide_eq_false (by omega)
    rw [if_pos h1] at HT
    generalize s.tick = s' at *
    have HT2 := HT
    clear h ok hd hl HT
    generalize s.after = af at *
    go_enter Try.func33, Try.ntmps33
    go_wp2
    go_ret
    first | exact ⟨rfl, by rw [HT2.out]; exact HH.out, Fr.refl _ _⟩ | (rw [HE.out, HT2.out]; exact ⟨rfl, HH.out, Fr.refl _ _⟩)
  · have k1 := ok.after
    have fz := h.frz
    obtain ⟨q1, q2, q3⟩ := chain h.pB (Or.inl rfl) [(2, Value.int .i64 (s.after - 1))] w _ h.hp
    have HD2 := hide (h.put (w' := w.setCell ⟨p, 2, none⟩ (.int .i64 (s.after - 1))) (after := s.after - 1) (keep := s.keep) (torn := s.torn) (cut := s.cut) (down := s.down) (life := s.life) q1 q3 ok.keep (by omega) ok.life0 ok.life1)
    have HF2 : Hid (Fr B w (w.setCell ⟨p, 2, none⟩ (.int .i64 (s.after - 1)))) := q2
    have HSZ : Hid ((w.setCell ⟨p, 2, none⟩ (.int .i64 (s.after - 1))).heap.size = w.heap.size) := by show _ = _; simp
    rw [if_neg h1] at HT
    by_cases h2 : s.after = 1
    · rw [if_pos h2] at HT
      have HE : Hid (decide (s.after = 1) = true) := decide_eq_true h2
      have HC := hide (fun ww h1 h2 => turn_lose B p (s.with (s.after - 1) s.keep s.torn s.cut s.down s.life) (s.after - 1) s.keep s.torn s.cut ww h1 h2 ok.keep hd hl)
      rw [with_lose] at HC
      have HOK := hide ok
      have e3 := HD2.out.c3
      have e4 := HD2.out.c4
      have e5 := HD2.out.c5
      have e2 := HD2.out.c2
      simp only [DS.with] at e2 e3 e4 e5
      have i1 : s.after ≤ 1 := by omega
      have i2 : 1 ≤ s.after := by omega
      clear h ok hd hl h2 h1 q1 q2 q3
      generalize s.after = af at *
      go_enter Try.func33, Try.ntmps33
      go_wp2_with fail
      refine (HC.out _ ⟨gb, vo, kv, ov, wv, HD2.out⟩ (by rw [HSZ.out]; exact hB)).mono ?_
      rintro e w2 ⟨rfl, hD2, hF2⟩
      have HD3 := hide hD2
      have HF3 := hide hF2
      clear hD2 hF2
      go_wp2
      go_ret
      have e1 : af = 1 := by omega
      rw [HT.out]
      refine ⟨?_, HD3.out, HF2.out.trans HF3.out⟩
      rw [HE.out]
      rfl
    · rw [if_neg h2] at HT
      have HE : Hid (decide (s.after = 1) = false) := decide_eq_false h2
      have e2 := HD2.out.c2
      simp only [DS.with] at e2
      have i2 : 2 ≤ s.after := by omega
      clear h ok hd hl h2 h1 q1 q2 q3
      generalize s.tick = s' at *
      have HT2 := HT
      clear HT
      generalize s.after = af at *
      go_enter Try.func33, Try.ntmps33
      go_wp2
      go_ret
      rw [HT2.out]
      refine ⟨?_, ⟨gb, vo, kv, ov, wv, HD2.out⟩, HF2.out⟩
      first | rfl | (rw [HE.out]; rfl)

/-- What Flush tells and leaves. -/
def DS.flushE (s : DS) : Int := if s.down then 20 else if s.after = 1 then 20 else 0
def DS.flush (s : DS) : DS := if s.down then s else if s.after = 1 then s.tick else s.tick.settle 18446744073709551615 (-1) 0

set_option maxRecDepth 100000 in
set_option maxHeartbeats 2000000 in
theorem flush_any [Gd] (B p : Nat) (s : DS) (w : World) (h : DI B p s w) (hB : B ≤ w.heap.size) (hl : s.life < 100000) :
    Calls Try.prog 14 #[.pointer (some ⟨p, 0, none⟩)] w fun e w' => e = .returned (.int .i64 s.flushE) ∧ DI B p s.flush w' ∧ Fr B w w' := by
  have HH := hide h
  have HFE : Hid (s.flushE = if s.down then 20 else if s.after = 1 then 20 else 0) := rfl
  have HFS : Hid (s.flush = if s.down then s else if s.after = 1 then s.tick else s.tick.settle 18446744073709551615 (-1) 0) := rfl
  obtain ⟨gb, vo, kv, ov, wv, h⟩ := h
  have c6 := h.c6
  cases hd : s.down with
  | true =>
    rw [hd] at c6
    simp only [hd, if_true] at HFE HFS
    generalize s.flushE = E at *
    generalize s.flush = s' at *
    clear h hd hl
    go_enter Try.func14, Try.ntmps14
    go_wp2
    go_ret
    rw [HFE.out, HFS.out]
    exact ⟨rfl, HH.out, Fr.refl _ _⟩
  | false =>
    rw [hd] at c6
    simp only [hd, Bool.false_eq_true, if_false] at HFE HFS
    have HC := hide (fails_any B p s w HH.out hB hd hl)
    by_cases h1 : s.after = 1
    · rw [if_pos h1] at HFE HFS
      rw [decide_eq_true h1] at HC
      generalize s.flushE = E at *
      generalize s.flush = s' at *
      clear h hd hl h1
      go_enter Try.func14, Try.ntmps14
      go_wp2_with fail
      refine HC.out.mono ?_
      rintro e w2 ⟨rfl, hD2, hF2⟩
      have HD2 := hide hD2
      have HF2 := hide hF2
      clear hD2 hF2
      go_wp2
      go_ret
      rw [HFE.out, HFS.out]
      exact ⟨rfl, HD2.out, HF2.out⟩
    · rw [if_neg h1] at HFE HFS
      rw [decide_eq_false h1] at HC
      generalize s.flushE = E at *
      generalize s.flush = s' at *
      clear h hd hl h1
      go_enter Try.func14, Try.ntmps14
      go_wp2_with fail
      refine HC.out.mono ?_
      rintro e w2 ⟨rfl, hD2, hF2⟩
      have HD2 := hide hD2
      have HF2 := hide hF2
      clear hD2 hF2
      go_wp2_with fail
      refine (settle_any B p s.tick 0 18446744073709551615 (-1) 0 _ HD2.out (Nat.le_trans hB HF2.out.bel.size) (by omega)).mono ?_
      rintro e w3 ⟨rfl, hD3, hF3⟩
      have HD3 := hide hD3
      have HF3 := hide hF3
      clear hD3 hF3
      go_wp2
      go_ret
      rw [HFE.out, HFS.out]
      exact ⟨rfl, HD3.out, HF2.out.trans HF3.out⟩
end Go.Proofs.Ytnapapgmeghgjaa
