/- Contracts of the document's own now, Arm and Cut. -/
import Derived.Test.YtnapapgmeghgjaaV4
set_option linter.unusedVariables false
namespace Go.Proofs.Ytnapapgmeghgjaa
open Go.RowKit

/-- A disk of the document's own behind a call. -/
def RN [Gc] (b : Nat → Prop) (B p gk : Nat) (wv : Nat → Value) (t : DS) (w w' : World) : Prop := ∃ vo kv kb, RV B p gk vo kv wv kb t w' ∧ Fd b B w w'
section
variable [Gc] {b : Nat → Prop} {B p gk : Nat} {vo : Value} {kv wv : Nat → Value} {kb : Nat → List Nat} {t : DS} {w w' : World}
theorem RV.put (h : RV B p gk vo kv wv kb t w) {after : Int} {keep : Nat} {torn cut : Int} {down : Bool} {life : Int} (hp : w'.heap[p]? = some (.cells (headR gk vo (t.with after keep torn cut down life)) 44 (0, 0))) (oth : ∀ i, i ≠ p → w'.heap[i]? = w.heap[i]?)
    (k1 : keep < 18446744073709551616) (k2 : after ≤ 9223372036854775807) (k3 : 0 ≤ life) (k4 : life ≤ 100000) (dz : down = true → after = 0 ∧ keep = 0 ∧ torn = 0 ∧ cut = 0) : RV B p gk vo kv wv kb (t.with after keep torn cut down life) w' := by
  have ne : ∀ {i : Nat} {cs : Array Value} {t' : TypeId}, w.heap[i]? = some (.cells cs t' (0, 0)) → t' ≠ 44 → i ≠ p := by
    intro i cs t' e ht e2
    subst e2
    rw [h.hp] at e
    simp only [Option.some.injEq, Obj.cells.injEq] at e
    exact ht e.2.1.symm
  have st : ∀ (j : Nat) (cs : Array Value) (t' : TypeId), w.heap[j]? = some (Obj.cells cs t' (0, 0)) → t' ≠ 44 → w'.heap[j]? = some (Obj.cells cs t' (0, 0)) := fun j cs t' e ht => by rw [oth j (ne e ht), e]
  have ok := h.ok
  exact ⟨hp, st _ _ _ h.hg (by decide), own_stay h.hw fun j cs _ e => st j cs _ e (by decide), fun i hi => own_stay (h.hk i hi) fun j cs _ e => st j cs _ e (by decide), h.kp, fun i hi => own_stay (h.hb i hi) fun j cs _ e => st j cs _ e (by decide), h.ha, h.hc, h.pB, h.gB, ⟨ok.n1, ok.n2, ok.kl, ok.kb, ok.at_, ok.bl, ok.bb, ok.mm, k1, k2, k3, k4⟩, dz, fun j hj => ⟨by obtain ⟨cs, e⟩ := (h.h8 j hj).1; exact ⟨cs, st _ _ _ e (by decide)⟩, (h.h8 j hj).2⟩⟩
theorem RV.d (h : RV B p gk vo kv wv kb t w) : w.cell? ⟨p, 0, none⟩ = some (.slice (some ⟨gk, 0, none⟩) t.n t.n) ∧ w.cell? ⟨p, 1, none⟩ = some vo ∧ w.cell? ⟨p, 2, none⟩ = some (.bool t.down) ∧ w.cell? ⟨p, 3, none⟩ = some (.int .i64 t.after) ∧ w.cell? ⟨p, 4, none⟩ = some (.int .u64 (t.keep : Int)) ∧ w.cell? ⟨p, 5, none⟩ = some (.int .i64 t.torn) ∧ w.cell? ⟨p, 6, none⟩ = some (.int .i64 t.cut) ∧ w.cell? ⟨p, 7, none⟩ = some (.int .i64 t.life) :=
  ⟨cell_blk h.hp, cell_blk h.hp, cell_blk h.hp, cell_blk h.hp, cell_blk h.hp, cell_blk h.hp, cell_blk h.hp, cell_blk h.hp⟩
theorem RV.fz (h : RV B p gk vo kv wv kb t w) (i : Nat) : w.frozen? ⟨p, i, none⟩ = false := frz_blk h.hp

set_option maxRecDepth 100000 in
set_option maxHeartbeats 2000000 in
theorem now_any (h : RV B p gk vo kv wv kb t w) (hB : B ≤ w.heap.size) (hd : t.down = false) (hlf : t.life < 100000) :
    Calls Try.prog 35 #[.pointer (some ⟨p, 0, none⟩)] w fun e w' => e = .returned (.bool (decide (t.after = 1))) ∧ RN b B p gk wv t.tick w w' := by
  have H := hide h
  obtain ⟨-, -, -, d3, d4, d5, d6, -⟩ := h.d
  have fz := h.fz
  have HOK := hide h.ok
  have a63 := h.ok.after
  have HT : Hid (t.tick = if t.after < 1 then t else if t.after = 1 then t.lose t.keep t.torn t.cut else t.with (t.after - 1) t.keep t.torn t.cut t.down t.life) := rfl
  by_cases c1 : t.after < 1
  · rw [if_pos c1] at HT
    have e1 : decide (t.after = 1) = false := decide_eq_false (by omega)
    rw [e1]
    clear h
    go_enter Try.func35, Try.ntmps35
    go_wp2
    go_ret
    exact ⟨rfl, vo, kv, kb, by rw [HT.out]; exact H.out, ⟨Below.refl _ _, fun _ _ _ _ e _ _ _ _ => e⟩⟩
  · rw [if_neg c1] at HT
    by_cases c2 : t.after = 1
    · rw [if_pos c2] at HT
      have e1 : decide (t.after = 1) = true := decide_eq_true c2
      rw [e1]
      rw [c2] at d3
      obtain ⟨h1, h2, h3⟩ := chainR (b := b) h.pB [(3, Value.int .i64 0)] w _ h.hp
      have HP := hide (h.put (after := 0) (keep := t.keep) (torn := t.torn) (cut := t.cut) (down := t.down) (life := t.life) h1 h3 h.ok.keep (by omega) h.ok.life0 h.ok.life1 (by rw [hd]; intro q; cases q))
      have HF := hide h2
      have HLS := hide (with_lose t 0 t.keep t.torn t.cut t.down t.keep t.torn t.cut)
      have HKP := hide h.ok.keep
      clear h h1 h2 h3 c1 c2
      have hx : (List.foldl (fun w (x : Nat × Value) => w.setCell ⟨p, x.1, none⟩ x.2) w [(3, Value.int .i64 0)]) = w.setCell ⟨p, 3, none⟩ (.int .i64 0) := rfl
      rw [hx] at HP HF
      have z4 : (w.setCell ⟨p, 3, none⟩ (.int .i64 0)).cell? ⟨p, 3, none⟩ = some (.int .i64 0) := HP.out.d.2.2.2.1
      generalize hW : w.setCell ⟨p, 3, none⟩ (.int .i64 0) = w2 at *
      obtain ⟨-, -, -, g3, g4, g5, g6, -⟩ := HP.out.d
      have HW := hide hW
      have HL := hide (lose_any b B p gk vo kv wv kb _ 0 t.keep t.torn t.cut w2 HP.out (Nat.le_trans hB HF.out.bel.size) HKP.out hlf)
      go_enter Try.func35, Try.ntmps35
      go_wp2_with fail
      first | rw [HW.out] | skip
      go_wp2_with fail
      refine HL.out.mono ?_
      rintro e w3 ⟨rfl, kv3, kb3, hR3, hF3⟩
      have HR3 := hide hR3
      have HF3 := hide (HF.out.trans hF3)
      clear hR3 hF3
      go_wp2
      go_ret
      exact ⟨rfl, _, kv3, kb3, by rw [HT.out, ← HLS.out]; exact HR3.out, HF3.out⟩
    · rw [if_neg c2] at HT
      have e1 : decide (t.after = 1) = false := decide_eq_false c2
      rw [e1]
      obtain ⟨h1, h2, h3⟩ := chainR (b := b) h.pB [(3, Value.int .i64 (t.after - 1))] w _ h.hp
      have HP := hide (h.put (after := t.after - 1) (keep := t.keep) (torn := t.torn) (cut := t.cut) (down := t.down) (life := t.life) h1 h3 h.ok.keep (by omega) h.ok.life0 h.ok.life1 (by rw [hd]; intro q; cases q))
      have HF := hide h2
      have c3 : ¬ t.after - 1 < 1 := by omega
      have c4 : 0 < t.after - 1 := by omega
      have c5 : (1 : Int) ≤ t.after := by omega
      clear h h1 h2 h3 c2
      go_enter Try.func35, Try.ntmps35
      go_wp2
      go_ret
      exact ⟨rfl, vo, kv, kb, by rw [HT.out]; exact HP.out, HF.out⟩
set_option maxRecDepth 100000 in
set_option maxHeartbeats 2000000 in
theorem armR_any (a : Int) (keep : Nat) (torn cut : Int) (h : RV B p gk vo kv wv kb t w) (hB : B ≤ w.heap.size) (hk : keep < 18446744073709551616) (ha : a ≤ 9223372036854775807) :
    Calls Try.prog 17 #[.pointer (some ⟨p, 0, none⟩), .agg #[.int .i64 a, .int .u64 (keep : Int), .int .i64 torn, .int .i64 cut]] w fun e w' => e = .returned (.tuple #[]) ∧ RN b B p gk wv (t.arm a keep torn cut) w w' := by
  have hb := below_box w (.cells #[.int .i64 a, .int .u64 (keep : Int), .int .i64 torn, .int .i64 cut] 32)
  have hF := Fd.of (b := b) hb hB
  have hR := h.later hb
  obtain ⟨-, -, d2, d3, d4, d5, d6, -⟩ := hR.d
  have fz := hR.fz
  have HE : Hid (t.arm a keep torn cut = if t.down then t else t.with a keep torn cut t.down t.life) := rfl
  have HR := hide hR
  have HF := hide hF
  cases hd : t.down with
  | true =>
    rw [hd, if_pos rfl] at HE
    rw [hd] at d2
    clear h hb hF hR
    go_enter Try.func17, Try.ntmps17
    go_wp2
    go_end0
    exact ⟨rfl, vo, kv, kb, by rw [HE.out]; exact HR.out, HF.out⟩
  | false =>
    rw [hd, if_neg (by simp)] at HE
    rw [hd] at d2
    obtain ⟨h1, h2, h3⟩ := chainR (b := b) hR.pB [(3, Value.int .i64 a), (4, .int .u64 (keep : Int)), (5, .int .i64 torn), (6, .int .i64 cut)] _ _ hR.hp
    have HP := hide (hR.put (after := a) (keep := keep) (torn := torn) (cut := cut) (down := false) (life := t.life) (by rw [h1]; unfold headR; rw [hd]; rfl) h3 hk ha h.ok.life0 h.ok.life1 (by intro q; cases q))
    have HF2 := hide (hF.trans h2)
    clear h hb hF hR h1 h2 h3
    go_enter Try.func17, Try.ntmps17
    go_wp2
    go_end0
    exact ⟨rfl, vo, kv, kb, by rw [HE.out]; exact HP.out, HF2.out⟩
set_option maxRecDepth 100000 in
set_option maxHeartbeats 2000000 in
theorem cutR_any (a : Int) (keep : Nat) (torn cut : Int) (h : RV B p gk vo kv wv kb t w) (hB : B ≤ w.heap.size) (hk : keep < 18446744073709551616) (hlf : t.life < 100000) :
    Calls Try.prog 19 #[.pointer (some ⟨p, 0, none⟩), .agg #[.int .i64 a, .int .u64 (keep : Int), .int .i64 torn, .int .i64 cut]] w fun e w' => e = .returned (.tuple #[]) ∧ RN b B p gk wv (t.cutS keep torn cut) w w' := by
  have hb := below_box w (.cells #[.int .i64 a, .int .u64 (keep : Int), .int .i64 torn, .int .i64 cut] 32)
  have hF := Fd.of (b := b) hb hB
  have hR := h.later hb
  obtain ⟨-, -, d2, -, -, -, -, -⟩ := hR.d
  have HE : Hid (t.cutS keep torn cut = if t.down then t else t.lose keep torn cut) := rfl
  have HR := hide hR
  have HF := hide hF
  have HL := hide (lose_any b B p gk vo kv wv kb t a keep torn cut _ hR (Nat.le_trans hB hb.size) hk hlf)
  cases hd : t.down with
  | true =>
    rw [hd, if_pos rfl] at HE
    rw [hd] at d2
    clear h hb hF hR
    go_enter Try.func19, Try.ntmps19
    go_wp2
    go_end0
    exact ⟨rfl, vo, kv, kb, by rw [HE.out]; exact HR.out, HF.out⟩
  | false =>
    rw [hd, if_neg (by simp)] at HE
    rw [hd] at d2
    clear h hb hF hR
    go_enter Try.func19, Try.ntmps19
    go_wp2_with fail
    refine HL.out.mono ?_
    rintro e w3 ⟨rfl, kv3, kb3, hR3, hF3⟩
    have HR3 := hide hR3
    have HF3 := hide (HF.out.trans hF3)
    clear hR3 hF3
    go_wp2
    go_end0
    exact ⟨rfl, _, kv3, kb3, by rw [HE.out]; exact HR3.out, HF3.out⟩
end
theorem tickF {s : DS} (hf : ¬ s.after = 1) : s.tick.down = s.down ∧ s.tick.life = s.life ∧ s.tick.n = s.n ∧ s.tick.m = s.m := by
  refine ⟨?_, ?_, (tick_n hf).1, (tick_n hf).2⟩
  · unfold DS.tick; split
    · rfl
    · first | rfl | (rw [if_neg hf]; rfl)
  · unfold DS.tick; split
    · rfl
    · first | rfl | (rw [if_neg hf]; rfl)
end Go.Proofs.Ytnapapgmeghgjaa
