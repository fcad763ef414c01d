/- Contracts of the document's own Read, and of Writes that are refused. -/
import Derived.Test.YtnapapgmeghgjaaV7
set_option linter.unusedVariables false
namespace Go.Proofs.Ytnapapgmeghgjaa
open Go.RowKit

/-- What a block reads as, by the first k open writes. -/
def DS.shK (t : DS) (k b : Nat) : List Nat := match (t.idxK k b).getLast? with
  | some j => t.by_ j
  | none => t.K b
theorem shK_zero (t : DS) (b : Nat) : t.shK 0 b = t.K b := rfl
theorem shK_succ (t : DS) (k b : Nat) : t.shK (k + 1) b = if t.at_ k = b then t.by_ k else t.shK k b := by
  unfold DS.shK
  rw [idxK_succ]
  by_cases e : b = t.at_ k
  · rw [if_pos e, if_pos e.symm, List.getLast?_append]
    rfl
  · rw [if_neg e, if_neg (fun e2 => e e2.symm), List.append_nil]
theorem shK_all (t : DS) (b : Nat) : t.shK t.m b = t.show b := rfl
theorem Fd.refl (b : Nat → Prop) (B : Nat) (w : World) : Fd b B w w := ⟨Below.refl _ _, fun _ _ _ _ e _ _ _ _ => e⟩
section
variable [Gc] {b : Nat → Prop} {B p gk : Nat} {vo : Value} {kv wv : Nat → Value} {kb : Nat → List Nat} {t : DS} {w wr w2 : World}
set_option maxRecDepth 100000 in
theorem readR_down (at_ : Int) (h : RV B p gk vo kv wv kb t w) (hd : t.down = true) :
    Calls Try.prog 24 #[.pointer (some ⟨p, 0, none⟩), .int .i64 at_] w fun e w' => e = .returned (.tuple #[.slice none 0 0, .int .i64 20]) ∧ w' = w := by
  have d2 := h.d.2.2.1
  rw [hd] at d2
  clear h
  go_enter Try.func24, Try.ntmps24
  go_wp2
  go_ret2
  exact ⟨rfl, rfl⟩
set_option maxRecDepth 100000 in
theorem readR_arg (at_ : Int) (h : RV B p gk vo kv wv kb t w) (hd : t.down = false) (ha : ¬ (0 ≤ at_ ∧ at_ < t.n)) :
    Calls Try.prog 24 #[.pointer (some ⟨p, 0, none⟩), .int .i64 at_] w fun e w' => e = .returned (.tuple #[.slice none 0 0, .int .i64 1]) ∧ w' = w := by
  have d2 := h.d.2.2.1
  have d0 := h.d.1
  rw [hd] at d2
  clear h
  generalize t.n = n at *
  by_cases c1 : at_ < 0
  · have q1 : decide (at_ < 0) = true := decide_eq_true c1
    clear ha
    go_enter Try.func24, Try.ntmps24
    go_wp2
    go_ret2
    exact ⟨rfl, rfl⟩
  · have q1 : decide (at_ < 0) = false := decide_eq_false c1
    have q2 : decide ((n : Int) ≤ at_) = true := decide_eq_true (by omega)
    clear ha
    go_enter Try.func24, Try.ntmps24
    go_wp2
    go_ret2
    exact ⟨rfl, rfl⟩
set_option maxRecDepth 100000 in
set_option maxHeartbeats 4000000 in
theorem readR_ok (at_ : Nat) (h : RV B p gk vo kv wv kb t w) (hB : B ≤ w.heap.size) (hd : t.down = false) (hat : at_ < t.n) :
    Calls Try.prog 24 #[.pointer (some ⟨p, 0, none⟩), .int .i64 (at_ : Int)] w fun e w' => ∃ g, e = .returned (.tuple #[.slice (some ⟨g, 0, none⟩) blk blk, .int .i64 0]) ∧ w'.ownsRow w.heap.size 5 1 (.slice (some ⟨g, 0, none⟩) blk blk) blk (cellsOf (pad (t.show at_))) ∧ Below w.heap.size w w' := by
  obtain ⟨d0, d1, d2, -⟩ := h.d
  rw [hd] at d2
  have H := hide h
  have hmm := h.ok.mm
  have HOK := hide h.ok
  have hn2 := h.ok.n2
  have HN8 : Hid (blk = 8192) := rfl
  obtain ⟨N, HN⟩ : ∃ N, Hid (blk = N) := ⟨_, rfl⟩
  obtain ⟨A, C, hvo⟩ := own_slice h.hw
  subst hvo
  have HKP := hide (h.kp at_ hat)
  have HKL := hide (kb_lenR HKP.out.2)
  have HKT := hide (kb_ltR HKP.out.1 (HOK.out.kb at_))
  obtain ⟨a1, p1, e1, hbs1⟩ := bs_row (h.hk at_ hat) (by have := HKL.out; have := HN8.out; omega) HKT.out
  have q1 : w.cell? ⟨gk, at_, none⟩ = some (kv at_) := by
    rw [cell_blk h.hg]
    simpa using krow_get kv hat
  rw [e1] at q1
  have HBS1 := hide hbs1
  have u1 : decide ((at_ : Int) < 0) = false := decide_eq_false (by omega)
  have u2 : decide (((t.n : Nat) : Int) ≤ (at_ : Int)) = false := decide_eq_false (by omega)
  have i3 : (0 : Int) ≤ (at_ : Int) := by omega
  have i4 : (at_ : Int) < ((t.n : Nat) : Int) := by omega
  clear h hbs1 e1
  rw [HN.out]
  generalize hM : t.m = m at *
  have HM := hide hM
  have HSH : Hid (t.shK m at_ = t.show at_) := by show _ = _; rw [← hM]; exact shK_all t at_
  clear hM
  go_enter Try.func24, Try.ntmps24
  go_wp2_with fail
  go_loopw [7, 6] (fun i v wr => ∃ (k : Nat) (a' : Option Addr) (l' c' : Nat) (ys : List Nat), k ≤ m ∧ i = .int .i64 k ∧ v = .slice a' l' c' ∧ BS w a' l' c' ys ∧ l' ≤ blk ∧ pad ys = pad (t.shK k at_) ∧ wr = w) (fun i _ _ => m - (intOf i).toNat)
  case atStart => exact ⟨0, a1, _, p1, _, by omega, rfl, rfl, HBS1.out, HKL.out, HKP.out.1, rfl⟩
  case round =>
    obtain ⟨k, a', l', c', ys, hk, rfl, rfl, hbs, hll, hpp, hww⟩ := hrel
    have hww := hww.symm
    subst hww
    have HBB := hide hbs
    have HLL := hide hll
    have HPP := hide hpp
    clear hbs hll hpp
    by_cases hlt : k < m
    · have hw' := H.out.hw
      rw [HM.out] at hw'
      obtain ⟨g, rfl, -, -⟩ := own_place hw' (by omega)
      have hkm : k < t.m := by rw [HM.out]; exact hlt
      have r0 := hw'.cellAt (k * 2) (by omega)
      have r1 := hw'.cellAt (k * 2 + 1) (by omega)
      rw [two_get0 _ _ _ _ hlt] at r0
      rw [two_get1 _ _ _ _ hlt] at r1
      clear hw'
      have HST := hide (shK_succ t k at_)
      have i1 : (0 : Int) ≤ (k : Int) := by omega
      have i2 : (k : Int) < (m : Int) := by omega
      have hat2 := HOK.out.at_ k hkm
      by_cases hq : t.at_ k = at_
      · rw [if_pos hq] at HST
        have HRB := hide (H.out.hb k hkm)
        obtain ⟨a2, p2, e2, hbs2⟩ := bs_row (xs := pad (t.by_ k)) (by rw [pad_len (HOK.out.bl k)]; exact HRB.out) (by rw [pad_len (HOK.out.bl k), HN8.out]; omega) (pad_lt (HOK.out.bb k))
        rw [e2] at r1
        have HB2 := hide hbs2
        have HP2 : Hid (pad (pad (t.by_ k)) = pad (t.shK (k + 1) at_)) := by show _ = _; rw [HST.out, pad_pad (HOK.out.bl k)]
        have HL2 : Hid ((pad (t.by_ k)).length ≤ blk) := by show _ ≤ _; rw [pad_len (HOK.out.bl k)]; exact Nat.le_refl _
        have z1 : (((t.at_ k : Nat) : Int) == (at_ : Int)) = true := by simp [hq]
        clear hbs2 e2 hq
        generalize (pad (t.by_ k)).length = l2 at *
        go_wp2
        go_roundw
        case rel => exact ⟨k + 1, _, _, _, _, by omega, by go_num, rfl, HB2.out, HL2.out, HP2.out, by first | rfl | trivial⟩
        case measure => simp [intOf]; omega
      · rw [if_neg hq] at HST
        have HP2 : Hid (pad ys = pad (t.shK (k + 1) at_)) := by show _ = _; rw [HST.out]; exact HPP.out
        have z1 : (((t.at_ k : Nat) : Int) == (at_ : Int)) = false := by simp; omega
        clear hq
        go_wp2
        go_roundw
        case rel => exact ⟨k + 1, _, _, _, _, by omega, by go_num, rfl, HBB.out, HLL.out, HP2.out, by first | rfl | trivial⟩
        case measure => simp [intOf]; omega
    · have ek : k = m := by omega
      have HP2 : Hid (pad ys = pad (t.show at_)) := by show _ = _; rw [HPP.out, ek, HSH.out]
      have HFU : Hid (Calls Try.prog 36 #[.slice a' l' c'] w fun e w' => e = .returned (.slice (some ⟨w.heap.size, 0, none⟩) N N) ∧ w'.ownsRow w.heap.size 5 1 (.slice (some ⟨w.heap.size, 0, none⟩) N N) N (cellsOf (pad (t.show at_))) ∧ Below w.heap.size w w') := by
        have := full_any a' l' c' ys w HBB.out HLL.out
        rw [HN.out, HP2.out] at this
        exact this
      clear ek
      go_wp2_with fail
      refine HFU.out.mono ?_
      rintro e w3 ⟨rfl, ho3, hb3⟩
      have HO3 := hide ho3
      have HB3 := hide hb3
      clear ho3 hb3
      go_wp2
      go_ret2
      exact ⟨_, rfl, HO3.out, HB3.out⟩
set_option maxRecDepth 100000 in
theorem writeR_down (at_ : Int) (v : Value) (h : RV B p gk vo kv wv kb t w) (hd : t.down = true) :
    Calls Try.prog 13 #[.pointer (some ⟨p, 0, none⟩), .int .i64 at_, v] w fun e w' => e = .returned (.int .i64 20) ∧ w' = w := by
  have d2 := h.d.2.2.1
  rw [hd] at d2
  clear h
  go_enter Try.func13, Try.ntmps13
  go_wp2
  go_ret
  exact ⟨rfl, rfl⟩
set_option maxRecDepth 100000 in
theorem writeR_arg (at_ : Int) (a : Option Addr) (len cap : Nat) (h : RV B p gk vo kv wv kb t w) (hd : t.down = false) (ha : ¬ (0 ≤ at_ ∧ at_ < t.n)) :
    Calls Try.prog 13 #[.pointer (some ⟨p, 0, none⟩), .int .i64 at_, .slice a len cap] w fun e w' => e = .returned (.int .i64 1) ∧ w' = w := by
  have d2 := h.d.2.2.1
  have d0 := h.d.1
  rw [hd] at d2
  clear h
  generalize t.n = n at *
  by_cases c1 : at_ < 0
  · have q1 : decide (at_ < 0) = true := decide_eq_true c1
    clear ha
    go_enter Try.func13, Try.ntmps13
    go_wp2
    go_ret
    exact ⟨rfl, rfl⟩
  · have q1 : decide (at_ < 0) = false := decide_eq_false c1
    have q2 : decide ((n : Int) ≤ at_) = true := decide_eq_true (by omega)
    clear ha
    go_enter Try.func13, Try.ntmps13
    go_wp2
    go_ret
    exact ⟨rfl, rfl⟩
set_option maxRecDepth 100000 in
theorem writeR_long (at_ : Int) (a : Option Addr) (len cap : Nat) (h : RV B p gk vo kv wv kb t w) (hd : t.down = false) (ha : 0 ≤ at_ ∧ at_ < t.n) (hl : blk < len) :
    Calls Try.prog 13 #[.pointer (some ⟨p, 0, none⟩), .int .i64 at_, .slice a len cap] w fun e w' => e = .returned (.int .i64 1) ∧ w' = w := by
  have d2 := h.d.2.2.1
  have d0 := h.d.1
  rw [hd] at d2
  clear h
  generalize t.n = n at *
  have q1 : decide (at_ < 0) = false := decide_eq_false (by omega)
  have q2 : decide ((n : Int) ≤ at_) = false := decide_eq_false (by omega)
  have q3 : decide ((8192 : Int) < (len : Int)) = true := decide_eq_true (by unfold blk at hl; omega)
  clear ha hl
  go_enter Try.func13, Try.ntmps13
  go_wp2
  go_ret
  exact ⟨rfl, rfl⟩
set_option maxRecDepth 100000 in
set_option maxHeartbeats 2000000 in
theorem writeR_fails (at_ : Int) (a : Option Addr) (len cap : Nat) (h : RV B p gk vo kv wv kb t w) (hB : B ≤ w.heap.size) (hd : t.down = false) (ha : 0 ≤ at_ ∧ at_ < t.n) (hl : len ≤ blk) (hf : t.after = 1) (hlf : t.life < 100000) :
    Calls Try.prog 13 #[.pointer (some ⟨p, 0, none⟩), .int .i64 at_, .slice a len cap] w fun e w' => e = .returned (.int .i64 20) ∧ RN b B p gk wv t.tick w w' := by
  have d2 := h.d.2.2.1
  have d0 := h.d.1
  rw [hd] at d2
  have HNW := hide (now_any (b := b) h hB hd hlf)
  rw [decide_eq_true hf] at HNW
  clear h
  generalize t.n = n at *
  have q1 : decide (at_ < 0) = false := decide_eq_false (by omega)
  have q2 : decide ((n : Int) ≤ at_) = false := decide_eq_false (by omega)
  have q3 : decide ((8192 : Int) < (len : Int)) = false := decide_eq_false (by unfold blk at hl; omega)
  clear ha hl hf
  go_enter Try.func13, Try.ntmps13
  go_wp2_with fail
  refine HNW.out.mono ?_
  rintro e w1 ⟨rfl, hR⟩
  have HR := hide hR
  clear hR
  go_wp2
  go_ret
  exact ⟨rfl, HR.out⟩
end
end Go.Proofs.Ytnapapgmeghgjaa
