/- Contract of the document's own Same: two lists of values are the same. -/
import Derived.Test.YtadkmnckjennoaaDoorJ3
set_option linter.unusedVariables false
namespace Go.Proofs.YtadkmnckjennoaaDoor
open Go.RowKit
attribute [local go_sem ↓] Go.wp_at_zero Go.wp_at_succ

theorem eqv_iff (x y : Val) : eqv x.1 x.2.1 x.2.2 y.1 y.2.1 y.2.2 = true ↔ x = y := by
  obtain ⟨k, n, s⟩ := x
  obtain ⟨l, m, t⟩ := y
  have hs : s.toList = t.toList ↔ s = t := by
    rw [ByteArray.toList_eq, ByteArray.toList_eq]
    constructor
    · intro h
      apply ByteArray.ext
      apply Array.ext'
      exact h
    · intro h; rw [h]
  simp only [eqv, Bool.and_eq_true, beq_iff_eq, Prod.mk.injEq, hs]

theorem same_at {a b : List Val} {k : Nat} (h1 : k < a.length) (h2 : k < b.length) : (a.drop k = b.drop k) ↔ (a.getD k v0 = b.getD k v0 ∧ a.drop (k + 1) = b.drop (k + 1)) := by
  rw [List.drop_eq_getElem_cons h1, List.drop_eq_getElem_cons h2]
  have e1 : a.getD k v0 = a[k] := by simp [List.getD, h1]
  have e2 : b.getD k v0 = b[k] := by simp [List.getD, h2]
  rw [e1, e2, List.cons.injEq]
def sameV (a b : List Val) : Bool := decide (a = b)
theorem sameV_true {a b : List Val} (h : a = b) : sameV a b = true := by unfold sameV; exact decide_eq_true_eq.mpr h
theorem sameV_false {a b : List Val} (h : ¬ a = b) : sameV a b = false := by unfold sameV; exact decide_eq_false_iff_not.mpr h

set_option maxRecDepth 100000 in
set_option maxHeartbeats 4000000 in
theorem same_any (a1 a2 : Option Addr) (n1 c1 n2 c2 : Nat) (xs ys : List Val) (w : World) (h1 : VS w a1 n1 c1 xs) (h2 : VS w a2 n2 c2 ys) :
    Calls Tryd.prog 19 #[.slice a1 n1 c1, .slice a2 n2 c2] w fun e w' => e = .returned (.bool (sameV xs ys)) ∧ Below w.heap.size w w' := by
  have H1 := hidj h1
  have H2 := hidj h2
  have m1 := h1.hmax
  have m2 := h2.hmax
  have q1 := h1.hcap
  have q2 := h2.hcap
  have hL1 := hidj h1.hlen
  have hL2 := hidj h2.hlen
  clear h1 h2
  by_cases hn : n1 = n2
  · subst hn
    go_enter Tryd.func19, Tryd.ntmps19
    go_wp2
    go_loopw [5] (fun i wr => ∃ k : Nat, k ≤ n1 ∧ i = .int .i64 k ∧ Below w.heap.size w wr ∧ (xs = ys ↔ xs.drop k = ys.drop k)) (fun i _ => n1 - (intOf i).toNat)
    case atStart => exact ⟨0, by omega, rfl, Below.refl _ _, by simp⟩
    case round =>
      obtain ⟨k, hk, rfl, hbel, heq⟩ := hrel
      have HE := hidj heq
      have HB := hidj hbel
      clear heq hbel
      by_cases hlt : k < n1
      · obtain ⟨b1, o1, e1⟩ := H1.out.hform (by omega)
        obtain ⟨b2, o2, e2⟩ := H2.out.hform (by omega)
        subst e1 e2
        have lx : k < xs.length := by rw [hL1.out]; omega
        have ly : k < ys.length := by rw [hL2.out]; omega
        obtain ⟨x, HX⟩ : ∃ x, Hid (xs.getD k v0 = x) := ⟨_, rfl⟩
        obtain ⟨y, HY⟩ : ∃ y, Hid (ys.getD k v0 = y) := ⟨_, rfl⟩
        have hc1 := H1.out.hcell b1 o1 rfl k hlt
        have hc2 := H2.out.hcell b2 o2 rfl k hlt
        have l1 := H1.out.lt (by omega)
        have l2 := H2.out.lt (by omega)
        have e1 : xs.getD k (0, 0, ⟨#[]⟩) = x := HX.out
        have e2 : ys.getD k (0, 0, ⟨#[]⟩) = y := HY.out
        rw [e1] at hc1
        rw [e2] at hc2
        have HQ := hidj (same_at lx ly)
        rw [HX.out, HY.out] at HQ
        have HV := hidj (eqv_iff x y)
        have hb := HB.out
        obtain ⟨xk, xn, xt⟩ := x
        obtain ⟨yk, yn, yt⟩ := y
        have HC : Hid ((wr.drew.cell? ⟨b1, o1 + k * 3, none⟩ = some (.int .i64 xk) ∧ wr.drew.cell? ⟨b1, o1 + k * 3 + 1, none⟩ = some (.int .i64 xn) ∧ wr.drew.cell? ⟨b1, o1 + k * 3 + 2, none⟩ = some (.string xt)) ∧ (wr.drew.cell? ⟨b2, o2 + k * 3, none⟩ = some (.int .i64 yk) ∧ wr.drew.cell? ⟨b2, o2 + k * 3 + 1, none⟩ = some (.int .i64 yn) ∧ wr.drew.cell? ⟨b2, o2 + k * 3 + 2, none⟩ = some (.string yt))) :=
          ⟨⟨(hb.cell l1).trans hc1.1, (hb.cell l1).trans hc1.2.1, (hb.cell l1).trans hc1.2.2⟩, (hb.cell l2).trans hc2.1, (hb.cell l2).trans hc2.2.1, (hb.cell l2).trans hc2.2.2⟩
        have i0 : (0 : Int) ≤ (k : Int) := by omega
        have i1 : (k : Int) < (n1 : Int) := by omega
        have g1 : ∀ ww, (binOp .neq 23 (.agg #[.int .i64 xk, .int .i64 xn, .string xt]) (.agg #[.int .i64 yk, .int .i64 yn, .string yt])).run Tryd.prog ww = .ok (.bool (!(eqv xk xn xt yk yn yt))) ww := fun ww => neq_av xk xn xt yk yn yt ww
        have g2 : ∀ p q ww, (eqGuard .neq 23 p q (.agg #[.int .i64 xk, .int .i64 xn, .string xt]) (.agg #[.int .i64 yk, .int .i64 yn, .string yt])).run Tryd.prog ww = .ok () ww := fun p q ww => run_eqGuard_agg ww .neq _ p q _ _ guardT_av
        simp only at HV
        clear hc1 hc2 e1 e2 hb
        cases hE : eqv xk xn xt yk yn yt with
        | true =>
          rw [hE] at g1
          go_wp2_with fail
          go_region_held3 (fun wx => (wx.cell? ⟨b1, o1 + k * 3, none⟩ = some (.int .i64 xk) ∧ wx.cell? ⟨b1, o1 + k * 3 + 1, none⟩ = some (.int .i64 xn) ∧ wx.cell? ⟨b1, o1 + k * 3 + 2, none⟩ = some (.string xt)) ∧ (wx.cell? ⟨b2, o2 + k * 3, none⟩ = some (.int .i64 yk) ∧ wx.cell? ⟨b2, o2 + k * 3 + 1, none⟩ = some (.int .i64 yn) ∧ wx.cell? ⟨b2, o2 + k * 3 + 2, none⟩ = some (.string yt)))
            (exact HC.out) (fail)
          go_wp2
          go_roundw
          case rel =>
            refine ⟨k + 1, by omega, by go_num, HB.out.drew, ?_⟩
            rw [HE.out, HQ.out]
            exact ⟨fun h => h.2, fun h => ⟨HV.out.1 hE, h⟩⟩
          case measure => simp [intOf]; omega
        | false =>
          rw [hE] at g1
          have HN : Hid (sameV xs ys = false) := by
            apply sameV_false
            rw [HE.out, HQ.out]
            intro h
            have := HV.out.2 h.1
            rw [hE] at this
            cases this
          go_wp2_with fail
          go_region_held3 (fun wx => (wx.cell? ⟨b1, o1 + k * 3, none⟩ = some (.int .i64 xk) ∧ wx.cell? ⟨b1, o1 + k * 3 + 1, none⟩ = some (.int .i64 xn) ∧ wx.cell? ⟨b1, o1 + k * 3 + 2, none⟩ = some (.string xt)) ∧ (wx.cell? ⟨b2, o2 + k * 3, none⟩ = some (.int .i64 yk) ∧ wx.cell? ⟨b2, o2 + k * 3 + 1, none⟩ = some (.int .i64 yn) ∧ wx.cell? ⟨b2, o2 + k * 3 + 2, none⟩ = some (.string yt)))
            (exact HC.out) (fail)
          go_wp2
          go_ret
          rw [HN.out]
          exact ⟨rfl, HB.out.drew⟩
      · go_wp2
        go_ret
        have e1 : xs.drop k = [] := List.drop_eq_nil_of_le (by rw [hL1.out]; omega)
        have e2 : ys.drop k = [] := List.drop_eq_nil_of_le (by rw [hL2.out]; omega)
        rw [sameV_true (HE.out.2 (by rw [e1, e2]))]
        exact ⟨rfl, HB.out⟩
  · have hne : ((n1 : Int) != (n2 : Int)) = true := by simp; omega
    have HN : Hid (sameV xs ys = false) := by
      apply sameV_false
      intro h
      apply hn
      rw [← hL1.out, ← hL2.out, h]
    go_enter Tryd.func19, Tryd.ntmps19
    go_wp2
    go_ret
    rw [HN.out]
    exact ⟨rfl, Below.refl _ _⟩
end Go.Proofs.YtadkmnckjennoaaDoor
