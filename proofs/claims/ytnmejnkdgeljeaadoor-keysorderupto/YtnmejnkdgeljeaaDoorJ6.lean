/- Contract of the document's own Compare: two lists of Right values. -/
import Derived.Test.YtnmejnkdgeljeaaDoorJ5
import Derived.Test.YtnmejnkdgeljeaaDoorK3
set_option linter.unusedVariables false
namespace Go.Proofs.YtnmejnkdgeljeaaDoor
open Go.RowKit
attribute [local go_sem ↓] Go.wp_at_zero Go.wp_at_succ

theorem one_any (x y : Val) (w : World) (hx : x.err = 0) (hy : y.err = 0) (sx : x.2.2.size ≤ 1048576) (sy : y.2.2.size ≤ 1048576) :
    Calls Tryd.prog 35 #[av x.1 x.2.1 x.2.2, av y.1 y.2.1 y.2.2] w fun e w' => e = .returned (.int .i64 (cmpV x y)) ∧ Below w.heap.size w w' := by
  by_cases h : x.1 = y.1
  · by_cases h2 : x.1 = 2
    · obtain ⟨k, n, s⟩ := x
      obtain ⟨l, m, t⟩ := y
      simp only at h h2 sx sy ⊢
      subst h h2
      unfold Val.err at hx hy
      simp only at hx hy
      obtain ⟨rs, hr⟩ := (right_kind hx).2 rfl
      obtain ⟨qs, hq⟩ := (right_kind hy).2 rfl
      rw [r2] at hx hy
      have hn : n = 0 := Classical.byContradiction fun hc => by rw [if_neg hc] at hx; cases hx
      have hm : m = 0 := Classical.byContradiction fun hc => by rw [if_neg hc] at hy; cases hy
      subst hn hm
      refine (one_text s t rs qs w sx sy hr hq).mono ?_
      rintro e w' ⟨rfl, hb⟩
      refine ⟨?_, hb⟩
      have e1 : cmpV (2, 0, s) (2, 0, t) = cmpL rs qs := by simp [cmpV, Val.held, holdOf, cmpH, hr, hq]
      rw [e1]
    · refine (one_plain x y w h h2).mono ?_
      rintro e w' ⟨rfl, hb⟩
      refine ⟨?_, hb⟩
      have e1 : cmpV x y = Lib.compareInt x.2.1 y.2.1 := by
        obtain ⟨k, n, s⟩ := x
        obtain ⟨l, m, t⟩ := y
        simp only at h h2 ⊢
        subst h
        unfold Val.err at hx hy
        simp only at hx hy
        rcases (right_kind hx).1 with rfl | rfl | rfl | rfl
        · rw [r0] at hx hy
          have hn : n = 0 := Classical.byContradiction fun hc => by rw [if_neg (fun q => hc q.1)] at hx; cases hx
          have hm : m = 0 := Classical.byContradiction fun hc => by rw [if_neg (fun q => hc q.1)] at hy; cases hy
          subst hn hm
          simp [cmpV, Val.held, holdOf, cmpH, H.kind, Lib.compareInt]
        · simp [cmpV, Val.held, holdOf, cmpH]
        · exact absurd rfl h2
        · rw [r3] at hx hy
          have hn : n = 0 ∨ n = 1 := Classical.byContradiction fun hc => by rw [if_neg (fun q => hc q.2)] at hx; cases hx
          have hm : m = 0 ∨ m = 1 := Classical.byContradiction fun hc => by rw [if_neg (fun q => hc q.2)] at hy; cases hy
          rcases hn with rfl | rfl <;> rcases hm with rfl | rfl <;> simp [cmpV, Val.held, holdOf, cmpH, bi, Lib.compareInt]
      rw [e1]
  · refine (one_kinds x y w h).mono ?_
    rintro e w' ⟨rfl, hb⟩
    refine ⟨?_, hb⟩
    have e1 : cmpV x y = Lib.compareInt x.1 y.1 := by
      obtain ⟨k, n, s⟩ := x
      obtain ⟨l, m, t⟩ := y
      simp only at h ⊢
      unfold Val.err at hx hy
      simp only at hx hy
      rcases (right_kind hx).1 with rfl | rfl | rfl | rfl <;> rcases (right_kind hy).1 with rfl | rfl | rfl | rfl
      all_goals first | exact absurd rfl h | simp [cmpV, Val.held, holdOf, cmpH, H.kind, Lib.compareInt]
    rw [e1]

/-- Two values that lie in the world; no table. -/
structure C3x (w : World) (b1 o1 b2 o2 k : Nat) (x y : Val) (wx : World) : Prop where
  x0 : wx.cell? ⟨b1, o1 + k * 3, none⟩ = some (.int .i64 x.1)
  x1 : wx.cell? ⟨b1, o1 + k * 3 + 1, none⟩ = some (.int .i64 x.2.1)
  x2 : wx.cell? ⟨b1, o1 + k * 3 + 2, none⟩ = some (.string x.2.2)
  y0 : wx.cell? ⟨b2, o2 + k * 3, none⟩ = some (.int .i64 y.1)
  y1 : wx.cell? ⟨b2, o2 + k * 3 + 1, none⟩ = some (.int .i64 y.2.1)
  y2 : wx.cell? ⟨b2, o2 + k * 3 + 2, none⟩ = some (.string y.2.2)
  bel : Below w.heap.size w wx
  l1 : b1 < wx.heap.size
  l2 : b2 < wx.heap.size
theorem C3x.next {w w1 w2 : World} {b1 o1 b2 o2 k : Nat} {x y : Val} (h : Hid (C3x w b1 o1 b2 o2 k x y w1)) (hb : Below w1.heap.size w1 w2) : Hid (C3x w b1 o1 b2 o2 k x y w2) :=
  ⟨(hb.cell h.out.l1).trans h.out.x0, (hb.cell h.out.l1).trans h.out.x1, (hb.cell h.out.l1).trans h.out.x2, (hb.cell h.out.l2).trans h.out.y0, (hb.cell h.out.l2).trans h.out.y1, (hb.cell h.out.l2).trans h.out.y2, h.out.bel.trans (hb.mono h.out.bel.size), Nat.lt_of_lt_of_le h.out.l1 hb.size, Nat.lt_of_lt_of_le h.out.l2 hb.size⟩

set_option maxRecDepth 100000 in
set_option maxHeartbeats 4000000 in
theorem refCompare_any (a1 a2 : Option Addr) (n1 c1 n2 c2 : Nat) (xs ys : List Val) (w : World) (h1 : VS w a1 n1 c1 xs) (h2 : VS w a2 n2 c2 ys) (r1 : ∀ x ∈ xs, x.err = 0) (r2 : ∀ y ∈ ys, y.err = 0) (s1 : ∀ x ∈ xs, x.2.2.size ≤ 1048576) (s2 : ∀ y ∈ ys, y.2.2.size ≤ 1048576) :
    Calls Tryd.prog 22 #[.slice a1 n1 c1, .slice a2 n2 c2] w fun e w' => e = .returned (.int .i64 (cmpVs xs ys)) ∧ Below w.heap.size w w' := by
  have H1 := hidj h1
  have H2 := hidj h2
  have R1 := hidj r1
  have R2 := hidj r2
  have S1 := hidj s1
  have S2 := hidj s2
  have m1 := h1.hmax
  have m2 := h2.hmax
  have q1 := h1.hcap
  have q2 := h2.hcap
  obtain ⟨M, hM⟩ : ∃ M : Nat, Hid (M = min n1 n2) := ⟨_, rfl⟩
  have hM1 : M ≤ n1 := by rw [hM.out]; omega
  have hM2 : M ≤ n2 := by rw [hM.out]; omega
  have hL1 := hidj h1.hlen
  have hL2 := hidj h2.hlen
  clear h1 h2 r1 r2 s1 s2
  go_enter Tryd.func22, Tryd.ntmps22
  go_wp2
  go_loopw [5] (fun i wr => ∃ k : Nat, k ≤ M ∧ i = .int .i64 k ∧ Below w.heap.size w wr ∧ cmpVs xs ys = cmpVs (xs.drop k) (ys.drop k)) (fun i _ => M - (intOf i).toNat)
  case atStart => exact ⟨0, by omega, rfl, Below.refl _ _, rfl⟩
  case round =>
    obtain ⟨k, hk, rfl, hbel, heq⟩ := hrel
    have HE := hidj heq
    have HB := hidj hbel
    clear heq hbel
    by_cases hlt : k < M
    · obtain ⟨b1, o1, e1⟩ := H1.out.hform (by omega)
      obtain ⟨b2, o2, e2⟩ := H2.out.hform (by omega)
      subst e1 e2
      have lx : k < xs.length := by rw [hL1.out]; omega
      have ly : k < ys.length := by rw [hL2.out]; omega
      obtain ⟨x, HX⟩ : ∃ x, Hid (xs.getD k v0 = x) := ⟨_, rfl⟩
      obtain ⟨y, HY⟩ : ∃ y, Hid (ys.getD k v0 = y) := ⟨_, rfl⟩
      have hc1 := H1.out.hcell b1 o1 rfl k (by omega)
      have hc2 := H2.out.hcell b2 o2 rfl k (by omega)
      have mx : x ∈ xs := by rw [← HX.out]; simp [List.getD, lx]
      have my : y ∈ ys := by rw [← HY.out]; simp [List.getD, ly]
      have l1 := H1.out.lt (by omega)
      have l2 := H2.out.lt (by omega)
      have ct := fun ww => one_any x y ww (R1.out x mx) (R2.out y my) (S1.out x mx) (S2.out y my)
      unfold av at ct
      have HQ := hidj (cmpVs_at lx ly)
      rw [HX.out, HY.out] at HQ
      have HC : Hid (C3x w b1 o1 b2 o2 k x y wr.drew) := by
        have hc1' := hc1
        have hc2' := hc2
        have e1 : xs.getD k (0, 0, ⟨#[]⟩) = x := HX.out
        have e2 : ys.getD k (0, 0, ⟨#[]⟩) = y := HY.out
        rw [e1] at hc1'
        rw [e2] at hc2'
        have hb := HB.out
        exact ⟨(hb.cell l1).trans hc1'.1, (hb.cell l1).trans hc1'.2.1, (hb.cell l1).trans hc1'.2.2, (hb.cell l2).trans hc2'.1, (hb.cell l2).trans hc2'.2.1, (hb.cell l2).trans hc2'.2.2, hb.drew, Nat.lt_of_lt_of_le l1 hb.size, Nat.lt_of_lt_of_le l2 hb.size⟩
      have i0 : (0 : Int) ≤ (k : Int) := by omega
      have i1 : (k : Int) < (n1 : Int) := by omega
      have i2 : (k : Int) < (n2 : Int) := by omega
      generalize cmpV x y = c at ct HQ
      obtain ⟨xk, xn, xt⟩ := x
      obtain ⟨yk, yn, yt⟩ := y
      simp only at ct
      clear hc1 hc2 mx my
      by_cases hc : c = 0
      · subst hc
        go_wp2_with fail
        go_region_held3 (fun wx => (wx.cell? ⟨b1, o1 + k * 3, none⟩ = some (.int .i64 xk) ∧ wx.cell? ⟨b1, o1 + k * 3 + 1, none⟩ = some (.int .i64 xn) ∧ wx.cell? ⟨b1, o1 + k * 3 + 2, none⟩ = some (.string xt)) ∧ (wx.cell? ⟨b2, o2 + k * 3, none⟩ = some (.int .i64 yk) ∧ wx.cell? ⟨b2, o2 + k * 3 + 1, none⟩ = some (.int .i64 yn) ∧ wx.cell? ⟨b2, o2 + k * 3 + 2, none⟩ = some (.string yt)))
          (exact ⟨⟨HC.out.x0, HC.out.x1, HC.out.x2⟩, HC.out.y0, HC.out.y1, HC.out.y2⟩)
          (first
          | (go_at_call 35; refine (ct _).mono ?_; rintro e wn ⟨rfl, hbn⟩; have HC := C3x.next HC hbn; clear hbn))
        go_wp2
        go_roundw
        case rel =>
          refine ⟨k + 1, by omega, by go_num, HC.out.bel, ?_⟩
          rw [HE.out, HQ.out]; simp
        case measure => simp [intOf]; omega
      · have hne : (c != 0) = true := by simp [hc]
        go_wp2_with fail
        go_region_held3 (fun wx => (wx.cell? ⟨b1, o1 + k * 3, none⟩ = some (.int .i64 xk) ∧ wx.cell? ⟨b1, o1 + k * 3 + 1, none⟩ = some (.int .i64 xn) ∧ wx.cell? ⟨b1, o1 + k * 3 + 2, none⟩ = some (.string xt)) ∧ (wx.cell? ⟨b2, o2 + k * 3, none⟩ = some (.int .i64 yk) ∧ wx.cell? ⟨b2, o2 + k * 3 + 1, none⟩ = some (.int .i64 yn) ∧ wx.cell? ⟨b2, o2 + k * 3 + 2, none⟩ = some (.string yt)))
          (exact ⟨⟨HC.out.x0, HC.out.x1, HC.out.x2⟩, HC.out.y0, HC.out.y1, HC.out.y2⟩)
          (first
          | (go_at_call 35; refine (ct _).mono ?_; rintro e wn ⟨rfl, hbn⟩; have HC := C3x.next HC hbn; clear hbn))
        go_wp2
        go_ret
        rw [HE.out, HQ.out, if_neg hc]
        exact ⟨rfl, HC.out.bel⟩
    · have hfin := cmpVs_end (a := xs) (b := ys) (k := k) (by rw [hL1.out, hL2.out, ← hM.out]; exact hlt) (by rw [hL1.out, hL2.out, ← hM.out]; exact hk)
      rw [hL1.out, hL2.out] at hfin
      have HF := hidj hfin
      clear hfin
      by_cases hx : k < n1
      · have hz : ¬ k < n2 := by have := hM.out; omega
        go_wp2_with (go_at_call 36; refine (sign_any _ _ _).mono ?_; rintro e w3 ⟨rfl, hw3⟩; have hw3 := hw3.symm; subst hw3)
        go_ret
        rw [HE.out, HF.out]
        exact ⟨rfl, HB.out⟩
      · go_wp2_with (go_at_call 36; refine (sign_any _ _ _).mono ?_; rintro e w3 ⟨rfl, hw3⟩; have hw3 := hw3.symm; subst hw3)
        go_ret
        rw [HE.out, HF.out]
        exact ⟨rfl, HB.out⟩
end Go.Proofs.YtnmejnkdgeljeaaDoor
