/- Contract of keys.Compare: two lists of values, each Right. -/
import Derived.Test.YtadkmnckjennoaaDoorX3
import Derived.Test.YtadkmnckjennoaaDoorR4
set_option linter.unusedVariables false
namespace Go.Proofs.YtadkmnckjennoaaDoor
open Go.RowKit
attribute [local go_sem ↓] Go.wp_at_zero Go.wp_at_succ

def Val.held (x : Val) : H := holdOf x.1 x.2.1 x.2.2
def cmpV (x y : Val) : Int := cmpH x.held y.held
def cmpVs : List Val → List Val → Int
  | [], [] => 0
  | [], _ :: _ => -1
  | _ :: _, [] => 1
  | x :: a, y :: b => if cmpV x y = 0 then cmpVs a b else cmpV x y


theorem cmpVs_at {a b : List Val} {k : Nat} (h1 : k < a.length) (h2 : k < b.length) : cmpVs (a.drop k) (b.drop k) = if cmpV (a.getD k v0) (b.getD k v0) = 0 then cmpVs (a.drop (k + 1)) (b.drop (k + 1)) else cmpV (a.getD k v0) (b.getD k v0) := by
  rw [List.drop_eq_getElem_cons h1, List.drop_eq_getElem_cons h2]
  have e1 : a.getD k v0 = a[k] := by simp [List.getD, h1]
  have e2 : b.getD k v0 = b[k] := by simp [List.getD, h2]
  rw [e1, e2]
  rfl
theorem cmpVs_end {a b : List Val} {k : Nat} (h : ¬ k < min a.length b.length) (hk : k ≤ min a.length b.length) : cmpVs (a.drop k) (b.drop k) = Lib.compareInt a.length b.length := by
  unfold Lib.compareInt
  by_cases h1 : a.length < b.length
  · have e1 : a.drop k = [] := List.drop_eq_nil_of_le (by omega)
    rw [e1, List.drop_eq_getElem_cons (by omega), if_pos (by omega)]
    rfl
  · by_cases h2 : b.length < a.length
    · have e1 : b.drop k = [] := List.drop_eq_nil_of_le (by omega)
      rw [e1, List.drop_eq_getElem_cons (by omega), if_neg (by omega), if_pos (by omega)]
      rfl
    · have e1 : a.drop k = [] := List.drop_eq_nil_of_le (by omega)
      have e2 : b.drop k = [] := List.drop_eq_nil_of_le (by omega)
      rw [e1, e2, if_neg (by omega), if_neg (by omega)]
      rfl
theorem held_text {x : Val} {s : ByteArray} (h : x.held = .text s) : x.1 = 2 ∧ s = x.2.2 := by
  obtain ⟨k, n, t⟩ := x
  unfold Val.held holdOf at h
  simp only at h
  split at h
  · cases h
  · split at h
    · cases h
    · split at h
      · rename_i h2
        cases h
        exact ⟨h2, rfl⟩
      · split at h <;> cases h
theorem utf_right {x : Val} (h : x.err = 0) : x.held.utf := by
  cases hh : x.held with
  | text s =>
    obtain ⟨h1, h2⟩ := held_text hh
    subst h2
    exact (right_kind h).2 h1
  | _ => exact trivial

/-- Two values that lie in the world. -/
structure C2x (w : World) (b1 o1 b2 o2 k : Nat) (x y : Val) (wx : World) : Prop where
  x0 : wx.cell? ⟨b1, o1 + k * 3, none⟩ = some (.int .i64 x.1)
  x1 : wx.cell? ⟨b1, o1 + k * 3 + 1, none⟩ = some (.int .i64 x.2.1)
  x2 : wx.cell? ⟨b1, o1 + k * 3 + 2, none⟩ = some (.string x.2.2)
  y0 : wx.cell? ⟨b2, o2 + k * 3, none⟩ = some (.int .i64 y.1)
  y1 : wx.cell? ⟨b2, o2 + k * 3 + 1, none⟩ = some (.int .i64 y.2.1)
  y2 : wx.cell? ⟨b2, o2 + k * 3 + 2, none⟩ = some (.string y.2.2)
  bel : Below w.heap.size w wx
  l1 : b1 < wx.heap.size
  l2 : b2 < wx.heap.size
  tab : Lib.Utf8Tabs 0 1 wx
theorem C2x.next {w w1 w2 : World} {b1 o1 b2 o2 k : Nat} {x y : Val} (h : Hid (C2x w b1 o1 b2 o2 k x y w1)) (hb : Below w1.heap.size w1 w2) : Hid (C2x w b1 o1 b2 o2 k x y w2) :=
  ⟨(hb.cell h.out.l1).trans h.out.x0, (hb.cell h.out.l1).trans h.out.x1, (hb.cell h.out.l1).trans h.out.x2, (hb.cell h.out.l2).trans h.out.y0, (hb.cell h.out.l2).trans h.out.y1, (hb.cell h.out.l2).trans h.out.y2, h.out.bel.trans (hb.mono h.out.bel.size), Nat.lt_of_lt_of_le h.out.l1 hb.size, Nat.lt_of_lt_of_le h.out.l2 hb.size, Utf8Tabs_below h.out.tab hb⟩

set_option maxRecDepth 100000 in
set_option maxHeartbeats 4000000 in
theorem compare_any (a1 a2 : Option Addr) (n1 c1 n2 c2 : Nat) (xs ys : List Val) (w : World) (h1 : VS w a1 n1 c1 xs) (h2 : VS w a2 n2 c2 ys) (r1 : ∀ x ∈ xs, x.err = 0) (r2 : ∀ y ∈ ys, y.err = 0) (hT : Lib.Utf8Tabs 0 1 w) :
    Calls Tryd.prog 21 #[.slice a1 n1 c1, .slice a2 n2 c2] w fun e w' => e = .returned (.int .i64 (cmpVs xs ys)) ∧ Below w.heap.size w w' := by
  have H1 := hidx h1
  have H2 := hidx h2
  have R1 := hidx r1
  have R2 := hidx r2
  have HT := hidx hT
  have m1 := h1.hmax
  have m2 := h2.hmax
  have q1 := h1.hcap
  have q2 := h2.hcap
  have kh := hold_any
  unfold av at kh
  obtain ⟨M, hM⟩ : ∃ M : Nat, Hid (M = min n1 n2) := ⟨_, rfl⟩
  have hMi : min (n1 : Int) (n2 : Int) = (M : Int) := by rw [hM.out]; omega
  have hM1 : M ≤ n1 := by rw [hM.out]; omega
  have hM2 : M ≤ n2 := by rw [hM.out]; omega
  have hL1 := hidx h1.hlen
  have hL2 := hidx h2.hlen
  clear h1 h2 r1 r2 hT
  go_enter Tryd.func21, Tryd.ntmps21
  go_wp2
  go_loopw [12] (fun i wr => ∃ k : Nat, k ≤ M ∧ i = .int .i64 k ∧ Below w.heap.size w wr ∧ Lib.Utf8Tabs 0 1 wr ∧ cmpVs xs ys = cmpVs (xs.drop k) (ys.drop k)) (fun i _ => M - (intOf i).toNat)
  case atStart => exact ⟨0, by omega, rfl, Below.refl _ _, HT.out, rfl⟩
  case round =>
    obtain ⟨k, hk, rfl, hbel, htab, heq⟩ := hrel
    have HE := hidx heq
    have HB := hidx hbel
    have HTB := hidx htab
    clear heq hbel htab
    by_cases hlt : k < M
    · obtain ⟨b1, o1, e1⟩ := H1.out.hform (by omega)
      obtain ⟨b2, o2, e2⟩ := H2.out.hform (by omega)
      subst e1 e2
      have lx : k < xs.length := by rw [hL1.out]; omega
      have ly : k < ys.length := by rw [hL2.out]; omega
      obtain ⟨x, HX⟩ : ∃ x, Hid (xs.getD k v0 = x) := ⟨_, rfl⟩
      obtain ⟨y, HY⟩ : ∃ y, Hid (ys.getD k v0 = y) := ⟨_, rfl⟩
      have hc1 := H1.out.hcell b1 o1 rfl k (by omega)
      have hc2 := H2.out.hcell b2 o2 rfl k (by omega)
      have mx : x ∈ xs := by rw [← HX.out]; simp [List.getD, lx]
      have my : y ∈ ys := by rw [← HY.out]; simp [List.getD, ly]
      have l1 := H1.out.lt (by omega)
      have l2 := H2.out.lt (by omega)
      have okx := H1.out.hok x mx
      have ux := utf_right (R1.out x mx)
      have uy := utf_right (R2.out y my)
      have hzx : ∀ s, x.held = .text s → s.size ≤ 16777216 := by
        intro s hs
        obtain ⟨_, rfl⟩ := held_text hs
        exact okx.2.2.2.2
      have ct := fun ww (hh : Lib.Utf8Tabs 0 1 ww) => compareHeld_any x.held y.held ww ux uy hzx hh
      have HQ := hidx (cmpVs_at lx ly)
      rw [HX.out, HY.out] at HQ
      have HC : Hid (C2x w b1 o1 b2 o2 k x y wr.drew) := by
        have hc1' := hc1
        have hc2' := hc2
        have e1 : xs.getD k (0, 0, ⟨#[]⟩) = x := HX.out
        have e2 : ys.getD k (0, 0, ⟨#[]⟩) = y := HY.out
        rw [e1] at hc1'
        rw [e2] at hc2'
        have hb := HB.out
        exact ⟨(hb.cell l1).trans hc1'.1, (hb.cell l1).trans hc1'.2.1, (hb.cell l1).trans hc1'.2.2, (hb.cell l2).trans hc2'.1, (hb.cell l2).trans hc2'.2.1, (hb.cell l2).trans hc2'.2.2, hb.drew, Nat.lt_of_lt_of_le l1 hb.size, Nat.lt_of_lt_of_le l2 hb.size, HTB.out⟩
      have i0 : (0 : Int) ≤ (k : Int) := by omega
      have i1 : (k : Int) < (n1 : Int) := by omega
      have i2 : (k : Int) < (n2 : Int) := by omega
      obtain ⟨xk, xn, xt⟩ := x
      obtain ⟨yk, yn, yt⟩ := y
      have ex : Val.held (xk, xn, xt) = holdOf xk xn xt := rfl
      have ey : Val.held (yk, yn, yt) = holdOf yk yn yt := rfl
      rw [ex, ey] at ct
      have ecv : cmpV (xk, xn, xt) (yk, yn, yt) = cmpH (holdOf xk xn xt) (holdOf yk yn yt) := rfl
      rw [ecv] at HQ
      generalize cmpH (holdOf xk xn xt) (holdOf yk yn yt) = c at ct HQ
      clear hc1 hc2 mx my okx ux uy hzx ex ey ecv
      by_cases hc : c = 0
      · subst hc
        go_wp2_with fail
        go_region_held3 (fun wx => (wx.cell? ⟨b1, o1 + k * 3, none⟩ = some (.int .i64 xk) ∧ wx.cell? ⟨b1, o1 + k * 3 + 1, none⟩ = some (.int .i64 xn) ∧ wx.cell? ⟨b1, o1 + k * 3 + 2, none⟩ = some (.string xt)) ∧ (wx.cell? ⟨b2, o2 + k * 3, none⟩ = some (.int .i64 yk) ∧ wx.cell? ⟨b2, o2 + k * 3 + 1, none⟩ = some (.int .i64 yn) ∧ wx.cell? ⟨b2, o2 + k * 3 + 2, none⟩ = some (.string yt)))
          (exact ⟨⟨HC.out.x0, HC.out.x1, HC.out.x2⟩, HC.out.y0, HC.out.y1, HC.out.y2⟩)
          (first
          | (go_at_call 33; refine (kh _ _ _ _).mono ?_; rintro e wn ⟨rfl, hbn⟩; have HC := C2x.next HC hbn; clear hbn)
          | (go_at_call 32; refine (ct _ HC.out.tab).mono ?_; rintro e wn ⟨rfl, hbn⟩; have HC := C2x.next HC hbn; clear hbn))
        go_wp2
        go_roundw
        case rel =>
          refine ⟨k + 1, by omega, by go_num, HC.out.bel, HC.out.tab, ?_⟩
          rw [HE.out, HQ.out]; simp
        case measure => simp [intOf]; omega
      · have hne : (c != 0) = true := by simp [hc]
        go_wp2_with fail
        go_region_held3 (fun wx => (wx.cell? ⟨b1, o1 + k * 3, none⟩ = some (.int .i64 xk) ∧ wx.cell? ⟨b1, o1 + k * 3 + 1, none⟩ = some (.int .i64 xn) ∧ wx.cell? ⟨b1, o1 + k * 3 + 2, none⟩ = some (.string xt)) ∧ (wx.cell? ⟨b2, o2 + k * 3, none⟩ = some (.int .i64 yk) ∧ wx.cell? ⟨b2, o2 + k * 3 + 1, none⟩ = some (.int .i64 yn) ∧ wx.cell? ⟨b2, o2 + k * 3 + 2, none⟩ = some (.string yt)))
          (exact ⟨⟨HC.out.x0, HC.out.x1, HC.out.x2⟩, HC.out.y0, HC.out.y1, HC.out.y2⟩)
          (first
          | (go_at_call 33; refine (kh _ _ _ _).mono ?_; rintro e wn ⟨rfl, hbn⟩; have HC := C2x.next HC hbn; clear hbn)
          | (go_at_call 32; refine (ct _ HC.out.tab).mono ?_; rintro e wn ⟨rfl, hbn⟩; have HC := C2x.next HC hbn; clear hbn))
        go_wp2
        go_ret
        rw [HE.out, HQ.out, if_neg hc]
        exact ⟨rfl, HC.out.bel⟩
    · have hfin := cmpVs_end (a := xs) (b := ys) (k := k) (by rw [hL1.out, hL2.out, ← hM.out]; exact hlt) (by rw [hL1.out, hL2.out, ← hM.out]; exact hk)
      rw [hL1.out, hL2.out] at hfin
      have HF := hidx hfin
      clear hfin
      go_wp2_with (go_at_call 34; refine (Tryd.cmp_Compare_int _ _ _).mono ?_; rintro e w3 ⟨rfl, hw3⟩; have hw3 := hw3.symm; subst hw3)
      go_ret
      rw [HE.out, HF.out]
      exact ⟨rfl, HB.out⟩
end Go.Proofs.YtadkmnckjennoaaDoor
