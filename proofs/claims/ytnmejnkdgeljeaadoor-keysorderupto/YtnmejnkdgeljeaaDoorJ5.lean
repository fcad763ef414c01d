/- Contract of the document's own Compare, from below: sign, one. -/
import Derived.Test.YtnmejnkdgeljeaaDoorJ4
import Derived.Test.YtnmejnkdgeljeaaDoorE3
set_option linter.unusedVariables false
namespace Go.Proofs.YtnmejnkdgeljeaaDoor
open Go.RowKit

theorem sign_any (x y : Int) (w : World) : Calls Tryd.prog 36 #[.int .i64 x, .int .i64 y] w fun e w' => e = .returned (.int .i64 (Lib.compareInt x y)) ∧ w' = w := by
  unfold Lib.compareInt
  by_cases h1 : x < y
  · go_enter Tryd.func36, Tryd.ntmps36
    go_wp2
    go_ret
    simp
  · by_cases h2 : y < x
    · go_enter Tryd.func36, Tryd.ntmps36
      go_wp2
      go_ret
      exact ⟨by first | rfl | simp, rfl⟩
    · go_enter Tryd.func36, Tryd.ntmps36
      go_wp2
      go_ret
      exact ⟨by first | rfl | simp, rfl⟩

theorem two_alloc (w : World) (o p : Obj) : Below w.heap.size w ((w.alloc o).alloc p) :=
  have h := (Below.refl w.heap.size w).alloc (Nat.le_refl _) o
  h.alloc h.size p
theorem two_size (w : World) (o p : Obj) : w.heap.size + 1 < ((w.alloc o).alloc p).heap.size := by
  have e1 : ((w.alloc o).alloc p).heap.size = (w.alloc o).heap.size + 1 := by simp
  have e2 : (w.alloc o).heap.size = w.heap.size + 1 := by simp
  omega
theorem two_cell (w : World) (o : Obj) (k n : Int) (s : ByteArray) (t : TypeId) : ((w.alloc o).alloc (.cells #[.int .i64 k, .int .i64 n, .string s] t)).cell? ⟨w.heap.size + 1, 2, none⟩ = some (.string s) := by
  have h := news_av (w.alloc o) k n s t 2 (.string s) rfl
  have e2 : (w.alloc o).heap.size = w.heap.size + 1 := by simp
  rw [e2] at h
  exact h
theorem one_kinds (x y : Val) (w : World) (h : x.1 ≠ y.1) : Calls Tryd.prog 35 #[av x.1 x.2.1 x.2.2, av y.1 y.2.1 y.2.2] w fun e w' => e = .returned (.int .i64 (Lib.compareInt x.1 y.1)) ∧ Below w.heap.size w w' := by
  obtain ⟨k, n, s⟩ := x
  obtain ⟨l, m, t⟩ := y
  simp only at h ⊢
  unfold av
  have h1 : (k != l) = true := by simp [h]
  go_enter Tryd.func35, Tryd.ntmps35
  go_wp2_with (go_at_call 36; refine (sign_any _ _ _).mono ?_; rintro e w3 ⟨rfl, hw3⟩; have hw3 := hw3.symm; subst hw3)
  go_ret
  exact ⟨rfl, two_alloc _ _ _⟩
theorem one_plain (x y : Val) (w : World) (h : x.1 = y.1) (h2 : x.1 ≠ 2) : Calls Tryd.prog 35 #[av x.1 x.2.1 x.2.2, av y.1 y.2.1 y.2.2] w fun e w' => e = .returned (.int .i64 (Lib.compareInt x.2.1 y.2.1)) ∧ Below w.heap.size w w' := by
  obtain ⟨k, n, s⟩ := x
  obtain ⟨l, m, t⟩ := y
  simp only at h h2 ⊢
  subst h
  unfold av
  have h1 : (k != 2) = true := by simp [h2]
  go_enter Tryd.func35, Tryd.ntmps35
  go_wp2_with (go_at_call 36; refine (sign_any _ _ _).mono ?_; rintro e w3 ⟨rfl, hw3⟩; have hw3 := hw3.symm; subst hw3)
  go_ret
  exact ⟨rfl, two_alloc _ _ _⟩

theorem cmpL_at {a b : List Nat} {k : Nat} (h1 : k < a.length) (h2 : k < b.length) : cmpL (a.drop k) (b.drop k) = if a.getD k 0 = b.getD k 0 then cmpL (a.drop (k + 1)) (b.drop (k + 1)) else Lib.compareInt (a.getD k 0 : Nat) (b.getD k 0 : Nat) := by
  rw [List.drop_eq_getElem_cons h1, List.drop_eq_getElem_cons h2]
  have e1 : a.getD k 0 = a[k] := by simp [List.getD, h1]
  have e2 : b.getD k 0 = b[k] := by simp [List.getD, h2]
  rw [e1, e2]
  unfold Lib.compareInt
  simp only [cmpL]
  by_cases h : a[k] = b[k]
  · rw [if_pos h, if_pos h]
  · rw [if_neg h, if_neg h]
    by_cases h3 : a[k] < b[k]
    · rw [if_pos h3, if_pos (by omega)]
    · rw [if_neg h3, if_neg (by omega), if_pos (by omega)]
theorem cmpL_end {a b : List Nat} {k : Nat} (h : ¬ k < min a.length b.length) (hk : k ≤ min a.length b.length) : cmpL (a.drop k) (b.drop k) = Lib.compareInt a.length b.length := by
  unfold Lib.compareInt
  by_cases h1 : a.length < b.length
  · have e1 : a.drop k = [] := List.drop_eq_nil_of_le (by omega)
    rw [e1, List.drop_eq_getElem_cons (by omega), if_pos (by omega)]
    rfl
  · by_cases h2 : b.length < a.length
    · have e1 : b.drop k = [] := List.drop_eq_nil_of_le (by omega)
      rw [e1, List.drop_eq_getElem_cons (by omega), if_neg (by omega), if_pos (by omega)]
      rfl
    · have e1 : a.drop k = [] := List.drop_eq_nil_of_le (by omega)
      have e2 : b.drop k = [] := List.drop_eq_nil_of_le (by omega)
      rw [e1, e2, if_neg (by omega), if_neg (by omega)]
      rfl
/-- A row of runes, opened. -/
theorem row_form {wr : World} {B : Nat} {v : Value} {rs : List Nat} (ho : wr.ownsRow B 21 1 v rs.length (rcells rs)) :
    ∃ a cap, v = .slice a rs.length cap ∧ rs.length ≤ cap ∧ cap ≤ maxLen ∧ (0 < rs.length → ∃ g, a = some ⟨g, 0, none⟩ ∧ g < wr.heap.size ∧ ∀ i, i < rs.length → wr.cell? ⟨g, i, none⟩ = some (.int .i32 (rs.getD i 0 : Nat))) := by
  rcases ho.2 with ⟨rfl, h0⟩ | ⟨g, cap, cur, rfl, hg, h1, h2, h3, h4, h5⟩
  · exact ⟨none, 0, by rw [h0], by omega, by unfold maxLen; omega, fun h => by omega⟩
  · refine ⟨some ⟨g, 0, none⟩, cap, rfl, h2, h3, fun _ => ⟨g, rfl, ?_, ?_⟩⟩
    · rcases Nat.lt_or_ge g wr.heap.size with q | q
      · exact q
      · rw [Array.getElem?_eq_none q] at h1; cases h1
    · intro i hi
      rw [ho.cellAt i (by omega), rcells_get rs i hi]

set_option maxRecDepth 100000 in
set_option maxHeartbeats 4000000 in
theorem one_text (s t : ByteArray) (rs qs : List Nat) (w : World) (hs : s.size ≤ 1048576) (ht : t.size ≤ 1048576) (hr : runes (bl s) = some rs) (hq : runes (bl t) = some qs) :
    Calls Tryd.prog 35 #[av 2 0 s, av 2 0 t] w fun e w' => e = .returned (.int .i64 (cmpL rs qs)) ∧ Below w.heap.size w w' := by
  unfold av
  have hv1 := ((runes_iff (bl s) rs).1 hr).2
  have hv2 := ((runes_iff (bl t) qs).1 hq).2
  have HV1 := hidj hv1
  have HV2 := hidj hv2
  have hl1 := runes_len hr
  have hl2 := runes_len hq
  rw [bl_len] at hl1 hl2
  clear hv1 hv2
  go_enter Tryd.func35, Tryd.ntmps35
  go_wp2_with fail
  refine (decode_any s _ hs).mono ?_
  rintro e w1 ⟨hd, hb1⟩
  unfold DecR at hd
  rw [hr] at hd
  obtain ⟨v, rfl, ho⟩ := hd
  have HB0 := hidj (two_alloc w (.cells #[.int .i64 2, .int .i64 0, .string s] 23) (.cells #[.int .i64 2, .int .i64 0, .string t] 23))
  have hy : w1.cell? ⟨w.heap.size + 1, 2, none⟩ = some (.string t) := by
    exact (hb1.cell (two_size _ _ _)).trans (two_cell _ _ _ _ _ _)
  have HB1 := hidj hb1
  have HO1 := hidj ho
  clear hb1 ho
  go_wp2_with fail
  refine (decode_any t _ ht).mono ?_
  rintro e w2 ⟨hd, hb2⟩
  unfold DecR at hd
  rw [hq] at hd
  obtain ⟨u, rfl, ho2⟩ := hd
  have ho1 := ownsRow_later HO1.out hb2
  obtain ⟨a1, c1, rfl, p1, p2, p3⟩ := row_form ho1
  obtain ⟨a2, c2, rfl, q1, q2, q3⟩ := row_form ho2
  unfold maxLen at p2 q2
  have HBW : Hid (Below w.heap.size w w2) := (HB0.out.trans (HB1.out.mono HB0.out.size)).trans (hb2.mono (Nat.le_trans HB0.out.size HB1.out.size))
  have P3 := hidj p3
  have Q3 := hidj q3
  clear ho1 ho2 hb2 p3 q3 HO1 HB1 HB0 hy
  obtain ⟨M, hM⟩ : ∃ M : Nat, Hid (M = min rs.length qs.length) := ⟨_, rfl⟩
  have hM1 : M ≤ rs.length := by rw [hM.out]; omega
  have hM2 : M ≤ qs.length := by rw [hM.out]; omega
  go_wp2
  go_loopw [9] (fun i wr => ∃ k : Nat, k ≤ M ∧ i = .int .i64 k ∧ Below w2.heap.size w2 wr ∧ cmpL rs qs = cmpL (rs.drop k) (qs.drop k)) (fun i _ => M - (intOf i).toNat)
  case atStart => exact ⟨0, by omega, rfl, Below.refl _ _, rfl⟩
  case round =>
    obtain ⟨k, hk, rfl, hbel, heq⟩ := hrel
    have HE := hidj heq
    have HB := hidj hbel
    clear heq hbel
    by_cases hlt : k < M
    · obtain ⟨g1, e1, l1, cl1⟩ := P3.out (by omega)
      obtain ⟨g2, e2, l2, cl2⟩ := Q3.out (by omega)
      subst e1 e2
      have lx : k < rs.length := by omega
      have ly : k < qs.length := by omega
      have HQ := hidj (cmpL_at lx ly)
      have z1 := (HB.out.cell l1).trans (cl1 k lx)
      have z2 := (HB.out.cell l2).trans (cl2 k ly)
      obtain ⟨x, HX⟩ : ∃ x, Hid (rs.getD k 0 = x) := ⟨_, rfl⟩
      obtain ⟨y, HY⟩ : ∃ y, Hid (qs.getD k 0 = y) := ⟨_, rfl⟩
      have vx : vr x := by rw [← HX.out]; apply HV1.out; simp [List.getD, lx]
      have vy : vr y := by rw [← HY.out]; apply HV2.out; simp [List.getD, ly]
      have x1 : (x : Int) ≤ 1114111 := by unfold vr at vx; omega
      have y1 : (y : Int) ≤ 1114111 := by unfold vr at vy; omega
      rw [HX.out] at z1
      rw [HY.out] at z2
      rw [HX.out, HY.out] at HQ
      clear vx vy cl1 cl2
      have i0 : (0 : Int) ≤ (k : Int) := by omega
      have i1 : (k : Int) < (rs.length : Int) := by omega
      have i2 : (k : Int) < (qs.length : Int) := by omega
      have HC : Hid (wr.cell? ⟨g1, k, none⟩ = some (.int .i32 (x : Nat)) ∧ wr.cell? ⟨g2, k, none⟩ = some (.int .i32 (y : Nat))) := ⟨z1, z2⟩
      have HD : Hid (wr.drew.cell? ⟨g1, k, none⟩ = some (.int .i32 (x : Nat)) ∧ wr.drew.cell? ⟨g2, k, none⟩ = some (.int .i32 (y : Nat))) := ⟨z1, z2⟩
      have HD2 : Hid (wr.drew.drew.cell? ⟨g1, k, none⟩ = some (.int .i32 (x : Nat)) ∧ wr.drew.drew.cell? ⟨g2, k, none⟩ = some (.int .i32 (y : Nat))) := ⟨z1, z2⟩
      clear z1 z2
      by_cases hxy : x = y
      · subst hxy
        go_wp2_with fail
        go_region_held3 (fun wx => wx.cell? ⟨g1, k, none⟩ = some (.int .i32 (x : Nat)) ∧ wx.cell? ⟨g2, k, none⟩ = some (.int .i32 (x : Nat))) (exact HD.out) (fail)
        go_wp2
        go_roundw
        case rel =>
          refine ⟨k + 1, by omega, by go_num, HB.out.drew, ?_⟩
          rw [HE.out, HQ.out]; simp
        case measure => simp [intOf]; omega
      · have hne : ((x : Int) != (y : Int)) = true := by simp; omega
        go_wp2_with fail
        go_region_held3 (fun wx => wx.cell? ⟨g1, k, none⟩ = some (.int .i32 (x : Nat)) ∧ wx.cell? ⟨g2, k, none⟩ = some (.int .i32 (y : Nat))) (exact HD.out) (fail)
        go_wp2_with fail
        go_region_held3 (fun wx => wx.cell? ⟨g1, k, none⟩ = some (.int .i32 (x : Nat)) ∧ wx.cell? ⟨g2, k, none⟩ = some (.int .i32 (y : Nat))) (exact HD2.out)
          (first
          | (go_at_call 36; refine (sign_any _ _ _).mono ?_; rintro e w3 ⟨rfl, hw3⟩; have hw3 := hw3.symm; subst hw3))
        go_wp2
        go_ret
        rw [HE.out, HQ.out, if_neg hxy]
        have wx : IntKind.i64.wrap (x : Int) = (x : Int) := by rw [IntKind.wrap_i64]; omega
        have wy : IntKind.i64.wrap (y : Int) = (y : Int) := by rw [IntKind.wrap_i64]; omega
        refine ⟨?_, HBW.out.trans (HB.out.drew.drew.mono HBW.out.size)⟩
        show Ending.returned (.int .i64 (Lib.compareInt (IntKind.i64.wrap (x : Int)) (IntKind.i64.wrap (y : Int)))) = _
        rw [wx, wy]
    · have HF := hidj (cmpL_end (a := rs) (b := qs) (k := k) (by rw [← hM.out]; exact hlt) (by rw [← hM.out]; exact hk))
      have hkM : k = M := by omega
      by_cases hx : k < rs.length
      · have hz : ¬ k < qs.length := by have := hM.out; omega
        go_wp2_with (go_at_call 36; refine (sign_any _ _ _).mono ?_; rintro e w3 ⟨rfl, hw3⟩; have hw3 := hw3.symm; subst hw3)
        go_ret
        rw [HE.out, HF.out]
        exact ⟨rfl, HBW.out.trans (HB.out.mono HBW.out.size)⟩
      · go_wp2_with (go_at_call 36; refine (sign_any _ _ _).mono ?_; rintro e w3 ⟨rfl, hw3⟩; have hw3 := hw3.symm; subst hw3)
        go_ret
        rw [HE.out, HF.out]
        exact ⟨rfl, HBW.out.trans (HB.out.mono HBW.out.size)⟩
end Go.Proofs.YtnmejnkdgeljeaaDoor
