/- slices.Equal of columns, indexes and values; Same, SameRow. -/
import Derived.Test.YtcophbkgighepaaH5
set_option linter.unusedVariables false
namespace Go.Proofs.Ytcophbkgighepaa
open Go.RowKit

def fV (x : Val) : List Value := [.int .i64 x.1, .int .i64 x.2.1, .string x.2.2]
set_option maxRecDepth 100000 in
set_option maxHeartbeats 2000000 in
theorem col_eq {w : World} {a a' : Option Addr} {len cap len' cap' : Nat} {l l' : List Col} (h : SV fC 3 w a len cap l) (h' : SV fC 3 w a' len' cap' l') (hlen : len ≤ 1000) :
    Calls Try.prog 47 #[.slice a len cap, .slice a' len' cap'] w fun e w' => e = .returned (.bool (decide (l = l'))) ∧ Below w.heap.size w w' := by
  have H := hide h
  have H' := hide h'
  have HL := hide h.hl
  have HL' := hide h'.hl
  clear h h'
  by_cases hne : len = len'
  · subst hne
    go_enter Try.func47, Try.ntmps47
    go_wp2_with fail
    go_loopg [13] len (fun gh s13 wx => ∃ j : Nat, j + gh = len ∧ s13 = .int .i64 (j : Int) ∧ l.take j = l'.take j ∧ Below w.heap.size w wx)
    case atStart => exact ⟨0, by omega, rfl, by simp, Below.refl _ _⟩
    case round =>
      obtain ⟨j, hj, rfl, htk, hbr⟩ := hrel
      have HTK := hide htk
      have HBR := hide hbr
      clear htk hbr
      by_cases hjn : j < len
      · have xj : (j : Int) < (len : Int) := by omega
        obtain ⟨x, hxj⟩ : ∃ x, l[j]? = some x := ⟨_, List.getElem?_eq_getElem (by rw [HL.out]; exact hjn)⟩
        obtain ⟨y, hyj⟩ : ∃ y, l'[j]? = some y := ⟨_, List.getElem?_eq_getElem (by rw [HL'.out]; exact hjn)⟩
        have HS : Hid (x = y → l.take (j + 1) = l'.take (j + 1)) := by
          intro q
          rw [List.take_add_one, List.take_add_one, hxj, hyj, HTK.out, q]
        have HD : Hid (x ≠ y → l ≠ l') := by
          intro q e
          rw [e, hyj] at hxj
          simp only [Option.some.injEq] at hxj
          exact q hxj.symm
        obtain ⟨b, o, e0, hb, hcs⟩ := H.out.pl (by omega)
        obtain ⟨b', o', e0', hb', hcs'⟩ := H'.out.pl (by omega)
        have hc1 := fun t (ht : t < 3) => (HBR.out.cell hb (p := ⟨b, o + j * 3 + t, none⟩)).trans (hcs j x hxj t ht)
        have hc2 := fun t (ht : t < 3) => (HBR.out.cell hb' (p := ⟨b', o' + j * 3 + t, none⟩)).trans (hcs' j y hyj t ht)
        subst e0 e0'
        have y0 : wr.cell? ⟨b, o + j * 3, none⟩ = some (.string x.1) := hc1 0 (by omega)
        have y1 : wr.cell? ⟨b, o + j * 3 + 1, none⟩ = some (.int .i64 x.2.1) := hc1 1 (by omega)
        have y2 : wr.cell? ⟨b, o + j * 3 + 2, none⟩ = some (.int .i64 x.2.2) := hc1 2 (by omega)
        have z0 : wr.cell? ⟨b', o' + j * 3, none⟩ = some (.string y.1) := hc2 0 (by omega)
        have z1 : wr.cell? ⟨b', o' + j * 3 + 1, none⟩ = some (.int .i64 y.2.1) := hc2 1 (by omega)
        have z2 : wr.cell? ⟨b', o' + j * 3 + 2, none⟩ = some (.int .i64 y.2.2) := hc2 2 (by omega)
        clear hcs hcs' hc1 hc2 hxj hyj
        by_cases hxy : x = y
        · have HN := hide (HS.out hxy)
          subst hxy
          go_wp2_with fail
          go_quiet (fail)
          go_wp2
          go_roundg (gk - 1)
          case measure => omega
          case rel => exact ⟨j + 1, by omega, rfl, HN.out, below_drw HBR.out _⟩
        · have HN : Hid (decide (l = l') = false) := decide_eq_false (HD.out hxy)
          by_cases e0 : x.1 = y.1
          · have f0 : (x.1.toList == y.1.toList) = true := by rw [e0]; exact beq_self_eq_true _
            by_cases e1 : x.2.1 = y.2.1
            · have f1 : (x.2.1 == y.2.1) = true := by rw [e1]; exact beq_self_eq_true _
              have f2 : (x.2.2 == y.2.2) = false := by simp; intro q; exact hxy (Prod.ext e0 (Prod.ext e1 q))
              go_wp2_with fail
              go_quiet (fail)
              go_wp2
              go_ret
              exact ⟨by rw [HN.out]; rfl, below_drw HBR.out _⟩
            · have f1 : (x.2.1 == y.2.1) = false := by simp [e1]
              go_wp2_with fail
              go_quiet (fail)
              go_wp2
              go_ret
              exact ⟨by rw [HN.out]; rfl, below_drw HBR.out _⟩
          · have f0 : (x.1.toList == y.1.toList) = false := by rw [ba_beq]; exact decide_eq_false e0
            go_wp2_with fail
            go_quiet (fail)
            go_wp2
            go_ret
            exact ⟨by rw [HN.out]; rfl, below_drw HBR.out _⟩
      · have xj : ¬ (j : Int) < (len : Int) := by omega
        have HE : Hid (l = l') := by
          have h9 := HTK.out
          rw [List.take_of_length_le (by rw [HL.out]; omega), List.take_of_length_le (by rw [HL'.out]; omega)] at h9
          exact h9
        go_wp2
        go_ret
        exact ⟨by rw [decide_eq_true HE.out]; rfl, HBR.out⟩
  · have HE : Hid (decide (l = l') = false) := decide_eq_false fun e => hne (by rw [← HL.out, ← HL'.out, e])
    have hn : ((len : Int) != (len' : Int)) = true := by simp; omega
    go_enter Try.func47, Try.ntmps47
    go_wp2
    go_ret
    exact ⟨by rw [HE.out]; rfl, Below.refl _ _⟩
set_option maxRecDepth 100000 in
set_option maxHeartbeats 2000000 in
theorem ix_eq {w : World} {a a' : Option Addr} {len cap len' cap' : Nat} {l l' : List Idx} (h : SV fX 2 w a len cap l) (h' : SV fX 2 w a' len' cap' l') (hlen : len ≤ 1000) :
    Calls Try.prog 48 #[.slice a len cap, .slice a' len' cap'] w fun e w' => e = .returned (.bool (decide (l = l'))) ∧ Below w.heap.size w w' := by
  have H := hide h
  have H' := hide h'
  have HL := hide h.hl
  have HL' := hide h'.hl
  clear h h'
  by_cases hne : len = len'
  · subst hne
    go_enter Try.func48, Try.ntmps48
    go_wp2_with fail
    go_loopg [13] len (fun gh s13 wx => ∃ j : Nat, j + gh = len ∧ s13 = .int .i64 (j : Int) ∧ l.take j = l'.take j ∧ Below w.heap.size w wx)
    case atStart => exact ⟨0, by omega, rfl, by simp, Below.refl _ _⟩
    case round =>
      obtain ⟨j, hj, rfl, htk, hbr⟩ := hrel
      have HTK := hide htk
      have HBR := hide hbr
      clear htk hbr
      by_cases hjn : j < len
      · have xj : (j : Int) < (len : Int) := by omega
        obtain ⟨x, hxj⟩ : ∃ x, l[j]? = some x := ⟨_, List.getElem?_eq_getElem (by rw [HL.out]; exact hjn)⟩
        obtain ⟨y, hyj⟩ : ∃ y, l'[j]? = some y := ⟨_, List.getElem?_eq_getElem (by rw [HL'.out]; exact hjn)⟩
        have HS : Hid (x = y → l.take (j + 1) = l'.take (j + 1)) := by
          intro q
          rw [List.take_add_one, List.take_add_one, hxj, hyj, HTK.out, q]
        have HD : Hid (x ≠ y → l ≠ l') := by
          intro q e
          rw [e, hyj] at hxj
          simp only [Option.some.injEq] at hxj
          exact q hxj.symm
        obtain ⟨b, o, e0, hb, hcs⟩ := H.out.pl (by omega)
        obtain ⟨b', o', e0', hb', hcs'⟩ := H'.out.pl (by omega)
        have hc1 := fun t (ht : t < 2) => (HBR.out.cell hb (p := ⟨b, o + j * 2 + t, none⟩)).trans (hcs j x hxj t ht)
        have hc2 := fun t (ht : t < 2) => (HBR.out.cell hb' (p := ⟨b', o' + j * 2 + t, none⟩)).trans (hcs' j y hyj t ht)
        subst e0 e0'
        have y0 : wr.cell? ⟨b, o + j * 2, none⟩ = some (.int .i64 x.1) := hc1 0 (by omega)
        have y1 : wr.cell? ⟨b, o + j * 2 + 1, none⟩ = some (.bool x.2) := hc1 1 (by omega)
        have z0 : wr.cell? ⟨b', o' + j * 2, none⟩ = some (.int .i64 y.1) := hc2 0 (by omega)
        have z1 : wr.cell? ⟨b', o' + j * 2 + 1, none⟩ = some (.bool y.2) := hc2 1 (by omega)
        clear hcs hcs' hc1 hc2 hxj hyj
        by_cases hxy : x = y
        · have HN := hide (HS.out hxy)
          subst hxy
          go_wp2_with fail
          go_quiet (fail)
          go_wp2
          go_roundg (gk - 1)
          case measure => omega
          case rel => exact ⟨j + 1, by omega, rfl, HN.out, below_drw HBR.out _⟩
        · have HN : Hid (decide (l = l') = false) := decide_eq_false (HD.out hxy)
          by_cases e0 : x.1 = y.1
          · have f0 : (x.1 == y.1) = true := by rw [e0]; exact beq_self_eq_true _
            have f1 : (x.2 == y.2) = false := by simp; intro q; exact hxy (Prod.ext e0 q)
            go_wp2_with fail
            go_quiet (fail)
            go_wp2
            go_ret
            exact ⟨by rw [HN.out]; rfl, below_drw HBR.out _⟩
          · have f0 : (x.1 == y.1) = false := by simp [e0]
            go_wp2_with fail
            go_quiet (fail)
            go_wp2
            go_ret
            exact ⟨by rw [HN.out]; rfl, below_drw HBR.out _⟩
      · have xj : ¬ (j : Int) < (len : Int) := by omega
        have HE : Hid (l = l') := by
          have h9 := HTK.out
          rw [List.take_of_length_le (by rw [HL.out]; omega), List.take_of_length_le (by rw [HL'.out]; omega)] at h9
          exact h9
        go_wp2
        go_ret
        exact ⟨by rw [decide_eq_true HE.out]; rfl, HBR.out⟩
  · have HE : Hid (decide (l = l') = false) := decide_eq_false fun e => hne (by rw [← HL.out, ← HL'.out, e])
    have hn : ((len : Int) != (len' : Int)) = true := by simp; omega
    go_enter Try.func48, Try.ntmps48
    go_wp2
    go_ret
    exact ⟨by rw [HE.out]; rfl, Below.refl _ _⟩
set_option maxRecDepth 100000 in
set_option maxHeartbeats 2000000 in
theorem val_eq {w : World} {a a' : Option Addr} {len cap len' cap' : Nat} {l l' : List Val} (h : SV fV 3 w a len cap l) (h' : SV fV 3 w a' len' cap' l') (hlen : len ≤ 1000) :
    Calls Try.prog 49 #[.slice a len cap, .slice a' len' cap'] w fun e w' => e = .returned (.bool (decide (l = l'))) ∧ Below w.heap.size w w' := by
  have H := hide h
  have H' := hide h'
  have HL := hide h.hl
  have HL' := hide h'.hl
  clear h h'
  by_cases hne : len = len'
  · subst hne
    go_enter Try.func49, Try.ntmps49
    go_wp2_with fail
    go_loopg [13] len (fun gh s13 wx => ∃ j : Nat, j + gh = len ∧ s13 = .int .i64 (j : Int) ∧ l.take j = l'.take j ∧ Below w.heap.size w wx)
    case atStart => exact ⟨0, by omega, rfl, by simp, Below.refl _ _⟩
    case round =>
      obtain ⟨j, hj, rfl, htk, hbr⟩ := hrel
      have HTK := hide htk
      have HBR := hide hbr
      clear htk hbr
      by_cases hjn : j < len
      · have xj : (j : Int) < (len : Int) := by omega
        obtain ⟨x, hxj⟩ : ∃ x, l[j]? = some x := ⟨_, List.getElem?_eq_getElem (by rw [HL.out]; exact hjn)⟩
        obtain ⟨y, hyj⟩ : ∃ y, l'[j]? = some y := ⟨_, List.getElem?_eq_getElem (by rw [HL'.out]; exact hjn)⟩
        have HS : Hid (x = y → l.take (j + 1) = l'.take (j + 1)) := by
          intro q
          rw [List.take_add_one, List.take_add_one, hxj, hyj, HTK.out, q]
        have HD : Hid (x ≠ y → l ≠ l') := by
          intro q e
          rw [e, hyj] at hxj
          simp only [Option.some.injEq] at hxj
          exact q hxj.symm
        obtain ⟨b, o, e0, hb, hcs⟩ := H.out.pl (by omega)
        obtain ⟨b', o', e0', hb', hcs'⟩ := H'.out.pl (by omega)
        have hc1 := fun t (ht : t < 3) => (HBR.out.cell hb (p := ⟨b, o + j * 3 + t, none⟩)).trans (hcs j x hxj t ht)
        have hc2 := fun t (ht : t < 3) => (HBR.out.cell hb' (p := ⟨b', o' + j * 3 + t, none⟩)).trans (hcs' j y hyj t ht)
        subst e0 e0'
        have y0 : wr.cell? ⟨b, o + j * 3, none⟩ = some (.int .i64 x.1) := hc1 0 (by omega)
        have y1 : wr.cell? ⟨b, o + j * 3 + 1, none⟩ = some (.int .i64 x.2.1) := hc1 1 (by omega)
        have y2 : wr.cell? ⟨b, o + j * 3 + 2, none⟩ = some (.string x.2.2) := hc1 2 (by omega)
        have z0 : wr.cell? ⟨b', o' + j * 3, none⟩ = some (.int .i64 y.1) := hc2 0 (by omega)
        have z1 : wr.cell? ⟨b', o' + j * 3 + 1, none⟩ = some (.int .i64 y.2.1) := hc2 1 (by omega)
        have z2 : wr.cell? ⟨b', o' + j * 3 + 2, none⟩ = some (.string y.2.2) := hc2 2 (by omega)
        clear hcs hcs' hc1 hc2 hxj hyj
        by_cases hxy : x = y
        · have HN := hide (HS.out hxy)
          subst hxy
          go_wp2_with fail
          go_quiet (fail)
          go_wp2
          go_roundg (gk - 1)
          case measure => omega
          case rel => exact ⟨j + 1, by omega, rfl, HN.out, below_drw HBR.out _⟩
        · have HN : Hid (decide (l = l') = false) := decide_eq_false (HD.out hxy)
          by_cases e0 : x.1 = y.1
          · have f0 : (x.1 == y.1) = true := by rw [e0]; exact beq_self_eq_true _
            by_cases e1 : x.2.1 = y.2.1
            · have f1 : (x.2.1 == y.2.1) = true := by rw [e1]; exact beq_self_eq_true _
              have f2 : (x.2.2.toList == y.2.2.toList) = false := by rw [ba_beq]; exact decide_eq_false fun q => hxy (Prod.ext e0 (Prod.ext e1 q))
              go_wp2_with fail
              go_quiet (fail)
              go_wp2
              go_ret
              exact ⟨by rw [HN.out]; rfl, below_drw HBR.out _⟩
            · have f1 : (x.2.1 == y.2.1) = false := by simp [e1]
              go_wp2_with fail
              go_quiet (fail)
              go_wp2
              go_ret
              exact ⟨by rw [HN.out]; rfl, below_drw HBR.out _⟩
          · have f0 : (x.1 == y.1) = false := by simp [e0]
            go_wp2_with fail
            go_quiet (fail)
            go_wp2
            go_ret
            exact ⟨by rw [HN.out]; rfl, below_drw HBR.out _⟩
      · have xj : ¬ (j : Int) < (len : Int) := by omega
        have HE : Hid (l = l') := by
          have h9 := HTK.out
          rw [List.take_of_length_le (by rw [HL.out]; omega), List.take_of_length_le (by rw [HL'.out]; omega)] at h9
          exact h9
        go_wp2
        go_ret
        exact ⟨by rw [decide_eq_true HE.out]; rfl, HBR.out⟩
  · have HE : Hid (decide (l = l') = false) := decide_eq_false fun e => hne (by rw [← HL.out, ← HL'.out, e])
    have hn : ((len : Int) != (len' : Int)) = true := by simp; omega
    go_enter Try.func49, Try.ntmps49
    go_wp2
    go_ret
    exact ⟨by rw [HE.out]; rfl, Below.refl _ _⟩
/-- A row of values, as a row. -/
theorem VS.sv {w : World} {a : Option Addr} {len cap : Nat} {vs : List Val} (h : VS w a len cap vs) (hn : a = none → cap = 0) : SV fV 3 w a len cap vs := by
  refine ⟨h.hlen, h.hcap, h.hroom, hn, fun h0 => ?_⟩
  obtain ⟨b, o, e⟩ := h.hform h0
  have hc := h.hcell b o e
  have hb : b < w.heap.size := by
    have := cell_lt (hc 0 h0).1
    simpa using this
  refine ⟨b, o, e, hb, fun i x hx t ht => ?_⟩
  have hi : i < len := by rw [← h.hlen]; exact (List.getElem?_eq_some_iff.1 hx).1
  have hg : vs.getD i (0, 0, ⟨#[]⟩) = x := by rw [List.getD_eq_getElem?_getD, hx]; rfl
  obtain ⟨h1, h2, h3⟩ := hc i hi
  rw [hg] at h1 h2 h3
  match t, ht with
  | 0, _ => exact h1
  | 1, _ => exact h2
  | 2, _ => exact h3
set_option maxRecDepth 100000 in
theorem samerow_any {w : World} {a a' : Option Addr} {len cap len' cap' : Nat} {l l' : List Val} (h : SV fV 3 w a len cap l) (h' : SV fV 3 w a' len' cap' l') (hlen : len ≤ 1000) :
    Calls Try.prog 25 #[.slice a len cap, .slice a' len' cap'] w fun e w' => e = .returned (.bool (decide (l = l'))) ∧ Below w.heap.size w w' := by
  have HC := hide (val_eq h h' hlen)
  clear h h'
  generalize decide (l = l') = bb at *
  go_enter Try.func25, Try.ntmps25
  go_wp2_with fail
  refine HC.out.mono ?_
  rintro e w1 ⟨rfl, hb1⟩
  have HB1 := hide hb1
  clear hb1 HC
  go_wp2
  go_ret
  exact ⟨rfl, HB1.out⟩
end Go.Proofs.Ytcophbkgighepaa
