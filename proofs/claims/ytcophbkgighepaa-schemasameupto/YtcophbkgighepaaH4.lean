/- Which schemas are Right. -/
import Derived.Test.YtcophbkgighepaaH2
import Derived.Test.YtcophbkgighepaaH3
set_option linter.unusedVariables false
namespace Go.Proofs.Ytcophbkgighepaa
open Go.RowKit

def colAt (l : List Col) (j : Nat) (c : Col) : Bool := isNm c.1 && isMx c.2.1 c.2.2 && !(l.take j).any (fun y => y.1.toList == c.1.toList)
def colsN (l : List Col) : Nat → Bool
  | 0 => true
  | j + 1 => colsN l j && (match l[j]? with | some c => colAt l j c | none => true)
def colsOk (l : List Col) : Bool := decide (1 ≤ l.length) && decide (l.length ≤ 3) && colsN l l.length
def ixAt (n : Nat) (l : List Idx) (j : Nat) (c : Idx) : Bool := decide (1 ≤ c.1) && decide (c.1 < (n : Int)) && !(l.take j).any (fun y => y.1 == c.1)
def ixsN (n : Nat) (l : List Idx) : Nat → Bool
  | 0 => true
  | j + 1 => ixsN n l j && (match l[j]? with | some c => ixAt n l j c | none => true)
def ixsOk (n : Nat) (l : List Idx) : Bool := decide (l.length ≤ 3) && ixsN n l l.length
theorem colsN_no {l : List Col} {j : Nat} (h : colsN l j = false) : ∀ {n : Nat}, j ≤ n → colsN l n = false
  | 0, hn => by rw [← show j = 0 by omega]; exact h
  | n + 1, hn => by
    by_cases e : j = n + 1
    · rw [← e]; exact h
    · show (colsN l n && _) = false
      rw [colsN_no h (show j ≤ n by omega), Bool.false_and]
theorem ixsN_no {m : Nat} {l : List Idx} {j : Nat} (h : ixsN m l j = false) : ∀ {n : Nat}, j ≤ n → ixsN m l n = false
  | 0, hn => by rw [← show j = 0 by omega]; exact h
  | n + 1, hn => by
    by_cases e : j = n + 1
    · rw [← e]; exact h
    · show (ixsN m l n && _) = false
      rw [ixsN_no h (show j ≤ n by omega), Bool.false_and]
set_option maxRecDepth 100000 in
set_option maxHeartbeats 4000000 in
theorem areCols_any {w : World} {a : Option Addr} {len cap : Nat} {l : List Col} (h : SV fC 3 w a len cap l) :
    Calls Try.prog 26 #[.slice a len cap] w fun e w' => e = .returned (.bool (colsOk l)) ∧ Below w.heap.size w w' := by
  have H := hide h
  have HL := hide h.hl
  have HCP := hide h.hc
  have hcm : (cap : Int) ≤ 9223372036854775807 := by have := h.hm; omega
  have hlc : (len : Int) ≤ (cap : Int) := by have := h.hc; omega
  clear h
  by_cases h0 : len = 0
  · have HE : Hid (colsOk l = false) := by show _ = _; unfold colsOk; rw [HL.out, h0]; rfl
    subst h0
    go_enter Try.func26, Try.ntmps26
    go_wp2
    go_ret
    exact ⟨by rw [HE.out]; rfl, Below.refl _ _⟩
  have c0 : ((len : Int) == 0) = false := by simp; omega
  by_cases h3 : 3 < len
  · have HE : Hid (colsOk l = false) := by
      show _ = _
      unfold colsOk
      rw [HL.out, decide_eq_false (show ¬ len ≤ 3 by omega)]
      simp
    have x3 : (3 : Int) < (len : Int) := by omega
    clear h3
    go_enter Try.func26, Try.ntmps26
    go_wp2
    go_ret
    exact ⟨by rw [HE.out]; rfl, Below.refl _ _⟩
  have x3 : ¬ (3 : Int) < (len : Int) := by omega
  have HLE : Hid (len ≤ 3) := by show len ≤ 3; omega
  have HOK : Hid (colsOk l = colsN l len) := by
    show _ = _
    unfold colsOk
    rw [HL.out, decide_eq_true (show len ≤ 3 by omega), decide_eq_true (show 1 ≤ len by omega)]
    rfl
  generalize colsOk l = ok at *
  clear h3
  go_enter Try.func26, Try.ntmps26
  go_wp2_with fail
  go_loopg [16] len (fun gh s wx => ∃ j : Nat, j + gh = len ∧ s = .int .i64 (j : Int) ∧ colsN l j = true ∧ Below w.heap.size w wx)
  case atStart => exact ⟨0, by omega, rfl, rfl, Below.refl _ _⟩
  case round =>
    obtain ⟨j, hj, rfl, hyes, hbr⟩ := hrel
    have HY := hide hyes
    have HBR := hide hbr
    clear hyes hbr
    by_cases hjn : j < len
    · have xj : (j : Int) < (len : Int) := by omega
      have xj0 : (0 : Int) ≤ (j : Int) := by omega
      have xjc : (j : Int) ≤ (cap : Int) := by omega
      obtain ⟨x, hxj⟩ : ∃ x, l[j]? = some x := ⟨_, List.getElem?_eq_getElem (by rw [HL.out]; exact hjn)⟩
      have HNX : Hid (colsN l (j + 1) = colAt l j x) := by
        show (colsN l j && (match l[j]? with | some c => colAt l j c | none => true)) = _
        rw [HY.out, hxj, Bool.true_and]
      have HNO : Hid (colAt l j x = false → ok = false) := fun q => HOK.out.trans (colsN_no (HNX.out.trans q) (by omega))
      obtain ⟨b, o, e0, hb, hcs⟩ := H.out.pl (by omega)
      have y0 : wr.cell? ⟨b, o + j * 3, none⟩ = some (.string x.1) := (HBR.out.cell hb).trans (hcs j x hxj 0 (by omega))
      have y1 : wr.cell? ⟨b, o + j * 3 + 1, none⟩ = some (.int .i64 x.2.1) := (HBR.out.cell hb).trans (hcs j x hxj 1 (by omega))
      have y2 : wr.cell? ⟨b, o + j * 3 + 2, none⟩ = some (.int .i64 x.2.2) := (HBR.out.cell hb).trans (hcs j x hxj 2 (by omega))
      have HB2 := hide (below_box wr (.cells #[.string x.1, .int .i64 x.2.1, .int .i64 x.2.2] 59))
      have HR2 : Hid ((wr.alloc (.cells #[.string x.1, .int .i64 x.2.1, .int .i64 x.2.2] 59)).heap[wr.heap.size]? = some (.cells #[.string x.1, .int .i64 x.2.1, .int .i64 x.2.2] 59 (0, 0))) := boxed wr _
      have HV2 := hide (((H.out.take (n := j) (by omega)).later HBR.out).later HB2.out)
      have HW2 : Hid (Below w.heap.size w (wr.alloc (.cells #[.string x.1, .int .i64 x.2.1, .int .i64 x.2.2] 59))) := HBR.out.trans (HB2.out.mono HBR.out.size)
      subst e0
      clear hcs hxj HB2
      go_upto_region 7 with fail
      clear y0 y1 y2
      generalize wr.alloc (.cells #[.string x.1, .int .i64 x.2.1, .int .i64 x.2.2] 59) = w2 at *
      generalize wr.heap.size = L2 at *
      have z0 : w2.cell? ⟨L2, 0, none⟩ = some (.string x.1) := cell_blk HR2.out
      have z1 : w2.cell? ⟨L2, 1, none⟩ = some (.int .i64 x.2.1) := cell_blk HR2.out
      have z2 : w2.cell? ⟨L2, 2, none⟩ = some (.int .i64 x.2.2) := cell_blk HR2.out
      have HNM := hide (name_any x.1 w2)
      cases hn : isNm x.1 with
      | false =>
        have HF : Hid (ok = false) := HNO.out (by unfold colAt; rw [hn]; rfl)
        rw [hn] at HNM
        go_wp2_with fail
        refine HNM.out.mono ?_
        rintro e w3 ⟨rfl, hb3⟩
        have HW3 : Hid (Below w.heap.size w w3) := HW2.out.trans (hb3.mono HW2.out.size)
        clear hb3
        go_wp2
        go_ret
        exact ⟨by rw [HF.out]; rfl, HW3.out⟩
      | true =>
        rw [hn] at HNM
        have HN := hide hn
        clear hn
        go_wp2_with fail
        refine HNM.out.mono ?_
        rintro e w3 ⟨rfl, hb3⟩
        have HW3 : Hid (Below w.heap.size w w3) := HW2.out.trans (hb3.mono HW2.out.size)
        have HR3 := hide ((hb3.block L2 (blk_lt HR2.out)).trans HR2.out)
        have HV3 := hide (HV2.out.later hb3)
        have u0 : w3.cell? ⟨L2, 0, none⟩ = some (.string x.1) := cell_blk HR3.out
        have u1 : w3.cell? ⟨L2, 1, none⟩ = some (.int .i64 x.2.1) := cell_blk HR3.out
        have u2 : w3.cell? ⟨L2, 2, none⟩ = some (.int .i64 x.2.2) := cell_blk HR3.out
        have HMX := hide (ismax_any x.1 x.2.1 x.2.2 w3)
        clear hb3 z0 z1 z2 HNM
        cases hm : isMx x.2.1 x.2.2 with
        | false =>
          have HF : Hid (ok = false) := HNO.out (by unfold colAt; rw [hm, Bool.and_false]; rfl)
          rw [hm] at HMX
          go_wp2_with fail
          refine HMX.out.mono ?_
          rintro e w4 ⟨rfl, hb4⟩
          have HW4 : Hid (Below w.heap.size w w4) := HW3.out.trans (hb4.mono HW3.out.size)
          clear hb4
          go_wp2
          go_ret
          exact ⟨by rw [HF.out]; rfl, HW4.out⟩
        | true =>
          rw [hm] at HMX
          have HM := hide hm
          clear hm
          go_wp2_with fail
          refine HMX.out.mono ?_
          rintro e w4 ⟨rfl, hb4⟩
          have HW4 : Hid (Below w.heap.size w w4) := HW3.out.trans (hb4.mono HW3.out.size)
          have HR4 := hide ((hb4.block L2 (blk_lt HR3.out)).trans HR3.out)
          have HV4 := hide (HV3.out.later hb4)
          have HHS := hide (col_has HV4.out (by omega) HR4.out)
          clear hb4 u0 u1 u2 HMX
          cases hh : (l.take j).any (fun y => y.1.toList == x.1.toList) with
          | true =>
            have HF : Hid (ok = false) := HNO.out (by unfold colAt; rw [hh]; simp)
            rw [hh] at HHS
            go_wp2_with fail
            refine HHS.out.mono ?_
            rintro e w5 ⟨rfl, hb5⟩
            have HW5 : Hid (Below w.heap.size w w5) := HW4.out.trans (hb5.mono HW4.out.size)
            clear hb5
            go_wp2
            go_ret
            exact ⟨by rw [HF.out]; rfl, HW5.out⟩
          | false =>
            have HF : Hid (colsN l (j + 1) = true) := HNX.out.trans (by unfold colAt; rw [hh, HN.out, HM.out]; rfl)
            rw [hh] at HHS
            clear hh
            go_wp2_with fail
            refine HHS.out.mono ?_
            rintro e w5 ⟨rfl, hb5⟩
            have HW5 : Hid (Below w.heap.size w w5) := HW4.out.trans (hb5.mono HW4.out.size)
            clear hb5
            go_wp2
            go_roundg (gk - 1)
            case measure => omega
            case rel => exact ⟨j + 1, by omega, rfl, HF.out, HW5.out⟩
    · have xj : ¬ (j : Int) < (len : Int) := by omega
      have HE : Hid (ok = true) := HOK.out.trans (by rw [← show j = len by omega]; exact HY.out)
      go_wp2
      go_ret
      exact ⟨by rw [HE.out]; rfl, HBR.out⟩
set_option maxRecDepth 100000 in
set_option maxHeartbeats 4000000 in
theorem areIxs_any {w : World} {a : Option Addr} {len cap n : Nat} {l : List Idx} (h : SV fX 2 w a len cap l) :
    Calls Try.prog 27 #[.slice a len cap, .int .i64 (n : Int)] w fun e w' => e = .returned (.bool (ixsOk n l)) ∧ Below w.heap.size w w' := by
  have H := hide h
  have HL := hide h.hl
  have HCP := hide h.hc
  have hcm : (cap : Int) ≤ 9223372036854775807 := by have := h.hm; omega
  have hlc : (len : Int) ≤ (cap : Int) := by have := h.hc; omega
  clear h
  by_cases h3 : 3 < len
  · have HE : Hid (ixsOk n l = false) := by
      show _ = _
      unfold ixsOk
      rw [HL.out, decide_eq_false (show ¬ len ≤ 3 by omega)]
      simp
    have x3 : (3 : Int) < (len : Int) := by omega
    clear h3
    go_enter Try.func27, Try.ntmps27
    go_wp2
    go_ret
    exact ⟨by rw [HE.out]; rfl, Below.refl _ _⟩
  have x3 : ¬ (3 : Int) < (len : Int) := by omega
  have HLE : Hid (len ≤ 3) := by show len ≤ 3; omega
  have HOK : Hid (ixsOk n l = ixsN n l len) := by
    show _ = _
    unfold ixsOk
    rw [HL.out, decide_eq_true (show len ≤ 3 by omega)]
    rfl
  generalize ixsOk n l = ok at *
  clear h3
  go_enter Try.func27, Try.ntmps27
  go_wp2_with fail
  go_loopg [13] len (fun gh s wx => ∃ j : Nat, j + gh = len ∧ s = .int .i64 (j : Int) ∧ ixsN n l j = true ∧ Below w.heap.size w wx)
  case atStart => exact ⟨0, by omega, rfl, rfl, Below.refl _ _⟩
  case round =>
    obtain ⟨j, hj, rfl, hyes, hbr⟩ := hrel
    have HY := hide hyes
    have HBR := hide hbr
    clear hyes hbr
    by_cases hjn : j < len
    · have xj : (j : Int) < (len : Int) := by omega
      have xj0 : (0 : Int) ≤ (j : Int) := by omega
      have xjc : (j : Int) ≤ (cap : Int) := by omega
      obtain ⟨x, hxj⟩ : ∃ x, l[j]? = some x := ⟨_, List.getElem?_eq_getElem (by rw [HL.out]; exact hjn)⟩
      have HNX : Hid (ixsN n l (j + 1) = ixAt n l j x) := by
        show (ixsN n l j && (match l[j]? with | some c => ixAt n l j c | none => true)) = _
        rw [HY.out, hxj, Bool.true_and]
      have HNO : Hid (ixAt n l j x = false → ok = false) := fun q => HOK.out.trans (ixsN_no (HNX.out.trans q) (by omega))
      obtain ⟨b, o, e0, hb, hcs⟩ := H.out.pl (by omega)
      have y0 : wr.cell? ⟨b, o + j * 2, none⟩ = some (.int .i64 x.1) := (HBR.out.cell hb).trans (hcs j x hxj 0 (by omega))
      have y1 : wr.cell? ⟨b, o + j * 2 + 1, none⟩ = some (.bool x.2) := (HBR.out.cell hb).trans (hcs j x hxj 1 (by omega))
      have HB2 := hide (below_box wr (.cells #[.int .i64 x.1, .bool x.2] 61))
      have HR2 : Hid ((wr.alloc (.cells #[.int .i64 x.1, .bool x.2] 61)).heap[wr.heap.size]? = some (.cells #[.int .i64 x.1, .bool x.2] 61 (0, 0))) := boxed wr _
      have HV2 := hide (((H.out.take (n := j) (by omega)).later HBR.out).later HB2.out)
      have HW2 : Hid (Below w.heap.size w (wr.alloc (.cells #[.int .i64 x.1, .bool x.2] 61))) := HBR.out.trans (HB2.out.mono HBR.out.size)
      subst e0
      clear hcs hxj HB2
      go_upto_region 7 with fail
      clear y0 y1
      generalize wr.alloc (.cells #[.int .i64 x.1, .bool x.2] 61) = w2 at *
      generalize wr.heap.size = L2 at *
      have z0 : w2.cell? ⟨L2, 0, none⟩ = some (.int .i64 x.1) := cell_blk HR2.out
      have z1 : w2.cell? ⟨L2, 1, none⟩ = some (.bool x.2) := cell_blk HR2.out
      by_cases h1 : x.1 < 1
      · have HF : Hid (ok = false) := HNO.out (by unfold ixAt; rw [decide_eq_false (show ¬ 1 ≤ x.1 by omega)]; rfl)
        go_wp2
        go_ret
        exact ⟨by rw [HF.out]; rfl, HW2.out⟩
      · by_cases h2 : x.1 ≥ (n : Int)
        · have HF : Hid (ok = false) := HNO.out (by unfold ixAt; rw [decide_eq_false (show ¬ x.1 < (n : Int) by omega), Bool.and_false]; rfl)
          go_wp2
          go_ret
          exact ⟨by rw [HF.out]; rfl, HW2.out⟩
        · have HHS := hide (ix_has HV2.out (by omega) HR2.out)
          have HD1 : Hid (decide (1 ≤ x.1) = true) := decide_eq_true (by omega)
          have HD2 : Hid (decide (x.1 < (n : Int)) = true) := decide_eq_true (by omega)
          cases hh : (l.take j).any (fun y => y.1 == x.1) with
          | true =>
            have HF : Hid (ok = false) := HNO.out (by unfold ixAt; rw [hh]; simp)
            rw [hh] at HHS
            go_wp2_with fail
            refine HHS.out.mono ?_
            rintro e w5 ⟨rfl, hb5⟩
            have HW5 : Hid (Below w.heap.size w w5) := HW2.out.trans (hb5.mono HW2.out.size)
            clear hb5
            go_wp2
            go_ret
            exact ⟨by rw [HF.out]; rfl, HW5.out⟩
          | false =>
            have HF : Hid (ixsN n l (j + 1) = true) := HNX.out.trans (by unfold ixAt; rw [hh, HD1.out, HD2.out]; rfl)
            rw [hh] at HHS
            clear hh
            go_wp2_with fail
            refine HHS.out.mono ?_
            rintro e w5 ⟨rfl, hb5⟩
            have HW5 : Hid (Below w.heap.size w w5) := HW2.out.trans (hb5.mono HW2.out.size)
            clear hb5
            go_wp2
            go_roundg (gk - 1)
            case measure => omega
            case rel => exact ⟨j + 1, by omega, rfl, HF.out, HW5.out⟩
    · have xj : ¬ (j : Int) < (len : Int) := by omega
      have HE : Hid (ok = true) := HOK.out.trans (by rw [← show j = len by omega]; exact HY.out)
      go_wp2
      go_ret
      exact ⟨by rw [HE.out]; rfl, HBR.out⟩
end Go.Proofs.Ytcophbkgighepaa
