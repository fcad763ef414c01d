/- Which schemas are Right. -/
import Derived.Test.YtcophbkgighepaaH2
import Derived.Test.YtcophbkgighepaaH3
set_option linter.unusedVariables false
namespace Go.Proofs.Ytcophbkgighepaa
open Go.RowKit

def colAt (l : List Col) (j : Nat) (c : Col) : Bool := isNm c.1 && isMx c.2.1 c.2.2 && !(l.take j).any (fun y => y.1.toList == c.1.toList)
def colsN (l : List Col) : Nat → Bool
  | 0 => true
  | j + 1 => colsN l j && (match l[j]? with | some c => colAt l j c | none => true)
def colsOk (l : List Col) : Bool := decide (1 ≤ l.length) && decide (l.length ≤ 3) && colsN l l.length
def ixAt (n : Nat) (l : List Idx) (j : Nat) (c : Idx) : Bool := decide (1 ≤ c.1) && decide (c.1 < (n : Int)) && !(l.take j).any (fun y => y.1 == c.1)
def ixsN (n : Nat) (l : List Idx) : Nat → Bool
  | 0 => true
  | j + 1 => ixsN n l j && (match l[j]? with | some c => ixAt n l j c | none => true)
def ixsOk (n : Nat) (l : List Idx) : Bool := decide (l.length ≤ 3) && ixsN n l l.length
theorem colsN_no {l : List Col} {j : Nat} (h : colsN l j = false) : ∀ {n : Nat}, j ≤ n → colsN l n = false
  | 0, hn => by rw [← show j = 0 by omega]; exact h
  | n + 1, hn => by
    by_cases e : j = n + 1
    · rw [← e]; exact h
    · show (colsN l n && _) = false
      rw [colsN_no h (show j ≤ n by omega), Bool.false_and]
theorem ixsN_no {m : Nat} {l : List Idx} {j : Nat} (h : ixsN m l j = false) : ∀ {n : Nat}, j ≤ n → ixsN m l n = false
  | 0, hn => by rw [← show j = 0 by omega]; exact h
  | n + 1, hn => by
    by_cases e : j = n + 1
    · rw [← e]; exact h
    · show (ixsN m l n && _) = false
      rw [ixsN_no h (show j ≤ n by omega), Bool.false_and]
set_option maxRecDepth 100000 in
set_option maxHeartbeats 4000000 in
theorem areCols_any {w : World} {a : Option Addr} {len cap : Nat} {l : List Col} (h : SV fC 3 w a len cap l) :
    Calls Try.prog 26 #[.slice a len cap] w fun e w' => e = .returned (.bool (colsOk l)) ∧ Below w.heap.size w w' := by
  have H := hide h
  have HL := hide h.hl
  have HCP := hide h.hc
  have hcm : (cap : Int) ≤ 9223372036854775807 := by have := h.hm; omega
  have hlc : (len : Int) ≤ (cap : Int) := by have := h.hc; omega
  clear h
  by_cases h0 : len = 0
  · have HE : Hid (colsOk l = false) := by show _ = _; unfold colsOk; rw [HL.out, h0]; rfl
    subst h0
    go_enter Try.func26, Try.ntmps26
    go_wp2
    go_ret
    exact ⟨by rw [HE.out]; rfl, Below.refl _ _⟩
  have c0 : ((len : Int) == 0) = false := by simp; omega
  by_cases h3 : 3 < len
  · have HE : Hid (colsOk l = false) := by
      show _ = _
      unfold colsOk
      rw [HL.out, decide_eq_false (show ¬ len ≤ 3 by omega)]
      simp
    have x3 : (3 : Int) < (len : Int) := by omega
    clear h3
    go_enter Try.func26, Try.ntmps26
    go_wp2
    go_ret
    exact ⟨by rw [HE.out]; rfl, Below.refl _ _⟩
  have x3 : ¬ (3 : Int) < (len : Int) := by omega
  have HLE : Hid (len ≤ 3) := by show len ≤ 3; omega
  have HOK : Hid (colsOk l = colsN l len) := by
    show _ = _
    unfold colsOk
    rw [HL.out, decide_eq_true (show len ≤ 3 by omega), decide_eq_true (show 1 ≤ len by omega)]
    rfl
  generalize colsOk l = ok at *
  clear h3
  go_enter Try.func26, Try.ntmps26
  go_wp2_with fail
  go_loopg [16] len (fun gh s wx => ∃ j : Nat, j + gh = len ∧ s = .int .i64 (j : Int) ∧ colsN l j = true ∧ Below w.heap.size w wx)
  case atStart => exact ⟨0, by omega, rfl, rfl, Below.refl _ _⟩
  case round =>
    obtain ⟨j, hj, rfl, hyes, hbr⟩ := hrel
    have HY := hide hyes
    have HBR := hide hbr
    clear hyes hbr
    by_cases hjn : j < len
    · have xj : (j : Int) < (len : Int) := by omega
      have xj0 : (0 : Int) ≤ (j : Int) := by omega
      have xjc : (j : Int) ≤ (cap : Int) := by omega
      obtain ⟨x, hxj⟩ : ∃ x, l[j]? = some x := ⟨_, List.getElem?_eq_getElem (by rw [HL.out]; exact hjn)⟩
      have HNX : Hid (colsN l (j + 1) = colAt l j x) := by
        show (colsN l j && (match l[j]? with | some c => colAt l j c | none => true)) = _
        rw [HY.out, hxj, Bool.true_and]
      have HNO : Hid (colAt l j x = false → ok = false) := fun q => HOK.out.trans (colsN_no (HNX.out.trans q) (by omega))
      obtain ⟨b, o, e0, hb, hcs⟩ := H.out.pl (by omega)
      have y0 : wr.cell? ⟨b, o + j * 3, none⟩ = some (.string x.1) := (HBR.out.cell hb).trans (hcs j x hxj 0 (by omega))
      have y1 : wr.cell? ⟨b, o + j * 3 + 1, none⟩ = some (.int .i64 x.2.1) := (HBR.out.cell hb).trans (hcs j x hxj 1 (by omega))
      have y2 : wr.cell? ⟨b, o + j * 3 + 2, none⟩ = some (.int .i64 x.2.2) := (HBR.out.cell hb).trans (hcs j x hxj 2 (by omega))
      have HB2 := hide (below_box wr (.cells #[.string x.1, .int .i64 x.2.1, .int .i64 x.2.2] 59))
      have HR2 : Hid ((wr.alloc (.cells #[.string x.1, .int .i64 x.2.1, .int .i64 x.2.2] 59)).heap[wr.heap.size]? = some (.cells #[.string x.1, .int .i64 x.2.1, .int .i64 x.2.2] 59 (0, 0))) := boxed wr _
      have HV2 := hide (((H.out.take (n := j) (by omega)).later HBR.out).later HB2.out)
      have HW2 : Hid (Below w.heap.size w (wr.alloc (.cells #[.string x.1, .int .i64 x.2.1, .int .i64 x.2.2] 59))) := HBR.out.trans (HB2.out.mono HBR.out.size)
      subst e0
      clear hcs hxj HB2
      go_upto_region 7 with fail
      clear y0 y1 y2
      generalize wr.alloc (.cells #[.string x.1, .int .i64 x.2.1, .int .i64 x.2.2] 59) = w2 at *
      generalize wr.heap.size = L2 at *
      have z0 : w2.cell? ⟨L2, 0, none⟩ = some (.string x.1) := cell_blk HR2.out
      have z1 : w2.cell? ⟨L2, 1, none⟩ = some (.int .i64 x.2.1) := cell_blk HR2.out
      have z2 : w2.cell? ⟨L2, 2, none⟩ = some (.int .i64 x.2.2) := cell_blk HR2.out
      have HNM := hide (name_any x.1 w2)
      cases hn : isNm x.1 with
      | false =>
        have HF : Hid (ok = false) := HNO.out (by unfold colAt; rw [hn]; rfl)
        rw [hn] at HNM
        go_wp2_with fail
        refine HNM.out.mono ?_
        rintro e w3 ⟨rfl, hb3⟩
        have HW3 : Hid (Below w.heap.size w w3) := HW2.out.trans (hb3.mono HW2.out.size)
        clear hb3
        go_wp2
        go_ret
        exact ⟨by rw [HF.out]; rfl, HW3.out⟩
      | true =>
        rw [hn] at HNM
        have HN := hide hn
        clear hn
        go_wp2_with fail
        refine HNM.out.mono ?_
        rintro e w3 ⟨rfl, hb3⟩
        have HW3 : Hid (Below w.heap.size w w3) := HW2.out.trans (hb3.mono HW2.out.size)
        have HR3 := hide ((hb3.block L2 (blk_lt HR2.out)).trans HR2.out)
        have HV3 := hide (HV2.out.later hb3)
        have u0 : w3.cell? ⟨L2, 0, none⟩ = some (.string x.1) := cell_blk HR3.out
        have u1 : w3.cell? ⟨L2, 1, none⟩ = some (.int .i64 x.2.1) := cell_blk HR3.out
        have u2 : w3.cell? ⟨L2, 2, none⟩ = some (.int .i64 x.2.2) := cell_blk HR3.out
        have HMX := hide (ismax_any x.1 x.2.1 x.2.2 w3)
        clear hb3 z0 z1 z2 HNM
        cases hm : isMx x.2.1 x.2.2 with
        | false =>
          have HF : Hid (ok = false) := HNO.out (by unfold colAt; rw [hm, Bool.and_false]; rfl)
          rw [hm] at HMX
          go_wp2_with fail
          refine HMX.out.mono ?_
          rintro e w4 ⟨rfl, hb4⟩
          have HW4 : Hid (Below w.heap.size w w4) := HW3.out.trans (hb4.mono HW3.out.size)
          clear hb4
          go_wp2
          go_ret
          exact ⟨by rw [HF.out]; rfl, HW4.out⟩
        | true =>
          rw [hm] at HMX
          have HM := hide hm
          clear hm
          go_wp2_with fail
          refine HMX.out.mono ?_
          rintro e w4 ⟨rfl, hb4⟩
          have HW4 : Hid (Below w.heap.size w w4) := HW3.out.trans (hb4.mono HW3.out.size)
          have HR4 := hide ((hb4.block L2 (blk_lt HR3.out)).trans HR3.out)
          have HV4 := hide (HV3.out.later hb4)
          have HHS := hide (col_has HV4.out (by omega) HR4.out)
          clear hb4 u0 u1 u2 HMX
          cases hh : (l.take j).any (fun y => y.1.toList == x.1.toList) with
          | true =>
            have HF : Hid (ok = false) := HNO.out (by unfold colAt; rw [hh]; simp)
            rw [hh] at HHS
            go_wp2_with fail
            refine HHS.out.mono ?_
            rintro e w5 ⟨rfl, hb5⟩
            have HW5 : Hid (Below w.heap.size w w5) := HW4.out.trans (hb5.mono HW4.out.size)
            clear hb5
            go_wp2
            go_ret
            exact ⟨by rw [HF.out]; rfl, HW5.out⟩
          | false =>
            have HF : Hid (colsN l (j + 1) = true) := HNX.out.trans (by unfold colAt; rw [hh, HN.out, HM.out]; rfl)
            rw [hh] at HHS
            clear hh
            go_wp2_with fail
            refine HHS.out.mono ?_
            rintro e w5 ⟨rfl, hb5⟩
            have HW5 : Hid (Below w.heap.size w w5) := HW4.out.trans (hb5.mono HW4.out.size)
            clear hb5
            go_wp2
            go_roundg (gk - 1)
            case measure => omega
            case rel => exact ⟨j + 1, by omega, rfl, HF.out, HW5.out⟩
    · have xj : ¬ (j : Int) < (len : Int) := by omega
      have HE : Hid (ok = true) := HOK.out.trans (by rw [← show j = len by omega]; exact HY.out)
      go_wp2
      go_ret
      exact ⟨by rw [HE.out]; rfl, HBR.out⟩
set_option maxRecDepth 100000 in
set_option maxHeartbeats 4000000 in
theorem areIxs_any {w : World} {a : Option Addr} {len cap n : Nat} {l : List Idx} (h : SV fX 2 w a len cap l) :
    Calls Try.prog 27 #[.slice a len cap, .int .i64 (n : Int)] w fun e w' => e = .returned (.bool (ixsOk n l)) ∧ Below w.heap.size w w' := by
  have H := hide h
  have HL := hide h.hl
  have HCP := hide h.hc
  have hcm : (cap : Int) ≤ 9223372036854775807 := by have := h.hm; omega
  have hlc : (len : Int) ≤ (cap : Int) := by have := h.hc; omega
  clear h
  by_cases h3 : 3 < len
  · have HE : Hid (ixsOk n l = false) := by
      show _ = _
      unfold ixsOk
      rw [HL.out, decide_eq_false (show ¬ len ≤ 3 by omega)]
      simp
    have x3 : (3 : Int) < (len : Int) := by omega
    clear h3
    go_enter Try.func27, Try.ntmps27
    go_wp2
    go_ret
    exact ⟨by rw [HE.out]; rfl, Below.refl _ _⟩
  have x3 : ¬ (3 : Int) < (len : Int) := by omega
  have HLE : Hid (len ≤ 3) := by show len ≤ 3; omega
  have HOK : Hid (ixsOk n l = ixsN n l len) := by
    show _ = _
    unfold ixsOk
    rw [HL.out, decide_eq_true (show len ≤ 3 by omega)]
    rfl
  generalize ixsOk n l = ok at *
  clear h3
  go_enter Try.func27, Try.ntmps27
  go_wp2_with fail
  go_loopg [13] len (fun gh s wx => ∃ j : Nat, j + gh = len ∧ s = .int .i64 (j : Int) ∧ ixsN n l j = true ∧ Below w.heap.size w wx)
  case atStart => exact ⟨0, by omega, rfl, rfl, Below.refl _ _⟩
  case round =>
    obtain ⟨j, hj, rfl, hyes, hbr⟩ := hrel
    have HY := hide hyes
    have HBR := hide hbr
    clear hyes hbr
    by_cases hjn : j < len
    · have xj : (j : Int) < (len : Int) := by omega
      have xj0 : (0 : Int) ≤ (j : Int) := by omega
      have xjc : (j : Int) ≤ (cap : Int) := by omega
      obtain ⟨x, hxj⟩ : ∃ x, l[j]? = some x := ⟨_, List.getElem?_eq_getElem (by rw [HL.out]; exact hjn)⟩
      have HNX : Hid (ixsN n l (j + 1) = ixAt n l j x) := by
        show (ixsN n l j && (match l[j]? with | some c => ixAt n l j c | none => true)) = _
        rw [HY.out, hxj, Bool.true_and]
      have HNO : Hid (ixAt n l j x = false → ok = false) := fun q => HOK.out.trans (ixsN_no (HNX.out.trans q) (by omega))
      obtain ⟨b, o, e0, hb, hcs⟩ := H.out.pl (by omega)
      have y0 : wr.cell? ⟨b, o + j * 2, none⟩ = some (.int .i64 x.1) := (HBR.out.cell hb).trans (hcs j x hxj 0 (by omega))
      have y1 : wr.cell? ⟨b, o + j * 2 + 1, none⟩ = some (.bool x.2) := (HBR.out.cell hb).trans (hcs j x hxj 1 (by omega))
      have HB2 := hide (below_box wr (.cells #[.int .i64 x.1, .bool x.2] 61))
      have HR2 : Hid ((wr.alloc (.cells #[.int .i64 x.1, .bool x.2] 61)).heap[wr.heap.size]? = some (.cells #[.int .i64 x.1, .bool x.2] 61 (0, 0))) := boxed wr _
      have HV2 := hide (((H.out.take (n := j) (by omega)).later HBR.out).later HB2.out)
      have HW2 : Hid (Below w.heap.size w (wr.alloc (.cells #[.int .i64 x.1, .bool x.2] 61))) := HBR.out.trans (HB2.out.mono HBR.out.size)
      subst e0
      clear hcs hxj HB2
      go_upto_region 7 with fail
      clear y0 y1
      generalize wr.alloc (.cells #[.int .i64 x.1, .bool x.2] 61) = w2 at *
      generalize wr.heap.size = L2 at *
      have z0 : w2.cell? ⟨L2, 0, none⟩ = some (.int .i64 x.1) := cell_blk HR2.out
      have z1 : w2.cell? ⟨L2, 1, none⟩ = some (.bool x.2) := cell_blk HR2.out
      by_cases h1 : x.1 < 1
      · have HF : Hid (ok = false) := HNO.out (by unfold ixAt; rw [decide_eq_false (show ¬ 1 ≤ x.1 by omega)]; rfl)
        go_wp2
        go_ret
        exact ⟨by rw [HF.out]; rfl, HW2.out⟩
      · by_cases h2 : x.1 ≥ (n : Int)
        · have HF : Hid (ok = false) := HNO.out (by unfold ixAt; rw [decide_eq_false (show ¬ x.1 < (n : Int) by omega), Bool.and_false]; rfl)
          go_wp2
          go_ret
          exact ⟨by rw [HF.out]; rfl, HW2.out⟩
        · have HHS := hide (ix_has HV2.out (by omega) HR2.out)
          have HD1 : Hid (decide (1 ≤ x.1) = true) := decide_eq_true (by omega)
          have HD2 : Hid (decide (x.1 < (n : Int)) = true) := decide_eq_true (by omega)
          cases hh : (l.take j).any (fun y => y.1 == x.1) with
          | true =>
            have HF : Hid (ok = false) := HNO.out (by unfold ixAt; rw [hh]; simp)
            rw [hh] at HHS
            go_wp2_with fail
            refine HHS.out.mono ?_
            rintro e w5 ⟨rfl, hb5⟩
            have HW5 : Hid (Below w.heap.size w w5) := HW2.out.trans (hb5.mono HW2.out.size)
            clear hb5
            go_wp2
            go_ret
            exact ⟨by rw [HF.out]; rfl, HW5.out⟩
          | false =>
            have HF : Hid (ixsN n l (j + 1) = true) := HNX.out.trans (by unfold ixAt; rw [hh, HD1.out, HD2.out]; rfl)
            rw [hh] at HHS
            clear hh
            go_wp2_with fail
            refine HHS.out.mono ?_
            rintro e w5 ⟨rfl, hb5⟩
            have HW5 : Hid (Below w.heap.size w w5) := HW2.out.trans (hb5.mono HW2.out.size)
            clear hb5
            go_wp2
            go_roundg (gk - 1)
            case measure => omega
            case rel => exact ⟨j + 1, by omega, rfl, HF.out, HW5.out⟩
    · have xj : ¬ (j : Int) < (len : Int) := by omega
      have HE : Hid (ok = true) := HOK.out.trans (by rw [← show j = len by omega]; exact HY.out)
      go_wp2
      go_ret
      exact ⟨by rw [HE.out]; rfl, HBR.out⟩
end Go.Proofs.Ytcophbkgighepaa
set_option linter.unusedVariables false
namespace Go.Proofs.Ytcophbkgighepaa
open Go.RowKit

/-- A schema: its name, its columns, its indexes. -/
structure Sch where
  nm : ByteArray
  cs : List Col
  xs : List Idx
def Sch.ok (s : Sch) : Bool := isNm s.nm && colsOk s.cs && ixsOk s.cs.length s.xs
/-- A schema as it is handed on: its rows lie in the world. -/
structure SC (w : World) (ca : Option Addr) (cl cc : Nat) (xa : Option Addr) (xl xc : Nat) (s : Sch) : Prop where
  c : SV fC 3 w ca cl cc s.cs
  x : SV fX 2 w xa xl xc s.xs
theorem SC.later {w w' : World} {ca xa : Option Addr} {cl cc xl xc : Nat} {s : Sch} (h : SC w ca cl cc xa xl xc s) (hb : Below w.heap.size w w') : SC w' ca cl cc xa xl xc s := ⟨h.c.later hb, h.x.later hb⟩
def Sch.err (s : Sch) : Int := if s.ok then 0 else 61
set_option maxRecDepth 100000 in
set_option maxHeartbeats 2000000 in
theorem sright_any {w : World} {ca xa : Option Addr} {cl cc xl xc : Nat} {s : Sch} (h : SC w ca cl cc xa xl xc s) :
    Calls Try.prog 8 #[.agg #[.string s.nm, .slice ca cl cc, .slice xa xl xc]] w fun e w' => e = .returned (.int .i64 s.err) ∧ Below w.heap.size w w' := by
  have hbx := below_box w (.cells #[.string s.nm, .slice ca cl cc, .slice xa xl xc] 25)
  have HR1 : Hid ((w.alloc (.cells #[.string s.nm, .slice ca cl cc, .slice xa xl xc] 25)).heap[w.heap.size]? = some (.cells #[.string s.nm, .slice ca cl cc, .slice xa xl xc] 25 (0, 0))) := boxed w _
  have H1 := hide (h.later hbx)
  have HW1 := hide hbx
  have HNM := hide (name_any s.nm (w.alloc (.cells #[.string s.nm, .slice ca cl cc, .slice xa xl xc] 25)))
  have HCL := hide h.c.hl
  clear h hbx
  go_enter Try.func8, Try.ntmps8
  go_upto_region 1 with fail
  generalize w.alloc (.cells #[.string s.nm, .slice ca cl cc, .slice xa xl xc] 25) = w1 at *
  generalize hL : w.heap.size = L at *
  have z0 : w1.cell? ⟨L, 0, none⟩ = some (.string s.nm) := cell_blk HR1.out
  have z1 : w1.cell? ⟨L, 1, none⟩ = some (.slice ca cl cc) := cell_blk HR1.out
  cases hn : isNm s.nm with
  | false =>
    have HE : Hid (s.err = 61) := if_neg (by unfold Sch.ok; rw [hn]; simp)
    rw [hn] at HNM
    go_wp2_with fail
    refine HNM.out.mono ?_
    rintro e w2 ⟨rfl, hb2⟩
    have HW2 : Hid (Below L w w2) := HW1.out.trans (hb2.mono (by have := blk_lt HR1.out; omega))
    clear hb2
    go_wp2
    go_ret
    exact ⟨by rw [HE.out]; rfl, by first | exact HW2.out | (rw [hL]; exact HW2.out)⟩
  | true =>
    have HN := hide hn
    rw [hn] at HNM
    clear hn
    go_wp2_with fail
    refine HNM.out.mono ?_
    rintro e w2 ⟨rfl, hb2⟩
    have HW2 : Hid (Below L w w2) := HW1.out.trans (hb2.mono (by have := blk_lt HR1.out; omega))
    have HR2 := hide ((hb2.block L (blk_lt HR1.out)).trans HR1.out)
    have H2 := hide (H1.out.later hb2)
    have u1 : w2.cell? ⟨L, 1, none⟩ = some (.slice ca cl cc) := cell_blk HR2.out
    have HCO := hide (areCols_any H2.out.c)
    clear hb2 z0 z1 HNM H1 HR1
    cases hc : colsOk s.cs with
    | false =>
      have HE : Hid (s.err = 61) := if_neg (by unfold Sch.ok; rw [hc]; simp)
      rw [hc] at HCO
      go_wp2_with fail
      refine HCO.out.mono ?_
      rintro e w3 ⟨rfl, hb3⟩
      have HW3 : Hid (Below L w w3) := HW2.out.trans (hb3.mono (by have := blk_lt HR2.out; omega))
      clear hb3
      go_wp2
      go_ret
      exact ⟨by rw [HE.out]; rfl, by first | exact HW3.out | (rw [hL]; exact HW3.out)⟩
    | true =>
      have HC := hide hc
      rw [hc] at HCO
      clear hc
      go_wp2_with fail
      refine HCO.out.mono ?_
      rintro e w3 ⟨rfl, hb3⟩
      have HW3 : Hid (Below L w w3) := HW2.out.trans (hb3.mono (by have := blk_lt HR2.out; omega))
      have HR3 := hide ((hb3.block L (blk_lt HR2.out)).trans HR2.out)
      have H3 := hide (H2.out.later hb3)
      have t1 : w3.cell? ⟨L, 1, none⟩ = some (.slice ca cl cc) := cell_blk HR3.out
      have t2 : w3.cell? ⟨L, 2, none⟩ = some (.slice xa xl xc) := cell_blk HR3.out
      have HXO := hide (areIxs_any (n := cl) H3.out.x)
      rw [← HCL.out] at HXO
      have HOK : Hid (s.ok = ixsOk s.cs.length s.xs) := by show _ = _; unfold Sch.ok; rw [HN.out, HC.out]; rfl
      generalize ixsOk s.cs.length s.xs = okx at *
      rw [HCL.out] at HXO
      clear hb3 u1 HCO
      cases okx with
      | false =>
        have HE : Hid (s.err = 61) := if_neg (by rw [HOK.out]; decide)
        go_wp2_with fail
        refine HXO.out.mono ?_
        rintro e w4 ⟨rfl, hb4⟩
        have HW4 : Hid (Below L w w4) := HW3.out.trans (hb4.mono (by have := blk_lt HR3.out; omega))
        clear hb4
        go_wp2
        go_ret
        exact ⟨by rw [HE.out]; rfl, by first | exact HW4.out | (rw [hL]; exact HW4.out)⟩
      | true =>
        have HE : Hid (s.err = 0) := if_pos HOK.out
        go_wp2_with fail
        refine HXO.out.mono ?_
        rintro e w4 ⟨rfl, hb4⟩
        have HW4 : Hid (Below L w w4) := HW3.out.trans (hb4.mono (by have := blk_lt HR3.out; omega))
        clear hb4
        go_wp2
        go_ret
        exact ⟨by rw [HE.out]; rfl, by first | exact HW4.out | (rw [hL]; exact HW4.out)⟩
end Go.Proofs.Ytcophbkgighepaa
set_option linter.unusedVariables false
namespace Go.Proofs.Ytcophbkgighepaa
open Go.RowKit

def fV (x : Val) : List Value := [.int .i64 x.1, .int .i64 x.2.1, .string x.2.2]
set_option maxRecDepth 100000 in
set_option maxHeartbeats 2000000 in
theorem col_eq {w : World} {a a' : Option Addr} {len cap len' cap' : Nat} {l l' : List Col} (h : SV fC 3 w a len cap l) (h' : SV fC 3 w a' len' cap' l') (hlen : len ≤ 1000) :
    Calls Try.prog 47 #[.slice a len cap, .slice a' len' cap'] w fun e w' => e = .returned (.bool (decide (l = l'))) ∧ Below w.heap.size w w' := by
  have H := hide h
  have H' := hide h'
  have HL := hide h.hl
  have HL' := hide h'.hl
  clear h h'
  by_cases hne : len = len'
  · subst hne
    go_enter Try.func47, Try.ntmps47
    go_wp2_with fail
    go_loopg [13] len (fun gh s13 wx => ∃ j : Nat, j + gh = len ∧ s13 = .int .i64 (j : Int) ∧ l.take j = l'.take j ∧ Below w.heap.size w wx)
    case atStart => exact ⟨0, by omega, rfl, by simp, Below.refl _ _⟩
    case round =>
      obtain ⟨j, hj, rfl, htk, hbr⟩ := hrel
      have HTK := hide htk
      have HBR := hide hbr
      clear htk hbr
      by_cases hjn : j < len
      · have xj : (j : Int) < (len : Int) := by omega
        obtain ⟨x, hxj⟩ : ∃ x, l[j]? = some x := ⟨_, List.getElem?_eq_getElem (by rw [HL.out]; exact hjn)⟩
        obtain ⟨y, hyj⟩ : ∃ y, l'[j]? = some y := ⟨_, List.getElem?_eq_getElem (by rw [HL'.out]; exact hjn)⟩
        have HS : Hid (x = y → l.take (j + 1) = l'.take (j + 1)) := by
          intro q
          rw [List.take_add_one, List.take_add_one, hxj, hyj, HTK.out, q]
        have HD : Hid (x ≠ y → l ≠ l') := by
          intro q e
          rw [e, hyj] at hxj
          simp only [Option.some.injEq] at hxj
          exact q hxj.symm
        obtain ⟨b, o, e0, hb, hcs⟩ := H.out.pl (by omega)
        obtain ⟨b', o', e0', hb', hcs'⟩ := H'.out.pl (by omega)
        have hc1 := fun t (ht : t < 3) => (HBR.out.cell hb (p := ⟨b, o + j * 3 + t, none⟩)).trans (hcs j x hxj t ht)
        have hc2 := fun t (ht : t < 3) => (HBR.out.cell hb' (p := ⟨b', o' + j * 3 + t, none⟩)).trans (hcs' j y hyj t ht)
        subst e0 e0'
        have y0 : wr.cell? ⟨b, o + j * 3, none⟩ = some (.string x.1) := hc1 0 (by omega)
        have y1 : wr.cell? ⟨b, o + j * 3 + 1, none⟩ = some (.int .i64 x.2.1) := hc1 1 (by omega)
        have y2 : wr.cell? ⟨b, o + j * 3 + 2, none⟩ = some (.int .i64 x.2.2) := hc1 2 (by omega)
        have z0 : wr.cell? ⟨b', o' + j * 3, none⟩ = some (.string y.1) := hc2 0 (by omega)
        have z1 : wr.cell? ⟨b', o' + j * 3 + 1, none⟩ = some (.int .i64 y.2.1) := hc2 1 (by omega)
        have z2 : wr.cell? ⟨b', o' + j * 3 + 2, none⟩ = some (.int .i64 y.2.2) := hc2 2 (by omega)
        clear hcs hcs' hc1 hc2 hxj hyj
        by_cases hxy : x = y
        · have HN := hide (HS.out hxy)
          subst hxy
          go_wp2_with fail
          go_quiet (fail)
          go_wp2
          go_roundg (gk - 1)
          case measure => omega
          case rel => exact ⟨j + 1, by omega, rfl, HN.out, below_drw HBR.out _⟩
        · have HN : Hid (decide (l = l') = false) := decide_eq_false (HD.out hxy)
          by_cases e0 : x.1 = y.1
          · have f0 : (x.1.toList == y.1.toList) = true := by rw [e0]; exact beq_self_eq_true _
            by_cases e1 : x.2.1 = y.2.1
            · have f1 : (x.2.1 == y.2.1) = true := by rw [e1]; exact beq_self_eq_true _
              have f2 : (x.2.2 == y.2.2) = false := by simp; intro q; exact hxy (Prod.ext e0 (Prod.ext e1 q))
              go_wp2_with fail
              go_quiet (fail)
              go_wp2
              go_ret
              exact ⟨by rw [HN.out]; rfl, below_drw HBR.out _⟩
            · have f1 : (x.2.1 == y.2.1) = false := by simp [e1]
              go_wp2_with fail
              go_quiet (fail)
              go_wp2
              go_ret
              exact ⟨by rw [HN.out]; rfl, below_drw HBR.out _⟩
          · have f0 : (x.1.toList == y.1.toList) = false := by rw [ba_beq]; exact decide_eq_false e0
            go_wp2_with fail
            go_quiet (fail)
            go_wp2
            go_ret
            exact ⟨by rw [HN.out]; rfl, below_drw HBR.out _⟩
      · have xj : ¬ (j : Int) < (len : Int) := by omega
        have HE : Hid (l = l') := by
          have h9 := HTK.out
          rw [List.take_of_length_le (by rw [HL.out]; omega), List.take_of_length_le (by rw [HL'.out]; omega)] at h9
          exact h9
        go_wp2
        go_ret
        exact ⟨by rw [decide_eq_true HE.out]; rfl, HBR.out⟩
  · have HE : Hid (decide (l = l') = false) := decide_eq_false fun e => hne (by rw [← HL.out, ← HL'.out, e])
    have hn : ((len : Int) != (len' : Int)) = true := by simp; omega
    go_enter Try.func47, Try.ntmps47
    go_wp2
    go_ret
    exact ⟨by rw [HE.out]; rfl, Below.refl _ _⟩
set_option maxRecDepth 100000 in
set_option maxHeartbeats 2000000 in
theorem ix_eq {w : World} {a a' : Option Addr} {len cap len' cap' : Nat} {l l' : List Idx} (h : SV fX 2 w a len cap l) (h' : SV fX 2 w a' len' cap' l') (hlen : len ≤ 1000) :
    Calls Try.prog 48 #[.slice a len cap, .slice a' len' cap'] w fun e w' => e = .returned (.bool (decide (l = l'))) ∧ Below w.heap.size w w' := by
  have H := hide h
  have H' := hide h'
  have HL := hide h.hl
  have HL' := hide h'.hl
  clear h h'
  by_cases hne : len = len'
  · subst hne
    go_enter Try.func48, Try.ntmps48
    go_wp2_with fail
    go_loopg [13] len (fun gh s13 wx => ∃ j : Nat, j + gh = len ∧ s13 = .int .i64 (j : Int) ∧ l.take j = l'.take j ∧ Below w.heap.size w wx)
    case atStart => exact ⟨0, by omega, rfl, by simp, Below.refl _ _⟩
    case round =>
      obtain ⟨j, hj, rfl, htk, hbr⟩ := hrel
      have HTK := hide htk
      have HBR := hide hbr
      clear htk hbr
      by_cases hjn : j < len
      · have xj : (j : Int) < (len : Int) := by omega
        obtain ⟨x, hxj⟩ : ∃ x, l[j]? = some x := ⟨_, List.getElem?_eq_getElem (by rw [HL.out]; exact hjn)⟩
        obtain ⟨y, hyj⟩ : ∃ y, l'[j]? = some y := ⟨_, List.getElem?_eq_getElem (by rw [HL'.out]; exact hjn)⟩
        have HS : Hid (x = y → l.take (j + 1) = l'.take (j + 1)) := by
          intro q
          rw [List.take_add_one, List.take_add_one, hxj, hyj, HTK.out, q]
        have HD : Hid (x ≠ y → l ≠ l') := by
          intro q e
          rw [e, hyj] at hxj
          simp only [Option.some.injEq] at hxj
          exact q hxj.symm
        obtain ⟨b, o, e0, hb, hcs⟩ := H.out.pl (by omega)
        obtain ⟨b', o', e0', hb', hcs'⟩ := H'.out.pl (by omega)
        have hc1 := fun t (ht : t < 2) => (HBR.out.cell hb (p := ⟨b, o + j * 2 + t, none⟩)).trans (hcs j x hxj t ht)
        have hc2 := fun t (ht : t < 2) => (HBR.out.cell hb' (p := ⟨b', o' + j * 2 + t, none⟩)).trans (hcs' j y hyj t ht)
        subst e0 e0'
        have y0 : wr.cell? ⟨b, o + j * 2, none⟩ = some (.int .i64 x.1) := hc1 0 (by omega)
        have y1 : wr.cell? ⟨b, o + j * 2 + 1, none⟩ = some (.bool x.2) := hc1 1 (by omega)
        have z0 : wr.cell? ⟨b', o' + j * 2, none⟩ = some (.int .i64 y.1) := hc2 0 (by omega)
        have z1 : wr.cell? ⟨b', o' + j * 2 + 1, none⟩ = some (.bool y.2) := hc2 1 (by omega)
        clear hcs hcs' hc1 hc2 hxj hyj
        by_cases hxy : x = y
        · have HN := hide (HS.out hxy)
          subst hxy
          go_wp2_with fail
          go_quiet (fail)
          go_wp2
          go_roundg (gk - 1)
          case measure => omega
          case rel => exact ⟨j + 1, by omega, rfl, HN.out, below_drw HBR.out _⟩
        · have HN : Hid (decide (l = l') = false) := decide_eq_false (HD.out hxy)
          by_cases e0 : x.1 = y.1
          · have f0 : (x.1 == y.1) = true := by rw [e0]; exact beq_self_eq_true _
            have f1 : (x.2 == y.2) = false := by simp; intro q; exact hxy (Prod.ext e0 q)
            go_wp2_with fail
            go_quiet (fail)
            go_wp2
            go_ret
            exact ⟨by rw [HN.out]; rfl, below_drw HBR.out _⟩
          · have f0 : (x.1 == y.1) = false := by simp [e0]
            go_wp2_with fail
            go_quiet (fail)
            go_wp2
            go_ret
            exact ⟨by rw [HN.out]; rfl, below_drw HBR.out _⟩
      · have xj : ¬ (j : Int) < (len : Int) := by omega
        have HE : Hid (l = l') := by
          have h9 := HTK.out
          rw [List.take_of_length_le (by rw [HL.out]; omega), List.take_of_length_le (by rw [HL'.out]; omega)] at h9
          exact h9
        go_wp2
        go_ret
        exact ⟨by rw [decide_eq_true HE.out]; rfl, HBR.out⟩
  · have HE : Hid (decide (l = l') = false) := decide_eq_false fun e => hne (by rw [← HL.out, ← HL'.out, e])
    have hn : ((len : Int) != (len' : Int)) = true := by simp; omega
    go_enter Try.func48, Try.ntmps48
    go_wp2
    go_ret
    exact ⟨by rw [HE.out]; rfl, Below.refl _ _⟩
set_option maxRecDepth 100000 in
set_option maxHeartbeats 2000000 in
theorem val_eq {w : World} {a a' : Option Addr} {len cap len' cap' : Nat} {l l' : List Val} (h : SV fV 3 w a len cap l) (h' : SV fV 3 w a' len' cap' l') (hlen : len ≤ 1000) :
    Calls Try.prog 49 #[.slice a len cap, .slice a' len' cap'] w fun e w' => e = .returned (.bool (decide (l = l'))) ∧ Below w.heap.size w w' := by
  have H := hide h
  have H' := hide h'
  have HL := hide h.hl
  have HL' := hide h'.hl
  clear h h'
  by_cases hne : len = len'
  · subst hne
    go_enter Try.func49, Try.ntmps49
    go_wp2_with fail
    go_loopg [13] len (fun gh s13 wx => ∃ j : Nat, j + gh = len ∧ s13 = .int .i64 (j : Int) ∧ l.take j = l'.take j ∧ Below w.heap.size w wx)
    case atStart => exact ⟨0, by omega, rfl, by simp, Below.refl _ _⟩
    case round =>
      obtain ⟨j, hj, rfl, htk, hbr⟩ := hrel
      have HTK := hide htk
      have HBR := hide hbr
      clear htk hbr
      by_cases hjn : j < len
      · have xj : (j : Int) < (len : Int) := by omega
        obtain ⟨x, hxj⟩ : ∃ x, l[j]? = some x := ⟨_, List.getElem?_eq_getElem (by rw [HL.out]; exact hjn)⟩
        obtain ⟨y, hyj⟩ : ∃ y, l'[j]? = some y := ⟨_, List.getElem?_eq_getElem (by rw [HL'.out]; exact hjn)⟩
        have HS : Hid (x = y → l.take (j + 1) = l'.take (j + 1)) := by
          intro q
          rw [List.take_add_one, List.take_add_one, hxj, hyj, HTK.out, q]
        have HD : Hid (x ≠ y → l ≠ l') := by
          intro q e
          rw [e, hyj] at hxj
          simp only [Option.some.injEq] at hxj
          exact q hxj.symm
        obtain ⟨b, o, e0, hb, hcs⟩ := H.out.pl (by omega)
        obtain ⟨b', o', e0', hb', hcs'⟩ := H'.out.pl (by omega)
        have hc1 := fun t (ht : t < 3) => (HBR.out.cell hb (p := ⟨b, o + j * 3 + t, none⟩)).trans (hcs j x hxj t ht)
        have hc2 := fun t (ht : t < 3) => (HBR.out.cell hb' (p := ⟨b', o' + j * 3 + t, none⟩)).trans (hcs' j y hyj t ht)
        subst e0 e0'
        have y0 : wr.cell? ⟨b, o + j * 3, none⟩ = some (.int .i64 x.1) := hc1 0 (by omega)
        have y1 : wr.cell? ⟨b, o + j * 3 + 1, none⟩ = some (.int .i64 x.2.1) := hc1 1 (by omega)
        have y2 : wr.cell? ⟨b, o + j * 3 + 2, none⟩ = some (.string x.2.2) := hc1 2 (by omega)
        have z0 : wr.cell? ⟨b', o' + j * 3, none⟩ = some (.int .i64 y.1) := hc2 0 (by omega)
        have z1 : wr.cell? ⟨b', o' + j * 3 + 1, none⟩ = some (.int .i64 y.2.1) := hc2 1 (by omega)
        have z2 : wr.cell? ⟨b', o' + j * 3 + 2, none⟩ = some (.string y.2.2) := hc2 2 (by omega)
        clear hcs hcs' hc1 hc2 hxj hyj
        by_cases hxy : x = y
        · have HN := hide (HS.out hxy)
          subst hxy
          go_wp2_with fail
          go_quiet (fail)
          go_wp2
          go_roundg (gk - 1)
          case measure => omega
          case rel => exact ⟨j + 1, by omega, rfl, HN.out, below_drw HBR.out _⟩
        · have HN : Hid (decide (l = l') = false) := decide_eq_false (HD.out hxy)
          by_cases e0 : x.1 = y.1
          · have f0 : (x.1 == y.1) = true := by rw [e0]; exact beq_self_eq_true _
            by_cases e1 : x.2.1 = y.2.1
            · have f1 : (x.2.1 == y.2.1) = true := by rw [e1]; exact beq_self_eq_true _
              have f2 : (x.2.2.toList == y.2.2.toList) = false := by rw [ba_beq]; exact decide_eq_false fun q => hxy (Prod.ext e0 (Prod.ext e1 q))
              go_wp2_with fail
              go_quiet (fail)
              go_wp2
              go_ret
              exact ⟨by rw [HN.out]; rfl, below_drw HBR.out _⟩
            · have f1 : (x.2.1 == y.2.1) = false := by simp [e1]
              go_wp2_with fail
              go_quiet (fail)
              go_wp2
              go_ret
              exact ⟨by rw [HN.out]; rfl, below_drw HBR.out _⟩
          · have f0 : (x.1 == y.1) = false := by simp [e0]
            go_wp2_with fail
            go_quiet (fail)
            go_wp2
            go_ret
            exact ⟨by rw [HN.out]; rfl, below_drw HBR.out _⟩
      · have xj : ¬ (j : Int) < (len : Int) := by omega
        have HE : Hid (l = l') := by
          have h9 := HTK.out
          rw [List.take_of_length_le (by rw [HL.out]; omega), List.take_of_length_le (by rw [HL'.out]; omega)] at h9
          exact h9
        go_wp2
        go_ret
        exact ⟨by rw [decide_eq_true HE.out]; rfl, HBR.out⟩
  · have HE : Hid (decide (l = l') = false) := decide_eq_false fun e => hne (by rw [← HL.out, ← HL'.out, e])
    have hn : ((len : Int) != (len' : Int)) = true := by simp; omega
    go_enter Try.func49, Try.ntmps49
    go_wp2
    go_ret
    exact ⟨by rw [HE.out]; rfl, Below.refl _ _⟩
/-- A row of values, as a row. -/
theorem VS.sv {w : World} {a : Option Addr} {len cap : Nat} {vs : List Val} (h : VS w a len cap vs) (hn : a = none → cap = 0) : SV fV 3 w a len cap vs := by
  refine ⟨h.hlen, h.hcap, h.hroom, hn, fun h0 => ?_⟩
  obtain ⟨b, o, e⟩ := h.hform h0
  have hc := h.hcell b o e
  have hb : b < w.heap.size := by
    have := cell_lt (hc 0 h0).1
    simpa using this
  refine ⟨b, o, e, hb, fun i x hx t ht => ?_⟩
  have hi : i < len := by rw [← h.hlen]; exact (List.getElem?_eq_some_iff.1 hx).1
  have hg : vs.getD i (0, 0, ⟨#[]⟩) = x := by rw [List.getD_eq_getElem?_getD, hx]; rfl
  obtain ⟨h1, h2, h3⟩ := hc i hi
  rw [hg] at h1 h2 h3
  match t, ht with
  | 0, _ => exact h1
  | 1, _ => exact h2
  | 2, _ => exact h3
set_option maxRecDepth 100000 in
theorem samerow_any {w : World} {a a' : Option Addr} {len cap len' cap' : Nat} {l l' : List Val} (h : SV fV 3 w a len cap l) (h' : SV fV 3 w a' len' cap' l') (hlen : len ≤ 1000) :
    Calls Try.prog 25 #[.slice a len cap, .slice a' len' cap'] w fun e w' => e = .returned (.bool (decide (l = l'))) ∧ Below w.heap.size w w' := by
  have HC := hide (val_eq h h' hlen)
  clear h h'
  generalize decide (l = l') = bb at *
  go_enter Try.func25, Try.ntmps25
  go_wp2_with fail
  refine HC.out.mono ?_
  rintro e w1 ⟨rfl, hb1⟩
  have HB1 := hide hb1
  clear hb1 HC
  go_wp2
  go_ret
  exact ⟨rfl, HB1.out⟩
end Go.Proofs.Ytcophbkgighepaa
