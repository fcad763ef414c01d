/- The document's own Right. -/
import Derived.Test.YtcophbkgighepaaHR
import Derived.Deep.CutRange
set_option linter.unusedVariables false
namespace Go.Proofs.Ytcophbkgighepaa
open Go.RowKit

theorem bad_col {s : Sch} {j : Nat} {c : Col} (hc : s.cs[j]? = some c) (hb : colAt s.cs j c = false) : s.ok = false := by
  have h1 : colsN s.cs (j + 1) = false := by
    show (colsN s.cs j && (match s.cs[j]? with | some c => colAt s.cs j c | none => true)) = false
    rw [hc]
    show (colsN s.cs j && colAt s.cs j c) = false
    rw [hb, Bool.and_false]
  have h2 : colsN s.cs s.cs.length = false := colsN_no h1 (List.getElem?_eq_some_iff.1 hc).1
  unfold Sch.ok colsOk
  rw [h2]
  simp
theorem bad_ix {s : Sch} {j : Nat} {x : Idx} (hc : s.xs[j]? = some x) (hb : ixAt s.cs.length s.xs j x = false) : s.ok = false := by
  have h1 : ixsN s.cs.length s.xs (j + 1) = false := by
    show (ixsN s.cs.length s.xs j && (match s.xs[j]? with | some c => ixAt s.cs.length s.xs j c | none => true)) = false
    rw [hc]
    show (ixsN s.cs.length s.xs j && ixAt s.cs.length s.xs j x) = false
    rw [hb, Bool.and_false]
  have h2 : ixsN s.cs.length s.xs s.xs.length = false := ixsN_no h1 (List.getElem?_eq_some_iff.1 hc).1
  unfold Sch.ok ixsOk
  rw [h2]
  simp
theorem cols_next {l : List Col} {j : Nat} {c : Col} (hc : l[j]? = some c) (h1 : colsN l j = true) (h2 : colAt l j c = true) : colsN l (j + 1) = true := by
  show (colsN l j && (match l[j]? with | some c => colAt l j c | none => true)) = true
  rw [hc, h1]
  exact h2
theorem ixs_next {n : Nat} {l : List Idx} {j : Nat} {c : Idx} (hc : l[j]? = some c) (h1 : ixsN n l j = true) (h2 : ixAt n l j c = true) : ixsN n l (j + 1) = true := by
  show (ixsN n l j && (match l[j]? with | some c => ixAt n l j c | none => true)) = true
  rw [hc, h1]
  exact h2
set_option maxRecDepth 100000 in
set_option maxHeartbeats 16000000 in
theorem refright14_any {w : World} {ca xa : Option Addr} {cl cc xl xc : Nat} {s : Sch} (h : SC w ca cl cc xa xl xc s) (hp : SchP s) :
    Calls Try.prog 11 #[.agg #[.string s.nm, .slice ca cl cc, .slice xa xl xc]] w fun e w' => e = .returned (.bool s.ok) ∧ Below w.heap.size w w' := by
  obtain ⟨w1, hw1⟩ : ∃ w1, w1 = w.alloc (.cells #[.string s.nm, .slice ca cl cc, .slice xa xl xc] 25) := ⟨_, rfl⟩
  obtain ⟨L, hL⟩ : ∃ L, w.heap.size = L := ⟨_, rfl⟩
  have hb1 : Below w.heap.size w w1 := by rw [hw1]; exact below_box w _
  have HR1 : Hid (w1.heap[L]? = some (.cells #[.string s.nm, .slice ca cl cc, .slice xa xl xc] 25 (0, 0))) := by show _ = _; rw [hw1, ← hL]; exact boxed w _
  have H1 := hide (h.later hb1)
  have HB1 : Hid (Below L w w1) := by show Below L w w1; rw [← hL]; exact hb1
  have HCL := hide h.c.hl
  have HXL := hide h.x.hl
  have HP := hide hp
  have HNM := hide (refname_any s.nm (by have := hp.nm; omega) w1)
  have HW1 := hide hw1
  have hlL := blk_lt HR1.out
  have HL := hide hlL
  rw [hL]
  clear h hp hb1 hw1 hlL
  go_enter Try.func11, Try.ntmps11
  go_upto_region 1 with fail
  rw [← HW1.out]
  try simp only [hL]
  clear HW1
  have y0 : w1.cell? ⟨L, 0, none⟩ = some (.string s.nm) := cell_blk HR1.out
  have y1 : w1.cell? ⟨L, 1, none⟩ = some (.slice ca cl cc) := cell_blk HR1.out
  have y2 : w1.cell? ⟨L, 2, none⟩ = some (.slice xa xl xc) := cell_blk HR1.out
  go_wp2_with fail
  refine HNM.out.mono ?_
  rintro e w9 ⟨rfl, hw⟩
  have hw := hw.symm
  subst hw
  clear HNM
  cases hn : isNm s.nm with
  | false =>
    have HE : Hid (s.ok = false) := by show _ = _; unfold Sch.ok; rw [hn]; rfl
    go_wp2
    go_ret
    exact ⟨by rw [HE.out]; rfl, HB1.out⟩
  | true =>
  have HN := hide hn
  clear hn
  by_cases c1 : cl < 1
  · have HE : Hid (s.ok = false) := by show _ = _; unfold Sch.ok colsOk; rw [HCL.out, decide_eq_false (show ¬ 1 ≤ cl by omega)]; simp
    have e0 : cl = 0 := by omega
    subst e0
    go_wp2
    go_ret
    exact ⟨by rw [HE.out]; rfl, HB1.out⟩
  by_cases c2 : 3 < cl
  · have HE : Hid (s.ok = false) := by show _ = _; unfold Sch.ok colsOk; rw [HCL.out, decide_eq_false (show ¬ cl ≤ 3 by omega)]; simp
    have z1 : ¬ (cl : Int) < 1 := by omega
    have z2 : 3 < (cl : Int) := by omega
    go_wp2
    go_ret
    exact ⟨by rw [HE.out]; rfl, HB1.out⟩
  have z1 : ¬ (cl : Int) < 1 := by omega
  have z2 : ¬ 3 < (cl : Int) := by omega
  by_cases c3 : 3 < xl
  · have HE : Hid (s.ok = false) := by show _ = _; unfold Sch.ok ixsOk; rw [HXL.out, decide_eq_false (show ¬ xl ≤ 3 by omega)]; simp
    have z3 : 3 < (xl : Int) := by omega
    go_wp2
    go_ret
    exact ⟨by rw [HE.out]; rfl, HB1.out⟩
  have z3 : ¬ 3 < (xl : Int) := by omega
  have HC1 := hide c1
  have HC2 := hide c2
  have HC3 := hide c3
  clear c1 c2 c3
  go_wp2_with fail
  clear y0 y1 y2
  go_loopg [3] cl (fun gh s3 wx => ∃ j : Nat, j + gh = cl ∧ s3 = .int .i64 (j : Int) ∧ colsN s.cs j = true ∧ Below w1.heap.size w1 wx)
  case atStart => exact ⟨0, by omega, rfl, rfl, Below.refl _ _⟩
  case round =>
    obtain ⟨j, hj, rfl, hno, hbr⟩ := hrel
    have HNO := hide hno
    have HBR := hide hbr
    have HRR := hide ((hbr.block L HL.out).trans HR1.out)
    clear hno hbr
    have y1 : wr.cell? ⟨L, 1, none⟩ = some (.slice ca cl cc) := cell_blk HRR.out
    by_cases hjn : j < cl
    · have xj : (j : Int) < (cl : Int) := by omega
      obtain ⟨c, hcj⟩ : ∃ c, s.cs[j]? = some c := ⟨_, List.getElem?_eq_getElem (by rw [HCL.out]; exact hjn)⟩
      obtain ⟨b, o, e0, hb, hcs⟩ := H1.out.c.pl (by omega)
      subst e0
      have HBL := hide hb
      have HCS := hide hcs
      have HCJ := hide hcj
      have q0 : wr.cell? ⟨b, o + j * 3, none⟩ = some (.string c.1) := (HBR.out.cell hb).trans (hcs j c hcj 0 (by omega))
      have q1 : wr.cell? ⟨b, o + j * 3 + 1, none⟩ = some (.int .i64 c.2.1) := (HBR.out.cell hb).trans (hcs j c hcj 1 (by omega))
      have q2 : wr.cell? ⟨b, o + j * 3 + 2, none⟩ = some (.int .i64 c.2.2) := (HBR.out.cell hb).trans (hcs j c hcj 2 (by omega))
      have HCP := hide (HP.out.cs c (List.mem_of_getElem? hcj))
      have HBAD : Hid (colAt s.cs j c = false → s.ok = false) := bad_col hcj
      have hbx := below_box wr (.cells #[.string c.1, .int .i64 c.2.1, .int .i64 c.2.2] 59)
      have HV2 : Hid ((wr.alloc (.cells #[.string c.1, .int .i64 c.2.1, .int .i64 c.2.2] 59)).heap[wr.heap.size]? = some (.cells #[.string c.1, .int .i64 c.2.1, .int .i64 c.2.2] 59 (0, 0))) := boxed wr _
      have HB2 : Hid (Below w1.heap.size w1 (wr.alloc (.cells #[.string c.1, .int .i64 c.2.1, .int .i64 c.2.2] 59))) := HBR.out.trans (hbx.mono HBR.out.size)
      have HNE : Hid (w1.heap.size ≤ wr.heap.size) := HBR.out.size
      clear hcs hcj hb hbx
      go_upto_region 7 with fail
      generalize (wr.alloc (.cells #[.string c.1, .int .i64 c.2.1, .int .i64 c.2.2] 59)) = w2 at *
      generalize wr.heap.size = V at *
      clear y1 q0 q1 q2 HBR HRR
      have v0 : w2.cell? ⟨V, 0, none⟩ = some (.string c.1) := cell_blk HV2.out
      have v1 : w2.cell? ⟨V, 1, none⟩ = some (.int .i64 c.2.1) := cell_blk HV2.out
      have v2 : w2.cell? ⟨V, 2, none⟩ = some (.int .i64 c.2.2) := cell_blk HV2.out
      have HNC := hide (refname_any c.1 (by have := HCP.out.1; omega) w2)
      obtain ⟨k, hk⟩ : ∃ k, c.2.1 = k := ⟨_, rfl⟩
      obtain ⟨m, hm⟩ : ∃ m, c.2.2 = m := ⟨_, rfl⟩
      obtain ⟨bb, hbb⟩ : ∃ bb : Bool, (!(isNm c.1 && isMx k m)) = bb := ⟨_, rfl⟩
      rw [hk] at v1
      rw [hm] at v2
      have HK := hide hk
      have HM := hide hm
      have HBB := hide hbb
      clear hk hm hbb
      go_cut [81] from 31 to 95 (fun cz wx => cz = .bool bb ∧ wx = w2)
      case first =>
        go_wp2_with fail
        refine HNC.out.mono ?_
        rintro e w9 ⟨rfl, hw⟩
        have hw := hw.symm
        subst hw
        clear HNC
        cases hn : isNm c.1 with
        | false =>
          go_wp2
          go_meet
          case rel => exact ⟨by rw [← HBB.out, hn]; rfl, rfl⟩
        | true =>
        have HN2 := hide hn
        clear hn
        by_cases k1 : k < 1
        · have HF : Hid (isMx k m = false) := by show _ = _; unfold isMx; rw [if_neg (by omega), if_neg (by omega)]
          go_wp2
          go_meet
          case rel => exact ⟨by rw [← HBB.out, HF.out, HN2.out]; rfl, rfl⟩
        by_cases k2 : 3 < k
        · have HF : Hid (isMx k m = false) := by show _ = _; unfold isMx; rw [if_neg (by omega), if_neg (by omega)]
          go_wp2
          go_meet
          case rel => exact ⟨by rw [← HBB.out, HF.out, HN2.out]; rfl, rfl⟩
        by_cases k3 : k = 2
        · subst k3
          have HF : Hid (isMx 2 m = (decide (1 ≤ m) && decide (m ≤ 8))) := by show _ = _; unfold isMx; rw [if_pos rfl]
          by_cases m1 : m < 1
          · go_wp2
            go_meet
            case rel => exact ⟨by rw [← HBB.out, HF.out, HN2.out, decide_eq_false (show ¬ 1 ≤ m by omega)]; rfl, rfl⟩
          by_cases m2 : 8 < m
          · go_wp2
            go_meet
            case rel => exact ⟨by rw [← HBB.out, HF.out, HN2.out, decide_eq_false (show ¬ m ≤ 8 by omega)]; simp, rfl⟩
          go_wp2
          go_meet
          case rel => exact ⟨by rw [← HBB.out, HF.out, HN2.out, decide_eq_true (show 1 ≤ m by omega), decide_eq_true (show m ≤ 8 by omega)]; simp [m1, m2], rfl⟩
        · have kf : (k == 2) = false := by simp [k3]
          have kn : (k != 2) = true := by simp [k3]
          have HF : Hid (isMx k m = (m == 0)) := by show _ = _; unfold isMx; rw [if_neg k3, if_pos (by omega)]
          by_cases m0 : m = 0
          · subst m0
            go_wp2
            go_meet
            case rel => exact ⟨by rw [← HBB.out, HF.out, HN2.out]; simp [k1, k2], rfl⟩
          · have mn : (m != 0) = true := by simp [m0]
            go_wp2
            go_meet
            case rel => exact ⟨by rw [← HBB.out, HF.out, HN2.out]; simp [m0], rfl⟩
      case rest =>
        obtain ⟨rfl, rfl⟩ := hcut
        clear v1 v2
        cases bb with
        | true =>
          have HF : Hid (s.ok = false) := HBAD.out (by
            have h9 := HBB.out
            have h8 : (isNm c.1 && isMx k m) = false := by
              cases hx : (isNm c.1 && isMx k m) with
              | false => rfl
              | true => rw [hx] at h9; cases h9
            unfold colAt
            rw [HK.out, HM.out, h8]
            rfl)
          go_wp2
          go_ret
          exact ⟨by rw [HF.out]; rfl, HB1.out.trans (HB2.out.mono (by have := HL.out; omega))⟩
        | false =>
          have HGD : Hid (isNm c.1 = true ∧ isMx k m = true) := by
            have h9 := HBB.out
            have h8 : (isNm c.1 && isMx k m) = true := by
              cases hx : (isNm c.1 && isMx k m) with
              | true => rfl
              | false => rw [hx] at h9; cases h9
            exact Bool.and_eq_true_iff.1 h8
          go_wp2_with fail
          go_loopg [5] j (fun gh s5 wx => ∃ t : Nat, t + gh = j ∧ s5 = .int .i64 (t : Int) ∧ (s.cs.take t).any (fun y => y.1.toList == c.1.toList) = false ∧ Below wc.heap.size wc wx)
          case atStart => exact ⟨0, by omega, rfl, by simp, Below.refl _ _⟩
          case round =>
            obtain ⟨t, ht, rfl, hno, hbr⟩ := hrel
            have HNA := hide hno
            have HBW := hide hbr
            have HBS := hide (HB2.out.trans (hbr.mono HB2.out.size))
            have HRR := hide ((HBS.out.block L HL.out).trans HR1.out)
            have HVV := hide ((hbr.block V (blk_lt HV2.out)).trans HV2.out)
            clear hno hbr
            have y1 : wr.cell? ⟨L, 1, none⟩ = some (.slice (some ⟨b, o, none⟩) cl cc) := cell_blk HRR.out
            have v0 : wr.cell? ⟨V, 0, none⟩ = some (.string c.1) := cell_blk HVV.out
            by_cases htn : t < j
            · have xt : (t : Int) < (j : Int) := by omega
              have xc : (t : Int) < (cl : Int) := by omega
              obtain ⟨y, hyt⟩ : ∃ y, s.cs[t]? = some y := ⟨_, List.getElem?_eq_getElem (by rw [HCL.out]; omega)⟩
              have q0 : wr.cell? ⟨b, o + t * 3, none⟩ = some (.string y.1) := (HBS.out.cell HBL.out).trans (HCS.out t y hyt 0 (by omega))
              have HTK : Hid ((s.cs.take (t + 1)).any (fun y => y.1.toList == c.1.toList) = (y.1.toList == c.1.toList)) := by
                show _ = _
                rw [List.take_add_one, hyt, List.any_append, HNA.out]
                simp
              have HYES : Hid ((y.1.toList == c.1.toList) = true → (s.cs.take j).any (fun y => y.1.toList == c.1.toList) = true) := fun q => List.any_eq_true.2 ⟨y, List.mem_of_getElem? (i := t) (by rw [List.getElem?_take, if_pos htn]; exact hyt), q⟩
              clear hyt
              cases hq : (y.1.toList == c.1.toList) with
              | true =>
                have HF : Hid (s.ok = false) := HBAD.out (by unfold colAt; rw [HYES.out hq]; simp)
                go_wp2_with fail
                go_quiet (fail)
                go_wp2
                go_ret
                exact ⟨by rw [HF.out]; rfl, below_drw (HB1.out.trans (HBS.out.mono (by have := HL.out; omega))) _⟩
              | false =>
                rw [hq] at HTK
                go_wp2_with fail
                go_quiet (fail)
                go_wp2
                go_roundg (gk - 1)
                case measure => omega
                case rel => exact ⟨t + 1, by omega, rfl, HTK.out, below_drw HBW.out _⟩
            · have xt : ¬ (t : Int) < (j : Int) := by omega
              have HGC : Hid (colAt s.cs j c = true) := by
                have h9 := HNA.out
                rw [show t = j by omega] at h9
                show _ = _
                unfold colAt
                rw [HK.out, HM.out, HGD.out.1, HGD.out.2, h9]
                rfl
              have HCN := hide (cols_next HCJ.out HNO.out HGC.out)
              go_wp2_with fail
              go_roundg (cl - j - 1)
              case measure => omega
              case rel => exact ⟨j + 1, by omega, rfl, HCN.out, HBS.out⟩
    · have xj : ¬ (j : Int) < (cl : Int) := by omega
      have HCO : Hid (colsOk s.cs = true) := by
        have h9 := HNO.out
        rw [show j = s.cs.length by rw [HCL.out]; omega] at h9
        show _ = _
        unfold colsOk
        rw [h9, HCL.out, decide_eq_true (show 1 ≤ cl by have := HC1.out; omega), decide_eq_true (show cl ≤ 3 by have := HC2.out; omega)]
        rfl
      have HBC : Hid (Below w1.heap.size w1 wr) := HBR.out
      clear hj
      go_wp2_with fail
      clear y1 xj
      go_loopg [6] xl (fun gh s6 wx => ∃ j : Nat, j + gh = xl ∧ s6 = .int .i64 (j : Int) ∧ ixsN s.cs.length s.xs j = true ∧ Below w1.heap.size w1 wx)
      case atStart => exact ⟨0, by omega, rfl, rfl, HBC.out⟩
      case round =>
        obtain ⟨i, hi, rfl, hno, hbr⟩ := hrel
        have HNO := hide hno
        have HBR := hide hbr
        have HRR := hide ((hbr.block L HL.out).trans HR1.out)
        clear hno hbr
        have y1 : wr.cell? ⟨L, 1, none⟩ = some (.slice ca cl cc) := cell_blk HRR.out
        have y2 : wr.cell? ⟨L, 2, none⟩ = some (.slice xa xl xc) := cell_blk HRR.out
        by_cases hin : i < xl
        · have xi : (i : Int) < (xl : Int) := by omega
          obtain ⟨x, hxi⟩ : ∃ x, s.xs[i]? = some x := ⟨_, List.getElem?_eq_getElem (by rw [HXL.out]; exact hin)⟩
          obtain ⟨b, o, e0, hb, hcs⟩ := H1.out.x.pl (by omega)
          subst e0
          have HBL := hide hb
          have HCS := hide hcs
          have HXI := hide hxi
          have q0 : wr.cell? ⟨b, o + i * 2, none⟩ = some (.int .i64 x.1) := (HBR.out.cell hb).trans (hcs i x hxi 0 (by omega))
          have q1 : wr.cell? ⟨b, o + i * 2 + 1, none⟩ = some (.bool x.2) := (HBR.out.cell hb).trans (hcs i x hxi 1 (by omega))
          have HBAD : Hid (ixAt s.cs.length s.xs i x = false → s.ok = false) := bad_ix hxi
          have hbx := below_box wr (.cells #[.int .i64 x.1, .bool x.2] 61)
          have HV2 : Hid ((wr.alloc (.cells #[.int .i64 x.1, .bool x.2] 61)).heap[wr.heap.size]? = some (.cells #[.int .i64 x.1, .bool x.2] 61 (0, 0))) := boxed wr _
          have HB2 : Hid (Below w1.heap.size w1 (wr.alloc (.cells #[.int .i64 x.1, .bool x.2] 61))) := HBR.out.trans (hbx.mono HBR.out.size)
          have HR2 : Hid ((wr.alloc (.cells #[.int .i64 x.1, .bool x.2] 61)).heap[L]? = _) := (HB2.out.block L HL.out).trans HR1.out
          clear hcs hxi hb hbx
          go_upto_region 18 with fail
          generalize (wr.alloc (.cells #[.int .i64 x.1, .bool x.2] 61)) = w2 at *
          generalize wr.heap.size = V at *
          clear y1 y2 q0 q1 HBR HRR
          have v0 : w2.cell? ⟨V, 0, none⟩ = some (.int .i64 x.1) := cell_blk HV2.out
          have y1 : w2.cell? ⟨L, 1, none⟩ = some (.slice ca cl cc) := cell_blk HR2.out
          obtain ⟨k, hk⟩ : ∃ k, x.1 = k := ⟨_, rfl⟩
          have HK := hide hk
          rw [hk] at v0
          clear hk
          by_cases k1 : k < 1
          · have HF : Hid (s.ok = false) := HBAD.out (by unfold ixAt; rw [HK.out, decide_eq_false (show ¬ 1 ≤ k by omega)]; rfl)
            go_wp2
            go_ret
            exact ⟨by rw [HF.out]; rfl, HB1.out.trans (HB2.out.mono (by have := HL.out; omega))⟩
          by_cases k2 : (cl : Int) ≤ k
          · have HF : Hid (s.ok = false) := HBAD.out (by unfold ixAt; rw [HK.out, HCL.out, decide_eq_false (show ¬ k < (cl : Int) by omega)]; simp)
            go_wp2
            go_ret
            exact ⟨by rw [HF.out]; rfl, HB1.out.trans (HB2.out.mono (by have := HL.out; omega))⟩
          have HGD : Hid (1 ≤ k ∧ k < (cl : Int)) := ⟨by omega, by omega⟩
          go_wp2_with fail
          clear v0 y1 k1 k2
          go_loopg [8] i (fun gh s8 wx => ∃ t : Nat, t + gh = i ∧ s8 = .int .i64 (t : Int) ∧ (s.xs.take t).any (fun y => y.1 == x.1) = false ∧ Below w2.heap.size w2 wx)
          case atStart => exact ⟨0, by omega, rfl, by simp, Below.refl _ _⟩
          case round =>
            obtain ⟨t, ht, rfl, hno, hbr⟩ := hrel
            have HNA := hide hno
            have HBW := hide hbr
            have HBS := hide (HB2.out.trans (hbr.mono HB2.out.size))
            have HRR := hide ((HBS.out.block L HL.out).trans HR1.out)
            have HVV := hide ((hbr.block V (blk_lt HV2.out)).trans HV2.out)
            clear hno hbr
            have y2 : wr.cell? ⟨L, 2, none⟩ = some (.slice (some ⟨b, o, none⟩) xl xc) := cell_blk HRR.out
            have v0 : wr.cell? ⟨V, 0, none⟩ = some (.int .i64 x.1) := cell_blk HVV.out
            by_cases htn : t < i
            · have xt : (t : Int) < (i : Int) := by omega
              have xc2 : (t : Int) < (xl : Int) := by omega
              obtain ⟨y, hyt⟩ : ∃ y, s.xs[t]? = some y := ⟨_, List.getElem?_eq_getElem (by rw [HXL.out]; omega)⟩
              have q0 : wr.cell? ⟨b, o + t * 2, none⟩ = some (.int .i64 y.1) := (HBS.out.cell HBL.out).trans (HCS.out t y hyt 0 (by omega))
              have HTK : Hid ((s.xs.take (t + 1)).any (fun y => y.1 == x.1) = (y.1 == x.1)) := by
                show _ = _
                rw [List.take_add_one, hyt, List.any_append, HNA.out]
                simp
              have HYES : Hid ((y.1 == x.1) = true → (s.xs.take i).any (fun y => y.1 == x.1) = true) := fun q => List.any_eq_true.2 ⟨y, List.mem_of_getElem? (i := t) (by rw [List.getElem?_take, if_pos htn]; exact hyt), q⟩
              clear hyt
              cases hq : (y.1 == x.1) with
              | true =>
                have HF : Hid (s.ok = false) := HBAD.out (by unfold ixAt; rw [HYES.out hq]; simp)
                go_wp2_with fail
                go_quiet (fail)
                go_wp2
                go_ret
                exact ⟨by rw [HF.out]; rfl, below_drw (HB1.out.trans (HBS.out.mono (by have := HL.out; omega))) _⟩
              | false =>
                rw [hq] at HTK
                go_wp2_with fail
                go_quiet (fail)
                go_wp2
                go_roundg (gk - 1)
                case measure => omega
                case rel => exact ⟨t + 1, by omega, rfl, HTK.out, below_drw HBW.out _⟩
            · have xt : ¬ (t : Int) < (i : Int) := by omega
              have HGC : Hid (ixAt s.cs.length s.xs i x = true) := by
                have h9 := HNA.out
                rw [show t = i by omega] at h9
                show _ = _
                unfold ixAt
                rw [h9, HK.out, HCL.out, decide_eq_true HGD.out.1, decide_eq_true HGD.out.2]
                rfl
              have HCN := hide (ixs_next HXI.out HNO.out HGC.out)
              go_wp2_with fail
              go_roundg (xl - i - 1)
              case measure => omega
              case rel => exact ⟨i + 1, by omega, rfl, HCN.out, HBS.out⟩
        · have xi : ¬ (i : Int) < (xl : Int) := by omega
          have HE : Hid (s.ok = true) := by
            have h9 := HNO.out
            rw [show i = s.xs.length by rw [HXL.out]; omega] at h9
            show _ = _
            unfold Sch.ok ixsOk
            rw [HN.out, HCO.out, h9, HXL.out, decide_eq_true (show xl ≤ 3 by have := HC3.out; omega)]
            rfl
          go_wp2
          go_ret
          exact ⟨by rw [HE.out]; rfl, HB1.out.trans (HBR.out.mono (by have := HL.out; omega))⟩
end Go.Proofs.Ytcophbkgighepaa
set_option linter.unusedVariables false
namespace Go.Proofs.Ytcophbkgighepaa
open Go.RowKit

set_option maxRecDepth 100000 in
set_option maxHeartbeats 4000000 in
theorem refsame2_any {w : World} {a a' : Option Addr} {len cap len' cap' : Nat} {l l' : List Val} (h : SV fV 3 w a len cap l) (h' : SV fV 3 w a' len' cap' l') (hlen : len ≤ 1000) :
    Calls Try.prog 14 #[.slice a len cap, .slice a' len' cap'] w fun e w' => e = .returned (.bool (decide (l = l'))) ∧ Below w.heap.size w w' := by
  have H := hide h
  have H' := hide h'
  have HL := hide h.hl
  have HL' := hide h'.hl
  clear h h'
  by_cases hne : len = len'
  · subst hne
    go_enter Try.func14, Try.ntmps14
    go_wp2_with fail
    go_loopg [5] len (fun gh s5 wx => ∃ j : Nat, j + gh = len ∧ s5 = .int .i64 (j : Int) ∧ l.take j = l'.take j ∧ Below w.heap.size w wx)
    case atStart => exact ⟨0, by omega, rfl, by simp, Below.refl _ _⟩
    case round =>
      obtain ⟨j, hj, rfl, htk, hbr⟩ := hrel
      have HTK := hide htk
      have HBR := hide hbr
      clear htk hbr
      by_cases hjn : j < len
      · have xj : (j : Int) < (len : Int) := by omega
        obtain ⟨x, hxj⟩ : ∃ x, l[j]? = some x := ⟨_, List.getElem?_eq_getElem (by rw [HL.out]; exact hjn)⟩
        obtain ⟨y, hyj⟩ : ∃ y, l'[j]? = some y := ⟨_, List.getElem?_eq_getElem (by rw [HL'.out]; exact hjn)⟩
        have HS : Hid (x = y → l.take (j + 1) = l'.take (j + 1)) := by
          intro q
          rw [List.take_add_one, List.take_add_one, hxj, hyj, HTK.out, q]
        have HD : Hid (x ≠ y → l ≠ l') := by
          intro q e
          rw [e, hyj] at hxj
          simp only [Option.some.injEq] at hxj
          exact q hxj.symm
        obtain ⟨b, o, e0, hb, hcs⟩ := H.out.pl (by omega)
        obtain ⟨b', o', e0', hb', hcs'⟩ := H'.out.pl (by omega)
        have hc1 := fun t (ht : t < 3) => (HBR.out.cell hb (p := ⟨b, o + j * 3 + t, none⟩)).trans (hcs j x hxj t ht)
        have hc2 := fun t (ht : t < 3) => (HBR.out.cell hb' (p := ⟨b', o' + j * 3 + t, none⟩)).trans (hcs' j y hyj t ht)
        subst e0 e0'
        have y0 : wr.cell? ⟨b, o + j * 3, none⟩ = some (.int .i64 x.1) := hc1 0 (by omega)
        have y1 : wr.cell? ⟨b, o + j * 3 + 1, none⟩ = some (.int .i64 x.2.1) := hc1 1 (by omega)
        have y2 : wr.cell? ⟨b, o + j * 3 + 2, none⟩ = some (.string x.2.2) := hc1 2 (by omega)
        have z0 : wr.cell? ⟨b', o' + j * 3, none⟩ = some (.int .i64 y.1) := hc2 0 (by omega)
        have z1 : wr.cell? ⟨b', o' + j * 3 + 1, none⟩ = some (.int .i64 y.2.1) := hc2 1 (by omega)
        have z2 : wr.cell? ⟨b', o' + j * 3 + 2, none⟩ = some (.string y.2.2) := hc2 2 (by omega)
        clear hcs hcs' hc1 hc2 hxj hyj
        by_cases hxy : x = y
        · have HN := hide (HS.out hxy)
          subst hxy
          go_wp2_with fail
          go_quiet (fail)
          go_wp2
          go_roundg (gk - 1)
          case measure => omega
          case rel => exact ⟨j + 1, by omega, rfl, HN.out, below_drw HBR.out _⟩
        · have HN : Hid (decide (l = l') = false) := decide_eq_false (HD.out hxy)
          by_cases e0 : x.1 = y.1
          · have f0 : (x.1 == y.1) = true := by rw [e0]; exact beq_self_eq_true _
            by_cases e1 : x.2.1 = y.2.1
            · have f1 : (x.2.1 == y.2.1) = true := by rw [e1]; exact beq_self_eq_true _
              have f2 : (x.2.2.toList == y.2.2.toList) = false := by rw [ba_beq]; exact decide_eq_false fun q => hxy (Prod.ext e0 (Prod.ext e1 q))
              go_wp2_with fail
              go_quiet (fail)
              go_wp2
              go_ret
              exact ⟨by rw [HN.out]; rfl, below_drw HBR.out _⟩
            · have f1 : (x.2.1 == y.2.1) = false := by simp [e1]
              go_wp2_with fail
              go_quiet (fail)
              go_wp2
              go_ret
              exact ⟨by rw [HN.out]; rfl, below_drw HBR.out _⟩
          · have f0 : (x.1 == y.1) = false := by simp [e0]
            go_wp2_with fail
            go_quiet (fail)
            go_wp2
            go_ret
            exact ⟨by rw [HN.out]; rfl, below_drw HBR.out _⟩
      · have xj : ¬ (j : Int) < (len : Int) := by omega
        have HE : Hid (l = l') := by
          have h9 := HTK.out
          rw [List.take_of_length_le (by rw [HL.out]; omega), List.take_of_length_le (by rw [HL'.out]; omega)] at h9
          exact h9
        go_wp2
        go_ret
        exact ⟨by rw [decide_eq_true HE.out]; rfl, HBR.out⟩
  · have HE : Hid (decide (l = l') = false) := decide_eq_false fun e => hne (by rw [← HL.out, ← HL'.out, e])
    have hn : ((len : Int) != (len' : Int)) = true := by simp; omega
    go_enter Try.func14, Try.ntmps14
    go_wp2
    go_ret
    exact ⟨by rw [HE.out]; rfl, Below.refl _ _⟩
theorem ba_ne {a b : ByteArray} (h : a ≠ b) : (a != b) = true := by
  cases a with
  | mk x => cases b with
    | mk y =>
      show (!(x == y)) = true
      simp
      intro q
      exact h (by rw [q])
theorem ba_nself (a : ByteArray) : (a != a) = false := by
  cases a with
  | mk x => show (!(x == x)) = false; simp
theorem same_cs {s t : Sch} (h : s.cs ≠ t.cs) : s.same t = false := by
  unfold Sch.same
  rw [decide_eq_false h]
  simp
theorem same_xs {s t : Sch} (h : s.xs ≠ t.xs) : s.same t = false := by
  unfold Sch.same
  rw [decide_eq_false h]
  simp
set_option maxRecDepth 100000 in
set_option maxHeartbeats 16000000 in
theorem refsame14_any {w : World} {ca xa da ya : Option Addr} {cl cc xl xc dl dc yl yc : Nat} {s t : Sch} (h : SC w ca cl cc xa xl xc s) (h' : SC w da dl dc ya yl yc t) (h1 : cl ≤ 1000) (h2 : xl ≤ 1000) :
    Calls Try.prog 18 #[.agg #[.string s.nm, .slice ca cl cc, .slice xa xl xc], .agg #[.string t.nm, .slice da dl dc, .slice ya yl yc]] w fun e w' => e = .returned (.bool (s.same t)) ∧ Below w.heap.size w w' := by
  obtain ⟨w1, hw1⟩ : ∃ w1, w1 = (w.alloc (.cells #[.string s.nm, .slice ca cl cc, .slice xa xl xc] 25)).alloc (.cells #[.string t.nm, .slice da dl dc, .slice ya yl yc] 25) := ⟨_, rfl⟩
  obtain ⟨L, hL⟩ : ∃ L, w.heap.size = L := ⟨_, rfl⟩
  obtain ⟨M, hM⟩ : ∃ M, L + 1 = M := ⟨_, rfl⟩
  have HR1 : Hid (w1.heap[L]? = some (.cells #[.string s.nm, .slice ca cl cc, .slice xa xl xc] 25 (0, 0))) := by show _ = _; rw [hw1, ← hL]; exact heap_alloc2_old w _ _
  have HA1 : Hid (w1.heap[M]? = some (.cells #[.string t.nm, .slice da dl dc, .slice ya yl yc] 25 (0, 0))) := by show _ = _; rw [hw1, ← hM, ← hL]; exact heap_alloc2_new w _ _
  have hb1 : Below w.heap.size w w1 := by rw [hw1]; exact (below_box w _).trans ((below_box _ _).mono (below_box w _).size)
  have H1 := hide (h.later hb1)
  have H1' := hide (h'.later hb1)
  have HW1 := hide hw1
  have HM := hide hM
  have HB1 : Hid (Below L w w1) := by show Below L w w1; rw [← hL]; exact hb1
  have HLB : Hid (L ≤ w1.heap.size) := by show L ≤ _; have := blk_lt HR1.out; omega
  rw [hL]
  clear h h' hb1 hw1
  go_enter Try.func18, Try.ntmps18
  go_upto_region 1 with fail
  rw [← HW1.out]
  try simp only [hM]
  clear hM
  have y0 : w1.cell? ⟨L, 0, none⟩ = some (.string s.nm) := cell_blk HR1.out
  have y1 : w1.cell? ⟨L, 1, none⟩ = some (.slice ca cl cc) := cell_blk HR1.out
  have y2 : w1.cell? ⟨L, 2, none⟩ = some (.slice xa xl xc) := cell_blk HR1.out
  have z0 : w1.cell? ⟨M, 0, none⟩ = some (.string t.nm) := cell_blk HA1.out
  have z1 : w1.cell? ⟨M, 1, none⟩ = some (.slice da dl dc) := cell_blk HA1.out
  have z2 : w1.cell? ⟨M, 2, none⟩ = some (.slice ya yl yc) := cell_blk HA1.out
  cases hn : (s.nm.toList == t.nm.toList) with
  | false =>
    have HE : Hid (s.same t = false) := by show _ = _; unfold Sch.same; rw [hn]; rfl
    have hne : (s.nm != t.nm) = true := ba_ne (by rw [ba_beq] at hn; exact of_decide_eq_false hn)
    go_wp2
    go_ret
    exact ⟨by rw [HE.out]; rfl, HB1.out⟩
  | true =>
  have HNE := hide hn
  have hne : (s.nm != t.nm) = false := by rw [ba_beq] at hn; rw [of_decide_eq_true hn]; exact ba_nself _
  by_cases c1 : cl = dl
  · subst c1
    by_cases c2 : xl = yl
    · subst c2
      go_wp2_with fail
      clear y0 y1 y2 z0 z1 z2 hne
      go_loopg [5] cl (fun gh s5 wx => ∃ j : Nat, j + gh = cl ∧ s5 = .int .i64 (j : Int) ∧ s.cs.take j = t.cs.take j ∧ Below w1.heap.size w1 wx)
      case atStart => exact ⟨0, by omega, rfl, by simp, Below.refl _ _⟩
      case round =>
        obtain ⟨j, hj, rfl, htk, hbr⟩ := hrel
        have HTK := hide htk
        have HBR := hide hbr
        have HRR := hide ((hbr.block L (blk_lt HR1.out)).trans HR1.out)
        have HAR := hide ((hbr.block M (blk_lt HA1.out)).trans HA1.out)
        clear htk hbr
        have u1 : wr.cell? ⟨L, 1, none⟩ = some (.slice ca cl cc) := cell_blk HRR.out
        have u2 : wr.cell? ⟨M, 1, none⟩ = some (.slice da cl dc) := cell_blk HAR.out
        by_cases hjn : j < cl
        · have xj : (j : Int) < (cl : Int) := by omega
          obtain ⟨x, hxj⟩ : ∃ x, s.cs[j]? = some x := ⟨_, List.getElem?_eq_getElem (by rw [H1.out.c.hl]; exact hjn)⟩
          obtain ⟨y, hyj⟩ : ∃ y, t.cs[j]? = some y := ⟨_, List.getElem?_eq_getElem (by rw [H1'.out.c.hl]; exact hjn)⟩
          have HS : Hid (x = y → s.cs.take (j + 1) = t.cs.take (j + 1)) := by
            intro q
            rw [List.take_add_one, List.take_add_one, hxj, hyj, HTK.out, q]
          have HD : Hid (x ≠ y → s.same t = false) := by
            intro q
            refine same_cs fun e => ?_
            rw [e, hyj] at hxj
            simp only [Option.some.injEq] at hxj
            exact q hxj.symm
          obtain ⟨b, o, e0, hb, hcs⟩ := H1.out.c.pl (by omega)
          obtain ⟨b', o', e0', hb', hcs'⟩ := H1'.out.c.pl (by omega)
          have hc1 := fun q (ht : q < 3) => (HBR.out.cell hb (p := ⟨b, o + j * 3 + q, none⟩)).trans (hcs j x hxj q ht)
          have hc2 := fun q (ht : q < 3) => (HBR.out.cell hb' (p := ⟨b', o' + j * 3 + q, none⟩)).trans (hcs' j y hyj q ht)
          subst e0 e0'
          have y0 : wr.cell? ⟨b, o + j * 3, none⟩ = some (.string x.1) := hc1 0 (by omega)
          have z0 : wr.cell? ⟨b', o' + j * 3, none⟩ = some (.string y.1) := hc2 0 (by omega)
          have y1 : wr.cell? ⟨b, o + j * 3 + 1, none⟩ = some (.int .i64 x.2.1) := hc1 1 (by omega)
          have z1 : wr.cell? ⟨b', o' + j * 3 + 1, none⟩ = some (.int .i64 y.2.1) := hc2 1 (by omega)
          have y2 : wr.cell? ⟨b, o + j * 3 + 2, none⟩ = some (.int .i64 x.2.2) := hc1 2 (by omega)
          have z2 : wr.cell? ⟨b', o' + j * 3 + 2, none⟩ = some (.int .i64 y.2.2) := hc2 2 (by omega)
          clear hcs hcs' hc1 hc2 hxj hyj
          by_cases hxy : x = y
          · have HN := hide (HS.out hxy)
            subst hxy
            go_wp2_with fail
            go_quiet (fail)
            go_wp2
            go_roundg (gk - 1)
            case measure => omega
            case rel => exact ⟨j + 1, by omega, rfl, HN.out, below_drw HBR.out _⟩
          · have HN := hide (HD.out hxy)
            by_cases e0 : x.1 = y.1
            · have f0 : (x.1.toList == y.1.toList) = true := by rw [e0]; exact beq_self_eq_true _
              by_cases e1 : x.2.1 = y.2.1
              · have f1 : (x.2.1 == y.2.1) = true := by rw [e1]; exact beq_self_eq_true _
                have f2 : (x.2.2 == y.2.2) = false := by simp; intro q; exact hxy (Prod.ext e0 (Prod.ext e1 q))
                go_wp2_with fail
                go_quiet (fail)
                go_wp2
                go_ret
                exact ⟨by rw [HN.out]; rfl, below_drw (HB1.out.trans (HBR.out.mono HLB.out)) _⟩
              · have f1 : (x.2.1 == y.2.1) = false := by simp [e1]
                go_wp2_with fail
                go_quiet (fail)
                go_wp2
                go_ret
                exact ⟨by rw [HN.out]; rfl, below_drw (HB1.out.trans (HBR.out.mono HLB.out)) _⟩
            · have f0 : (x.1.toList == y.1.toList) = false := by rw [ba_beq]; exact decide_eq_false e0
              go_wp2_with fail
              go_quiet (fail)
              go_wp2
              go_ret
              exact ⟨by rw [HN.out]; rfl, below_drw (HB1.out.trans (HBR.out.mono HLB.out)) _⟩
        · have xj : ¬ (j : Int) < (cl : Int) := by omega
          have HEcs : Hid (s.cs = t.cs) := by
            have h9 := HTK.out
            rw [List.take_of_length_le (by rw [H1.out.c.hl]; omega), List.take_of_length_le (by rw [H1'.out.c.hl]; omega)] at h9
            exact h9
          have HBC := hide HBR.out
          clear hj u2
          go_wp2_with fail
          clear xj u1
          go_loopg [6] xl (fun gh s6 wx => ∃ j : Nat, j + gh = xl ∧ s6 = .int .i64 (j : Int) ∧ s.xs.take j = t.xs.take j ∧ Below w1.heap.size w1 wx)
          case atStart => exact ⟨0, by omega, rfl, by simp, HBC.out⟩
          case round =>
            obtain ⟨j, hj, rfl, htk, hbr⟩ := hrel
            have HTK := hide htk
            have HBR := hide hbr
            have HRR := hide ((hbr.block L (blk_lt HR1.out)).trans HR1.out)
            have HAR := hide ((hbr.block M (blk_lt HA1.out)).trans HA1.out)
            clear htk hbr
            have u1 : wr.cell? ⟨L, 2, none⟩ = some (.slice xa xl xc) := cell_blk HRR.out
            have u2 : wr.cell? ⟨M, 2, none⟩ = some (.slice ya xl yc) := cell_blk HAR.out
            by_cases hjn : j < xl
            · have xj : (j : Int) < (xl : Int) := by omega
              obtain ⟨x, hxj⟩ : ∃ x, s.xs[j]? = some x := ⟨_, List.getElem?_eq_getElem (by rw [H1.out.x.hl]; exact hjn)⟩
              obtain ⟨y, hyj⟩ : ∃ y, t.xs[j]? = some y := ⟨_, List.getElem?_eq_getElem (by rw [H1'.out.x.hl]; exact hjn)⟩
              have HS : Hid (x = y → s.xs.take (j + 1) = t.xs.take (j + 1)) := by
                intro q
                rw [List.take_add_one, List.take_add_one, hxj, hyj, HTK.out, q]
              have HD : Hid (x ≠ y → s.same t = false) := by
                intro q
                refine same_xs fun e => ?_
                rw [e, hyj] at hxj
                simp only [Option.some.injEq] at hxj
                exact q hxj.symm
              obtain ⟨b, o, e0, hb, hcs⟩ := H1.out.x.pl (by omega)
              obtain ⟨b', o', e0', hb', hcs'⟩ := H1'.out.x.pl (by omega)
              have hc1 := fun q (ht : q < 2) => (HBR.out.cell hb (p := ⟨b, o + j * 2 + q, none⟩)).trans (hcs j x hxj q ht)
              have hc2 := fun q (ht : q < 2) => (HBR.out.cell hb' (p := ⟨b', o' + j * 2 + q, none⟩)).trans (hcs' j y hyj q ht)
              subst e0 e0'
              have y0 : wr.cell? ⟨b, o + j * 2, none⟩ = some (.int .i64 x.1) := hc1 0 (by omega)
              have z0 : wr.cell? ⟨b', o' + j * 2, none⟩ = some (.int .i64 y.1) := hc2 0 (by omega)
              have y1 : wr.cell? ⟨b, o + j * 2 + 1, none⟩ = some (.bool x.2) := hc1 1 (by omega)
              have z1 : wr.cell? ⟨b', o' + j * 2 + 1, none⟩ = some (.bool y.2) := hc2 1 (by omega)
              clear hcs hcs' hc1 hc2 hxj hyj
              by_cases hxy : x = y
              · have HN := hide (HS.out hxy)
                subst hxy
                go_wp2_with fail
                go_quiet (fail)
                go_wp2
                go_roundg (gk - 1)
                case measure => omega
                case rel => exact ⟨j + 1, by omega, rfl, HN.out, below_drw HBR.out _⟩
              · have HN := hide (HD.out hxy)
                by_cases e0 : x.1 = y.1
                · have f0 : (x.1 == y.1) = true := by rw [e0]; exact beq_self_eq_true _
                  have f1 : (x.2 == y.2) = false := by simp; intro q; exact hxy (Prod.ext e0 q)
                  go_wp2_with fail
                  go_quiet (fail)
                  go_wp2
                  go_ret
                  exact ⟨by rw [HN.out]; rfl, below_drw (HB1.out.trans (HBR.out.mono HLB.out)) _⟩
                · have f0 : (x.1 == y.1) = false := by simp [e0]
                  go_wp2_with fail
                  go_quiet (fail)
                  go_wp2
                  go_ret
                  exact ⟨by rw [HN.out]; rfl, below_drw (HB1.out.trans (HBR.out.mono HLB.out)) _⟩
            · have xj : ¬ (j : Int) < (xl : Int) := by omega
              have HExs : Hid (s.xs = t.xs) := by
                have h9 := HTK.out
                rw [List.take_of_length_le (by rw [H1.out.x.hl]; omega), List.take_of_length_le (by rw [H1'.out.x.hl]; omega)] at h9
                exact h9
              have HE : Hid (s.same t = true) := by
                show _ = _
                unfold Sch.same
                rw [HNE.out, decide_eq_true HEcs.out, decide_eq_true HExs.out]
                rfl
              go_wp2
              go_ret
              exact ⟨by rw [HE.out]; rfl, HB1.out.trans (HBR.out.mono HLB.out)⟩
    · have HE : Hid (s.same t = false) := same_xs fun e => c2 (by rw [← H1.out.x.hl, ← H1'.out.x.hl, e])
      have d2 : ((xl : Int) != (yl : Int)) = true := by simp; omega
      go_wp2
      go_ret
      exact ⟨by rw [HE.out]; rfl, HB1.out⟩
  · have HE : Hid (s.same t = false) := same_cs fun e => c1 (by rw [← H1.out.c.hl, ← H1'.out.c.hl, e])
    have d1 : ((cl : Int) != (dl : Int)) = true := by simp; omega
    go_wp2
    go_ret
    exact ⟨by rw [HE.out]; rfl, HB1.out⟩
end Go.Proofs.Ytcophbkgighepaa
