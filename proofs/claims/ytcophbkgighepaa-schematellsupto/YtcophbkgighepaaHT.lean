/- The document's own Same, of rows and of schemas. -/
import Derived.Test.YtcophbkgighepaaHS
set_option linter.unusedVariables false
namespace Go.Proofs.Ytcophbkgighepaa
open Go.RowKit

set_option maxRecDepth 100000 in
set_option maxHeartbeats 4000000 in
theorem refsame2_any {w : World} {a a' : Option Addr} {len cap len' cap' : Nat} {l l' : List Val} (h : SV fV 3 w a len cap l) (h' : SV fV 3 w a' len' cap' l') (hlen : len ≤ 1000) :
    Calls Try.prog 14 #[.slice a len cap, .slice a' len' cap'] w fun e w' => e = .returned (.bool (decide (l = l'))) ∧ Below w.heap.size w w' := by
  have H := hide h
  have H' := hide h'
  have HL := hide h.hl
  have HL' := hide h'.hl
  clear h h'
  by_cases hne : len = len'
  · subst hne
    go_enter Try.func14, Try.ntmps14
    go_wp2_with fail
    go_loopg [5] len (fun gh s5 wx => ∃ j : Nat, j + gh = len ∧ s5 = .int .i64 (j : Int) ∧ l.take j = l'.take j ∧ Below w.heap.size w wx)
    case atStart => exact ⟨0, by omega, rfl, by simp, Below.refl _ _⟩
    case round =>
      obtain ⟨j, hj, rfl, htk, hbr⟩ := hrel
      have HTK := hide htk
      have HBR := hide hbr
      clear htk hbr
      by_cases hjn : j < len
      · have xj : (j : Int) < (len : Int) := by omega
        obtain ⟨x, hxj⟩ : ∃ x, l[j]? = some x := ⟨_, List.getElem?_eq_getElem (by rw [HL.out]; exact hjn)⟩
        obtain ⟨y, hyj⟩ : ∃ y, l'[j]? = some y := ⟨_, List.getElem?_eq_getElem (by rw [HL'.out]; exact hjn)⟩
        have HS : Hid (x = y → l.take (j + 1) = l'.take (j + 1)) := by
          intro q
          rw [List.take_add_one, List.take_add_one, hxj, hyj, HTK.out, q]
        have HD : Hid (x ≠ y → l ≠ l') := by
          intro q e
          rw [e, hyj] at hxj
          simp only [Option.some.injEq] at hxj
          exact q hxj.symm
        obtain ⟨b, o, e0, hb, hcs⟩ := H.out.pl (by omega)
        obtain ⟨b', o', e0', hb', hcs'⟩ := H'.out.pl (by omega)
        have hc1 := fun t (ht : t < 3) => (HBR.out.cell hb (p := ⟨b, o + j * 3 + t, none⟩)).trans (hcs j x hxj t ht)
        have hc2 := fun t (ht : t < 3) => (HBR.out.cell hb' (p := ⟨b', o' + j * 3 + t, none⟩)).trans (hcs' j y hyj t ht)
        subst e0 e0'
        have y0 : wr.cell? ⟨b, o + j * 3, none⟩ = some (.int .i64 x.1) := hc1 0 (by omega)
        have y1 : wr.cell? ⟨b, o + j * 3 + 1, none⟩ = some (.int .i64 x.2.1) := hc1 1 (by omega)
        have y2 : wr.cell? ⟨b, o + j * 3 + 2, none⟩ = some (.string x.2.2) := hc1 2 (by omega)
        have z0 : wr.cell? ⟨b', o' + j * 3, none⟩ = some (.int .i64 y.1) := hc2 0 (by omega)
        have z1 : wr.cell? ⟨b', o' + j * 3 + 1, none⟩ = some (.int .i64 y.2.1) := hc2 1 (by omega)
        have z2 : wr.cell? ⟨b', o' + j * 3 + 2, none⟩ = some (.string y.2.2) := hc2 2 (by omega)
        clear hcs hcs' hc1 hc2 hxj hyj
        by_cases hxy : x = y
        · have HN := hide (HS.out hxy)
          subst hxy
          go_wp2_with fail
          go_quiet (fail)
          go_wp2
          go_roundg (gk - 1)
          case measure => omega
          case rel => exact ⟨j + 1, by omega, rfl, HN.out, below_drw HBR.out _⟩
        · have HN : Hid (decide (l = l') = false) := decide_eq_false (HD.out hxy)
          by_cases e0 : x.1 = y.1
          · have f0 : (x.1 == y.1) = true := by rw [e0]; exact beq_self_eq_true _
            by_cases e1 : x.2.1 = y.2.1
            · have f1 : (x.2.1 == y.2.1) = true := by rw [e1]; exact beq_self_eq_true _
              have f2 : (x.2.2.toList == y.2.2.toList) = false := by rw [ba_beq]; exact decide_eq_false fun q => hxy (Prod.ext e0 (Prod.ext e1 q))
              go_wp2_with fail
              go_quiet (fail)
              go_wp2
              go_ret
              exact ⟨by rw [HN.out]; rfl, below_drw HBR.out _⟩
            · have f1 : (x.2.1 == y.2.1) = false := by simp [e1]
              go_wp2_with fail
              go_quiet (fail)
              go_wp2
              go_ret
              exact ⟨by rw [HN.out]; rfl, below_drw HBR.out _⟩
          · have f0 : (x.1 == y.1) = false := by simp [e0]
            go_wp2_with fail
            go_quiet (fail)
            go_wp2
            go_ret
            exact ⟨by rw [HN.out]; rfl, below_drw HBR.out _⟩
      · have xj : ¬ (j : Int) < (len : Int) := by omega
        have HE : Hid (l = l') := by
          have h9 := HTK.out
          rw [List.take_of_length_le (by rw [HL.out]; omega), List.take_of_length_le (by rw [HL'.out]; omega)] at h9
          exact h9
        go_wp2
        go_ret
        exact ⟨by rw [decide_eq_true HE.out]; rfl, HBR.out⟩
  · have HE : Hid (decide (l = l') = false) := decide_eq_false fun e => hne (by rw [← HL.out, ← HL'.out, e])
    have hn : ((len : Int) != (len' : Int)) = true := by simp; omega
    go_enter Try.func14, Try.ntmps14
    go_wp2
    go_ret
    exact ⟨by rw [HE.out]; rfl, Below.refl _ _⟩
theorem ba_ne {a b : ByteArray} (h : a ≠ b) : (a != b) = true := by
  cases a with
  | mk x => cases b with
    | mk y =>
      show (!(x == y)) = true
      simp
      intro q
      exact h (by rw [q])
theorem ba_nself (a : ByteArray) : (a != a) = false := by
  cases a with
  | mk x => show (!(x == x)) = false; simp
theorem same_cs {s t : Sch} (h : s.cs ≠ t.cs) : s.same t = false := by
  unfold Sch.same
  rw [decide_eq_false h]
  simp
theorem same_xs {s t : Sch} (h : s.xs ≠ t.xs) : s.same t = false := by
  unfold Sch.same
  rw [decide_eq_false h]
  simp
set_option maxRecDepth 100000 in
set_option maxHeartbeats 16000000 in
theorem refsame14_any {w : World} {ca xa da ya : Option Addr} {cl cc xl xc dl dc yl yc : Nat} {s t : Sch} (h : SC w ca cl cc xa xl xc s) (h' : SC w da dl dc ya yl yc t) (h1 : cl ≤ 1000) (h2 : xl ≤ 1000) :
    Calls Try.prog 18 #[.agg #[.string s.nm, .slice ca cl cc, .slice xa xl xc], .agg #[.string t.nm, .slice da dl dc, .slice ya yl yc]] w fun e w' => e = .returned (.bool (s.same t)) ∧ Below w.heap.size w w' := by
  obtain ⟨w1, hw1⟩ : ∃ w1, w1 = (w.alloc (.cells #[.string s.nm, .slice ca cl cc, .slice xa xl xc] 25)).alloc (.cells #[.string t.nm, .slice da dl dc, .slice ya yl yc] 25) := ⟨_, rfl⟩
  obtain ⟨L, hL⟩ : ∃ L, w.heap.size = L := ⟨_, rfl⟩
  obtain ⟨M, hM⟩ : ∃ M, L + 1 = M := ⟨_, rfl⟩
  have HR1 : Hid (w1.heap[L]? = some (.cells #[.string s.nm, .slice ca cl cc, .slice xa xl xc] 25 (0, 0))) := by show _ = _; rw [hw1, ← hL]; exact heap_alloc2_old w _ _
  have HA1 : Hid (w1.heap[M]? = some (.cells #[.string t.nm, .slice da dl dc, .slice ya yl yc] 25 (0, 0))) := by show _ = _; rw [hw1, ← hM, ← hL]; exact heap_alloc2_new w _ _
  have hb1 : Below w.heap.size w w1 := by rw [hw1]; exact (below_box w _).trans ((below_box _ _).mono (below_box w _).size)
  have H1 := hide (h.later hb1)
  have H1' := hide (h'.later hb1)
  have HW1 := hide hw1
  have HM := hide hM
  have HB1 : Hid (Below L w w1) := by show Below L w w1; rw [← hL]; exact hb1
  have HLB : Hid (L ≤ w1.heap.size) := by show L ≤ _; have := blk_lt HR1.out; omega
  rw [hL]
  clear h h' hb1 hw1
  go_enter Try.func18, Try.ntmps18
  go_upto_region 1 with fail
  rw [← HW1.out]
  try simp only [hM]
  clear hM
  have y0 : w1.cell? ⟨L, 0, none⟩ = some (.string s.nm) := cell_blk HR1.out
  have y1 : w1.cell? ⟨L, 1, none⟩ = some (.slice ca cl cc) := cell_blk HR1.out
  have y2 : w1.cell? ⟨L, 2, none⟩ = some (.slice xa xl xc) := cell_blk HR1.out
  have z0 : w1.cell? ⟨M, 0, none⟩ = some (.string t.nm) := cell_blk HA1.out
  have z1 : w1.cell? ⟨M, 1, none⟩ = some (.slice da dl dc) := cell_blk HA1.out
  have z2 : w1.cell? ⟨M, 2, none⟩ = some (.slice ya yl yc) := cell_blk HA1.out
  cases hn : (s.nm.toList == t.nm.toList) with
  | false =>
    have HE : Hid (s.same t = false) := by show _ = _; unfold Sch.same; rw [hn]; rfl
    have hne : (s.nm != t.nm) = true := ba_ne (by rw [ba_beq] at hn; exact of_decide_eq_false hn)
    go_wp2
    go_ret
    exact ⟨by rw [HE.out]; rfl, HB1.out⟩
  | true =>
  have HNE := hide hn
  have hne : (s.nm != t.nm) = false := by rw [ba_beq] at hn; rw [of_decide_eq_true hn]; exact ba_nself _
  by_cases c1 : cl = dl
  · subst c1
    by_cases c2 : xl = yl
    · subst c2
      go_wp2_with fail
      clear y0 y1 y2 z0 z1 z2 hne
      go_loopg [5] cl (fun gh s5 wx => ∃ j : Nat, j + gh = cl ∧ s5 = .int .i64 (j : Int) ∧ s.cs.take j = t.cs.take j ∧ Below w1.heap.size w1 wx)
      case atStart => exact ⟨0, by omega, rfl, by simp, Below.refl _ _⟩
      case round =>
        obtain ⟨j, hj, rfl, htk, hbr⟩ := hrel
        have HTK := hide htk
        have HBR := hide hbr
        have HRR := hide ((hbr.block L (blk_lt HR1.out)).trans HR1.out)
        have HAR := hide ((hbr.block M (blk_lt HA1.out)).trans HA1.out)
        clear htk hbr
        have u1 : wr.cell? ⟨L, 1, none⟩ = some (.slice ca cl cc) := cell_blk HRR.out
        have u2 : wr.cell? ⟨M, 1, none⟩ = some (.slice da cl dc) := cell_blk HAR.out
        by_cases hjn : j < cl
        · have xj : (j : Int) < (cl : Int) := by omega
          obtain ⟨x, hxj⟩ : ∃ x, s.cs[j]? = some x := ⟨_, List.getElem?_eq_getElem (by rw [H1.out.c.hl]; exact hjn)⟩
          obtain ⟨y, hyj⟩ : ∃ y, t.cs[j]? = some y := ⟨_, List.getElem?_eq_getElem (by rw [H1'.out.c.hl]; exact hjn)⟩
          have HS : Hid (x = y → s.cs.take (j + 1) = t.cs.take (j + 1)) := by
            intro q
            rw [List.take_add_one, List.take_add_one, hxj, hyj, HTK.out, q]
          have HD : Hid (x ≠ y → s.same t = false) := by
            intro q
            refine same_cs fun e => ?_
            rw [e, hyj] at hxj
            simp only [Option.some.injEq] at hxj
            exact q hxj.symm
          obtain ⟨b, o, e0, hb, hcs⟩ := H1.out.c.pl (by omega)
          obtain ⟨b', o', e0', hb', hcs'⟩ := H1'.out.c.pl (by omega)
          have hc1 := fun q (ht : q < 3) => (HBR.out.cell hb (p := ⟨b, o + j * 3 + q, none⟩)).trans (hcs j x hxj q ht)
          have hc2 := fun q (ht : q < 3) => (HBR.out.cell hb' (p := ⟨b', o' + j * 3 + q, none⟩)).trans (hcs' j y hyj q ht)
          subst e0 e0'
          have y0 : wr.cell? ⟨b, o + j * 3, none⟩ = some (.string x.1) := hc1 0 (by omega)
          have z0 : wr.cell? ⟨b', o' + j * 3, none⟩ = some (.string y.1) := hc2 0 (by omega)
          have y1 : wr.cell? ⟨b, o + j * 3 + 1, none⟩ = some (.int .i64 x.2.1) := hc1 1 (by omega)
          have z1 : wr.cell? ⟨b', o' + j * 3 + 1, none⟩ = some (.int .i64 y.2.1) := hc2 1 (by omega)
          have y2 : wr.cell? ⟨b, o + j * 3 + 2, none⟩ = some (.int .i64 x.2.2) := hc1 2 (by omega)
          have z2 : wr.cell? ⟨b', o' + j * 3 + 2, none⟩ = some (.int .i64 y.2.2) := hc2 2 (by omega)
          clear hcs hcs' hc1 hc2 hxj hyj
          by_cases hxy : x = y
          · have HN := hide (HS.out hxy)
            subst hxy
            go_wp2_with fail
            go_quiet (fail)
            go_wp2
            go_roundg (gk - 1)
            case measure => omega
            case rel => exact ⟨j + 1, by omega, rfl, HN.out, below_drw HBR.out _⟩
          · have HN := hide (HD.out hxy)
            by_cases e0 : x.1 = y.1
            · have f0 : (x.1.toList == y.1.toList) = true := by rw [e0]; exact beq_self_eq_true _
              by_cases e1 : x.2.1 = y.2.1
              · have f1 : (x.2.1 == y.2.1) = true := by rw [e1]; exact beq_self_eq_true _
                have f2 : (x.2.2 == y.2.2) = false := by simp; intro q; exact hxy (Prod.ext e0 (Prod.ext e1 q))
                go_wp2_with fail
                go_quiet (fail)
                go_wp2
                go_ret
                exact ⟨by rw [HN.out]; rfl, below_drw (HB1.out.trans (HBR.out.mono HLB.out)) _⟩
              · have f1 : (x.2.1 == y.2.1) = false := by simp [e1]
                go_wp2_with fail
                go_quiet (fail)
                go_wp2
                go_ret
                exact ⟨by rw [HN.out]; rfl, below_drw (HB1.out.trans (HBR.out.mono HLB.out)) _⟩
            · have f0 : (x.1.toList == y.1.toList) = false := by rw [ba_beq]; exact decide_eq_false e0
              go_wp2_with fail
              go_quiet (fail)
              go_wp2
              go_ret
              exact ⟨by rw [HN.out]; rfl, below_drw (HB1.out.trans (HBR.out.mono HLB.out)) _⟩
        · have xj : ¬ (j : Int) < (cl : Int) := by omega
          have HEcs : Hid (s.cs = t.cs) := by
            have h9 := HTK.out
            rw [List.take_of_length_le (by rw [H1.out.c.hl]; omega), List.take_of_length_le (by rw [H1'.out.c.hl]; omega)] at h9
            exact h9
          have HBC := hide HBR.out
          clear hj u2
          go_wp2_with fail
          clear xj u1
          go_loopg [6] xl (fun gh s6 wx => ∃ j : Nat, j + gh = xl ∧ s6 = .int .i64 (j : Int) ∧ s.xs.take j = t.xs.take j ∧ Below w1.heap.size w1 wx)
          case atStart => exact ⟨0, by omega, rfl, by simp, HBC.out⟩
          case round =>
            obtain ⟨j, hj, rfl, htk, hbr⟩ := hrel
            have HTK := hide htk
            have HBR := hide hbr
            have HRR := hide ((hbr.block L (blk_lt HR1.out)).trans HR1.out)
            have HAR := hide ((hbr.block M (blk_lt HA1.out)).trans HA1.out)
            clear htk hbr
            have u1 : wr.cell? ⟨L, 2, none⟩ = some (.slice xa xl xc) := cell_blk HRR.out
            have u2 : wr.cell? ⟨M, 2, none⟩ = some (.slice ya xl yc) := cell_blk HAR.out
            by_cases hjn : j < xl
            · have xj : (j : Int) < (xl : Int) := by omega
              obtain ⟨x, hxj⟩ : ∃ x, s.xs[j]? = some x := ⟨_, List.getElem?_eq_getElem (by rw [H1.out.x.hl]; exact hjn)⟩
              obtain ⟨y, hyj⟩ : ∃ y, t.xs[j]? = some y := ⟨_, List.getElem?_eq_getElem (by rw [H1'.out.x.hl]; exact hjn)⟩
              have HS : Hid (x = y → s.xs.take (j + 1) = t.xs.take (j + 1)) := by
                intro q
                rw [List.take_add_one, List.take_add_one, hxj, hyj, HTK.out, q]
              have HD : Hid (x ≠ y → s.same t = false) := by
                intro q
                refine same_xs fun e => ?_
                rw [e, hyj] at hxj
                simp only [Option.some.injEq] at hxj
                exact q hxj.symm
              obtain ⟨b, o, e0, hb, hcs⟩ := H1.out.x.pl (by omega)
              obtain ⟨b', o', e0', hb', hcs'⟩ := H1'.out.x.pl (by omega)
              have hc1 := fun q (ht : q < 2) => (HBR.out.cell hb (p := ⟨b, o + j * 2 + q, none⟩)).trans (hcs j x hxj q ht)
              have hc2 := fun q (ht : q < 2) => (HBR.out.cell hb' (p := ⟨b', o' + j * 2 + q, none⟩)).trans (hcs' j y hyj q ht)
              subst e0 e0'
              have y0 : wr.cell? ⟨b, o + j * 2, none⟩ = some (.int .i64 x.1) := hc1 0 (by omega)
              have z0 : wr.cell? ⟨b', o' + j * 2, none⟩ = some (.int .i64 y.1) := hc2 0 (by omega)
              have y1 : wr.cell? ⟨b, o + j * 2 + 1, none⟩ = some (.bool x.2) := hc1 1 (by omega)
              have z1 : wr.cell? ⟨b', o' + j * 2 + 1, none⟩ = some (.bool y.2) := hc2 1 (by omega)
              clear hcs hcs' hc1 hc2 hxj hyj
              by_cases hxy : x = y
              · have HN := hide (HS.out hxy)
                subst hxy
                go_wp2_with fail
                go_quiet (fail)
                go_wp2
                go_roundg (gk - 1)
                case measure => omega
                case rel => exact ⟨j + 1, by omega, rfl, HN.out, below_drw HBR.out _⟩
              · have HN := hide (HD.out hxy)
                by_cases e0 : x.1 = y.1
                · have f0 : (x.1 == y.1) = true := by rw [e0]; exact beq_self_eq_true _
                  have f1 : (x.2 == y.2) = false := by simp; intro q; exact hxy (Prod.ext e0 q)
                  go_wp2_with fail
                  go_quiet (fail)
                  go_wp2
                  go_ret
                  exact ⟨by rw [HN.out]; rfl, below_drw (HB1.out.trans (HBR.out.mono HLB.out)) _⟩
                · have f0 : (x.1 == y.1) = false := by simp [e0]
                  go_wp2_with fail
                  go_quiet (fail)
                  go_wp2
                  go_ret
                  exact ⟨by rw [HN.out]; rfl, below_drw (HB1.out.trans (HBR.out.mono HLB.out)) _⟩
            · have xj : ¬ (j : Int) < (xl : Int) := by omega
              have HExs : Hid (s.xs = t.xs) := by
                have h9 := HTK.out
                rw [List.take_of_length_le (by rw [H1.out.x.hl]; omega), List.take_of_length_le (by rw [H1'.out.x.hl]; omega)] at h9
                exact h9
              have HE : Hid (s.same t = true) := by
                show _ = _
                unfold Sch.same
                rw [HNE.out, decide_eq_true HEcs.out, decide_eq_true HExs.out]
                rfl
              go_wp2
              go_ret
              exact ⟨by rw [HE.out]; rfl, HB1.out.trans (HBR.out.mono HLB.out)⟩
    · have HE : Hid (s.same t = false) := same_xs fun e => c2 (by rw [← H1.out.x.hl, ← H1'.out.x.hl, e])
      have d2 : ((xl : Int) != (yl : Int)) = true := by simp; omega
      go_wp2
      go_ret
      exact ⟨by rw [HE.out]; rfl, HB1.out⟩
  · have HE : Hid (s.same t = false) := same_cs fun e => c1 (by rw [← H1.out.c.hl, ← H1'.out.c.hl, e])
    have d1 : ((cl : Int) != (dl : Int)) = true := by simp; omega
    go_wp2
    go_ret
    exact ⟨by rw [HE.out]; rfl, HB1.out⟩
end Go.Proofs.Ytcophbkgighepaa
