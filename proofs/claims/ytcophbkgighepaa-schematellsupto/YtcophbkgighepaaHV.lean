/- The document's own FoldOne and Fold. -/
import Derived.Test.YtcophbkgighepaaHU
import Derived.Test.YtcophbkgighepaaE3
set_option linter.unusedVariables false
namespace Go.Proofs.Ytcophbkgighepaa
open Go.RowKit

theorem info_vl : (Try.prog.info? 39).map (·.size) = some 3 := by kernel_rfl
set_option maxRecDepth 100000 in
set_option maxHeartbeats 4000000 in
theorem foldone_any (v : Val) (hs : v.2.2.size ≤ 1048576) (w : World) :
    Calls Try.prog 35 #[.agg #[.int .i64 v.1, .int .i64 v.2.1, .string v.2.2]] w fun e w' => e = .returned (.agg #[.int .i64 (foldV v).1, .int .i64 (foldV v).2.1, .string (foldV v).2.2]) ∧ Below w.heap.size w w' := by
  obtain ⟨w1, hw1⟩ : ∃ w1, w1 = (w.alloc (.cells #[.int .i64 v.1, .int .i64 v.2.1, .string v.2.2] 39)).alloc (.cells #[.int .i64 0, .int .i64 0, .string ⟨#[]⟩] 39) := ⟨_, rfl⟩
  obtain ⟨L, hL⟩ : ∃ L, w.heap.size = L := ⟨_, rfl⟩
  obtain ⟨M, hM⟩ : ∃ M, L + 1 = M := ⟨_, rfl⟩
  have HR1 : Hid (w1.heap[L]? = some (.cells #[.int .i64 v.1, .int .i64 v.2.1, .string v.2.2] 39 (0, 0))) := by show _ = _; rw [hw1, ← hL]; exact heap_alloc2_old w _ _
  have HA1 : Hid (w1.heap[M]? = some (.cells #[.int .i64 0, .int .i64 0, .string ⟨#[]⟩] 39 (0, 0))) := by show _ = _; rw [hw1, ← hM, ← hL]; exact heap_alloc2_new w _ _
  have hb1 : Below w.heap.size w w1 := by rw [hw1]; exact (below_box w _).trans ((below_box _ _).mono (below_box w _).size)
  have HB1 : Hid (Below L w w1) := by show Below L w w1; rw [← hL]; exact hb1
  have HLB : Hid (L ≤ w1.heap.size) := by show L ≤ _; have := blk_lt HR1.out; omega
  have HLM : Hid (L ≤ M ∧ M ≠ L) := ⟨by omega, by omega⟩
  have HFD := hide (refFold_any v.2.2 w1 hs)
  have HW1 := hide hw1
  obtain ⟨fv, hfv⟩ : ∃ fv, foldV v = fv := ⟨_, rfl⟩
  have HFV := hide hfv
  rw [hL, hfv]
  clear hb1 hw1 hs hfv
  go_enter Try.func35, Try.ntmps35
  go_upto_region 1 with fail
  rw [← HW1.out]
  try simp only [hM]
  clear hM
  have y0 : w1.cell? ⟨L, 0, none⟩ = some (.int .i64 v.1) := cell_blk HR1.out
  have y1 : w1.cell? ⟨L, 1, none⟩ = some (.int .i64 v.2.1) := cell_blk HR1.out
  have y2 : w1.cell? ⟨L, 2, none⟩ = some (.string v.2.2) := cell_blk HR1.out
  by_cases hk : v.1 = 2
  · have kf : (v.1 == 2) = true := by simp [hk]
    have HE : Hid (foldV v = (v.1, v.2.1, foldS v.2.2)) := if_pos hk
    clear hk
    go_wp2_with fail
    refine HFD.out.mono ?_
    rintro e w2 ⟨rfl, hb2⟩
    have HR2 := hide ((hb2.block L (blk_lt HR1.out)).trans HR1.out)
    have HA2 := hide ((hb2.block M (blk_lt HA1.out)).trans HA1.out)
    have HB2 : Hid (Below L w w2) := HB1.out.trans (hb2.mono HLB.out)
    clear hb2 HFD y0 y1 y2
    have u2 : w2.cell? ⟨L, 2, none⟩ = some (.string v.2.2) := cell_blk HR2.out
    have uf2 : w2.frozen? ⟨L, 2, none⟩ = false := frz_blk HR2.out
    have HR3 : Hid ((w2.setCell ⟨L, 2, none⟩ (.string (foldS v.2.2))).heap[L]? = some (.cells #[.int .i64 v.1, .int .i64 v.2.1, .string (foldS v.2.2)] 39 (0, 0))) := heap_setCell_same _ _ _ _ _ _ HR2.out
    have HA3 : Hid ((w2.setCell ⟨L, 2, none⟩ (.string (foldS v.2.2))).heap[M]? = some (.cells #[.int .i64 0, .int .i64 0, .string ⟨#[]⟩] 39 (0, 0))) := (heap_setCell_other _ _ _ _ HLM.out.2).trans HA2.out
    have HB3 : Hid (Below L w (w2.setCell ⟨L, 2, none⟩ (.string (foldS v.2.2)))) := HB2.out.setCell (p := ⟨L, 2, none⟩) (Nat.le_refl _) _
    go_upto_region 3 with fail
    generalize (w2.setCell ⟨L, 2, none⟩ (.string (foldS v.2.2))) = w3 at *
    have s0 : w3.cell? ⟨L, 0, none⟩ = some (.int .i64 v.1) := cell_blk HR3.out
    have s1 : w3.cell? ⟨L, 1, none⟩ = some (.int .i64 v.2.1) := cell_blk HR3.out
    have s2 : w3.cell? ⟨L, 2, none⟩ = some (.string (foldS v.2.2)) := cell_blk HR3.out
    have t0 : w3.cell? ⟨M, 0, none⟩ = some (.int .i64 0) := cell_blk HA3.out
    have t1 : w3.cell? ⟨M, 1, none⟩ = some (.int .i64 0) := cell_blk HA3.out
    have t2 : w3.cell? ⟨M, 2, none⟩ = some (.string ⟨#[]⟩) := cell_blk HA3.out
    have tf0 : w3.frozen? ⟨M, 0, none⟩ = false := frz_blk HA3.out
    have tf1 : w3.frozen? ⟨M, 1, none⟩ = false := frz_blk HA3.out
    have tf2 : w3.frozen? ⟨M, 2, none⟩ = false := frz_blk HA3.out
    clear u2 uf2
    go_wp2
    (try simp only [Exit.inBlock, Exit.then])
    refine bodyPost_ret (results_cell_row Try.results35 _ _ M _ _ _ _ rfl (set3 HA3.out) Try.underlying39 rfl info_vl) rfl ?_
    exact ⟨by rw [show fv = _ from HFV.out.symm.trans HE.out], ((HB3.out.setCell (p := ⟨M, 0, none⟩) HLM.out.1 _).setCell (p := ⟨M, 1, none⟩) HLM.out.1 _).setCell (p := ⟨M, 2, none⟩) HLM.out.1 _⟩
  · have kf : (v.1 == 2) = false := by simp [hk]
    have HE : Hid (foldV v = v) := if_neg hk
    clear hk
    have t0 : w1.cell? ⟨M, 0, none⟩ = some (.int .i64 0) := cell_blk HA1.out
    have t1 : w1.cell? ⟨M, 1, none⟩ = some (.int .i64 0) := cell_blk HA1.out
    have t2 : w1.cell? ⟨M, 2, none⟩ = some (.string ⟨#[]⟩) := cell_blk HA1.out
    have tf0 : w1.frozen? ⟨M, 0, none⟩ = false := frz_blk HA1.out
    have tf1 : w1.frozen? ⟨M, 1, none⟩ = false := frz_blk HA1.out
    have tf2 : w1.frozen? ⟨M, 2, none⟩ = false := frz_blk HA1.out
    go_wp2
    (try simp only [Exit.inBlock, Exit.then])
    refine bodyPost_ret (results_cell_row Try.results35 _ _ M _ _ _ _ rfl (set3 HA1.out) Try.underlying39 rfl info_vl) rfl ?_
    exact ⟨by rw [show fv = _ from HFV.out.symm.trans HE.out], ((HB1.out.setCell (p := ⟨M, 0, none⟩) HLM.out.1 _).setCell (p := ⟨M, 1, none⟩) HLM.out.1 _).setCell (p := ⟨M, 2, none⟩) HLM.out.1 _⟩
set_option maxRecDepth 100000 in
set_option maxHeartbeats 4000000 in
theorem reffold14_any {w : World} {a : Option Addr} {n c : Nat} {l : List Val} (h : SV fV 3 w a n c l) (hn : n ≤ 1000) (hs : ∀ x ∈ l, x.2.2.size ≤ 1048576) :
    Calls Try.prog 15 #[.slice a n c] w fun e w' => ∃ a' c', e = .returned (.slice a' n c') ∧ SV fV 3 w' a' n c' (l.map foldV) ∧ Below w.heap.size w w' := by
  have H := hide h
  have HL := hide h.hl
  have HS := hide hs
  clear h hs
  generalize hN : w.heap.size = N at *
  go_enter Try.func15, Try.ntmps15
  go_wp2_with fail
  go_loopg [3, 4] n (fun gh s3 s4 wx => ∃ (j : Nat) (v3 : Value), j + gh = n ∧ v3 = s3 ∧ s4 = .int .i64 (j : Int) ∧ wx.ownsRow N 39 3 v3 ((l.take j).map foldV).length (((l.take j).map foldV).flatMap fV) ∧ Below N w wx)
  case atStart => exact ⟨0, _, by omega, rfl, rfl, own_nil _ _ _ _, Below.refl _ _⟩
  case round =>
    obtain ⟨j, v3, hj, rfl, rfl, hor, hbr⟩ := hrel
    have HOR := hide hor
    have HBR := hide hbr
    clear hor hbr
    by_cases hjn : j < n
    · have xj : (j : Int) < (n : Int) := by omega
      obtain ⟨x, hxj⟩ : ∃ x, l[j]? = some x := ⟨_, List.getElem?_eq_getElem (by rw [HL.out]; exact hjn)⟩
      obtain ⟨b, o, e0, hb, hcs⟩ := H.out.pl (by omega)
      rw [hN] at hb
      subst e0
      have hcell : ∀ t, t < 3 → wr.cell? ⟨b, o + j * 3 + t, none⟩ = (fV x)[t]? := fun t ht => (HBR.out.cell hb).trans (hcs j x hxj t ht)
      have y0 : wr.cell? ⟨b, o + j * 3, none⟩ = some (.int .i64 x.1) := hcell 0 (by omega)
      have y1 : wr.cell? ⟨b, o + j * 3 + 1, none⟩ = some (.int .i64 x.2.1) := hcell 1 (by omega)
      have y2 : wr.cell? ⟨b, o + j * 3 + 2, none⟩ = some (.string x.2.2) := hcell 2 (by omega)
      have HFO := hide (foldone_any x (HS.out x (List.mem_of_getElem? hxj)) wr)
      have HNX : Hid ((l.take j).map foldV ++ [foldV x] = (l.take (j + 1)).map foldV) := by
        show _ = _
        rw [List.take_add_one, hxj, List.map_append]
        rfl
      have HNW : Hid (N ≤ wr.heap.size) := by show N ≤ _; have := HBR.out.size; omega
      clear hcs hcell hxj hb
      go_wp2_with fail
      refine HFO.out.mono ?_
      rintro e w2 ⟨rfl, hb2⟩
      have HO2 := hide (ownsRow_later HOR.out hb2)
      have HB2 : Hid (Below N w w2) := HBR.out.trans (hb2.mono HNW.out)
      have HN2 : Hid (N ≤ w2.heap.size) := Nat.le_trans HNW.out hb2.size
      have hbx := below_box w2 (.cells #[.int .i64 (foldV x).1, .int .i64 (foldV x).2.1, .string (foldV x).2.2] 39)
      have HSV : Hid (SV fV 3 (w2.alloc (.cells #[.int .i64 (foldV x).1, .int .i64 (foldV x).2.1, .string (foldV x).2.2] 39)) (some ⟨w2.heap.size, 0, none⟩) 1 1 [foldV x]) := SV.whole fV_len rfl (by omega) (boxed w2 _)
      have HO3 := hide (ownsRow_later HO2.out hbx)
      have HB3 : Hid (Below N w (w2.alloc (.cells #[.int .i64 (foldV x).1, .int .i64 (foldV x).2.1, .string (foldV x).2.2] 39))) := HB2.out.trans (hbx.mono HN2.out)
      have HN3 : Hid (N ≤ (w2.alloc (.cells #[.int .i64 (foldV x).1, .int .i64 (foldV x).2.1, .string (foldV x).2.2] 39)).heap.size) := Nat.le_trans HN2.out hbx.size
      have HLE : Hid (((l.take j).map foldV).length ≤ 1000) := by
        show _ ≤ _
        rw [List.length_map, List.length_take]
        omega
      clear hb2 hbx HFO y0 y1 y2
      go_wp2_with (at_builtin; refine wpList_app_sv fV_len (by omega) fV_one Try.underlying26 info_val rfl (by omega) rfl (.tmp 11) (.tmp 17) rfl (B1 := N) (F := (l.take j).map foldV) (G := [foldV x]) rfl rfl HO3.out HSV.out HN3.out (by have := HLE.out; show _ + 1 ≤ _; omega) ?_; intro v4 w4 ho4 hb4 _; have HO4 := hide ho4; have HB4 := hide hb4; clear ho4 hb4)
      go_roundg (gk - 1)
      case measure => omega
      case rel => exact ⟨j + 1, _, by omega, rfl, by go_num, by rw [← HNX.out]; exact HO4.out, HB3.out.trans HB4.out⟩
    · have xj : ¬ (j : Int) < (n : Int) := by omega
      have HF : Hid (wr.ownsRow N 39 3 v3 n ((l.map foldV).flatMap fV)) := by
        have h9 := HOR.out
        rw [List.take_of_length_le (by rw [HL.out]; omega), List.length_map, HL.out] at h9
        exact h9
      obtain ⟨a', c', e', hsv⟩ := own_sv fV_len HF.out (by rw [List.length_map]; exact HL.out)
      subst e'
      have HSV := hide hsv
      clear hsv
      go_wp2
      go_ret
      exact ⟨a', c', rfl, HSV.out, HBR.out⟩
end Go.Proofs.Ytcophbkgighepaa
