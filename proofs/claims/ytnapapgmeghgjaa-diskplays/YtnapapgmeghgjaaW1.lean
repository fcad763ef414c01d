/- Contract of the document's own Flip: the walk. -/
import Derived.Test.YtnapapgmeghgjaaV9
set_option linter.unusedVariables false
namespace Go.Proofs.Ytnapapgmeghgjaa
open Go.RowKit

set_option maxRecDepth 100000 in
set_option maxHeartbeats 8000000 in
theorem flipR_ok [Gc] {B p gk : Nat} {vo : Value} {kv wv : Nat → Value} {kb : Nat → List Nat} {t : DS} {w : World} (a bit : Nat) (h : RV B p gk vo kv wv kb t w) (hB : B ≤ w.heap.size) (ha : a < t.n) (hbit : bit < 65536) :
    Calls Try.prog 22 #[.pointer (some ⟨p, 0, none⟩), .int .i64 (a : Int), .int .i64 (bit : Int)] w fun e w' => e = .returned (.int .i64 0) ∧ RN (ob wv t.m) B p gk wv (t.flip a bit) w w' := by
  obtain ⟨d0, d1, -⟩ := h.d
  have H := hide h
  have hmm := h.ok.mm
  have HOK := hide h.ok
  have hn2 := h.ok.n2
  have HN8 : Hid (blk = 8192) := rfl
  obtain ⟨N, HN⟩ : ∃ N, Hid (blk = N) := ⟨_, rfl⟩
  have hN8 : (N : Int) = 8192 := by rw [← HN.out]; rfl
  obtain ⟨A, C, hvo⟩ := own_slice h.hw
  subst hvo
  have HKP := hide (h.kp a ha)
  have HKL := hide (kb_lenR HKP.out.2)
  have HKT := hide (kb_ltR HKP.out.1 (HOK.out.kb a))
  obtain ⟨a1, p1, e1, hbs1⟩ := bs_row (h.hk a ha) (by have := HKL.out; have := HN8.out; omega) HKT.out
  have q1 : w.cell? ⟨gk, a, none⟩ = some (kv a) := by
    rw [cell_blk h.hg]
    simpa using krow_get kv ha
  rw [e1] at q1
  have HPT := hide (pad_turn (h.ok.kl a) hbit)
  have HFU : Hid (Calls Try.prog 36 #[.slice a1 (kb a).length p1] w fun e w' => e = .returned (.slice (some ⟨w.heap.size, 0, none⟩) N N) ∧ w'.ownsRow w.heap.size 5 1 (.slice (some ⟨w.heap.size, 0, none⟩) N N) N (cellsOf (pad (t.K a))) ∧ Below w.heap.size w w') := by
    have := full_any a1 _ p1 (kb a) w hbs1 HKL.out
    rw [HN.out, HKP.out.1] at this
    exact this
  obtain ⟨b8, hb8⟩ : ∃ b8, b8 = bit / 8 := ⟨_, rfl⟩
  obtain ⟨r8, hr8⟩ : ∃ r8, r8 = bit % 8 := ⟨_, rfl⟩
  have HB8e := hide hb8
  have HR8e := hide hr8
  have r88 : r8 < 8 := by omega
  have d8 : (bit : Int) / 8 = (b8 : Int) := by omega
  have m8 : (bit : Int) % 8 = (r8 : Int) := by omega
  have td : ((bit : Int).tdiv 8) = (b8 : Int) := by rw [Int.tdiv_eq_ediv_of_nonneg (by omega)]; exact d8
  have tm : ((bit : Int).tmod 8) = (r8 : Int) := by rw [Int.tmod_eq_emod_of_nonneg (by omega)]; exact m8
  have hbN : b8 < N := by omega
  have pw : 2 ^ r8 < 256 := Nat.lt_of_lt_of_le (Nat.pow_lt_pow_right (by omega) r88) (by decide)
  have HXR : Hid (∀ cv : Nat, cv < 256 → bits BinOp.xor IntKind.u8 (cv : Int) ((2 ^ r8 : Nat) : Int) = ((cv ^^^ 2 ^ r8 : Nat) : Int)) := fun cv hcv => u8_xor_nat _ _ hcv pw
  have uw : IntKind.u8.wrap ((2 : Int) ^ r8) = ((2 ^ r8 : Nat) : Int) := by
    have e : ((2 : Int) ^ r8) = ((2 ^ r8 : Nat) : Int) := by simp
    rw [e]
    exact wrap_u8_nat _ pw
  have mn : min r8 8 = r8 := by omega
  have y0 : (0 : Int) ≤ (b8 : Int) := by omega
  have y1 : (b8 : Int) < (N : Int) := by omega
  have y2 : (0 : Int) ≤ (r8 : Int) := by omega
  have HBT := hide hbit
  have u1 : decide ((a : Int) < 0) = false := decide_eq_false (by omega)
  have u2 : decide (((t.n : Nat) : Int) ≤ (a : Int)) = false := decide_eq_false (by omega)
  have u3 : decide ((bit : Int) < 0) = false := decide_eq_false (by omega)
  have u4 : decide ((65535 : Int) < (bit : Int)) = false := decide_eq_false (by omega)
  have i3 : (0 : Int) ≤ (a : Int) := by omega
  have i4 : (a : Int) < ((t.n : Nat) : Int) := by omega
  have wb : IntKind.i64.wrap (b8 : Int) = (b8 : Int) := by rw [IntKind.wrap_i64]; omega
  have wr8 : IntKind.i64.wrap (r8 : Int) = (r8 : Int) := by rw [IntKind.wrap_i64]; omega
  have HD8 := hide (And.intro d8 (And.intro m8 (And.intro td (And.intro tm (And.intro wb wr8)))))
  have HUW := hide (And.intro uw mn)
  have HPW := hide pw
  have HNN := hide (And.intro hN8 (And.intro hn2 hmm))
  clear d8 m8 td tm uw mn pw d1 hN8 hn2 hmm r88 wb wr8
  rw [← hb8, ← hr8] at HPT
  have HA := hide ha
  generalize hP : 2 ^ r8 = P8 at *
  have HP := hide hP
  clear h hbs1 e1 hP hb8 hr8 ha hbit
  generalize (kb a).length = n1 at *
  go_enter Try.func22, Try.ntmps22
  go_wp2_with fail
  refine HFU.out.mono ?_
  rintro e w1 ⟨rfl, ho1, hb1⟩
  have HB1 := hide hb1
  have HO1 := hide ho1
  have HPL : Hid ((pad (t.K a)).length = N) := by show _ = _; rw [pad_len (HOK.out.kl a), HN.out]
  have HR1 := hide (H.out.later hb1)
  obtain ⟨cv, HCV⟩ : ∃ cv, Hid ((pad (t.K a)).getD b8 0 = cv) := ⟨_, rfl⟩
  have hcv : cv < 256 := by rw [← HCV.out]; exact byteAt (pad_lt (HOK.out.kb a)) _
  have hx := HXR.out cv hcv
  have o1 := (own_whole ho1).1
  have k1 : w1.cell? ⟨w.heap.size, b8, none⟩ = some (.int .u8 (cv : Nat)) := by
    rw [cell_blk o1]
    have := cellsOf_get (pad (t.K a)) b8 (by rw [HPL.out]; exact hbN)
    rw [HCV.out] at this
    simpa using this
  have k2 : w1.frozen? ⟨w.heap.size, b8, none⟩ = false := frz_blk o1
  have hs2 := (ho1.stored b8 (.int .u8 ((cv ^^^ P8 : Nat) : Int)))
  have HBS := hide (hb1.setCell (p := ⟨w.heap.size, b8, none⟩) (Nat.le_refl _) (.int .u8 ((cv ^^^ P8 : Nat) : Int)))
  rw [HCV.out] at HPT
  have e5 : (cellsOf (pad (t.K a))).set b8 (.int .u8 ((cv ^^^ P8 : Nat) : Int)) = cellsOf (pad (turnL (t.K a) bit)) := by
    rw [← HPT.out]
    simp [cellsOf, List.map_set]
  have HV2 : Hid ((w1.setCell ⟨w.heap.size, b8, none⟩ (.int .u8 ((cv ^^^ P8 : Nat) : Int))).ownsRow B 5 1 (.slice (some ⟨w.heap.size, 0, none⟩) N N) (pad (turnL (t.K a) bit)).length (cellsOf (pad (turnL (t.K a) bit)))) := by
    show World.ownsRow _ _ _ _ _ _ _
    have q := hs2.1
    rw [e5] at q
    have e6 : (pad (turnL (t.K a) bit)).length = N := by rw [← HPT.out, List.length_set, HPL.out]
    rw [e6]
    exact own_base q hB
  have HR2 := hide (H.out.later HBS.out)
  have HPT2 : Hid ((pad (turnL (t.K a) bit)).length = blk) := by show _ = _; rw [← HPT.out, List.length_set, HPL.out, HN.out]
  have HBd : Hid (w1.heap.size = (w1.setCell ⟨w.heap.size, b8, none⟩ (.int .u8 ((cv ^^^ P8 : Nat) : Int))).heap.size) := by show _ = _; simp
  clear ho1 hb1 o1 hs2 e5
  generalize hW2 : w1.setCell ⟨w.heap.size, b8, none⟩ (.int .u8 ((cv ^^^ P8 : Nat) : Int)) = w2 at HV2 HR2 HBS HBd
  have HW2 := hide hW2
  have HTK := hide (HR2.out.turnK (b := ob wv t.m) HA.out HBT.out HV2.out HPT2.out rfl (fun k hk i hi e => by
    have e7 : w.heap.size = k := Option.some.inj hk
    obtain ⟨_, cur, hc⟩ := own_block (H.out.hb i hi) e
    have := (Array.getElem?_eq_some_iff.1 hc).1
    omega) (fun j hj e => by
    have e7 : w.heap.size = j := Option.some.inj e
    obtain ⟨cs, e6⟩ := (H.out.h8 j hj).1
    have := (Array.getElem?_eq_some_iff.1 e6).1
    omega))
  have j0 : w2.cell? ⟨p, 0, none⟩ = some (.slice (some ⟨gk, 0, none⟩) t.n t.n) := HR2.out.d.1
  have j1 : w2.cell? ⟨gk, a, none⟩ = some (kv a) := by
    rw [cell_blk HR2.out.hg]
    simpa using krow_get kv HA.out
  have j2 : w2.frozen? ⟨gk, a, none⟩ = false := frz_blk HR2.out.hg
  have HFD2 := hide ((Fd.of (b := ob wv t.m) HBS.out hB).trans HTK.out.2)
  obtain ⟨d8, m8, td, tm, wb, wr8⟩ := HD8.out
  obtain ⟨uw, mn⟩ := HUW.out
  clear hW2
  go_upto_region 5 with fail
  rw [HW2.out]
  clear k1 k2
  go_wp2_with fail
  have HMU : Hid (∀ k, ((t.setKp a (turnL (t.K a) bit)).flipF bit (t.idxK k a)).m = t.m) := fun k => (flipF_m bit _ _).1
  have HAU : Hid (∀ k i, ((t.setKp a (turnL (t.K a) bit)).flipF bit (t.idxK k a)).at_ i = t.at_ i) := fun k i => flipF_at bit _ _ i
  have HST := hide (fun k => flipF_idxK t a bit k)
  have HFI : Hid ((t.setKp a (turnL (t.K a) bit)).flipF bit (t.idxK t.m a) = t.flip a bit) := rfl
  have H0 : Hid ((t.setKp a (turnL (t.K a) bit)).flipF bit (t.idxK 0 a) = t.setKp a (turnL (t.K a) bit)) := rfl
  clear j0 j1 j2
  generalize t.setKp a (turnL (t.K a) bit) = u at *
  obtain ⟨m, hM⟩ : ∃ m, m = t.m := ⟨_, rfl⟩
  have hm5 : (m : Int) ≤ 100000 := by have := HNN.out.2.2; omega
  have HM := hide hM
  rw [← hM] at HTK HFD2 HMU HFI
  clear hM
  go_loopw [8] (fun i wx => ∃ (k : Nat) (kvx : Nat → Value) (kbx : Nat → List Nat), k ≤ m ∧ i = .int .i64 k ∧ RV B p gk (.slice A m C) kvx wv kbx (u.flipF bit (t.idxK k a)) wx ∧ Fd (ob wv m) B w wx) (fun i _ => m - (intOf i).toNat)
  case atStart => exact ⟨0, _, _, by omega, rfl, by rw [H0.out]; exact HTK.out.1, HFD2.out⟩
  case round =>
    obtain ⟨k, kvx, kbx, hk, rfl, hR, hF⟩ := hrel
    have HRX := hide hR
    have HFX := hide hF
    have q9 : wr.cell? ⟨p, 1, none⟩ = some (.slice A m C) := hR.d.2.1
    by_cases hlt : k < m
    · have hw' := hR.hw
      rw [HMU.out k] at hw'
      obtain ⟨g, rfl, hgl, cur, hgc⟩ := own_place hw' (by omega)
      have r0 := hw'.cellAt (k * 2) (by omega)
      have r1 := hw'.cellAt (k * 2 + 1) (by omega)
      rw [two_get0 _ _ _ _ hlt, HAU.out k k] at r0
      rw [two_get1 _ _ _ _ hlt] at r1
      have hkU : k < (u.flipF bit (t.idxK k a)).m := by rw [HMU.out k]; exact hlt
      have x1 : (0 : Int) ≤ (k : Int) := by omega
      have x2 : (k : Int) < (m : Int) := by omega
      have HSTk := hide (HST.out k)
      clear hw' hR hF
      by_cases hq : t.at_ k = a
      · rw [if_pos hq] at HSTk
        have z1 : (((t.at_ k : Nat) : Int) == (a : Int)) = true := by simp [hq]
        have hrow2 := HRX.out.hb k hkU
        rw [HN.out] at hrow2
        obtain ⟨a2, p2, e2⟩ := own_slice hrow2
        have HE2 := hide e2
        rw [e2] at hrow2 r1
        obtain ⟨g2, rfl, -, -⟩ := own_place hrow2 (by omega)
        have HTB := hide ((HRX.out.later (Below.refl _ wr).drew).turnBy (b := ob wv m) hkU HN.out HE2.out HBT.out ⟨k, hlt, by rw [HE2.out]; rfl⟩)
        rw [← HB8e.out, ← HR8e.out, HP.out] at HTB
        have c1 : wr.drew.cell? ⟨g2, b8, none⟩ = some (.int .u8 ((pad ((u.flipF bit (t.idxK k a)).by_ k)).getD b8 0 : Nat)) := by
          show wr.cell? _ = _
          rw [hrow2.cellAt b8 (by omega)]
          exact cellsOf_get _ _ (by rw [pad_len (HRX.out.ok.bl k), HN.out]; exact hbN)
        have f1 : wr.drew.frozen? ⟨g2, b8, none⟩ = false := by
          obtain ⟨_, cur2, hc2⟩ := own_block hrow2 (show Value.ownBlock _ = some g2 from rfl)
          exact frz_blk (w := wr) hc2
        obtain ⟨cy, HCY⟩ : ∃ cy, Hid ((pad ((u.flipF bit (t.idxK k a)).by_ k)).getD b8 0 = cy) := ⟨_, rfl⟩
        have hcy : cy < 256 := by rw [← HCY.out]; exact byteAt (pad_lt (HRX.out.ok.bb k)) _
        rw [HCY.out] at c1 HTB
        have hx2 := HXR.out cy hcy
        have wu8 : IntKind.u64.wrap (r8 : Int) = (r8 : Int) := by rw [IntKind.wrap_u64]; have := HR8e.out; omega
        have HY1 : Hid ((fun wx => wx.cell? ⟨p, 1, none⟩ = some (.slice (some ⟨g, 0, none⟩) m C) ∧ wx.cell? ⟨g, k * 2 + 1, none⟩ = some (.slice (some ⟨g2, 0, none⟩) N p2)) wr.drew) := ⟨q9, r1⟩
        have hne : g2 ≠ g := by
          intro e
          obtain ⟨_, cur2, hc2⟩ := own_block hrow2 (show Value.ownBlock _ = some g2 from rfl)
          rw [e, hgc] at hc2
          simp only [Option.some.injEq, Obj.cells.injEq] at hc2
          exact absurd hc2.2.1 (by decide)
        have HY2 : Hid ((fun wx => wx.cell? ⟨p, 1, none⟩ = some (.slice (some ⟨g, 0, none⟩) m C) ∧ wx.cell? ⟨g, k * 2 + 1, none⟩ = some (.slice (some ⟨g2, 0, none⟩) N p2)) (wr.drew.setCell ⟨g2, b8, none⟩ (.int .u8 ((cy ^^^ P8 : Nat) : Int)))) := ⟨HTB.out.1.d.2.1, (World.cell?_setCell_other _ _ _ _ (fun e => hne (congrArg Addr.block e))).trans r1⟩
        have HFN := hide (HFX.out.trans ((Fd.of (b := ob wv m) (Below.refl wr.heap.size wr).drew (Nat.le_trans hB HFX.out.bel.size)).trans HTB.out.2))
        clear hrow2 e2 hq hgc hgl hx
        go_wp2_with fail
        refine wp_region_noPanic ?_
        refine wp_region_held_drew (S := fun wx => wx.cell? ⟨p, 1, none⟩ = some (.slice (some ⟨g, 0, none⟩) m C) ∧ wx.cell? ⟨g, k * 2 + 1, none⟩ = some (.slice (some ⟨g2, 0, none⟩) N p2)) (by kernel_rfl) HY1.out (fun hHeld => ?_)
        refine wpAnyH_takeAt (i := 0) (d := 76) (v := ?vq0) (by kernel_rfl) (by kernel_rfl) (by kernel_rfl) (by kernel_rfl) (fun _ _ _ h => h) ?hyq0 (by assumption) ?restq0
        case hyq0 =>
          intro oi ho
          simp only [List.getElem?_toArray, List.getElem?_cons_zero, Option.some.injEq] at ho
          subst ho
          refine Or.inl ⟨by rfl, ?_⟩
          intro wx hSw
          try dsimp only at hSw
          go_simp
          try rfl
        try simp only [Act.put, List.setIfInBounds_toArray, List.set_cons_zero, List.set_cons_succ]
        refine wpAnyH_takeAt (i := 1) (d := 77) (v := ?vq1) (by kernel_rfl) (by kernel_rfl) (by kernel_rfl) (by kernel_rfl) (fun _ _ _ h => h) ?hyq1 (by assumption) ?restq1
        case hyq1 =>
          intro oi ho
          simp only [List.getElem?_toArray, List.getElem?_cons_succ, List.getElem?_cons_zero, Option.some.injEq] at ho
          subst ho
          refine Or.inl ⟨by rfl, ?_⟩
          intro wx hSw
          try dsimp only at hSw
          go_simp
          try rfl
        try simp only [Act.put, List.setIfInBounds_toArray, List.set_cons_zero, List.set_cons_succ]
        refine wpAnyH_takeAt (i := 2) (d := 78) (v := ?vq2) (by kernel_rfl) (by kernel_rfl) (by kernel_rfl) (by kernel_rfl) (fun _ _ _ h => h) ?hyq2 (by assumption) ?restq2
        case hyq2 =>
          intro oi ho
          simp only [List.getElem?_toArray, List.getElem?_cons_succ, List.getElem?_cons_zero, Option.some.injEq] at ho
          subst ho
          refine Or.inl ⟨by rfl, ?_⟩
          intro wx hSw
          try dsimp only at hSw
          go_simp
          try rfl
        try simp only [Act.put, List.setIfInBounds_toArray, List.set_cons_zero, List.set_cons_succ]
        refine wpAnyH_takeAt (i := 3) (d := 79) (v := ?vq3) (by kernel_rfl) (by kernel_rfl) (by kernel_rfl) (by kernel_rfl) (fun _ _ _ h => h) ?hyq3 (by assumption) ?restq3
        case hyq3 =>
          intro oi ho
          simp only [List.getElem?_toArray, List.getElem?_cons_succ, List.getElem?_cons_zero, Option.some.injEq] at ho
          subst ho
          refine Or.inl ⟨by rfl, ?_⟩
          intro wx hSw
          try dsimp only at hSw
          go_simp
          try rfl
        try simp only [Act.put, List.setIfInBounds_toArray, List.set_cons_zero, List.set_cons_succ]
        refine wpAnyH_takeAt (i := 4) (d := 80) (v := ?vq4) (by kernel_rfl) (by kernel_rfl) (by kernel_rfl) (by kernel_rfl) (fun _ _ _ h => h) ?hyq4 (by assumption) ?restq4
        case hyq4 =>
          intro oi ho
          simp only [List.getElem?_toArray, List.getElem?_cons_succ, List.getElem?_cons_zero, Option.some.injEq] at ho
          subst ho
          refine Or.inl ⟨by rfl, ?_⟩
          intro wx hSw
          try dsimp only at hSw
          go_simp
          try rfl
        try simp only [Act.put, List.setIfInBounds_toArray, List.set_cons_zero, List.set_cons_succ]
        refine wpAnyH_takeAt (i := 5) (d := 81) (v := ?vq5) (by kernel_rfl) (by kernel_rfl) (by kernel_rfl) (by kernel_rfl) (fun _ _ _ h => h) ?hyq5 (by assumption) ?restq5
        case hyq5 =>
          intro oi ho
          simp only [List.getElem?_toArray, List.getElem?_cons_succ, List.getElem?_cons_zero, Option.some.injEq] at ho
          subst ho
          refine Or.inl ⟨by rfl, ?_⟩
          intro wx hSw
          try dsimp only at hSw
          go_simp
          try rfl
        try simp only [Act.put, List.setIfInBounds_toArray, List.set_cons_zero, List.set_cons_succ]
        refine wpAnyH_takeAt (i := 6) (d := 82) (v := ?vq6) (by kernel_rfl) (by kernel_rfl) (by kernel_rfl) (by kernel_rfl) (fun _ _ _ h => h) ?hyq6 (by assumption) ?restq6
        case hyq6 =>
          intro oi ho
          simp only [List.getElem?_toArray, List.getElem?_cons_succ, List.getElem?_cons_zero, Option.some.injEq] at ho
          subst ho
          refine Or.inl ⟨by rfl, ?_⟩
          intro wx hSw
          try dsimp only at hSw
          go_simp
          try rfl
        try simp only [Act.put, List.setIfInBounds_toArray, List.set_cons_zero, List.set_cons_succ]
        refine wpAnyH_takeAt (i := 7) (d := 83) (v := ?vq7) (by kernel_rfl) (by kernel_rfl) (by kernel_rfl) (by kernel_rfl) (fun _ _ _ h => h) ?hyq7 (by assumption) ?restq7
        case hyq7 =>
          intro oi ho
          simp only [List.getElem?_toArray, List.getElem?_cons_succ, List.getElem?_cons_zero, Option.some.injEq] at ho
          subst ho
          refine Or.inl ⟨by rfl, ?_⟩
          intro wx hSw
          try dsimp only at hSw
          go_simp
          try rfl
        try simp only [Act.put, List.setIfInBounds_toArray, List.set_cons_zero, List.set_cons_succ]
        refine wpAnyH_takeAt (i := 8) (d := 84) (v := ?vq8) (by kernel_rfl) (by kernel_rfl) (by kernel_rfl) (by kernel_rfl) (fun _ _ _ h => h) ?hyq8 (by assumption) ?restq8
        case hyq8 =>
          intro oi ho
          simp only [List.getElem?_toArray, List.getElem?_cons_succ, List.getElem?_cons_zero, Option.some.injEq] at ho
          subst ho
          refine Or.inl ⟨by rfl, ?_⟩
          intro wx hSw
          try dsimp only at hSw
          go_simp
          try rfl
        try simp only [Act.put, List.setIfInBounds_toArray, List.set_cons_zero, List.set_cons_succ]
        refine wpAnyH_takeAt (i := 9) (d := 85) (v := ?vq9) (by kernel_rfl) (by kernel_rfl) (by kernel_rfl) (by kernel_rfl) (fun _ _ _ h => h) ?hyq9 (by assumption) ?restq9
        case hyq9 =>
          intro oi ho
          simp only [List.getElem?_toArray, List.getElem?_cons_succ, List.getElem?_cons_zero, Option.some.injEq] at ho
          subst ho
          refine Or.inl ⟨by rfl, ?_⟩
          intro wx hSw
          try dsimp only at hSw
          go_simp
          try rfl
        try simp only [Act.put, List.setIfInBounds_toArray, List.set_cons_zero, List.set_cons_succ]
        refine wpAnyH_takeAt (i := 10) (d := 86) (v := ?vq10) (by kernel_rfl) (by kernel_rfl) (by kernel_rfl) (by kernel_rfl) (fun _ _ _ h => h) ?hyq10 (by assumption) ?restq10
        case hyq10 =>
          intro oi ho
          simp only [List.getElem?_toArray, List.getElem?_cons_succ, List.getElem?_cons_zero, Option.some.injEq] at ho
          subst ho
          refine Or.inl ⟨by rfl, ?_⟩
          intro wx hSw
          try dsimp only at hSw
          go_simp
          try rfl
        try simp only [Act.put, List.setIfInBounds_toArray, List.set_cons_zero, List.set_cons_succ]
        refine wpAnyH_takeAt (i := 11) (d := 87) (v := ?vq11) (by kernel_rfl) (by kernel_rfl) (by kernel_rfl) (by kernel_rfl) (fun _ _ _ h => h) ?hyq11 (by assumption) ?restq11
        case hyq11 =>
          intro oi ho
          simp only [List.getElem?_toArray, List.getElem?_cons_succ, List.getElem?_cons_zero, Option.some.injEq] at ho
          subst ho
          refine Or.inl ⟨by rfl, ?_⟩
          intro wx hSw
          try dsimp only at hSw
          go_simp
          try rfl
        try simp only [Act.put, List.setIfInBounds_toArray, List.set_cons_zero, List.set_cons_succ]
        refine wpAnyH_takeAt (i := 12) (d := 88) (v := ?vq12) (by kernel_rfl) (by kernel_rfl) (by kernel_rfl) (by kernel_rfl) (fun _ _ _ h => h) ?hyq12 (by assumption) ?restq12
        case hyq12 =>
          intro oi ho
          simp only [List.getElem?_toArray, List.getElem?_cons_succ, List.getElem?_cons_zero, Option.some.injEq] at ho
          subst ho
          refine Or.inl ⟨by rfl, ?_⟩
          intro wx hSw
          try dsimp only at hSw
          go_simp
          try rfl
        try simp only [Act.put, List.setIfInBounds_toArray, List.set_cons_zero, List.set_cons_succ]
        refine wpAnyH_takeAt (i := 13) (d := 89) (v := ?vq13) (by kernel_rfl) (by kernel_rfl) (by kernel_rfl) (by kernel_rfl) (fun _ _ _ h => h) ?hyq13 (by assumption) ?restq13
        case hyq13 =>
          intro oi ho
          simp only [List.getElem?_toArray, List.getElem?_cons_succ, List.getElem?_cons_zero, Option.some.injEq] at ho
          subst ho
          refine Or.inl ⟨by rfl, ?_⟩
          intro wx hSw
          try dsimp only at hSw
          go_simp
          try rfl
        try simp only [Act.put, List.setIfInBounds_toArray, List.set_cons_zero, List.set_cons_succ]
        refine wpAnyH_takeAt (i := 14) (d := 90) (v := ?vq14) (by kernel_rfl) (by kernel_rfl) (by kernel_rfl) (by kernel_rfl) (fun _ _ _ h => h) ?hyq14 (by assumption) ?restq14
        case hyq14 =>
          intro oi ho
          simp only [List.getElem?_toArray, List.getElem?_cons_succ, List.getElem?_cons_zero, Option.some.injEq] at ho
          subst ho
          refine Or.inl ⟨by rfl, ?_⟩
          intro wx hSw
          try dsimp only at hSw
          go_simp
          try rfl
        try simp only [Act.put, List.setIfInBounds_toArray, List.set_cons_zero, List.set_cons_succ]
        refine wpAnyH_takeAt (i := 15) (d := 91) (v := ?vq15) (by kernel_rfl) (by kernel_rfl) (by kernel_rfl) (by kernel_rfl) (fun _ _ _ h => h) ?hyq15 (by assumption) ?restq15
        case hyq15 =>
          intro oi ho
          simp only [List.getElem?_toArray, List.getElem?_cons_succ, List.getElem?_cons_zero, Option.some.injEq] at ho
          subst ho
          refine Or.inl ⟨by rfl, ?_⟩
          intro wx hSw
          try dsimp only at hSw
          go_simp
          try rfl
        try simp only [Act.put, List.setIfInBounds_toArray, List.set_cons_zero, List.set_cons_succ]
        refine wpAnyH_takeAt (i := 16) (d := 92) (v := ?vq16) (by kernel_rfl) (by kernel_rfl) (by kernel_rfl) (by kernel_rfl) (fun _ _ _ h => h) ?hyq16 (by assumption) ?restq16
        case hyq16 =>
          intro oi ho
          simp only [List.getElem?_toArray, List.getElem?_cons_succ, List.getElem?_cons_zero, Option.some.injEq] at ho
          subst ho
          refine Or.inl ⟨by rfl, ?_⟩
          intro wx hSw
          try dsimp only at hSw
          go_simp
          try rfl
        try simp only [Act.put, List.setIfInBounds_toArray, List.set_cons_zero, List.set_cons_succ]
        refine wpAnyH_takeAt (i := 17) (d := 93) (v := ?vq17) (by kernel_rfl) (by kernel_rfl) (by kernel_rfl) (by kernel_rfl) (fun _ _ _ h => h) ?hyq17 (by assumption) ?restq17
        case hyq17 =>
          intro oi ho
          simp only [List.getElem?_toArray, List.getElem?_cons_succ, List.getElem?_cons_zero, Option.some.injEq] at ho
          subst ho
          refine Or.inl ⟨by rfl, ?_⟩
          intro wx hSw
          try dsimp only at hSw
          go_simp
          try rfl
        try simp only [Act.put, List.setIfInBounds_toArray, List.set_cons_zero, List.set_cons_succ]
        refine wpAnyH_takeAt (i := 18) (d := 94) (v := ?vq18) (by kernel_rfl) (by kernel_rfl) (by kernel_rfl) (by kernel_rfl) (fun _ _ _ h => h) ?hyq18 (by assumption) ?restq18
        case hyq18 =>
          intro oi ho
          simp only [List.getElem?_toArray, List.getElem?_cons_succ, List.getElem?_cons_zero, Option.some.injEq] at ho
          subst ho
          refine Or.inl ⟨by rfl, ?_⟩
          intro wx hSw
          try dsimp only at hSw
          go_simp
          try rfl
        try simp only [Act.put, List.setIfInBounds_toArray, List.set_cons_zero, List.set_cons_succ]
        refine wpAnyH_takeAt (i := 19) (d := 95) (v := ?vq19) (by kernel_rfl) (by kernel_rfl) (by kernel_rfl) (by kernel_rfl) (fun _ _ _ h => h) ?hyq19 (by assumption) ?restq19
        case hyq19 =>
          intro oi ho
          simp only [List.getElem?_toArray, List.getElem?_cons_succ, List.getElem?_cons_zero, Option.some.injEq] at ho
          subst ho
          refine Or.inl ⟨by rfl, ?_⟩
          intro wx hSw
          try dsimp only at hSw
          go_simp
          try rfl
        try simp only [Act.put, List.setIfInBounds_toArray, List.set_cons_zero, List.set_cons_succ]
        refine wpAnyH_takeAt (i := 20) (d := 96) (v := ?vq20) (by kernel_rfl) (by kernel_rfl) (by kernel_rfl) (by kernel_rfl) (fun _ _ _ h => h) ?hyq20 (by assumption) ?restq20
        case hyq20 =>
          intro oi ho
          simp only [List.getElem?_toArray, List.getElem?_cons_succ, List.getElem?_cons_zero, Option.some.injEq] at ho
          subst ho
          refine Or.inl ⟨by rfl, ?_⟩
          intro wx hSw
          try dsimp only at hSw
          go_simp
          try rfl
        try simp only [Act.put, List.setIfInBounds_toArray, List.set_cons_zero, List.set_cons_succ]
        refine wpAnyH_takeAt (i := 22) (d := 98) (v := ?vq22) (by kernel_rfl) (by kernel_rfl) (by kernel_rfl) (by kernel_rfl) (fun _ _ _ h => h) ?hyq22 (by assumption) ?restq22
        case hyq22 =>
          intro oi ho
          simp only [List.getElem?_toArray, List.getElem?_cons_succ, List.getElem?_cons_zero, Option.some.injEq] at ho
          subst ho
          refine Or.inl ⟨by rfl, ?_⟩
          intro wx hSw
          try dsimp only at hSw
          go_simp
          try rfl
        try simp only [Act.put, List.setIfInBounds_toArray, List.set_cons_zero, List.set_cons_succ]
        refine wpAnyH_takeAt (i := 23) (d := 99) (v := ?vq23) (by kernel_rfl) (by kernel_rfl) (by kernel_rfl) (by kernel_rfl) (fun _ _ _ h => h) ?hyq23 (by assumption) ?restq23
        case hyq23 =>
          intro oi ho
          simp only [List.getElem?_toArray, List.getElem?_cons_succ, List.getElem?_cons_zero, Option.some.injEq] at ho
          subst ho
          refine Or.inl ⟨by rfl, ?_⟩
          intro wx hSw
          try dsimp only at hSw
          go_simp
          try rfl
        try simp only [Act.put, List.setIfInBounds_toArray, List.set_cons_zero, List.set_cons_succ]
        refine wpAnyH_takeAt (i := 24) (d := 100) (v := ?vq24) (by kernel_rfl) (by kernel_rfl) (by kernel_rfl) (by kernel_rfl) (fun _ _ _ h => h) ?hyq24 (by assumption) ?restq24
        case hyq24 =>
          intro oi ho
          simp only [List.getElem?_toArray, List.getElem?_cons_succ, List.getElem?_cons_zero, Option.some.injEq] at ho
          subst ho
          refine Or.inl ⟨by rfl, ?_⟩
          intro wx hSw
          try dsimp only at hSw
          go_simp
          try rfl
        try simp only [Act.put, List.setIfInBounds_toArray, List.set_cons_zero, List.set_cons_succ]
        refine wpAnyH_takeAt (i := 25) (d := 101) (v := ?vq25) (by kernel_rfl) (by kernel_rfl) (by kernel_rfl) (by kernel_rfl) (fun _ _ _ h => h) ?hyq25 (by assumption) ?restq25
        case hyq25 =>
          intro oi ho
          simp only [List.getElem?_toArray, List.getElem?_cons_succ, List.getElem?_cons_zero, Option.some.injEq] at ho
          subst ho
          refine Or.inl ⟨by rfl, ?_⟩
          intro wx hSw
          try dsimp only at hSw
          go_simp
          try rfl
        try simp only [Act.put, List.setIfInBounds_toArray, List.set_cons_zero, List.set_cons_succ]
        refine wpAnyH_comesAt (i := 21) (by kernel_rfl) (by kernel_rfl) ?_
        intro o ho K hK
        simp only [List.getElem?_toArray, List.getElem?_cons_succ, List.getElem?_cons_zero, Option.some.injEq] at ho
        subst ho
        have cc := c1
        go_simp
        clear cc
        refine hK.out _ _ hHeld (fun hHeld => ?_)
        clear hK K
        try simp only [Act.put, List.setIfInBounds_toArray, List.set_cons_zero, List.set_cons_succ]
        refine wpAnyH_takeAt (i := 26) (d := 102) (v := ?vq26) (by kernel_rfl) (by kernel_rfl) (by kernel_rfl) (by kernel_rfl) (fun _ _ _ h => h) ?hyq26 (by assumption) ?restq26
        case hyq26 =>
          intro oi ho
          simp only [List.getElem?_toArray, List.getElem?_cons_succ, List.getElem?_cons_zero, Option.some.injEq] at ho
          subst ho
          refine Or.inl ⟨by rfl, ?_⟩
          intro wx hSw
          try dsimp only at hSw
          go_simp
          try rfl
        try simp only [Act.put, List.setIfInBounds_toArray, List.set_cons_zero, List.set_cons_succ]
        refine wpAnyH_takeAt (i := 27) (d := 103) (v := ?vq27) (by kernel_rfl) (by kernel_rfl) (by kernel_rfl) (by kernel_rfl) (fun _ _ _ h => h) ?hyq27 (by assumption) ?restq27
        case hyq27 =>
          intro oi ho
          simp only [List.getElem?_toArray, List.getElem?_cons_succ, List.getElem?_cons_zero, Option.some.injEq] at ho
          subst ho
          refine Or.inl ⟨by rfl, ?_⟩
          intro wx hSw
          try dsimp only at hSw
          go_simp
          try rfl
        try simp only [Act.put, List.setIfInBounds_toArray, List.set_cons_zero, List.set_cons_succ]
        refine wpAnyH_comesAt (i := 28) (by kernel_rfl) (by kernel_rfl) ?_
        intro o ho K hK
        simp only [List.getElem?_toArray, List.getElem?_cons_succ, List.getElem?_cons_zero, Option.some.injEq] at ho
        subst ho
        go_simp
        clear hHeld
        refine hK.out _ _ HY2.out (fun hHeld => ?_)
        clear hK K
        try simp only [Act.put, List.setIfInBounds_toArray, List.set_cons_zero, List.set_cons_succ]
        refine wpAnyH_done (by kernel_rfl) ?_ _
        refine NoPanic.normal ?_
        go_wp2
        go_roundw
        case rel => exact ⟨k + 1, _, _, by omega, by go_num, by rw [HSTk.out]; exact HTB.out.1, HFN.out⟩
        case measure => simp [intOf]; omega
      · rw [if_neg hq] at HSTk
        have z1 : (((t.at_ k : Nat) : Int) == (a : Int)) = false := by simp; omega
        clear hq
        go_wp2
        go_roundw
        case rel => exact ⟨k + 1, _, _, by omega, by go_num, by rw [HSTk.out]; exact HRX.out, HFX.out⟩
        case measure => simp [intOf]; omega
    · have ek : k = m := by omega
      have HRZ := HRX.out
      rw [ek, HFI.out] at HRZ
      have HRZ2 := hide HRZ
      clear HRZ ek hR hF
      go_wp2
      go_ret
      exact ⟨rfl, _, _, _, HRZ2.out, by rw [← HM.out]; exact HFX.out⟩
end Go.Proofs.Ytnapapgmeghgjaa
