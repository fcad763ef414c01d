/- The walk of the law DiskTurned: whatever row of acts, block and bit, it returns true and writes nothing that was there. -/
import Derived.Test.YtfdnnebcjkjafaaK5
set_option linter.unusedVariables false
set_option linter.unusedSimpArgs false
namespace Go.Proofs.Ytfdnnebcjkjafaa
open Go.RowKit

set_option maxRecDepth 100000 in
set_option maxHeartbeats 8000000 in
theorem diskTurned_walk (a0 : Option Addr) (len cap : Nat) (q : Nat → AV) (block bit0 : Int) (w : World) (h0 : AS w a0 len q) :
    Calls Try.prog 8 #[.slice a0 len cap, .int .i64 block, .int .i64 bit0] w fun e w' => e = .returned (.bool true) ∧ Below w.heap.size w w' := by
  have HB0 : Hid (w.heap.size ≤ w.heap.size) := Nat.le_refl _
  have H0 := hide h0
  have hlen := h0.hl
  clear h0
  go_enter Try.func8, Try.ntmps8
  go_wp2_with fail
  refine (new_any w.heap.size 4 w (by omega) (by omega) HB0.out).mono ?_
  rintro e w1 ⟨p, rfl, hD1, hb1⟩
  have HD1 := hide hD1
  have HF1 := hide (Fr.of hb1 HB0.out)
  clear hD1 hb1
  go_wp2_with fail
  go_loopw [9] (fun i wr => ∃ (k : Nat) (s : DS), k ≤ len ∧ k ≤ 20 ∧ i = .int .i64 k ∧ DI w.heap.size p s wr ∧ Fr w.heap.size w wr ∧ TS s k) (fun i _ => 20 - (intOf i).toNat)
  case atStart => exact ⟨0, _, by omega, by omega, rfl, HD1.out, HF1.out, ts_start⟩
  case round =>
    obtain ⟨k, s, hk1, hk2, rfl, hD, hF, hS⟩ := hrel
    have HD := hide hD
    have HF := hide hF
    have HS := hide hS
    clear hD hF hS HD1 HF1
    by_cases h1 : k < len
    · by_cases h2 : k < 20
      · obtain ⟨b, o, rfl, hall⟩ := H0.out.place (by omega)
        obtain ⟨hac, hok⟩ := hall k h1
        generalize q k = v at hac hok
        obtain ⟨kind, at_, bit, va, vl, vc, xs, after, keep, torn, cut⟩ := v
        have HAC := hide hac
        have hbe := HF.out.bel
        have r0 := (hbe.cell (cell_lt hac.c0)).trans hac.c0
        simp only at r0
        have vlc : vl ≤ vc := hok.lc
        have vcm : vc ≤ 9223372036854775807 := hok.cm
        have HBS : Hid (BS w va (min vl 40) vc xs) := hok.bs
        have i1 : (0 : Int) ≤ (k : Int) := by omega
        have i2 : (k : Int) < (len : Int) := by omega
        have i3 : (k : Int) < 20 := by omega
        obtain ⟨aa, haa⟩ : ∃ aa : Nat, at_ % 4 = (aa : Int) := ⟨(at_ % 4).toNat, by omega⟩
        have aa4 : aa < 4 := by omega
        have hmask : bits BinOp.and IntKind.i64 at_ 3 = (aa : Int) := by rw [i64_and3]; exact haa
        clear hall hac hok haa hbe
        by_cases hkd : kind = 1
        · subst hkd
          go_wp2_with fail
          refine (flush_any w.heap.size p s wr HD.out HF.out.bel.size (by have := HS.out.lf; omega)).mono ?_
          rintro e w5 ⟨rfl, hD, hF⟩
          have HD5 := hide hD
          have HF5 := hide (HF.out.trans hF)
          clear hD hF
          go_wp2
          go_roundw
          case rel => exact ⟨k + 1, _, by omega, by omega, by go_num, HD5.out, HF5.out, HS.out.flush⟩
          case measure => simp [intOf]; omega
        · have HX : Hid ((fun wx => wx.cell? ⟨b, o + k * 8, none⟩ = some (.int .i64 kind) ∧ wx.cell? ⟨b, o + k * 8 + 1, none⟩ = some (.int .i64 at_) ∧ wx.cell? ⟨b, o + k * 8 + 2, none⟩ = some (.int .i64 bit) ∧ wx.cell? ⟨b, o + k * 8 + 3, none⟩ = some (.slice va vl vc) ∧ wx.cell? ⟨b, o + k * 8 + 4, none⟩ = some (.int .i64 after) ∧ wx.cell? ⟨b, o + k * 8 + 5, none⟩ = some (.int .u64 (keep : Int)) ∧ wx.cell? ⟨b, o + k * 8 + 6, none⟩ = some (.int .i64 torn) ∧ wx.cell? ⟨b, o + k * 8 + 7, none⟩ = some (.int .i64 cut)) wr) := ⟨(HF.out.bel.cell (cell_lt HAC.out.c0)).trans HAC.out.c0, (HF.out.bel.cell (cell_lt HAC.out.c1)).trans HAC.out.c1, (HF.out.bel.cell (cell_lt HAC.out.c2)).trans HAC.out.c2, (HF.out.bel.cell (cell_lt HAC.out.c3)).trans HAC.out.c3, (HF.out.bel.cell (cell_lt HAC.out.c4)).trans HAC.out.c4, (HF.out.bel.cell (cell_lt HAC.out.c5)).trans HAC.out.c5, (HF.out.bel.cell (cell_lt HAC.out.c6)).trans HAC.out.c6, (HF.out.bel.cell (cell_lt HAC.out.c7)).trans HAC.out.c7⟩
          go_wp2_with fail
          clear r0
          refine wp_region_noPanic ?_
          refine wp_region_held_drew (S := fun wx => wx.cell? ⟨b, o + k * 8, none⟩ = some (.int .i64 kind) ∧ wx.cell? ⟨b, o + k * 8 + 1, none⟩ = some (.int .i64 at_) ∧ wx.cell? ⟨b, o + k * 8 + 2, none⟩ = some (.int .i64 bit) ∧ wx.cell? ⟨b, o + k * 8 + 3, none⟩ = some (.slice va vl vc) ∧ wx.cell? ⟨b, o + k * 8 + 4, none⟩ = some (.int .i64 after) ∧ wx.cell? ⟨b, o + k * 8 + 5, none⟩ = some (.int .u64 (keep : Int)) ∧ wx.cell? ⟨b, o + k * 8 + 6, none⟩ = some (.int .i64 torn) ∧ wx.cell? ⟨b, o + k * 8 + 7, none⟩ = some (.int .i64 cut)) (by kernel_rfl) HX.out (fun hHeld => ?_)
          refine wpAnyH_takeAt (i := 0) (d := 43) (v := ?va0) (by kernel_rfl) (by kernel_rfl) (by kernel_rfl) (by kernel_rfl) (fun _ _ _ h => h) ?hya0 (by assumption) ?resta0
          case hya0 =>
            intro oi ho
            simp only [List.getElem?_toArray, List.getElem?_cons_zero, Option.some.injEq] at ho
            subst ho
            refine Or.inl ⟨by rfl, ?_⟩
            intro wx hSw
            try dsimp only at hSw
            go_simp
            try rfl
          try simp only [Act.put, List.setIfInBounds_toArray, List.set_cons_zero, List.set_cons_succ]
          refine wpAnyH_takeAt (i := 1) (d := 44) (v := ?va1) (by kernel_rfl) (by kernel_rfl) (by kernel_rfl) (by kernel_rfl) (fun _ _ _ h => h) ?hya1 (by assumption) ?resta1
          case hya1 =>
            intro oi ho
            simp only [List.getElem?_toArray, List.getElem?_cons_succ, List.getElem?_cons_zero, Option.some.injEq] at ho
            subst ho
            refine Or.inl ⟨by rfl, ?_⟩
            intro wx hSw
            try dsimp only at hSw
            go_simp
            try rfl
          try simp only [Act.put, List.setIfInBounds_toArray, List.set_cons_zero, List.set_cons_succ]
          refine wpAnyH_takeAt (i := 2) (d := 45) (v := ?va2) (by kernel_rfl) (by kernel_rfl) (by kernel_rfl) (by kernel_rfl) (fun _ _ _ h => h) ?hya2 (by assumption) ?resta2
          case hya2 =>
            intro oi ho
            simp only [List.getElem?_toArray, List.getElem?_cons_succ, List.getElem?_cons_zero, Option.some.injEq] at ho
            subst ho
            refine Or.inl ⟨by rfl, ?_⟩
            intro wx hSw
            try dsimp only at hSw
            go_simp
            try rfl
          try simp only [Act.put, List.setIfInBounds_toArray, List.set_cons_zero, List.set_cons_succ]
          refine wpAnyH_takeAt (i := 3) (d := 46) (v := ?va3) (by kernel_rfl) (by kernel_rfl) (by kernel_rfl) (by kernel_rfl) (fun _ _ _ h => h) ?hya3 (by assumption) ?resta3
          case hya3 =>
            intro oi ho
            simp only [List.getElem?_toArray, List.getElem?_cons_succ, List.getElem?_cons_zero, Option.some.injEq] at ho
            subst ho
            refine Or.inl ⟨by rfl, ?_⟩
            intro wx hSw
            try dsimp only at hSw
            go_simp
            try rfl
          try simp only [Act.put, List.setIfInBounds_toArray, List.set_cons_zero, List.set_cons_succ]
          refine wpAnyH_takeAt (i := 4) (d := 47) (v := ?va4) (by kernel_rfl) (by kernel_rfl) (by kernel_rfl) (by kernel_rfl) (fun _ _ _ h => h) ?hya4 (by assumption) ?resta4
          case hya4 =>
            intro oi ho
            simp only [List.getElem?_toArray, List.getElem?_cons_succ, List.getElem?_cons_zero, Option.some.injEq] at ho
            subst ho
            refine Or.inl ⟨by rfl, ?_⟩
            intro wx hSw
            try dsimp only at hSw
            go_simp
            try rfl
          try simp only [Act.put, List.setIfInBounds_toArray, List.set_cons_zero, List.set_cons_succ]
          refine wpAnyH_takeAt (i := 5) (d := 48) (v := ?va5) (by kernel_rfl) (by kernel_rfl) (by kernel_rfl) (by kernel_rfl) (fun _ _ _ h => h) ?hya5 (by assumption) ?resta5
          case hya5 =>
            intro oi ho
            simp only [List.getElem?_toArray, List.getElem?_cons_succ, List.getElem?_cons_zero, Option.some.injEq] at ho
            subst ho
            refine Or.inl ⟨by rfl, ?_⟩
            intro wx hSw
            try dsimp only at hSw
            go_simp
            try rfl
          try simp only [Act.put, List.setIfInBounds_toArray, List.set_cons_zero, List.set_cons_succ]
          refine wpAnyH_takeAt (i := 6) (d := 49) (v := ?va6) (by kernel_rfl) (by kernel_rfl) (by kernel_rfl) (by kernel_rfl) (fun _ _ _ h => h) ?hya6 (by assumption) ?resta6
          case hya6 =>
            intro oi ho
            simp only [List.getElem?_toArray, List.getElem?_cons_succ, List.getElem?_cons_zero, Option.some.injEq] at ho
            subst ho
            refine Or.inl ⟨by rfl, ?_⟩
            intro wx hSw
            try dsimp only at hSw
            go_simp
            try rfl
          try simp only [Act.put, List.setIfInBounds_toArray, List.set_cons_zero, List.set_cons_succ]
          refine wpAnyH_takeAt (i := 7) (d := 50) (v := ?va7) (by kernel_rfl) (by kernel_rfl) (by kernel_rfl) (by kernel_rfl) (fun _ _ _ h => h) ?hya7 (by assumption) ?resta7
          case hya7 =>
            intro oi ho
            simp only [List.getElem?_toArray, List.getElem?_cons_succ, List.getElem?_cons_zero, Option.some.injEq] at ho
            subst ho
            refine Or.inl ⟨by rfl, ?_⟩
            intro wx hSw
            try dsimp only at hSw
            go_simp
            try rfl
          try simp only [Act.put, List.setIfInBounds_toArray, List.set_cons_zero, List.set_cons_succ]
          refine wpAnyH_takeAt (i := 8) (d := 51) (v := ?va8) (by kernel_rfl) (by kernel_rfl) (by kernel_rfl) (by kernel_rfl) (fun _ _ _ h => h) ?hya8 (by assumption) ?resta8
          case hya8 =>
            intro oi ho
            simp only [List.getElem?_toArray, List.getElem?_cons_succ, List.getElem?_cons_zero, Option.some.injEq] at ho
            subst ho
            refine Or.inl ⟨by rfl, ?_⟩
            intro wx hSw
            try dsimp only at hSw
            go_simp
            try rfl
          try simp only [Act.put, List.setIfInBounds_toArray, List.set_cons_zero, List.set_cons_succ]
          refine wpAnyH_takeAt (i := 9) (d := 52) (v := ?va9) (by kernel_rfl) (by kernel_rfl) (by kernel_rfl) (by kernel_rfl) (fun _ _ _ h => h) ?hya9 (by assumption) ?resta9
          case hya9 =>
            intro oi ho
            simp only [List.getElem?_toArray, List.getElem?_cons_succ, List.getElem?_cons_zero, Option.some.injEq] at ho
            subst ho
            refine Or.inl ⟨by rfl, ?_⟩
            intro wx hSw
            try dsimp only at hSw
            go_simp
            try rfl
          try simp only [Act.put, List.setIfInBounds_toArray, List.set_cons_zero, List.set_cons_succ]
          refine wpAnyH_takeAt (i := 10) (d := 53) (v := ?va10) (by kernel_rfl) (by kernel_rfl) (by kernel_rfl) (by kernel_rfl) (fun _ _ _ h => h) ?hya10 (by assumption) ?resta10
          case hya10 =>
            intro oi ho
            simp only [List.getElem?_toArray, List.getElem?_cons_succ, List.getElem?_cons_zero, Option.some.injEq] at ho
            subst ho
            refine Or.inl ⟨by rfl, ?_⟩
            intro wx hSw
            try dsimp only at hSw
            go_simp
            try rfl
          try simp only [Act.put, List.setIfInBounds_toArray, List.set_cons_zero, List.set_cons_succ]
          refine wpAnyH_comesAt (i := 11) (by kernel_rfl) (by kernel_rfl) ?_
          intro o ho K hK
          simp only [List.getElem?_toArray, List.getElem?_cons_succ, List.getElem?_cons_zero, Option.some.injEq] at ho
          subst ho
          go_simp
          refine (bytes_any kind at_ bit va vl vc xs after keep torn cut _ (HBS.out.later HF.out.bel.drew (Nat.le_refl _)) vlc vcm).mono ?_
          rintro e w3 ⟨v3, ys, rfl, hO, hb3⟩
          have HO3 := hide hO
          have HB3 := hide ((Below.refl wr.heap.size wr).drew.trans hb3)
          have HF3 := hide (HF.out.trans (Fr.of HB3.out HF.out.bel.size))
          have HD3 := hide (HD.out.later HB3.out)
          have HX3 : Hid ((fun wx => wx.cell? ⟨b, o + k * 8, none⟩ = some (.int .i64 kind) ∧ wx.cell? ⟨b, o + k * 8 + 1, none⟩ = some (.int .i64 at_) ∧ wx.cell? ⟨b, o + k * 8 + 2, none⟩ = some (.int .i64 bit) ∧ wx.cell? ⟨b, o + k * 8 + 3, none⟩ = some (.slice va vl vc) ∧ wx.cell? ⟨b, o + k * 8 + 4, none⟩ = some (.int .i64 after) ∧ wx.cell? ⟨b, o + k * 8 + 5, none⟩ = some (.int .u64 (keep : Int)) ∧ wx.cell? ⟨b, o + k * 8 + 6, none⟩ = some (.int .i64 torn) ∧ wx.cell? ⟨b, o + k * 8 + 7, none⟩ = some (.int .i64 cut)) w3) := ⟨(HF3.out.bel.cell (cell_lt HAC.out.c0)).trans HAC.out.c0, (HF3.out.bel.cell (cell_lt HAC.out.c1)).trans HAC.out.c1, (HF3.out.bel.cell (cell_lt HAC.out.c2)).trans HAC.out.c2, (HF3.out.bel.cell (cell_lt HAC.out.c3)).trans HAC.out.c3, (HF3.out.bel.cell (cell_lt HAC.out.c4)).trans HAC.out.c4, (HF3.out.bel.cell (cell_lt HAC.out.c5)).trans HAC.out.c5, (HF3.out.bel.cell (cell_lt HAC.out.c6)).trans HAC.out.c6, (HF3.out.bel.cell (cell_lt HAC.out.c7)).trans HAC.out.c7⟩
          clear hO hb3 hHeld
          refine hK.out _ _ HX3.out (fun hHeld => ?_)
          clear hK K
          try simp only [Act.put, List.setIfInBounds_toArray, List.set_cons_zero, List.set_cons_succ]
          refine wpAnyH_comesAt (i := 12) (by kernel_rfl) (by kernel_rfl) ?_
          intro o ho K hK
          simp only [List.getElem?_toArray, List.getElem?_cons_succ, List.getElem?_cons_zero, Option.some.injEq] at ho
          subst ho
          go_simp
          refine (write_own w.heap.size p s k aa v3 ys _ w3 HD3.out HF3.out.bel.size HS.out (by omega) aa4 HO3.out).mono ?_
          rintro e w4 ⟨x4, s4, rfl, hD, hT, hF⟩
          have HD4 := hide hD
          have HT4 := hide hT
          have HF4 := hide (HF3.out.trans hF)
          have HX4 : Hid ((fun wx => wx.cell? ⟨b, o + k * 8, none⟩ = some (.int .i64 kind) ∧ wx.cell? ⟨b, o + k * 8 + 1, none⟩ = some (.int .i64 at_) ∧ wx.cell? ⟨b, o + k * 8 + 2, none⟩ = some (.int .i64 bit) ∧ wx.cell? ⟨b, o + k * 8 + 3, none⟩ = some (.slice va vl vc) ∧ wx.cell? ⟨b, o + k * 8 + 4, none⟩ = some (.int .i64 after) ∧ wx.cell? ⟨b, o + k * 8 + 5, none⟩ = some (.int .u64 (keep : Int)) ∧ wx.cell? ⟨b, o + k * 8 + 6, none⟩ = some (.int .i64 torn) ∧ wx.cell? ⟨b, o + k * 8 + 7, none⟩ = some (.int .i64 cut)) w4) := ⟨(HF4.out.bel.cell (cell_lt HAC.out.c0)).trans HAC.out.c0, (HF4.out.bel.cell (cell_lt HAC.out.c1)).trans HAC.out.c1, (HF4.out.bel.cell (cell_lt HAC.out.c2)).trans HAC.out.c2, (HF4.out.bel.cell (cell_lt HAC.out.c3)).trans HAC.out.c3, (HF4.out.bel.cell (cell_lt HAC.out.c4)).trans HAC.out.c4, (HF4.out.bel.cell (cell_lt HAC.out.c5)).trans HAC.out.c5, (HF4.out.bel.cell (cell_lt HAC.out.c6)).trans HAC.out.c6, (HF4.out.bel.cell (cell_lt HAC.out.c7)).trans HAC.out.c7⟩
          clear hD hT hF hHeld
          refine hK.out _ _ HX4.out (fun hHeld => ?_)
          clear hK K
          try simp only [Act.put, List.setIfInBounds_toArray, List.set_cons_zero, List.set_cons_succ]
          refine wpAnyH_done (by kernel_rfl) ?_ _
          refine NoPanic.normal ?_
          go_wp2
          go_roundw
          case rel => exact ⟨k + 1, s4, by omega, by omega, by go_num, HD4.out, HF4.out, HT4.out⟩
          case measure => simp [intOf]; omega
      · have i2 : (k : Int) < (len : Int) := by omega
        have i3 : ¬ (k : Int) < 20 := by omega
        obtain ⟨ba, hba⟩ : ∃ ba : Nat, block % 4 = (ba : Int) := ⟨(block % 4).toNat, by omega⟩
        have ba4 : ba < 4 := by omega
        have hm1 : bits BinOp.and IntKind.i64 block 3 = (ba : Int) := by rw [i64_and3]; exact hba
        obtain ⟨bt, hbt⟩ : ∃ bt : Nat, bit0 % 65536 = (bt : Int) := ⟨(bit0 % 65536).toNat, by omega⟩
        have bt6 : bt < 65536 := by omega
        have hm2 : bits BinOp.and IntKind.i64 bit0 65535 = (bt : Int) := by rw [i64_and65535]; exact hbt
        have HTW : Hid (TW w.heap.size p wr.heap.size 0 (fun _ => .slice none 0 0) s s w (wr.alloc (.cells #[.slice none 0 0, .slice none 0 0, .slice none 0 0, .slice none 0 0] 63))) := by
          have b1 := below_box wr (.cells #[.slice none 0 0, .slice none 0 0, .slice none 0 0, .slice none 0 0] 63)
          exact ⟨HD.out.later b1, HF.out.trans (Fr.of b1 HF.out.bel.size), heap_alloc_new wr _, fun i hi => absurd hi (by omega), fun i hi => absurd hi (by omega), HF.out.bel.size, rfl⟩
        clear hba hbt HD HF
        go_wp2_with fail
        generalize hgw : wr.heap.size = gw at *
        clear hgw
        generalize wr.alloc (.cells #[.slice none 0 0, .slice none 0 0, .slice none 0 0, .slice none 0 0] 63) = w2 at *
        go_loopw [11] (fun i wx => ∃ (j : Nat) (ws : Nat → Value), j ≤ 4 ∧ i = .int .i64 j ∧ TW w.heap.size p gw j ws s s w wx) (fun i _ => 4 - (intOf i).toNat)
        case atStart => exact ⟨0, _, by omega, rfl, HTW.out⟩
        case round =>
          obtain ⟨j, ws, hj, rfl, hT⟩ := hrel
          have HT := hide hT
          clear hT HTW
          by_cases h4 : j < 4
          · have j0 : (0 : Int) ≤ (j : Int) := by omega
            have j3 : (j : Int) < 4 := by omega
            go_wp2_with fail
            refine (read_ok w.heap.size p s j wr HT.out.di HT.out.fr.bel.size HS.out.dn (by rw [HS.out.n4]; exact h4)).mono ?_
            rintro e wy ⟨g, rfl, ho, hb⟩
            have HTy := hide (HT.out.later hb)
            have HTz := hide (HTy.out.put h4 ho HT.out.fr.bel.size)
            have cy : wy.cell? ⟨gw, j, none⟩ = some (ws j) := by rw [cell_blk HTy.out.hw]; exact os4_at ws h4
            have fy : wy.frozen? ⟨gw, j, none⟩ = false := frz_blk HTy.out.hw
            clear ho hb
            generalize blk = N at *
            go_wp2
            go_roundw
            case rel => exact ⟨j + 1, _, by omega, by go_num, HTz.out⟩
            case measure => simp [intOf]; omega
          · have j3 : ¬ (j : Int) < 4 := by omega
            obtain rfl : j = 4 := by omega
            clear h4 hj
            go_wp2_with fail
            refine (flip_ok w.heap.size p s ba bt wr HT.out.di HT.out.fr.bel.size (by rw [HS.out.n4]; exact ba4) bt6).mono ?_
            rintro e w3 ⟨rfl, hD, hF⟩
            have HT3 := hide (HT.out.call hD hF)
            have HS3 := hide (HS.out.flip ba bt)
            have HOK := hide HT.out.di.ok
            have HN4 : Hid (ba < s.n) := by show _ < _; rw [HS.out.n4]; exact ba4
            clear hD hF HT
            go_wp2_with fail
            refine (read_ok w.heap.size p (s.flip ba bt) ba w3 HT3.out.di HT3.out.fr.bel.size HS3.out.dn (by rw [HS3.out.n4]; exact ba4)).mono ?_
            rintro e w4 ⟨g, rfl, ho, hb⟩
            rw [flip_show s ba bt ba HN4.out, if_pos rfl] at ho
            have HT4 := hide (HT3.out.later hb)
            obtain ⟨gv, hgv⟩ := HT4.out.hv ba ba4
            have hrv := HT4.out.hr ba ba4
            rw [hgv] at hrv
            have cw : w4.cell? ⟨gw, ba, none⟩ = some (.slice (some ⟨gv, 0, none⟩) blk blk) := by rw [cell_blk HT4.out.hw, os4_at ws ba4, hgv]
            have b0 : (0 : Int) ≤ (ba : Int) := by omega
            have b3 : (ba : Int) < 4 := by omega
            have HB8 : Hid (blk = 8192) := rfl
            have b8 : ((blk : Nat) : Int) = 8192 := rfl
            have HSL := hide (show_len HOK.out ba)
            have HTL : Hid ((turnL (s.show ba) bt).length ≤ blk) := by show _ ≤ _; rw [turnL_len]; exact turnN_le HSL.out bt6
            obtain ⟨f, hf⟩ : ∃ f : Nat → Nat, ∀ i, (s.show ba).getD i 0 = f i := ⟨_, fun _ => rfl⟩
            have HF8 : Hid (∀ i, f i < 256) := fun i => by rw [← hf]; exact byteAt (show_lt HOK.out ba) i
            obtain ⟨e8, he8⟩ : ∃ e8, e8 = bt / 8 := ⟨_, rfl⟩
            obtain ⟨r8, hr8⟩ : ∃ r8, r8 = bt % 8 := ⟨_, rfl⟩
            have HCN : Hid (∀ i, i < 8192 → w4.cell? ⟨g, i, none⟩ = some (.int .u8 ((if i = e8 then f i ^^^ 2 ^ r8 else f i : Nat) : Int))) := fun i hi => by
              rw [ho.cellAt i (by rw [HB8.out]; omega), cellsOf_get _ _ (by rw [pad_len HTL.out, HB8.out]; exact hi), pad_getD, turnL_getD, hf, he8, hr8]
            have HCV : Hid (∀ i, i < 8192 → w4.cell? ⟨gv, i, none⟩ = some (.int .u8 ((f i : Nat) : Int))) := fun i hi => by
              rw [hrv.cellAt i (by rw [HB8.out]; omega), cellsOf_get _ _ (by rw [pad_len HSL.out, HB8.out]; exact hi), pad_getD, hf]
            have r88 : r8 < 8 := by omega
            have q8 : (bt : Int) / 8 = (e8 : Int) := by omega
            have t8 : (bt : Int).tdiv 8 = (e8 : Int) := by rw [Int.tdiv_eq_ediv_of_nonneg (by omega)]; exact q8
            have m8 : (bt : Int) % 8 = (r8 : Int) := by omega
            have tm : ((bt : Int).tmod 8) = (r8 : Int) := by rw [Int.tmod_eq_emod_of_nonneg (by omega)]; exact m8
            have wb : IntKind.i64.wrap (e8 : Int) = (e8 : Int) := by rw [IntKind.wrap_i64]; omega
            have wr8 : IntKind.i64.wrap (r8 : Int) = (r8 : Int) := by rw [IntKind.wrap_i64]; omega
            have wu8 : IntKind.u64.wrap (r8 : Int) = (r8 : Int) := by rw [IntKind.wrap_u64]; omega
            have qr : (0 : Int) ≤ (r8 : Int) := by omega
            have pw : 2 ^ r8 < 256 := Nat.lt_of_lt_of_le (Nat.pow_lt_pow_right (by omega) r88) (by decide)
            have p0 : 0 < 2 ^ r8 := Nat.pos_of_ne_zero (by simp)
            have mn : min r8 8 = r8 := by omega
            have uw : IntKind.u8.wrap ((2 : Int) ^ r8) = ((2 ^ r8 : Nat) : Int) := by
              have e : ((2 : Int) ^ r8) = ((2 ^ r8 : Nat) : Int) := by simp
              rw [e]
              exact wrap_u8_nat _ pw
            generalize hP : 2 ^ r8 = P8 at *
            have HP := hide hP
            clear hP ho hb hrv hgv HT3 j3 hf he8 hr8
            generalize blk = N at *
            go_wp2_with fail
            go_loopw [14] (fun i wr => ∃ c : Nat, c ≤ 8192 ∧ i = .int .i64 c ∧ ∃ n, wr = w4.drewN n) (fun i _ => 8192 - (intOf i).toNat)
            case atStart => exact ⟨0, by omega, rfl, 0, rfl⟩
            case round =>
              obtain ⟨c, hc, rfl, nd, HW⟩ := hrel
              by_cases hlt : c < 8192
              · have i1 : (0 : Int) ≤ (c : Int) := by omega
                have i4 : (c : Int) < ((N : Nat) : Int) := by omega
                have i5 : (c : Int) < 8192 := by omega
                have cn : wr.cell? ⟨g, c, none⟩ = _ := (by rw [HW]; rfl : wr.cell? ⟨g, c, none⟩ = w4.cell? ⟨g, c, none⟩).trans (HCN.out c hlt)
                have cv : wr.cell? ⟨gv, c, none⟩ = _ := (by rw [HW]; rfl : wr.cell? ⟨gv, c, none⟩ = w4.cell? ⟨gv, c, none⟩).trans (HCV.out c hlt)
                have cx : wr.cell? ⟨gw, ba, none⟩ = _ := (by rw [HW]; rfl : wr.cell? ⟨gw, ba, none⟩ = w4.cell? ⟨gw, ba, none⟩).trans cw
                have HW2 := hide HW
                have f8 := HF8.out c
                generalize f c = fc at cn cv f8
                clear HW cw
                by_cases ec : c = e8
                · rw [if_pos ec] at cn
                  have hx : bits BinOp.xor IntKind.u8 ((fc ^^^ P8 : Nat) : Int) (fc : Int) = (P8 : Int) := by
                    rw [u8_xor_nat _ _ (Nat.xor_lt_two_pow (n := 8) f8 pw) f8, Nat.xor_comm fc P8, Nat.xor_assoc, Nat.xor_self, Nat.xor_zero]
                  generalize fc ^^^ P8 = xc at cn hx
                  subst ec
                  clear hlt hc
                  go_wp2_with fail
                  go_quiet (fail)
                  go_wp2
                  go_roundw
                  case rel => exact ⟨c + 1, by omega, by go_num, _, by rw [HW2.out, World.drewN_drewN]⟩
                  case measure => simp [intOf]; omega
                · rw [if_neg ec] at cn
                  have hx : bits BinOp.xor IntKind.u8 (fc : Int) (fc : Int) = 0 := by
                    rw [u8_xor_nat _ _ f8 f8, Nat.xor_self]; rfl
                  have ei : ¬ ((c : Int) = (e8 : Int)) := by omega
                  clear hlt hc
                  go_wp2_with fail
                  go_quiet (fail)
                  go_wp2
                  go_roundw
                  case rel => exact ⟨c + 1, by omega, by go_num, _, by rw [HW2.out, World.drewN_drewN]⟩
                  case measure => simp [intOf]; omega
              · have i5 : ¬ (c : Int) < 8192 := by omega
                have HT5 : Hid (TW w.heap.size p gw 4 ws s (s.flip ba bt) w wr) := by show TW _ _ _ _ _ _ _ _ _; rw [HW]; exact HT4.out.later (below_drewN (Below.refl _ _) _)
                clear HW cw HT4
                go_wp2_with fail
                refine (flip_ok w.heap.size p (s.flip ba bt) ba bt wr HT5.out.di HT5.out.fr.bel.size (by rw [HS3.out.n4]; exact ba4) bt6).mono ?_
                rintro e w6 ⟨rfl, hD, hF⟩
                have HT6 := hide (HT5.out.call hD hF)
                have HS6 := hide (HS3.out.flip ba bt)
                have HSH : Hid (∀ i, pad (((s.flip ba bt).flip ba bt).show i) = pad (s.show i)) := fun i => by
                  rw [flip_show (s.flip ba bt) ba bt i (by rw [HS3.out.n4]; exact ba4)]
                  by_cases e : i = ba
                  · rw [if_pos e, flip_show s ba bt ba HN4.out, if_pos rfl, turn_turn (show_len HOK.out ba) bt6, e]
                  · rw [if_neg e, flip_show s ba bt i HN4.out, if_neg e]
                generalize (s.flip ba bt).flip ba bt = s6 at *
                clear hD hF HT5 HS3 HCN HCV HF8
                go_wp2_with fail
                go_loopw [16] (fun i wr => ∃ j : Nat, j ≤ 4 ∧ i = .int .i64 j ∧ TW w.heap.size p gw 4 ws s s6 w wr) (fun i _ => 4 - (intOf i).toNat)
                case atStart => exact ⟨0, by omega, rfl, HT6.out⟩
                case round =>
                  obtain ⟨j, hj, rfl, hT⟩ := hrel
                  have HT := hide hT
                  clear hT HT6
                  by_cases h4 : j < 4
                  · have j0 : (0 : Int) ≤ (j : Int) := by omega
                    have j3 : (j : Int) < 4 := by omega
                    go_wp2_with fail
                    refine (read_ok w.heap.size p s6 j wr HT.out.di HT.out.fr.bel.size HS6.out.dn (by rw [HS6.out.n4]; exact h4)).mono ?_
                    rintro e wy ⟨g2, rfl, ho, hb⟩
                    rw [HSH.out] at ho
                    have HTy := hide (HT.out.later hb)
                    obtain ⟨gu, hgu⟩ := HTy.out.hv j h4
                    have hru := HTy.out.hr j h4
                    rw [hgu] at hru
                    have cu : wy.cell? ⟨gw, j, none⟩ = some (.slice (some ⟨gu, 0, none⟩) blk blk) := by rw [cell_blk HTy.out.hw, os4_at ws h4, hgu]
                    have HN8 : Hid (blk = 8192) := rfl
                    have HB1 := hide (BS.ofOwns ho (by rw [HN8.out]; omega) (pad_lt (show_lt HOK.out j)))
                    have HB2 := hide (BS.ofOwns hru (by rw [HN8.out]; omega) (pad_lt (show_lt HOK.out j)))
                    have t1 : ∀ n, (convert 29 9 (.slice (some ⟨g2, 0, none⟩) blk blk)).run Try.prog (wy.drewN n) = .ok (.string (str (pad (s.show j)))) (wy.drewN n) := fun n => run_text (HB1.out.later (below_drewN (Below.refl wy.heap.size wy) n) (Nat.le_refl _))
                    have t2 : ∀ n, (convert 29 9 (.slice (some ⟨gu, 0, none⟩) blk blk)).run Try.prog (wy.drewN n) = .ok (.string (str (pad (s.show j)))) (wy.drewN n) := fun n => run_text (HB2.out.later (below_drewN (Below.refl wy.heap.size wy) n) (Nat.le_refl _))
                    generalize str (pad (s.show j)) = tx at t1 t2
                    clear ho hb hru hgu HB1 HB2 HN8
                    generalize blk = N2 at *
                    go_wp2_with fail
                    go_quiet (fail)
                    go_wp2
                    go_roundw
                    case rel => exact ⟨j + 1, by omega, by go_num, HTy.out.later (below_drewN (Below.refl _ _) _)⟩
                    case measure => simp [intOf]; omega
                  · have j3 : ¬ (j : Int) < 4 := by omega
                    have HB9 := hide HT.out.fr.bel
                    clear HT
                    go_wp2_with fail
                    refine (told_any _).mono ?_
                    rintro e w9 ⟨rfl, hb9⟩
                    have HB10 := hide (HB9.out.trans (hb9.mono HB9.out.size))
                    clear hb9
                    go_wp2
                    go_ret
                    exact ⟨rfl, HB10.out⟩
    · have i2 : ¬ (k : Int) < (len : Int) := by omega
      obtain ⟨ba, hba⟩ : ∃ ba : Nat, block % 4 = (ba : Int) := ⟨(block % 4).toNat, by omega⟩
      have ba4 : ba < 4 := by omega
      have hm1 : bits BinOp.and IntKind.i64 block 3 = (ba : Int) := by rw [i64_and3]; exact hba
      obtain ⟨bt, hbt⟩ : ∃ bt : Nat, bit0 % 65536 = (bt : Int) := ⟨(bit0 % 65536).toNat, by omega⟩
      have bt6 : bt < 65536 := by omega
      have hm2 : bits BinOp.and IntKind.i64 bit0 65535 = (bt : Int) := by rw [i64_and65535]; exact hbt
      have HTW : Hid (TW w.heap.size p wr.heap.size 0 (fun _ => .slice none 0 0) s s w (wr.alloc (.cells #[.slice none 0 0, .slice none 0 0, .slice none 0 0, .slice none 0 0] 63))) := by
        have b1 := below_box wr (.cells #[.slice none 0 0, .slice none 0 0, .slice none 0 0, .slice none 0 0] 63)
        exact ⟨HD.out.later b1, HF.out.trans (Fr.of b1 HF.out.bel.size), heap_alloc_new wr _, fun i hi => absurd hi (by omega), fun i hi => absurd hi (by omega), HF.out.bel.size, rfl⟩
      clear hba hbt HD HF
      go_wp2_with fail
      generalize hgw : wr.heap.size = gw at *
      clear hgw
      generalize wr.alloc (.cells #[.slice none 0 0, .slice none 0 0, .slice none 0 0, .slice none 0 0] 63) = w2 at *
      go_loopw [11] (fun i wx => ∃ (j : Nat) (ws : Nat → Value), j ≤ 4 ∧ i = .int .i64 j ∧ TW w.heap.size p gw j ws s s w wx) (fun i _ => 4 - (intOf i).toNat)
      case atStart => exact ⟨0, _, by omega, rfl, HTW.out⟩
      case round =>
        obtain ⟨j, ws, hj, rfl, hT⟩ := hrel
        have HT := hide hT
        clear hT HTW
        by_cases h4 : j < 4
        · have j0 : (0 : Int) ≤ (j : Int) := by omega
          have j3 : (j : Int) < 4 := by omega
          go_wp2_with fail
          refine (read_ok w.heap.size p s j wr HT.out.di HT.out.fr.bel.size HS.out.dn (by rw [HS.out.n4]; exact h4)).mono ?_
          rintro e wy ⟨g, rfl, ho, hb⟩
          have HTy := hide (HT.out.later hb)
          have HTz := hide (HTy.out.put h4 ho HT.out.fr.bel.size)
          have cy : wy.cell? ⟨gw, j, none⟩ = some (ws j) := by rw [cell_blk HTy.out.hw]; exact os4_at ws h4
          have fy : wy.frozen? ⟨gw, j, none⟩ = false := frz_blk HTy.out.hw
          clear ho hb
          generalize blk = N at *
          go_wp2
          go_roundw
          case rel => exact ⟨j + 1, _, by omega, by go_num, HTz.out⟩
          case measure => simp [intOf]; omega
        · have j3 : ¬ (j : Int) < 4 := by omega
          obtain rfl : j = 4 := by omega
          clear h4 hj
          go_wp2_with fail
          refine (flip_ok w.heap.size p s ba bt wr HT.out.di HT.out.fr.bel.size (by rw [HS.out.n4]; exact ba4) bt6).mono ?_
          rintro e w3 ⟨rfl, hD, hF⟩
          have HT3 := hide (HT.out.call hD hF)
          have HS3 := hide (HS.out.flip ba bt)
          have HOK := hide HT.out.di.ok
          have HN4 : Hid (ba < s.n) := by show _ < _; rw [HS.out.n4]; exact ba4
          clear hD hF HT
          go_wp2_with fail
          refine (read_ok w.heap.size p (s.flip ba bt) ba w3 HT3.out.di HT3.out.fr.bel.size HS3.out.dn (by rw [HS3.out.n4]; exact ba4)).mono ?_
          rintro e w4 ⟨g, rfl, ho, hb⟩
          rw [flip_show s ba bt ba HN4.out, if_pos rfl] at ho
          have HT4 := hide (HT3.out.later hb)
          obtain ⟨gv, hgv⟩ := HT4.out.hv ba ba4
          have hrv := HT4.out.hr ba ba4
          rw [hgv] at hrv
          have cw : w4.cell? ⟨gw, ba, none⟩ = some (.slice (some ⟨gv, 0, none⟩) blk blk) := by rw [cell_blk HT4.out.hw, os4_at ws ba4, hgv]
          have b0 : (0 : Int) ≤ (ba : Int) := by omega
          have b3 : (ba : Int) < 4 := by omega
          have HB8 : Hid (blk = 8192) := rfl
          have b8 : ((blk : Nat) : Int) = 8192 := rfl
          have HSL := hide (show_len HOK.out ba)
          have HTL : Hid ((turnL (s.show ba) bt).length ≤ blk) := by show _ ≤ _; rw [turnL_len]; exact turnN_le HSL.out bt6
          obtain ⟨f, hf⟩ : ∃ f : Nat → Nat, ∀ i, (s.show ba).getD i 0 = f i := ⟨_, fun _ => rfl⟩
          have HF8 : Hid (∀ i, f i < 256) := fun i => by rw [← hf]; exact byteAt (show_lt HOK.out ba) i
          obtain ⟨e8, he8⟩ : ∃ e8, e8 = bt / 8 := ⟨_, rfl⟩
          obtain ⟨r8, hr8⟩ : ∃ r8, r8 = bt % 8 := ⟨_, rfl⟩
          have HCN : Hid (∀ i, i < 8192 → w4.cell? ⟨g, i, none⟩ = some (.int .u8 ((if i = e8 then f i ^^^ 2 ^ r8 else f i : Nat) : Int))) := fun i hi => by
            rw [ho.cellAt i (by rw [HB8.out]; omega), cellsOf_get _ _ (by rw [pad_len HTL.out, HB8.out]; exact hi), pad_getD, turnL_getD, hf, he8, hr8]
          have HCV : Hid (∀ i, i < 8192 → w4.cell? ⟨gv, i, none⟩ = some (.int .u8 ((f i : Nat) : Int))) := fun i hi => by
            rw [hrv.cellAt i (by rw [HB8.out]; omega), cellsOf_get _ _ (by rw [pad_len HSL.out, HB8.out]; exact hi), pad_getD, hf]
          have r88 : r8 < 8 := by omega
          have q8 : (bt : Int) / 8 = (e8 : Int) := by omega
          have t8 : (bt : Int).tdiv 8 = (e8 : Int) := by rw [Int.tdiv_eq_ediv_of_nonneg (by omega)]; exact q8
          have m8 : (bt : Int) % 8 = (r8 : Int) := by omega
          have tm : ((bt : Int).tmod 8) = (r8 : Int) := by rw [Int.tmod_eq_emod_of_nonneg (by omega)]; exact m8
          have wb : IntKind.i64.wrap (e8 : Int) = (e8 : Int) := by rw [IntKind.wrap_i64]; omega
          have wr8 : IntKind.i64.wrap (r8 : Int) = (r8 : Int) := by rw [IntKind.wrap_i64]; omega
          have wu8 : IntKind.u64.wrap (r8 : Int) = (r8 : Int) := by rw [IntKind.wrap_u64]; omega
          have qr : (0 : Int) ≤ (r8 : Int) := by omega
          have pw : 2 ^ r8 < 256 := Nat.lt_of_lt_of_le (Nat.pow_lt_pow_right (by omega) r88) (by decide)
          have p0 : 0 < 2 ^ r8 := Nat.pos_of_ne_zero (by simp)
          have mn : min r8 8 = r8 := by omega
          have uw : IntKind.u8.wrap ((2 : Int) ^ r8) = ((2 ^ r8 : Nat) : Int) := by
            have e : ((2 : Int) ^ r8) = ((2 ^ r8 : Nat) : Int) := by simp
            rw [e]
            exact wrap_u8_nat _ pw
          generalize hP : 2 ^ r8 = P8 at *
          have HP := hide hP
          clear hP ho hb hrv hgv HT3 j3 hf he8 hr8
          generalize blk = N at *
          go_wp2_with fail
          go_loopw [14] (fun i wr => ∃ c : Nat, c ≤ 8192 ∧ i = .int .i64 c ∧ ∃ n, wr = w4.drewN n) (fun i _ => 8192 - (intOf i).toNat)
          case atStart => exact ⟨0, by omega, rfl, 0, rfl⟩
          case round =>
            obtain ⟨c, hc, rfl, nd, HW⟩ := hrel
            by_cases hlt : c < 8192
            · have i1 : (0 : Int) ≤ (c : Int) := by omega
              have i4 : (c : Int) < ((N : Nat) : Int) := by omega
              have i5 : (c : Int) < 8192 := by omega
              have cn : wr.cell? ⟨g, c, none⟩ = _ := (by rw [HW]; rfl : wr.cell? ⟨g, c, none⟩ = w4.cell? ⟨g, c, none⟩).trans (HCN.out c hlt)
              have cv : wr.cell? ⟨gv, c, none⟩ = _ := (by rw [HW]; rfl : wr.cell? ⟨gv, c, none⟩ = w4.cell? ⟨gv, c, none⟩).trans (HCV.out c hlt)
              have cx : wr.cell? ⟨gw, ba, none⟩ = _ := (by rw [HW]; rfl : wr.cell? ⟨gw, ba, none⟩ = w4.cell? ⟨gw, ba, none⟩).trans cw
              have HW2 := hide HW
              have f8 := HF8.out c
              generalize f c = fc at cn cv f8
              clear HW cw
              by_cases ec : c = e8
              · rw [if_pos ec] at cn
                have hx : bits BinOp.xor IntKind.u8 ((fc ^^^ P8 : Nat) : Int) (fc : Int) = (P8 : Int) := by
                  rw [u8_xor_nat _ _ (Nat.xor_lt_two_pow (n := 8) f8 pw) f8, Nat.xor_comm fc P8, Nat.xor_assoc, Nat.xor_self, Nat.xor_zero]
                generalize fc ^^^ P8 = xc at cn hx
                subst ec
                clear hlt hc
                go_wp2_with fail
                go_quiet (fail)
                go_wp2
                go_roundw
                case rel => exact ⟨c + 1, by omega, by go_num, _, by rw [HW2.out, World.drewN_drewN]⟩
                case measure => simp [intOf]; omega
              · rw [if_neg ec] at cn
                have hx : bits BinOp.xor IntKind.u8 (fc : Int) (fc : Int) = 0 := by
                  rw [u8_xor_nat _ _ f8 f8, Nat.xor_self]; rfl
                have ei : ¬ ((c : Int) = (e8 : Int)) := by omega
                clear hlt hc
                go_wp2_with fail
                go_quiet (fail)
                go_wp2
                go_roundw
                case rel => exact ⟨c + 1, by omega, by go_num, _, by rw [HW2.out, World.drewN_drewN]⟩
                case measure => simp [intOf]; omega
            · have i5 : ¬ (c : Int) < 8192 := by omega
              have HT5 : Hid (TW w.heap.size p gw 4 ws s (s.flip ba bt) w wr) := by show TW _ _ _ _ _ _ _ _ _; rw [HW]; exact HT4.out.later (below_drewN (Below.refl _ _) _)
              clear HW cw HT4
              go_wp2_with fail
              refine (flip_ok w.heap.size p (s.flip ba bt) ba bt wr HT5.out.di HT5.out.fr.bel.size (by rw [HS3.out.n4]; exact ba4) bt6).mono ?_
              rintro e w6 ⟨rfl, hD, hF⟩
              have HT6 := hide (HT5.out.call hD hF)
              have HS6 := hide (HS3.out.flip ba bt)
              have HSH : Hid (∀ i, pad (((s.flip ba bt).flip ba bt).show i) = pad (s.show i)) := fun i => by
                rw [flip_show (s.flip ba bt) ba bt i (by rw [HS3.out.n4]; exact ba4)]
                by_cases e : i = ba
                · rw [if_pos e, flip_show s ba bt ba HN4.out, if_pos rfl, turn_turn (show_len HOK.out ba) bt6, e]
                · rw [if_neg e, flip_show s ba bt i HN4.out, if_neg e]
              generalize (s.flip ba bt).flip ba bt = s6 at *
              clear hD hF HT5 HS3 HCN HCV HF8
              go_wp2_with fail
              go_loopw [16] (fun i wr => ∃ j : Nat, j ≤ 4 ∧ i = .int .i64 j ∧ TW w.heap.size p gw 4 ws s s6 w wr) (fun i _ => 4 - (intOf i).toNat)
              case atStart => exact ⟨0, by omega, rfl, HT6.out⟩
              case round =>
                obtain ⟨j, hj, rfl, hT⟩ := hrel
                have HT := hide hT
                clear hT HT6
                by_cases h4 : j < 4
                · have j0 : (0 : Int) ≤ (j : Int) := by omega
                  have j3 : (j : Int) < 4 := by omega
                  go_wp2_with fail
                  refine (read_ok w.heap.size p s6 j wr HT.out.di HT.out.fr.bel.size HS6.out.dn (by rw [HS6.out.n4]; exact h4)).mono ?_
                  rintro e wy ⟨g2, rfl, ho, hb⟩
                  rw [HSH.out] at ho
                  have HTy := hide (HT.out.later hb)
                  obtain ⟨gu, hgu⟩ := HTy.out.hv j h4
                  have hru := HTy.out.hr j h4
                  rw [hgu] at hru
                  have cu : wy.cell? ⟨gw, j, none⟩ = some (.slice (some ⟨gu, 0, none⟩) blk blk) := by rw [cell_blk HTy.out.hw, os4_at ws h4, hgu]
                  have HN8 : Hid (blk = 8192) := rfl
                  have HB1 := hide (BS.ofOwns ho (by rw [HN8.out]; omega) (pad_lt (show_lt HOK.out j)))
                  have HB2 := hide (BS.ofOwns hru (by rw [HN8.out]; omega) (pad_lt (show_lt HOK.out j)))
                  have t1 : ∀ n, (convert 29 9 (.slice (some ⟨g2, 0, none⟩) blk blk)).run Try.prog (wy.drewN n) = .ok (.string (str (pad (s.show j)))) (wy.drewN n) := fun n => run_text (HB1.out.later (below_drewN (Below.refl wy.heap.size wy) n) (Nat.le_refl _))
                  have t2 : ∀ n, (convert 29 9 (.slice (some ⟨gu, 0, none⟩) blk blk)).run Try.prog (wy.drewN n) = .ok (.string (str (pad (s.show j)))) (wy.drewN n) := fun n => run_text (HB2.out.later (below_drewN (Below.refl wy.heap.size wy) n) (Nat.le_refl _))
                  generalize str (pad (s.show j)) = tx at t1 t2
                  clear ho hb hru hgu HB1 HB2 HN8
                  generalize blk = N2 at *
                  go_wp2_with fail
                  go_quiet (fail)
                  go_wp2
                  go_roundw
                  case rel => exact ⟨j + 1, by omega, by go_num, HTy.out.later (below_drewN (Below.refl _ _) _)⟩
                  case measure => simp [intOf]; omega
                · have j3 : ¬ (j : Int) < 4 := by omega
                  have HB9 := hide HT.out.fr.bel
                  clear HT
                  go_wp2_with fail
                  refine (told_any _).mono ?_
                  rintro e w9 ⟨rfl, hb9⟩
                  have HB10 := hide (HB9.out.trans (hb9.mono HB9.out.size))
                  clear hb9
                  go_wp2
                  go_ret
                  exact ⟨rfl, HB10.out⟩
end Go.Proofs.Ytfdnnebcjkjafaa
