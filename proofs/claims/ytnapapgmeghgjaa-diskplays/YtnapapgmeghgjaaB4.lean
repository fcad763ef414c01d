/- Contract of settle. -/
import Derived.Test.YtnapapgmeghgjaaB3
import Derived.Test.YtnapapgmeghgjaaRG
import Derived.BigQuiet
set_option linter.unusedVariables false
namespace Go.Proofs.Ytnapapgmeghgjaa
open Go.RowKit

theorem own_slice {w : World} {B e size n : Nat} {v : Value} {xs : List Value} (h : w.ownsRow B e size v n xs) : ∃ a cap, v = .slice a n cap := by
  rcases h.2 with ⟨e, e0⟩ | ⟨g, cap, cur, e, _⟩
  · exact ⟨none, 0, by rw [e, e0]⟩
  · exact ⟨_, cap, e⟩
theorem own_place {w : World} {B e size n cap : Nat} {a : Option Addr} {xs : List Value} (h : w.ownsRow B e size (.slice a n cap) n xs) (h0 : 0 < n) : ∃ g, a = some ⟨g, 0, none⟩ ∧ g < w.heap.size ∧ ∃ cur, w.heap[g]? = some (.cells cur e (0, 0)) := by
  rcases h.2 with ⟨_, e0⟩ | ⟨g, cap, cur, e, _, hc, _⟩
  · omega
  · simp only [Value.slice.injEq, true_and] at e
    exact ⟨g, e.1, (Array.getElem?_eq_some_iff.1 hc).1, cur, hc⟩
theorem below_box (w : World) (o : Obj) : Below w.heap.size w (w.alloc o) := (Below.refl _ _).alloc (Nat.le_refl _) _

set_option maxRecDepth 100000 in
set_option maxHeartbeats 4000000 in
theorem settle_any [Gd] (B p : Nat) (s : DS) (a : Int) (keep : Nat) (torn cut : Int) (w : World) (h : DI B p s w) (hB : B ≤ w.heap.size) (hkeep : keep < 18446744073709551616) :
    Calls Try.prog 37 #[.pointer (some ⟨p, 0, none⟩), .agg #[.int .i64 a, .int .u64 (keep : Int), .int .i64 torn, .int .i64 cut]] w fun e w' => e = .returned (.tuple #[]) ∧ DI B p (s.settle keep torn cut) w' ∧ Fr B w w' := by
  obtain ⟨gb, vo, kv, ov, wv, h⟩ := h
  have HD := hide h
  have HS := hide (SW.start h hB a keep torn cut)
  obtain ⟨A, C, hvo, hmc, hcm, hnil⟩ := h.form
  have hm := h.ok.mm
  have HOK := hide h.ok
  have HBW := hide hB
  subst hvo
  have c1 := cell_blk (i := 1) HS.out.hp
  simp only [headV] at c1
  have c1' : (w.alloc (.cells #[.int .i64 a, .int .u64 (keep : Int), .int .i64 torn, .int .i64 cut] 32)).cell? ⟨p, 1, none⟩ = some (.slice A s.m C) := c1
  clear h c1 hnil
  generalize hM : s.m = m at *
  have HM := hide hM
  clear hM
  go_enter Try.func37, Try.ntmps37
  go_wp2
  clear c1'
  go_loopw [12] (fun i wr => ∃ (k : Nat) (kv' ov' : Nat → Value), k ≤ m ∧ i = .int .i64 k ∧ SW B p gb w.heap.size (.slice A m C) ov wv s a keep torn cut w k kv' ov' wr) (fun i _ => m - (intOf i).toNat)
  case atStart => exact ⟨0, kv, ov, by omega, rfl, HS.out⟩
  case round =>
    obtain ⟨k, kv', ov', hk, rfl, hS⟩ := hrel
    have HS2 := hide hS
    by_cases hlt : k < m
    · have hw' := hS.hw
      rw [HM.out] at hw'
      obtain ⟨g, rfl, hgl, cur, hgc⟩ := own_place hw' (by omega)
      have hkm : k < s.m := by rw [HM.out]; exact hlt
      have r0 := hw'.cellAt (k * 2) (by omega)
      have r1 := hw'.cellAt (k * 2 + 1) (by omega)
      rw [two_get0 _ _ _ _ hlt] at r0
      rw [two_get1 _ _ _ _ hlt] at r1
      clear hw'
      have hat := HOK.out.at_ k hkm
      have q0 : wr.cell? ⟨p, 0, none⟩ = some (.slice (some ⟨gb, 0, none⟩) s.n s.n) := cell_blk hS.hp
      have q1 : wr.cell? ⟨gb, s.at_ k * 2, none⟩ = some (kv' (s.at_ k)) := by
        rw [cell_blk hS.hg]
        simpa using two_get0 kv' ov' (s.at_ k) s.n hat
      obtain ⟨a1, p1, e1⟩ := own_slice (hS.hk (s.at_ k) hat)
      obtain ⟨a2, p2, e2⟩ := own_slice (hS.hb k hkm)
      rw [e1] at q1
      rw [e2] at r1
      have HE1 := hide e1
      have HE2 := hide e2
      clear e1 e2
      have l1 : ∀ i, wr.cell? ⟨w.heap.size, i, none⟩ = (#[Value.int .i64 a, .int .u64 (keep : Int), .int .i64 torn, .int .i64 cut] : Array Value)[i]? := fun i => cell_blk hS.hl
      have hk1 := HOK.out.n2
      have i1 : (0 : Int) ≤ (k : Int) := by omega
      have i2 : (k : Int) < (m : Int) := by omega
      have i3 : (0 : Int) ≤ ((s.at_ k : Nat) : Int) := by omega
      have i4 : ((s.at_ k : Nat) : Int) < ((s.n : Nat) : Int) := by omega
      generalize (s.setK keep torn cut k (s.at_ k)).length = n1 at *
      generalize (s.by_ k).length = n2 at *
      clear hS
      go_wp2_with fail
      have HB1 := hide (below_box wr (.cells #[.int .i64 ((s.at_ k : Nat) : Int), .slice a2 n2 p2] 76))
      have hwB : B ≤ wr.heap.size := Nat.le_trans HBW.out HS2.out.fr.bel.size
      have HS3 := hide (HS2.out.later HB1.out hwB)
      have HWB := hide hwB
      have hgB : gb < wr.heap.size := (Array.getElem?_eq_some_iff.1 HS2.out.hg).1
      have hgL : gb ≠ w.heap.size := by
        intro e
        have h1 := HS2.out.hg
        rw [e, HS2.out.hl] at h1
        simp only [Option.some.injEq, Obj.cells.injEq] at h1
        exact absurd h1.2.1 (by decide)
      have HGB := hide HD.out.gB
      have hpB : p < wr.heap.size := (Array.getElem?_eq_some_iff.1 HS2.out.hp).1
      have hlB : w.heap.size < wr.heap.size := (Array.getElem?_eq_some_iff.1 HS2.out.hl).1
      have HSZ : Hid ((wr.alloc (.cells #[.int .i64 ((s.at_ k : Nat) : Int), .slice a2 n2 p2] 76)).heap.size = wr.heap.size + 1) := by show _ = _; simp
      have x0 : (wr.alloc (.cells #[.int .i64 ((s.at_ k : Nat) : Int), .slice a2 n2 p2] 76)).cell? ⟨p, 0, none⟩ = some (.slice (some ⟨gb, 0, none⟩) s.n s.n) := (HB1.out.cell hpB).trans q0
      have x1 : (wr.alloc (.cells #[.int .i64 ((s.at_ k : Nat) : Int), .slice a2 n2 p2] 76)).cell? ⟨gb, s.at_ k * 2, none⟩ = some (.slice a1 n1 p1) := (HB1.out.cell hgB).trans q1
      have x2 : (wr.alloc (.cells #[.int .i64 ((s.at_ k : Nat) : Int), .slice a2 n2 p2] 76)).cell? ⟨wr.heap.size, 0, none⟩ = some (.int .i64 ((s.at_ k : Nat) : Int)) := by rw [World.cell?_alloc_at _ _ _ _ rfl]; rfl
      have x3 : (wr.alloc (.cells #[.int .i64 ((s.at_ k : Nat) : Int), .slice a2 n2 p2] 76)).cell? ⟨wr.heap.size, 1, none⟩ = some (.slice a2 n2 p2) := by rw [World.cell?_alloc_at _ _ _ _ rfl]; rfl
      have x4 : ∀ i, (wr.alloc (.cells #[.int .i64 ((s.at_ k : Nat) : Int), .slice a2 n2 p2] 76)).cell? ⟨w.heap.size, i, none⟩ = (#[Value.int .i64 a, .int .u64 (keep : Int), .int .i64 torn, .int .i64 cut] : Array Value)[i]? := fun i => (HB1.out.cell hlB).trans (l1 i)
      have y0 := x4 0
      have y1 := x4 1
      have y2 := x4 2
      have y3 := x4 3
      simp only [List.getElem?_toArray, List.getElem?_cons_zero, List.getElem?_cons_succ] at y0 y1 y2 y3
      clear q0 q1 r0 r1 l1 x4
      generalize wr.alloc (.cells #[.int .i64 ((s.at_ k : Nat) : Int), .slice a2 n2 p2] 76) = w1 at *
      go_quiet (fail)
      go_wp2_with fail
      have HX : Hid ((fun wx => wx.cell? ⟨wr.heap.size, 1, none⟩ = some (.slice a2 n2 p2) ∧ wx.cell? ⟨w.heap.size, 0, none⟩ = some (.int .i64 a) ∧ wx.cell? ⟨w.heap.size, 1, none⟩ = some (.int .u64 (keep : Int)) ∧ wx.cell? ⟨w.heap.size, 2, none⟩ = some (.int .i64 torn) ∧ wx.cell? ⟨w.heap.size, 3, none⟩ = some (.int .i64 cut)) w1) := ⟨x3, y0, y1, y2, y3⟩
      have HC1 := hide x1
      clear x0 x1 x2 x3 y0 y1 y2 y3
      refine wp_region_noPanic ?_
      refine wp_region_held_drew (S := fun wx => wx.cell? ⟨wr.heap.size, 1, none⟩ = some (.slice a2 n2 p2) ∧ wx.cell? ⟨w.heap.size, 0, none⟩ = some (.int .i64 a) ∧ wx.cell? ⟨w.heap.size, 1, none⟩ = some (.int .u64 (keep : Int)) ∧ wx.cell? ⟨w.heap.size, 2, none⟩ = some (.int .i64 torn) ∧ wx.cell? ⟨w.heap.size, 3, none⟩ = some (.int .i64 cut)) (by kernel_rfl) HX.out (fun hHeld => ?_)
      refine wpAnyH_takeAt (i := 0) (d := 24) (v := ?v0) (by kernel_rfl) (by kernel_rfl) (by kernel_rfl) (by kernel_rfl) (fun _ _ _ h => h) ?hy0 (by assumption) ?rest0
      case hy0 =>
        intro oi ho
        simp only [List.getElem?_toArray, List.getElem?_cons_zero, Option.some.injEq] at ho
        subst ho
        refine Or.inl ⟨by rfl, ?_⟩
        intro wx hSw
        try dsimp only at hSw
        go_simp
        try rfl
      try simp only [Act.put, List.setIfInBounds_toArray, List.set_cons_zero, List.set_cons_succ]
      refine wpAnyH_takeAt (i := 1) (d := 25) (v := ?v1) (by kernel_rfl) (by kernel_rfl) (by kernel_rfl) (by kernel_rfl) (fun _ _ _ h => h) ?hy1 (by assumption) ?rest1
      case hy1 =>
        intro oi ho
        simp only [List.getElem?_toArray, List.getElem?_cons_succ, List.getElem?_cons_zero, Option.some.injEq] at ho
        subst ho
        refine Or.inl ⟨by rfl, ?_⟩
        intro wx hSw
        try dsimp only at hSw
        go_simp
        try rfl
      try simp only [Act.put, List.setIfInBounds_toArray, List.set_cons_zero, List.set_cons_succ]
      refine wpAnyH_takeAt (i := 2) (d := 26) (v := ?v2) (by kernel_rfl) (by kernel_rfl) (by kernel_rfl) (by kernel_rfl) (fun _ _ _ h => h) ?hy2 (by assumption) ?rest2
      case hy2 =>
        intro oi ho
        simp only [List.getElem?_toArray, List.getElem?_cons_succ, List.getElem?_cons_zero, Option.some.injEq] at ho
        subst ho
        refine Or.inl ⟨by rfl, ?_⟩
        intro wx hSw
        try dsimp only at hSw
        go_simp
        try rfl
      try simp only [Act.put, List.setIfInBounds_toArray, List.set_cons_zero, List.set_cons_succ]
      refine wpAnyH_takeAt (i := 3) (d := 27) (v := ?v3) (by kernel_rfl) (by kernel_rfl) (by kernel_rfl) (by kernel_rfl) (fun _ _ _ h => h) ?hy3 (by assumption) ?rest3
      case hy3 =>
        intro oi ho
        simp only [List.getElem?_toArray, List.getElem?_cons_succ, List.getElem?_cons_zero, Option.some.injEq] at ho
        subst ho
        refine Or.inl ⟨by rfl, ?_⟩
        intro wx hSw
        try dsimp only at hSw
        go_simp
        try rfl
      try simp only [Act.put, List.setIfInBounds_toArray, List.set_cons_zero, List.set_cons_succ]
      refine wpAnyH_takeAt (i := 5) (d := 29) (v := ?v5) (by kernel_rfl) (by kernel_rfl) (by kernel_rfl) (by kernel_rfl) (fun _ _ _ h => h) ?hy5 (by assumption) ?rest5
      case hy5 =>
        intro oi ho
        simp only [List.getElem?_toArray, List.getElem?_cons_succ, List.getElem?_cons_zero, Option.some.injEq] at ho
        subst ho
        refine Or.inl ⟨by rfl, ?_⟩
        intro wx hSw
        try dsimp only at hSw
        go_simp
        try rfl
      try simp only [Act.put, List.setIfInBounds_toArray, List.set_cons_zero, List.set_cons_succ]
      refine wpAnyH_takeAt (i := 6) (d := 30) (v := ?v6) (by kernel_rfl) (by kernel_rfl) (by kernel_rfl) (by kernel_rfl) (fun _ _ _ h => h) ?hy6 (by assumption) ?rest6
      case hy6 =>
        intro oi ho
        simp only [List.getElem?_toArray, List.getElem?_cons_succ, List.getElem?_cons_zero, Option.some.injEq] at ho
        subst ho
        refine Or.inl ⟨by rfl, ?_⟩
        intro wx hSw
        try dsimp only at hSw
        go_simp
        try rfl
      try simp only [Act.put, List.setIfInBounds_toArray, List.set_cons_zero, List.set_cons_succ]
      refine wpAnyH_takeAt (i := 7) (d := 31) (v := ?v7) (by kernel_rfl) (by kernel_rfl) (by kernel_rfl) (by kernel_rfl) (fun _ _ _ h => h) ?hy7 (by assumption) ?rest7
      case hy7 =>
        intro oi ho
        simp only [List.getElem?_toArray, List.getElem?_cons_succ, List.getElem?_cons_zero, Option.some.injEq] at ho
        subst ho
        refine Or.inl ⟨by rfl, ?_⟩
        intro wx hSw
        try dsimp only at hSw
        go_simp
        try rfl
      try simp only [Act.put, List.setIfInBounds_toArray, List.set_cons_zero, List.set_cons_succ]
      refine wpAnyH_takeAt (i := 8) (d := 32) (v := ?v8) (by kernel_rfl) (by kernel_rfl) (by kernel_rfl) (by kernel_rfl) (fun _ _ _ h => h) ?hy8 (by assumption) ?rest8
      case hy8 =>
        intro oi ho
        simp only [List.getElem?_toArray, List.getElem?_cons_succ, List.getElem?_cons_zero, Option.some.injEq] at ho
        subst ho
        refine Or.inl ⟨by rfl, ?_⟩
        intro wx hSw
        try dsimp only at hSw
        go_simp
        try rfl
      try simp only [Act.put, List.setIfInBounds_toArray, List.set_cons_zero, List.set_cons_succ]
      refine wpAnyH_comes2At (i := 4) (j := 9) (by kernel_rfl) (by kernel_rfl) (by kernel_rfl) ?b1 ?b2
      case b1 =>
        intro o ho K hK
        simp only [List.getElem?_toArray, List.getElem?_cons_succ, List.getElem?_cons_zero, Option.some.injEq] at ho
        subst ho
        have c3 := HC1.out
        go_simp
        clear c3
        refine hK.out _ _ hHeld (fun hHeld => ?_)
        clear hK K
        try simp only [Act.put, List.setIfInBounds_toArray, List.set_cons_zero, List.set_cons_succ]
        refine wpAnyH_comesAt (i := 9) (by kernel_rfl) (by kernel_rfl) ?_
        intro o ho K hK
        simp only [List.getElem?_toArray, List.getElem?_cons_succ, List.getElem?_cons_zero, Option.some.injEq] at ho
        subst ho
        go_simp
        refine (keptBytes_any a keep torn cut k _ (by omega) hkeep).mono ?_
        rintro e w2 ⟨rfl, hb2⟩
        have HB2 := hide ((below_drewN (Below.refl w1.heap.size w1) (nq + 1)).trans hb2)
        have HS4 := hide (HS3.out.later HB2.out (by have := HSZ.out; have := HWB.out; omega))
        have HX2 : Hid ((fun wx => wx.cell? ⟨wr.heap.size, 1, none⟩ = some (.slice a2 n2 p2) ∧ wx.cell? ⟨w.heap.size, 0, none⟩ = some (.int .i64 a) ∧ wx.cell? ⟨w.heap.size, 1, none⟩ = some (.int .u64 (keep : Int)) ∧ wx.cell? ⟨w.heap.size, 2, none⟩ = some (.int .i64 torn) ∧ wx.cell? ⟨w.heap.size, 3, none⟩ = some (.int .i64 cut)) w2) := ⟨(HB2.out.cell (cell_lt HX.out.1)).trans HX.out.1, (HB2.out.cell (cell_lt HX.out.2.1)).trans HX.out.2.1, (HB2.out.cell (cell_lt HX.out.2.2.1)).trans HX.out.2.2.1, (HB2.out.cell (cell_lt HX.out.2.2.2.1)).trans HX.out.2.2.2.1, (HB2.out.cell (cell_lt HX.out.2.2.2.2)).trans HX.out.2.2.2.2⟩
        have HC2 := hide ((HB2.out.cell (cell_lt HC1.out)).trans HC1.out)
        clear hb2 hHeld
        refine hK.out _ _ HX2.out (fun hHeld => ?_)
        clear hK K
        try simp only [Act.put, List.setIfInBounds_toArray, List.set_cons_zero, List.set_cons_succ]
        refine wpAnyH_comesAt (i := 10) (by kernel_rfl) (by kernel_rfl) ?_
        intro o ho K hK
        simp only [List.getElem?_toArray, List.getElem?_cons_succ, List.getElem?_cons_zero, Option.some.injEq] at ho
        subst ho
        go_simp
        have hBs : B ≤ w2.heap.size := Nat.le_trans HWB.out (Nat.le_trans HB1.out.size HB2.out.size)
        have HQ1 := hide (HS4.out.hk (s.at_ k) hat)
        have HQ2 := hide (HS4.out.hb k hkm)
        rw [HE1.out] at HQ1
        rw [HE2.out] at HQ2
        refine (laid_any B _ _ (s.setK keep torn cut k (s.at_ k)) (s.by_ k) (keptN keep torn cut k) w2 HQ1.out HQ2.out hBs (setK_len HOK.out _ _ _ _ _) (HOK.out.bl k) (setK_lt HOK.out _ _ _ _ _) (HOK.out.bb k) (keptN_le _ _ _ _)).mono ?_
        rintro e w3 ⟨v3, rfl, ho3, hb3, hw3⟩
        obtain ⟨a3, p3, rfl⟩ := own_slice ho3
        have HS5 := hide (HS4.out.later hb3 hBs)
        have HF := hide (HS5.out.step hkm HOK.out HGB.out ho3 (fun j hj => by
          rcases hw3 with e9 | e9 | e9
          · rw [e9, ← HE1.out]; exact HS4.out.k8 j hj _ hat
          · rw [e9, ← HE2.out]; exact (HD.out.h8 j hj).2.2 k hkm
          · rw [e9]; intro e8; have e7 := Option.some.inj e8; obtain ⟨cs, e6⟩ := (HD.out.h8 j hj).1; have e5 := HS4.out.fr.stay j cs _ _ e6 (by decide) (by decide) (by decide) (by decide); have := (Array.getElem?_eq_some_iff.1 e5).1; omega))
        have HX3 : Hid ((fun wx => wx.cell? ⟨wr.heap.size, 1, none⟩ = some (.slice a2 n2 p2) ∧ wx.cell? ⟨w.heap.size, 0, none⟩ = some (.int .i64 a) ∧ wx.cell? ⟨w.heap.size, 1, none⟩ = some (.int .u64 (keep : Int)) ∧ wx.cell? ⟨w.heap.size, 2, none⟩ = some (.int .i64 torn) ∧ wx.cell? ⟨w.heap.size, 3, none⟩ = some (.int .i64 cut)) w3) := ⟨(hb3.cell (cell_lt HX2.out.1)).trans HX2.out.1, (hb3.cell (cell_lt HX2.out.2.1)).trans HX2.out.2.1, (hb3.cell (cell_lt HX2.out.2.2.1)).trans HX2.out.2.2.1, (hb3.cell (cell_lt HX2.out.2.2.2.1)).trans HX2.out.2.2.2.1, (hb3.cell (cell_lt HX2.out.2.2.2.2)).trans HX2.out.2.2.2.2⟩
        have c4 : w3.cell? ⟨gb, s.at_ k * 2, none⟩ = some (.slice a1 n1 p1) := (hb3.cell (cell_lt HC2.out)).trans HC2.out
        have f4 : w3.frozen? ⟨gb, s.at_ k * 2, none⟩ = false := frz_blk HS5.out.hg
        have f5 : w3.frozen? ⟨gb, s.at_ k * 2 + 1, none⟩ = false := frz_blk HS5.out.hg
        generalize (laidL (s.setK keep torn cut k (s.at_ k)) (s.by_ k) (keptN keep torn cut k)).length = n3 at *
        clear ho3 hb3 hHeld
        refine hK.out _ _ HX3.out (fun hHeld => ?_)
        clear hK K
        try simp only [Act.put, List.setIfInBounds_toArray, List.set_cons_zero, List.set_cons_succ]
        refine wpAnyH_takeAt (i := 11) (d := 35) (v := ?vp11) (by kernel_rfl) (by kernel_rfl) (by kernel_rfl) (by kernel_rfl) (fun _ _ _ h => h) ?hyp11 (by assumption) ?restp11
        case hyp11 =>
          intro oi ho
          simp only [List.getElem?_toArray, List.getElem?_cons_succ, List.getElem?_cons_zero, Option.some.injEq] at ho
          subst ho
          refine Or.inl ⟨by rfl, ?_⟩
          intro wx hSw
          try dsimp only at hSw
          go_simp
          try rfl
        try simp only [Act.put, List.setIfInBounds_toArray, List.set_cons_zero, List.set_cons_succ]
        refine wpAnyH_takeAt (i := 12) (d := 36) (v := ?vp12) (by kernel_rfl) (by kernel_rfl) (by kernel_rfl) (by kernel_rfl) (fun _ _ _ h => h) ?hyp12 (by assumption) ?restp12
        case hyp12 =>
          intro oi ho
          simp only [List.getElem?_toArray, List.getElem?_cons_succ, List.getElem?_cons_zero, Option.some.injEq] at ho
          subst ho
          refine Or.inl ⟨by rfl, ?_⟩
          intro wx hSw
          try dsimp only at hSw
          go_simp
          try rfl
        try simp only [Act.put, List.setIfInBounds_toArray, List.set_cons_zero, List.set_cons_succ]
        refine wpAnyH_comesAt (i := 13) (by kernel_rfl) (by kernel_rfl) ?_
        intro o ho K hK
        simp only [List.getElem?_toArray, List.getElem?_cons_succ, List.getElem?_cons_zero, Option.some.injEq] at ho
        subst ho
        go_simp
        have HX4 : Hid ((fun wx => wx.cell? ⟨wr.heap.size, 1, none⟩ = some (.slice a2 n2 p2) ∧ wx.cell? ⟨w.heap.size, 0, none⟩ = some (.int .i64 a) ∧ wx.cell? ⟨w.heap.size, 1, none⟩ = some (.int .u64 (keep : Int)) ∧ wx.cell? ⟨w.heap.size, 2, none⟩ = some (.int .i64 torn) ∧ wx.cell? ⟨w.heap.size, 3, none⟩ = some (.int .i64 cut)) (w3.setCell ⟨gb, s.at_ k * 2, none⟩ (.slice a3 n3 p3))) := ⟨(World.cell?_setCell_other _ _ _ _ (fun e => by have := congrArg Addr.block e; simp only at this; omega)).trans HX3.out.1, (World.cell?_setCell_other _ _ _ _ (fun e => hgL (congrArg Addr.block e))).trans HX3.out.2.1, (World.cell?_setCell_other _ _ _ _ (fun e => hgL (congrArg Addr.block e))).trans HX3.out.2.2.1, (World.cell?_setCell_other _ _ _ _ (fun e => hgL (congrArg Addr.block e))).trans HX3.out.2.2.2.1, (World.cell?_setCell_other _ _ _ _ (fun e => hgL (congrArg Addr.block e))).trans HX3.out.2.2.2.2⟩
        clear hHeld
        refine hK.out _ _ HX4.out (fun hHeld => ?_)
        clear hK K
        try simp only [Act.put, List.setIfInBounds_toArray, List.set_cons_zero, List.set_cons_succ]
        refine wpAnyH_done (by kernel_rfl) ?_ _
        refine NoPanic.normal ?_
        have c5 : (w3.setCell ⟨gb, s.at_ k * 2, none⟩ (.slice a3 n3 p3)).cell? ⟨gb, s.at_ k * 2 + 1, none⟩ = some (ov' (s.at_ k)) := by
          rw [World.cell?_setCell_other _ _ _ _ (fun e => by have := congrArg Addr.off e; simp only at this; omega), cell_blk HS5.out.hg]
          simpa using two_get1 kv' ov' (s.at_ k) s.n hat
        have f6 : (w3.setCell ⟨gb, s.at_ k * 2, none⟩ (.slice a3 n3 p3)).frozen? ⟨gb, s.at_ k * 2 + 1, none⟩ = false := by simpa using f5
        clear c4 f4 f5
        go_wp2
        go_roundw
        case rel => exact ⟨k + 1, _, _, by omega, by go_num, HF.out⟩
        case measure => simp [intOf]; omega
      case b2 =>
        intro o ho K hK
        simp only [List.getElem?_toArray, List.getElem?_cons_succ, List.getElem?_cons_zero, Option.some.injEq] at ho
        subst ho
        go_simp
        refine (keptBytes_any a keep torn cut k _ (by omega) hkeep).mono ?_
        rintro e w2 ⟨rfl, hb2⟩
        have HB2 := hide ((below_drewN (Below.refl w1.heap.size w1) (nq + 1)).trans hb2)
        have HS4 := hide (HS3.out.later HB2.out (by have := HSZ.out; have := HWB.out; omega))
        have HX2 : Hid ((fun wx => wx.cell? ⟨wr.heap.size, 1, none⟩ = some (.slice a2 n2 p2) ∧ wx.cell? ⟨w.heap.size, 0, none⟩ = some (.int .i64 a) ∧ wx.cell? ⟨w.heap.size, 1, none⟩ = some (.int .u64 (keep : Int)) ∧ wx.cell? ⟨w.heap.size, 2, none⟩ = some (.int .i64 torn) ∧ wx.cell? ⟨w.heap.size, 3, none⟩ = some (.int .i64 cut)) w2) := ⟨(HB2.out.cell (cell_lt HX.out.1)).trans HX.out.1, (HB2.out.cell (cell_lt HX.out.2.1)).trans HX.out.2.1, (HB2.out.cell (cell_lt HX.out.2.2.1)).trans HX.out.2.2.1, (HB2.out.cell (cell_lt HX.out.2.2.2.1)).trans HX.out.2.2.2.1, (HB2.out.cell (cell_lt HX.out.2.2.2.2)).trans HX.out.2.2.2.2⟩
        have HC2 := hide ((HB2.out.cell (cell_lt HC1.out)).trans HC1.out)
        clear hb2 hHeld
        refine hK.out _ _ HX2.out (fun hHeld => ?_)
        clear hK K
        try simp only [Act.put, List.setIfInBounds_toArray, List.set_cons_zero, List.set_cons_succ]
        refine wpAnyH_comesAt (i := 4) (by kernel_rfl) (by kernel_rfl) ?_
        intro o ho K hK
        simp only [List.getElem?_toArray, List.getElem?_cons_succ, List.getElem?_cons_zero, Option.some.injEq] at ho
        subst ho
        go_simp
        have c3 := HC2.out
        go_simp
        clear c3
        refine hK.out _ _ hHeld (fun hHeld => ?_)
        clear hK K
        try simp only [Act.put, List.setIfInBounds_toArray, List.set_cons_zero, List.set_cons_succ]
        refine wpAnyH_comesAt (i := 10) (by kernel_rfl) (by kernel_rfl) ?_
        intro o ho K hK
        simp only [List.getElem?_toArray, List.getElem?_cons_succ, List.getElem?_cons_zero, Option.some.injEq] at ho
        subst ho
        go_simp
        have hBs : B ≤ w2.heap.size := Nat.le_trans HWB.out (Nat.le_trans HB1.out.size HB2.out.size)
        have HQ1 := hide (HS4.out.hk (s.at_ k) hat)
        have HQ2 := hide (HS4.out.hb k hkm)
        rw [HE1.out] at HQ1
        rw [HE2.out] at HQ2
        refine (laid_any B _ _ (s.setK keep torn cut k (s.at_ k)) (s.by_ k) (keptN keep torn cut k) w2 HQ1.out HQ2.out hBs (setK_len HOK.out _ _ _ _ _) (HOK.out.bl k) (setK_lt HOK.out _ _ _ _ _) (HOK.out.bb k) (keptN_le _ _ _ _)).mono ?_
        rintro e w3 ⟨v3, rfl, ho3, hb3, hw3⟩
        obtain ⟨a3, p3, rfl⟩ := own_slice ho3
        have HS5 := hide (HS4.out.later hb3 hBs)
        have HF := hide (HS5.out.step hkm HOK.out HGB.out ho3 (fun j hj => by
          rcases hw3 with e9 | e9 | e9
          · rw [e9, ← HE1.out]; exact HS4.out.k8 j hj _ hat
          · rw [e9, ← HE2.out]; exact (HD.out.h8 j hj).2.2 k hkm
          · rw [e9]; intro e8; have e7 := Option.some.inj e8; obtain ⟨cs, e6⟩ := (HD.out.h8 j hj).1; have e5 := HS4.out.fr.stay j cs _ _ e6 (by decide) (by decide) (by decide) (by decide); have := (Array.getElem?_eq_some_iff.1 e5).1; omega))
        have HX3 : Hid ((fun wx => wx.cell? ⟨wr.heap.size, 1, none⟩ = some (.slice a2 n2 p2) ∧ wx.cell? ⟨w.heap.size, 0, none⟩ = some (.int .i64 a) ∧ wx.cell? ⟨w.heap.size, 1, none⟩ = some (.int .u64 (keep : Int)) ∧ wx.cell? ⟨w.heap.size, 2, none⟩ = some (.int .i64 torn) ∧ wx.cell? ⟨w.heap.size, 3, none⟩ = some (.int .i64 cut)) w3) := ⟨(hb3.cell (cell_lt HX2.out.1)).trans HX2.out.1, (hb3.cell (cell_lt HX2.out.2.1)).trans HX2.out.2.1, (hb3.cell (cell_lt HX2.out.2.2.1)).trans HX2.out.2.2.1, (hb3.cell (cell_lt HX2.out.2.2.2.1)).trans HX2.out.2.2.2.1, (hb3.cell (cell_lt HX2.out.2.2.2.2)).trans HX2.out.2.2.2.2⟩
        have c4 : w3.cell? ⟨gb, s.at_ k * 2, none⟩ = some (.slice a1 n1 p1) := (hb3.cell (cell_lt HC2.out)).trans HC2.out
        have f4 : w3.frozen? ⟨gb, s.at_ k * 2, none⟩ = false := frz_blk HS5.out.hg
        have f5 : w3.frozen? ⟨gb, s.at_ k * 2 + 1, none⟩ = false := frz_blk HS5.out.hg
        generalize (laidL (s.setK keep torn cut k (s.at_ k)) (s.by_ k) (keptN keep torn cut k)).length = n3 at *
        clear ho3 hb3 hHeld
        refine hK.out _ _ HX3.out (fun hHeld => ?_)
        clear hK K
        try simp only [Act.put, List.setIfInBounds_toArray, List.set_cons_zero, List.set_cons_succ]
        refine wpAnyH_takeAt (i := 11) (d := 35) (v := ?vq11) (by kernel_rfl) (by kernel_rfl) (by kernel_rfl) (by kernel_rfl) (fun _ _ _ h => h) ?hyq11 (by assumption) ?restq11
        case hyq11 =>
          intro oi ho
          simp only [List.getElem?_toArray, List.getElem?_cons_succ, List.getElem?_cons_zero, Option.some.injEq] at ho
          subst ho
          refine Or.inl ⟨by rfl, ?_⟩
          intro wx hSw
          try dsimp only at hSw
          go_simp
          try rfl
        try simp only [Act.put, List.setIfInBounds_toArray, List.set_cons_zero, List.set_cons_succ]
        refine wpAnyH_takeAt (i := 12) (d := 36) (v := ?vq12) (by kernel_rfl) (by kernel_rfl) (by kernel_rfl) (by kernel_rfl) (fun _ _ _ h => h) ?hyq12 (by assumption) ?restq12
        case hyq12 =>
          intro oi ho
          simp only [List.getElem?_toArray, List.getElem?_cons_succ, List.getElem?_cons_zero, Option.some.injEq] at ho
          subst ho
          refine Or.inl ⟨by rfl, ?_⟩
          intro wx hSw
          try dsimp only at hSw
          go_simp
          try rfl
        try simp only [Act.put, List.setIfInBounds_toArray, List.set_cons_zero, List.set_cons_succ]
        refine wpAnyH_comesAt (i := 13) (by kernel_rfl) (by kernel_rfl) ?_
        intro o ho K hK
        simp only [List.getElem?_toArray, List.getElem?_cons_succ, List.getElem?_cons_zero, Option.some.injEq] at ho
        subst ho
        go_simp
        have HX4 : Hid ((fun wx => wx.cell? ⟨wr.heap.size, 1, none⟩ = some (.slice a2 n2 p2) ∧ wx.cell? ⟨w.heap.size, 0, none⟩ = some (.int .i64 a) ∧ wx.cell? ⟨w.heap.size, 1, none⟩ = some (.int .u64 (keep : Int)) ∧ wx.cell? ⟨w.heap.size, 2, none⟩ = some (.int .i64 torn) ∧ wx.cell? ⟨w.heap.size, 3, none⟩ = some (.int .i64 cut)) (w3.setCell ⟨gb, s.at_ k * 2, none⟩ (.slice a3 n3 p3))) := ⟨(World.cell?_setCell_other _ _ _ _ (fun e => by have := congrArg Addr.block e; simp only at this; omega)).trans HX3.out.1, (World.cell?_setCell_other _ _ _ _ (fun e => hgL (congrArg Addr.block e))).trans HX3.out.2.1, (World.cell?_setCell_other _ _ _ _ (fun e => hgL (congrArg Addr.block e))).trans HX3.out.2.2.1, (World.cell?_setCell_other _ _ _ _ (fun e => hgL (congrArg Addr.block e))).trans HX3.out.2.2.2.1, (World.cell?_setCell_other _ _ _ _ (fun e => hgL (congrArg Addr.block e))).trans HX3.out.2.2.2.2⟩
        clear hHeld
        refine hK.out _ _ HX4.out (fun hHeld => ?_)
        clear hK K
        try simp only [Act.put, List.setIfInBounds_toArray, List.set_cons_zero, List.set_cons_succ]
        refine wpAnyH_done (by kernel_rfl) ?_ _
        refine NoPanic.normal ?_
        have c5 : (w3.setCell ⟨gb, s.at_ k * 2, none⟩ (.slice a3 n3 p3)).cell? ⟨gb, s.at_ k * 2 + 1, none⟩ = some (ov' (s.at_ k)) := by
          rw [World.cell?_setCell_other _ _ _ _ (fun e => by have := congrArg Addr.off e; simp only at this; omega), cell_blk HS5.out.hg]
          simpa using two_get1 kv' ov' (s.at_ k) s.n hat
        have f6 : (w3.setCell ⟨gb, s.at_ k * 2, none⟩ (.slice a3 n3 p3)).frozen? ⟨gb, s.at_ k * 2 + 1, none⟩ = false := by simpa using f5
        clear c4 f4 f5
        go_wp2
        go_roundw
        case rel => exact ⟨k + 1, _, _, by omega, by go_num, HF.out⟩
        case measure => simp [intOf]; omega
    · have hkm : k = m := by omega
      subst hkm
      have f1 : wr.frozen? ⟨p, 1, none⟩ = false := frz_blk hS.hp
      have c1 : wr.cell? ⟨p, 1, none⟩ = some (.slice A k C) := cell_blk hS.hp
      rw [← HM.out] at HS2
      have HF := hide (SW.done (by rw [HM.out]; exact HD.out) HS2.out)
      clear hS
      go_wp2
      go_end0
      exact ⟨rfl, HF.out⟩
end Go.Proofs.Ytnapapgmeghgjaa
