/- Contract of Flip. -/
import Derived.Test.YtnapapgmeghgjaaJ2
set_option linter.unusedVariables false
namespace Go.Proofs.Ytnapapgmeghgjaa
open Go.RowKit

set_option maxRecDepth 100000 in
set_option maxHeartbeats 4000000 in
theorem flip_ok [Gd] (B p : Nat) (s : DS) (a bit : Nat) (w : World) (h : DI B p s w) (hB : B ≤ w.heap.size) (ha : a < s.n) (hbit : bit < 65536) :
    Calls Try.prog 21 #[.pointer (some ⟨p, 0, none⟩), .int .i64 a, .int .i64 bit] w fun e w' => e = .returned (.int .i64 0) ∧ DI B p (s.flip a bit) w' ∧ Fr B w w' := by
  have HC := hide (has_any B p s a w h)
  rw [decide_eq_true (by omega : (0 : Int) ≤ (a : Int) ∧ (a : Int) < s.n)] at HC
  obtain ⟨gb, vo, kv, ov, wv, D⟩ := h
  have c0 := D.c0
  have hn2 := D.ok.n2
  have hmm := D.ok.mm
  have g0 : w.cell? ⟨gb, a * 2, none⟩ = some (kv a) := by
    rw [cell_blk D.hg]
    simpa using two_get0 kv ov a s.n ha
  have OK := D.hk a ha
  obtain ⟨a1, p1, e1⟩ := own_slice OK
  rw [e1] at g0 OK
  obtain ⟨_, _, e9, BK⟩ := bs_row OK (by have := D.ok.kl a; unfold blk at this; omega) (D.ok.kb a)
  simp only [Value.slice.injEq, true_and] at e9
  obtain ⟨rfl, rfl⟩ := e9
  have HBK := hide BK
  have HKL := hide (D.ok.kl a)
  have HD := hide D
  have HOK := hide D.ok
  have d1 : decide ((bit : Int) < 0) = false := decide_eq_false (by omega)
  have d2 : decide ((65536 : Int) ≤ (bit : Int)) = false := decide_eq_false (by omega)
  have i1 : (0 : Int) ≤ (a : Int) := by omega
  have i2 : (a : Int) < ((s.n : Nat) : Int) := by omega
  have HTK := hide (And.intro (turnL_len (s.K a) bit) (And.intro (turnN_le HKL.out hbit) (turnL_lt (bit := bit) (HOK.out.kb a))))
  clear D OK BK e1
  generalize hkn : (s.K a).length = n1 at *
  go_enter Try.func21, Try.ntmps21
  go_wp2_with fail
  refine HC.out.mono ?_
  rintro e w0 ⟨rfl, rfl⟩
  go_wp2_with fail
  refine (turned_any _ n1 _ (s.K a) bit _ HBK.out HKL.out hbit).mono ?_
  rintro e w1 ⟨rfl, ho1, hb1⟩
  have HB1 := hide hb1
  have HO1 := hide (own_base ho1 hB)
  have HD1 := hide (HD.out.later hb1)
  have HS1 := hide (HD1.out.setKp ha (by rw [HTK.out.1]; exact HO1.out) (by rw [HTK.out.1]; exact HTK.out.2.1) HTK.out.2.2 (fun j hj e => by have e7 : w0.heap.size = j := Option.some.inj e; obtain ⟨cs, e6⟩ := (HD.out.h8 j hj).1; have := (Array.getElem?_eq_some_iff.1 e6).1; omega))
  have g1 : w1.cell? ⟨gb, a * 2, none⟩ = some _ := (hb1.cell (cell_lt g0)).trans g0
  have f1 : w1.frozen? ⟨gb, a * 2, none⟩ = false := frz_blk HD1.out.hg
  have g2 : (w1.setCell ⟨gb, a * 2, none⟩ (.slice (some ⟨w0.heap.size, 0, none⟩) (turnN (s.K a) bit) (turnN (s.K a) bit))).cell? ⟨gb, a * 2 + 1, none⟩ = some (ov a) := by
    rw [cell_blk HS1.out.1.hg]
    simpa using two_get1 (upd kv a _) ov a _ (by rw [setKp_n]; exact ha)
  obtain ⟨a2, p2, e2⟩ := own_slice (HD.out.ho a ha)
  rw [e2] at g2
  have HE2 := hide e2
  have HF1 := hide ((Fr.of hb1 hB).trans HS1.out.2)
  have HDS := hide HS1.out.1
  have HIL := idx_len s a
  have HTN := hide HTK.out.2.1
  clear ho1 hb1 g0 c0 e2 HS1 HD1 HO1 HBK
  generalize turnN (s.K a) bit = tn at *
  generalize hs1 : s.setKp a (turnL (s.K a) bit) = s1 at HDS
  have HS1 := hide hs1
  clear hs1
  go_wp2_with fail
  generalize hL : (s.idx a).length = L at *
  have HL := hide hL
  clear hL g1 f1 g2
  go_loopw [42] (fun i wr => ∃ (t : Nat) (kv' wv' : Nat → Value), t ≤ L ∧ i = .int .i64 t ∧ DV B p gb vo kv' ov wv' (s1.flipF bit ((s.idx a).take t)) wr ∧ Fr B w0 wr) (fun i _ => L - (intOf i).toNat)
  case atStart => exact ⟨0, _, _, by omega, rfl, HDS.out, HF1.out⟩
  case round =>
    obtain ⟨t, kv', wv', ht, rfl, hD, hF⟩ := hrel
    have HDt := hide hD
    have HFt := hide hF
    clear hD hF HDS HF1
    by_cases hlt : t < L
    · obtain ⟨i, hi⟩ : ∃ i, (s.idx a).getD t 0 = i := ⟨_, rfl⟩
      have htl : t < (s.idx a).length := by rw [HL.out]; exact hlt
      have hmem : i ∈ s.idx a := by
        rw [← hi, List.getD_eq_getElem?_getD, List.getElem?_eq_getElem htl]
        exact List.getElem_mem htl
      obtain ⟨him, hat⟩ := idx_mem hmem
      have hs1i : ∀ b, s1.idx b = s.idx b := fun b => by rw [← HS1.out]; rfl
      have hs1m : s1.m = s.m := by rw [← HS1.out]; rfl
      have hs1n : s1.n = s.n := by rw [← HS1.out]; exact setKp_n s a _
      obtain ⟨fm, fn, fi⟩ := flipF_m bit ((s.idx a).take t) s1
      obtain ⟨st, hst⟩ : ∃ st, st = s1.flipF bit ((s.idx a).take t) := ⟨_, rfl⟩
      rw [← hst] at HDt fm fn fi
      have hrow := HDt.out.ho a (by rw [fn, hs1n]; exact ha)
      rw [fi, hs1i, HE2.out] at hrow
      rw [HL.out] at hrow
      obtain ⟨g2, rfl, hg2, cur2, hgc2⟩ := own_place hrow (by omega)
      have r2 := hrow.cellAt t (by omega)
      rw [icells_get htl, hi] at r2
      have hstm : i < st.m := by rw [fm, hs1m]; exact him
      obtain ⟨A, C, hvo, hmc, hcm, _⟩ := HDt.out.form
      subst hvo
      have hw := HDt.out.hw
      obtain ⟨g, rfl, hgl, cur, hgc⟩ := own_place hw (by omega)
      have r1 := hw.cellAt (i * 2 + 1) (by omega)
      rw [two_get1 _ _ _ _ hstm] at r1
      have OB := HDt.out.hb i hstm
      obtain ⟨va, vc, ev⟩ := own_slice OB
      rw [ev] at r1 OB
      have HVL := hide (HDt.out.ok.bl i)
      have HVB := hide (HDt.out.ok.bb i)
      obtain ⟨_, _, e9, BB⟩ := bs_row OB (by have := HVL.out; unfold blk at this; omega) HVB.out
      simp only [Value.slice.injEq, true_and] at e9
      obtain ⟨rfl, rfl⟩ := e9
      have HBB := hide BB
      have HCB : Hid (wr.drew.cell? ⟨g, i * 2 + 1, none⟩ = some (.slice va (st.by_ i).length vc)) := r1
      have HX1 : Hid (wr.drew.cell? ⟨p, 1, none⟩ = some (.slice (some ⟨g, 0, none⟩) st.m C)) := HDt.out.c1
      have HBZ : Hid (B ≤ wr.heap.size) := Nat.le_trans hB HFt.out.bel.size
      have HIM := hide hstm
      have HTT := hide (And.intro (turnL_len (st.by_ i) bit) (And.intro (turnN_le HVL.out hbit) (turnL_lt (bit := bit) HVB.out)))
      have HNX : Hid (st.setBy i (turnL (st.by_ i) bit) = s1.flipF bit ((s.idx a).take (t + 1))) := by
        show _ = _
        have e8 : (s.idx a).take (t + 1) = (s.idx a).take t ++ [i] := by
          rw [List.take_add_one, ← hi]
          simp [List.getD_eq_getElem?_getD, htl]
        rw [e8, flipF_snoc, hst]
      have t0 : (0 : Int) ≤ (t : Int) := by omega
      have t1 : (t : Int) < (L : Int) := by omega
      have x0 : (0 : Int) ≤ (i : Int) := by omega
      have x1 : (i : Int) < ((st.m : Nat) : Int) := by omega
      have mst : st.m ≤ 100000 := HDt.out.ok.mm
      have w9 : IntKind.i64.wrap (i : Int) = (i : Int) := by rw [IntKind.wrap_i64]; omega
      clear hi htl hmem him hat hs1i hs1m hs1n fm fn fi hst hrow hw r1 OB ev BB hgc hgc2 hgl
      generalize hvl : (st.by_ i).length = vl at *
      generalize hsm : st.m = sm at *
      have HSM := hide hsm
      clear hvl hsm
      go_wp2_with fail
      refine wp_region_noPanic ?_
      refine wp_region_held_drew (S := fun wx => wx.cell? ⟨p, 1, none⟩ = some (.slice (some ⟨g, 0, none⟩) sm C)) (by kernel_rfl) HX1.out (fun hHeld => ?_)
      refine wpAnyH_takeAt (i := 0) (d := 46) (v := ?vf0) (by kernel_rfl) (by kernel_rfl) (by kernel_rfl) (by kernel_rfl) (fun _ _ _ h => h) ?hyf0 (by assumption) ?restf0
      case hyf0 =>
        intro oi ho
        simp only [List.getElem?_toArray, List.getElem?_cons_zero, Option.some.injEq] at ho
        subst ho
        refine Or.inl ⟨by rfl, ?_⟩
        intro wx hSw
        try dsimp only at hSw
        go_simp
        try rfl
      try simp only [Act.put, List.setIfInBounds_toArray, List.set_cons_zero, List.set_cons_succ]
      refine wpAnyH_takeAt (i := 1) (d := 47) (v := ?vf1) (by kernel_rfl) (by kernel_rfl) (by kernel_rfl) (by kernel_rfl) (fun _ _ _ h => h) ?hyf1 (by assumption) ?restf1
      case hyf1 =>
        intro oi ho
        simp only [List.getElem?_toArray, List.getElem?_cons_succ, List.getElem?_cons_zero, Option.some.injEq] at ho
        subst ho
        refine Or.inl ⟨by rfl, ?_⟩
        intro wx hSw
        try dsimp only at hSw
        go_simp
        try rfl
      try simp only [Act.put, List.setIfInBounds_toArray, List.set_cons_zero, List.set_cons_succ]
      refine wpAnyH_takeAt (i := 2) (d := 48) (v := ?vf2) (by kernel_rfl) (by kernel_rfl) (by kernel_rfl) (by kernel_rfl) (fun _ _ _ h => h) ?hyf2 (by assumption) ?restf2
      case hyf2 =>
        intro oi ho
        simp only [List.getElem?_toArray, List.getElem?_cons_succ, List.getElem?_cons_zero, Option.some.injEq] at ho
        subst ho
        refine Or.inl ⟨by rfl, ?_⟩
        intro wx hSw
        try dsimp only at hSw
        go_simp
        try rfl
      try simp only [Act.put, List.setIfInBounds_toArray, List.set_cons_zero, List.set_cons_succ]
      refine wpAnyH_takeAt (i := 3) (d := 49) (v := ?vf3) (by kernel_rfl) (by kernel_rfl) (by kernel_rfl) (by kernel_rfl) (fun _ _ _ h => h) ?hyf3 (by assumption) ?restf3
      case hyf3 =>
        intro oi ho
        simp only [List.getElem?_toArray, List.getElem?_cons_succ, List.getElem?_cons_zero, Option.some.injEq] at ho
        subst ho
        refine Or.inl ⟨by rfl, ?_⟩
        intro wx hSw
        try dsimp only at hSw
        go_simp
        try rfl
      try simp only [Act.put, List.setIfInBounds_toArray, List.set_cons_zero, List.set_cons_succ]
      refine wpAnyH_takeAt (i := 4) (d := 50) (v := ?vf4) (by kernel_rfl) (by kernel_rfl) (by kernel_rfl) (by kernel_rfl) (fun _ _ _ h => h) ?hyf4 (by assumption) ?restf4
      case hyf4 =>
        intro oi ho
        simp only [List.getElem?_toArray, List.getElem?_cons_succ, List.getElem?_cons_zero, Option.some.injEq] at ho
        subst ho
        refine Or.inl ⟨by rfl, ?_⟩
        intro wx hSw
        try dsimp only at hSw
        go_simp
        try rfl
      try simp only [Act.put, List.setIfInBounds_toArray, List.set_cons_zero, List.set_cons_succ]
      refine wpAnyH_takeAt (i := 5) (d := 51) (v := ?vf5) (by kernel_rfl) (by kernel_rfl) (by kernel_rfl) (by kernel_rfl) (fun _ _ _ h => h) ?hyf5 (by assumption) ?restf5
      case hyf5 =>
        intro oi ho
        simp only [List.getElem?_toArray, List.getElem?_cons_succ, List.getElem?_cons_zero, Option.some.injEq] at ho
        subst ho
        refine Or.inl ⟨by rfl, ?_⟩
        intro wx hSw
        try dsimp only at hSw
        go_simp
        try rfl
      try simp only [Act.put, List.setIfInBounds_toArray, List.set_cons_zero, List.set_cons_succ]
      refine wpAnyH_takeAt (i := 6) (d := 52) (v := ?vf6) (by kernel_rfl) (by kernel_rfl) (by kernel_rfl) (by kernel_rfl) (fun _ _ _ h => h) ?hyf6 (by assumption) ?restf6
      case hyf6 =>
        intro oi ho
        simp only [List.getElem?_toArray, List.getElem?_cons_succ, List.getElem?_cons_zero, Option.some.injEq] at ho
        subst ho
        refine Or.inl ⟨by rfl, ?_⟩
        intro wx hSw
        try dsimp only at hSw
        go_simp
        try rfl
      try simp only [Act.put, List.setIfInBounds_toArray, List.set_cons_zero, List.set_cons_succ]
      refine wpAnyH_takeAt (i := 7) (d := 53) (v := ?vf7) (by kernel_rfl) (by kernel_rfl) (by kernel_rfl) (by kernel_rfl) (fun _ _ _ h => h) ?hyf7 (by assumption) ?restf7
      case hyf7 =>
        intro oi ho
        simp only [List.getElem?_toArray, List.getElem?_cons_succ, List.getElem?_cons_zero, Option.some.injEq] at ho
        subst ho
        refine Or.inl ⟨by rfl, ?_⟩
        intro wx hSw
        try dsimp only at hSw
        go_simp
        try rfl
      try simp only [Act.put, List.setIfInBounds_toArray, List.set_cons_zero, List.set_cons_succ]
      refine wpAnyH_takeAt (i := 8) (d := 54) (v := ?vf8) (by kernel_rfl) (by kernel_rfl) (by kernel_rfl) (by kernel_rfl) (fun _ _ _ h => h) ?hyf8 (by assumption) ?restf8
      case hyf8 =>
        intro oi ho
        simp only [List.getElem?_toArray, List.getElem?_cons_succ, List.getElem?_cons_zero, Option.some.injEq] at ho
        subst ho
        refine Or.inl ⟨by rfl, ?_⟩
        intro wx hSw
        try dsimp only at hSw
        go_simp
        try rfl
      try simp only [Act.put, List.setIfInBounds_toArray, List.set_cons_zero, List.set_cons_succ]
      refine wpAnyH_takeAt (i := 9) (d := 55) (v := ?vf9) (by kernel_rfl) (by kernel_rfl) (by kernel_rfl) (by kernel_rfl) (fun _ _ _ h => h) ?hyf9 (by assumption) ?restf9
      case hyf9 =>
        intro oi ho
        simp only [List.getElem?_toArray, List.getElem?_cons_succ, List.getElem?_cons_zero, Option.some.injEq] at ho
        subst ho
        refine Or.inl ⟨by rfl, ?_⟩
        intro wx hSw
        try dsimp only at hSw
        go_simp
        try rfl
      try simp only [Act.put, List.setIfInBounds_toArray, List.set_cons_zero, List.set_cons_succ]
      refine wpAnyH_takeAt (i := 10) (d := 56) (v := ?vf10) (by kernel_rfl) (by kernel_rfl) (by kernel_rfl) (by kernel_rfl) (fun _ _ _ h => h) ?hyf10 (by assumption) ?restf10
      case hyf10 =>
        intro oi ho
        simp only [List.getElem?_toArray, List.getElem?_cons_succ, List.getElem?_cons_zero, Option.some.injEq] at ho
        subst ho
        refine Or.inl ⟨by rfl, ?_⟩
        intro wx hSw
        try dsimp only at hSw
        go_simp
        try rfl
      try simp only [Act.put, List.setIfInBounds_toArray, List.set_cons_zero, List.set_cons_succ]
      refine wpAnyH_takeAt (i := 11) (d := 57) (v := ?vf11) (by kernel_rfl) (by kernel_rfl) (by kernel_rfl) (by kernel_rfl) (fun _ _ _ h => h) ?hyf11 (by assumption) ?restf11
      case hyf11 =>
        intro oi ho
        simp only [List.getElem?_toArray, List.getElem?_cons_succ, List.getElem?_cons_zero, Option.some.injEq] at ho
        subst ho
        refine Or.inl ⟨by rfl, ?_⟩
        intro wx hSw
        try dsimp only at hSw
        go_simp
        try rfl
      try simp only [Act.put, List.setIfInBounds_toArray, List.set_cons_zero, List.set_cons_succ]
      refine wpAnyH_takeAt (i := 13) (d := 59) (v := ?vf13) (by kernel_rfl) (by kernel_rfl) (by kernel_rfl) (by kernel_rfl) (fun _ _ _ h => h) ?hyf13 (by assumption) ?restf13
      case hyf13 =>
        intro oi ho
        simp only [List.getElem?_toArray, List.getElem?_cons_succ, List.getElem?_cons_zero, Option.some.injEq] at ho
        subst ho
        refine Or.inl ⟨by rfl, ?_⟩
        intro wx hSw
        try dsimp only at hSw
        go_simp
        try rfl
      try simp only [Act.put, List.setIfInBounds_toArray, List.set_cons_zero, List.set_cons_succ]
      refine wpAnyH_comesAt (i := 12) (by kernel_rfl) (by kernel_rfl) ?_
      intro o ho K hK
      simp only [List.getElem?_toArray, List.getElem?_cons_succ, List.getElem?_cons_zero, Option.some.injEq] at ho
      subst ho
      have c3 := HCB.out
      go_simp
      clear c3
      refine hK.out _ _ hHeld (fun hHeld => ?_)
      clear hK K
      try simp only [Act.put, List.setIfInBounds_toArray, List.set_cons_zero, List.set_cons_succ]
      refine wpAnyH_comesAt (i := 14) (by kernel_rfl) (by kernel_rfl) ?_
      intro o ho K hK
      simp only [List.getElem?_toArray, List.getElem?_cons_succ, List.getElem?_cons_zero, Option.some.injEq] at ho
      subst ho
      go_simp
      refine (turned_any va vl vc (st.by_ i) bit _ (HBB.out.later (Below.refl wr.heap.size wr).drew (Nat.le_refl _)) HVL.out hbit).mono ?_
      rintro e w2 ⟨rfl, ho2, hb2⟩
      have HBE := hide ((Below.refl wr.heap.size wr).drew.trans hb2)
      have HD2 := hide (HDt.out.later HBE.out)
      have HO2 : Hid (w2.ownsRow B 5 1 (.slice (some ⟨wr.heap.size, 0, none⟩) (turnN (st.by_ i) bit) (turnN (st.by_ i) bit)) (turnL (st.by_ i) bit).length (cellsOf (turnL (st.by_ i) bit))) := by
        show World.ownsRow _ _ _ _ _ _ _
        rw [HTT.out.1]
        exact own_base ho2 HBZ.out
      have HS2 := hide (HD2.out.setBy (by rw [HSM.out]; exact HIM.out) (by rw [HSM.out]) HO2.out (by rw [HTT.out.1]; exact HTT.out.2.1) HTT.out.2.2 (fun j hj e => by have e7 : wr.heap.size = j := Option.some.inj e; obtain ⟨cs, e6⟩ := (HDt.out.h8 j hj).1; have := (Array.getElem?_eq_some_iff.1 e6).1; omega))
      have c4 : w2.cell? ⟨g, i * 2 + 1, none⟩ = some (.slice va vl vc) := (HBE.out.cell (cell_lt (w := wr) HCB.out)).trans HCB.out
      have hw2 := HD2.out.hw
      rw [HSM.out] at hw2
      have f4 : w2.frozen? ⟨g, i * 2 + 1, none⟩ = false := hw2.frozenAt _
      have HX3 : Hid ((w2.setCell ⟨g, i * 2 + 1, none⟩ (.slice (some ⟨wr.heap.size, 0, none⟩) (turnN (st.by_ i) bit) (turnN (st.by_ i) bit))).cell? ⟨p, 1, none⟩ = some (.slice (some ⟨g, 0, none⟩) sm C)) := HS2.out.1.c1
      clear ho2 hb2 hHeld hw2
      refine hK.out _ _ ((HBE.out.cell (cell_lt (w := wr) HX1.out)).trans HX1.out) (fun hHeld => ?_)
      clear hK K
      try simp only [Act.put, List.setIfInBounds_toArray, List.set_cons_zero, List.set_cons_succ]
      refine wpAnyH_takeAt (i := 15) (d := 61) (v := ?vf15) (by kernel_rfl) (by kernel_rfl) (by kernel_rfl) (by kernel_rfl) (fun _ _ _ h => h) ?hyf15 (by assumption) ?restf15
      case hyf15 =>
        intro oi ho
        simp only [List.getElem?_toArray, List.getElem?_cons_succ, List.getElem?_cons_zero, Option.some.injEq] at ho
        subst ho
        refine Or.inl ⟨by rfl, ?_⟩
        intro wx hSw
        try dsimp only at hSw
        go_simp
        try rfl
      try simp only [Act.put, List.setIfInBounds_toArray, List.set_cons_zero, List.set_cons_succ]
      refine wpAnyH_takeAt (i := 16) (d := 62) (v := ?vf16) (by kernel_rfl) (by kernel_rfl) (by kernel_rfl) (by kernel_rfl) (fun _ _ _ h => h) ?hyf16 (by assumption) ?restf16
      case hyf16 =>
        intro oi ho
        simp only [List.getElem?_toArray, List.getElem?_cons_succ, List.getElem?_cons_zero, Option.some.injEq] at ho
        subst ho
        refine Or.inl ⟨by rfl, ?_⟩
        intro wx hSw
        try dsimp only at hSw
        go_simp
        try rfl
      try simp only [Act.put, List.setIfInBounds_toArray, List.set_cons_zero, List.set_cons_succ]
      refine wpAnyH_comesAt (i := 17) (by kernel_rfl) (by kernel_rfl) ?_
      intro o ho K hK
      simp only [List.getElem?_toArray, List.getElem?_cons_succ, List.getElem?_cons_zero, Option.some.injEq] at ho
      subst ho
      go_simp
      clear hHeld
      refine hK.out _ _ HX3.out (fun hHeld => ?_)
      clear hK K
      try simp only [Act.put, List.setIfInBounds_toArray, List.set_cons_zero, List.set_cons_succ]
      refine wpAnyH_done (by kernel_rfl) ?_ _
      refine NoPanic.normal ?_
      go_wp2
      go_roundw
      case rel =>
        have hfin := HS2.out
        rw [HNX.out] at hfin
        exact ⟨t + 1, _, _, by omega, by go_num, hfin.1, HFt.out.trans ((Fr.of HBE.out HBZ.out).trans hfin.2)⟩
      case measure => simp [intOf]; omega
    · have t1 : ¬ (t : Int) < (L : Int) := by omega
      have htL : (s.idx a).take t = s.idx a := List.take_of_length_le (by rw [HL.out]; omega)
      rw [htL, ← HS1.out] at HDt
      have HFL := hide HDt.out
      go_wp2
      go_ret
      exact ⟨rfl, ⟨_, _, _, _, _, HFL.out⟩, HFt.out⟩
end Go.Proofs.Ytnapapgmeghgjaa
