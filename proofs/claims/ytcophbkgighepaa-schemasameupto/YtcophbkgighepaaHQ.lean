/- The law SchemaSame, walked. -/
import Derived.Test.YtcophbkgighepaaHP
import Derived.Deep.CutRange
set_option linter.unusedVariables false
namespace Go.Proofs.Ytcophbkgighepaa
open Go.RowKit

set_option maxRecDepth 100000 in
set_option maxHeartbeats 32000000 in
theorem schemaSame_walk (s : Sch) (ca : Option Addr) (cl cc : Nat) (xa : Option Addr) (xl xc : Nat) (t : Sch) (da : Option Addr) (dl dc : Nat) (ya : Option Addr) (yl yc : Nat) (a : Option Addr) (n c : Nat) (la : List Val) (b : Option Addr) (m d : Nat) (lb : List Val) (W : World) (hs : SC W ca cl cc xa xl xc s) (ps : SchP s) (ht : SC W da dl dc ya yl yc t) (pt : SchP t) (ha : SV fV 3 W a n c la) (pa : ∀ x ∈ la, ValP x) (hb : SV fV 3 W b m d lb) (pb : ∀ x ∈ lb, ValP x) :
    Calls Try.prog 5 #[.agg #[.string s.nm, .slice ca cl cc, .slice xa xl xc], .agg #[.string t.nm, .slice da dl dc, .slice ya yl yc], .slice a n c, .slice b m d] W fun e W' => e = .returned (.bool true) ∧ Below W.heap.size W W' := by
  have PA : Hid (∀ x ∈ la.take 5, ValP x) := fun x hx => pa x (List.mem_of_mem_take hx)
  have PB : Hid (∀ x ∈ lb.take 5, ValP x) := fun x hx => pb x (List.mem_of_mem_take hx)
  obtain ⟨v0, hv0⟩ : ∃ v0, v0 = (W.alloc (.cells #[.string s.nm, .slice ca cl cc, .slice xa xl xc] 25)).alloc (.cells #[.string t.nm, .slice da dl dc, .slice ya yl yc] 25) := ⟨_, rfl⟩
  obtain ⟨g4, hg4⟩ : ∃ g4, W.heap.size = g4 := ⟨_, rfl⟩
  obtain ⟨g5, hg5⟩ : ∃ g5, g4 + 1 = g5 := ⟨_, rfl⟩
  have hb1 : Below W.heap.size W v0 := by rw [hv0]; exact (below_box W _).trans ((below_box _ _).mono (below_box W _).size)
  have HS0 : Hid (SS W g4 g5 s ca cl cc xa xl xc t da dl dc ya yl yc a n c la b m d lb v0) := by
    refine ⟨?_, ?_, hs.later hb1, ht.later hb1, ha.later hb1, hb.later hb1, hb1⟩
    · rw [hv0, ← hg4]; exact heap_alloc2_old W _ _
    · rw [hv0, ← hg5, ← hg4]; exact heap_alloc2_new W _ _
  have HW0 := hide hv0
  have HG5 := hide hg5
  have HG4 := hide hg4
  clear hs ht ha hb pa pb hb1 hv0 hg5
  go_enter Try.func5, Try.ntmps5
  go_upto_region 1 with fail
  rw [← HW0.out]
  try simp only [HG5.out]
  have y0 : v0.cell? ⟨g4, 0, none⟩ = some (.string s.nm) := cell_blk HS0.out.k4
  have y1 : v0.cell? ⟨g4, 1, none⟩ = some (.slice ca cl cc) := cell_blk HS0.out.k4
  have y2 : v0.cell? ⟨g4, 2, none⟩ = some (.slice xa xl xc) := cell_blk HS0.out.k4
  have HC := hide (copied5 HS0.out.s)
  go_wp2_with fail
  refine HC.out.mono ?_
  rintro e v1 ⟨ea, el, ec, za, zl, zc, rfl, hs, h1, h2, hb⟩
  have HE := hide (encode5 hs)
  clear hs h1 h2 HC y0 y1 y2
  have HS1 := hide (HS0.out.next hb)
  clear hb HS0
  go_wp2_with fail
  refine HE.out.mono ?_
  rintro e v2 ⟨ua, un, uc, rfl, hx, hb⟩
  have HU2 := hide hx
  clear hx HE
  have HS2 := hide (HS1.out.next hb)
  clear hb HS1
  have y0 : v2.cell? ⟨g5, 0, none⟩ = some (.string t.nm) := cell_blk HS2.out.k5
  have y1 : v2.cell? ⟨g5, 1, none⟩ = some (.slice da dl dc) := cell_blk HS2.out.k5
  have y2 : v2.cell? ⟨g5, 2, none⟩ = some (.slice ya yl yc) := cell_blk HS2.out.k5
  have HC := hide (copied5 HS2.out.t)
  go_wp2_with fail
  refine HC.out.mono ?_
  rintro e v3 ⟨ea, el, ec, za, zl, zc, rfl, hs, h1, h2, hb⟩
  have HE := hide (encode5 hs)
  clear hs h1 h2 HC y0 y1 y2
  have HS3 := hide (HS2.out.next hb)
  have HU3 := hide (fun q => (HU2.out q).later hb (Nat.le_refl _))
  clear hb HS2 HU2
  go_wp2_with fail
  refine HE.out.mono ?_
  rintro e v4 ⟨va, vn, vc, rfl, hx, hb⟩
  have HV4 := hide hx
  clear hx HE
  have HS4 := hide (HS3.out.next hb)
  have HU4 := hide (fun q => (HU3.out q).later hb (Nat.le_refl _))
  clear hb HS3 HU3
  have HC := hide (few5 HS4.out.a)
  go_wp2_with fail
  refine HC.out.mono ?_
  rintro e v5 ⟨ea, el, ec, rfl, hs, h1, hb⟩
  have HE := hide (encrow5 hs h1 PA.out)
  clear hs h1 HC
  have HS5 := hide (HS4.out.next hb)
  have HU5 := hide (fun q => (HU4.out q).later hb (Nat.le_refl _))
  have HV5 := hide (fun q => (HV4.out q).later hb (Nat.le_refl _))
  clear hb HS4 HU4 HV4
  go_wp2_with fail
  refine HE.out.mono ?_
  rintro e v6 ⟨pa, pn, pc, rfl, hx, hb⟩
  have HP6 := hide hx
  clear hx HE
  have HS6 := hide (HS5.out.next hb)
  have HU6 := hide (fun q => (HU5.out q).later hb (Nat.le_refl _))
  have HV6 := hide (fun q => (HV5.out q).later hb (Nat.le_refl _))
  clear hb HS5 HU5 HV5
  have HC := hide (few5 HS6.out.b)
  go_wp2_with fail
  refine HC.out.mono ?_
  rintro e v7 ⟨ea, el, ec, rfl, hs, h1, hb⟩
  have HE := hide (encrow5 hs h1 PB.out)
  clear hs h1 HC
  have HS7 := hide (HS6.out.next hb)
  have HU7 := hide (fun q => (HU6.out q).later hb (Nat.le_refl _))
  have HV7 := hide (fun q => (HV6.out q).later hb (Nat.le_refl _))
  have HP7 := hide (fun q => (HP6.out q).later hb (Nat.le_refl _))
  clear hb HS6 HU6 HV6 HP6
  go_wp2_with fail
  refine HE.out.mono ?_
  rintro e v8 ⟨qa, qn, qc, rfl, hx, hb⟩
  have HQ8 := hide hx
  clear hx HE
  have HS8 := hide (HS7.out.next hb)
  have HU8 := hide (fun q => (HU7.out q).later hb (Nat.le_refl _))
  have HV8 := hide (fun q => (HV7.out q).later hb (Nat.le_refl _))
  have HP8 := hide (fun q => (HP7.out q).later hb (Nat.le_refl _))
  clear hb HS7 HU7 HV7 HP7
  have HPQ8 := hide (And.intro HP8.out HQ8.out)
  clear HP8 HQ8
  generalize hz1 : s.t5.err = z1 at *
  generalize hz2 : t.t5.err = z2 at *
  generalize hz3 : rowE (la.take 5) = z3 at *
  generalize hz4 : rowE (lb.take 5) = z4 at *
  have HZ1 := hide hz1
  have HZ2 := hide hz2
  have HZ3 := hide hz3
  have HZ4 := hide hz4
  clear hz1 hz2 hz3 hz4
  go_upto_region 5 with fail
  go_cut [59] from 17 to 111 (fun cz wx => cz = .bool false ∧ SS W g4 g5 s ca cl cc xa xl xc t da dl dc ya yl yc a n c la b m d lb wx ∧ ((z3 = 0 → BS wx pa pn pc (rowB (la.take 5))) ∧ (z4 = 0 → BS wx qa qn qc (rowB (lb.take 5)))))
  case first =>
    cases h1 : s.t5.ok with
    | false =>
      have d1 : (z1 == (0 : Int)) = false := by rw [← HZ1.out]; unfold Sch.err; rw [h1]; rfl
      clear h1
      go_quiet (fail)
      go_wp2
      go_meet
      case rel => exact ⟨rfl, HS8.out.next (below_drw (Below.refl _ _) _), And.intro (fun q => (HPQ8.out.1 q).later (below_drw (Below.refl _ _) _) (Nat.le_refl _)) (fun q => (HPQ8.out.2 q).later (below_drw (Below.refl _ _) _) (Nat.le_refl _))⟩
    | true =>
      have d1 : (z1 == (0 : Int)) = true := by rw [← HZ1.out]; unfold Sch.err; rw [h1]; rfl
      cases h2 : t.t5.ok with
      | false =>
        have d2 : (z2 == (0 : Int)) = false := by rw [← HZ2.out]; unfold Sch.err; rw [h2]; rfl
        clear h1 h2
        go_quiet (fail)
        go_wp2
        go_meet
        case rel => exact ⟨rfl, HS8.out.next (below_drw (Below.refl _ _) _), And.intro (fun q => (HPQ8.out.1 q).later (below_drw (Below.refl _ _) _) (Nat.le_refl _)) (fun q => (HPQ8.out.2 q).later (below_drw (Below.refl _ _) _) (Nat.le_refl _))⟩
      | true =>
        have d2 : (z2 == (0 : Int)) = true := by rw [← HZ2.out]; unfold Sch.err; rw [h2]; rfl
        have HSM := hide (same_iff h1 h2)
        have HU8 := hide (HU8.out h1)
        have HV8 := hide (HV8.out h2)
        clear h1 h2
        obtain ⟨sx, hsx⟩ : ∃ sx, str (encS s.t5) = sx := ⟨_, rfl⟩
        obtain ⟨sy, hsy⟩ : ∃ sy, str (encS t.t5) = sy := ⟨_, rfl⟩
        rw [hsx, hsy] at HSM
        have HSX := hide hsx
        have HSY := hide hsy
        obtain ⟨sm, hsm⟩ : ∃ sm, s.t5.same t.t5 = sm := ⟨_, rfl⟩
        have HSN := hide hsm
        rw [hsm] at HSM
        have dq := HSM.out
        have dn : (sm != sm) = false := by cases sm <;> rfl
        clear hsx hsy hsm
        have hb : Below v8.heap.size v8 v8.drew := (Below.refl _ _).drew
        have HS9 := hide (HS8.out.next hb)
        have HU9 := hide (HU8.out.later hb (Nat.le_refl _))
        have HV9 := hide (HV8.out.later hb (Nat.le_refl _))
        have HPQ9 := hide (And.intro (fun q => (HPQ8.out.1 q).later hb (Nat.le_refl _)) (fun q => (HPQ8.out.2 q).later hb (Nat.le_refl _)))
        clear hb HS8 HU8 HV8 HPQ8
        have HX0 : Hid ((fun wx => (wx.cell? ⟨g4, 0, none⟩ = some (.string s.nm) ∧ wx.cell? ⟨g4, 1, none⟩ = some (.slice ca cl cc) ∧ wx.cell? ⟨g4, 2, none⟩ = some (.slice xa xl xc)) ∧ (wx.cell? ⟨g5, 0, none⟩ = some (.string t.nm) ∧ wx.cell? ⟨g5, 1, none⟩ = some (.slice da dl dc) ∧ wx.cell? ⟨g5, 2, none⟩ = some (.slice ya yl yc)) ∧ (convert 42 9 (.slice ua un uc)).run Try.prog wx = .ok (.string sx) wx ∧ (convert 42 9 (.slice va vn vc)).run Try.prog wx = .ok (.string sy) wx) v8.drew) := ⟨⟨cell_blk HS9.out.k4, cell_blk HS9.out.k4, cell_blk HS9.out.k4⟩, ⟨cell_blk HS9.out.k5, cell_blk HS9.out.k5, cell_blk HS9.out.k5⟩, by rw [← HSX.out]; exact run_text HU9.out, by rw [← HSY.out]; exact run_text HV9.out⟩
        refine wp_region_noPanic ?_
        refine wp_region_held_drew (S := fun wx => (wx.cell? ⟨g4, 0, none⟩ = some (.string s.nm) ∧ wx.cell? ⟨g4, 1, none⟩ = some (.slice ca cl cc) ∧ wx.cell? ⟨g4, 2, none⟩ = some (.slice xa xl xc)) ∧ (wx.cell? ⟨g5, 0, none⟩ = some (.string t.nm) ∧ wx.cell? ⟨g5, 1, none⟩ = some (.slice da dl dc) ∧ wx.cell? ⟨g5, 2, none⟩ = some (.slice ya yl yc)) ∧ (convert 42 9 (.slice ua un uc)).run Try.prog wx = .ok (.string sx) wx ∧ (convert 42 9 (.slice va vn vc)).run Try.prog wx = .ok (.string sy) wx) (by kernel_rfl) HX0.out (fun hHeld => ?_)
        refine wpAnyH_takeAt (i := 0) (d := 41) (v := ?va0) (by kernel_rfl) (by kernel_rfl) (by kernel_rfl) (by kernel_rfl) (fun _ _ _ h => h) ?hya0 (by assumption) ?resta0
        case hya0 =>
          intro oi ho
          simp only [List.getElem?_toArray, List.getElem?_cons_zero, Option.some.injEq] at ho
          subst ho
          refine Or.inl ⟨by rfl, ?_⟩
          intro wx hSw
          try dsimp only at hSw
          go_simp
          try rfl
        try simp only [Act.put, List.setIfInBounds_toArray, List.set_cons_zero, List.set_cons_succ]
        refine wpAnyH_takeAt (i := 1) (d := 42) (v := ?va1) (by kernel_rfl) (by kernel_rfl) (by kernel_rfl) (by kernel_rfl) (fun _ _ _ h => h) ?hya1 (by assumption) ?resta1
        case hya1 =>
          intro oi ho
          simp only [List.getElem?_toArray, List.getElem?_cons_succ, List.getElem?_cons_zero, Option.some.injEq] at ho
          subst ho
          refine Or.inl ⟨by rfl, ?_⟩
          intro wx hSw
          try dsimp only at hSw
          go_simp
          try rfl
        try simp only [Act.put, List.setIfInBounds_toArray, List.set_cons_zero, List.set_cons_succ]
        refine wpAnyH_takeAt (i := 2) (d := 43) (v := ?va2) (by kernel_rfl) (by kernel_rfl) (by kernel_rfl) (by kernel_rfl) (fun _ _ _ h => h) ?hya2 (by assumption) ?resta2
        case hya2 =>
          intro oi ho
          simp only [List.getElem?_toArray, List.getElem?_cons_succ, List.getElem?_cons_zero, Option.some.injEq] at ho
          subst ho
          refine Or.inl ⟨by rfl, ?_⟩
          intro wx hSw
          try dsimp only at hSw
          go_simp
          try rfl
        try simp only [Act.put, List.setIfInBounds_toArray, List.set_cons_zero, List.set_cons_succ]
        refine wpAnyH_takeAt (i := 3) (d := 44) (v := ?va3) (by kernel_rfl) (by kernel_rfl) (by kernel_rfl) (by kernel_rfl) (fun _ _ _ h => h) ?hya3 (by assumption) ?resta3
        case hya3 =>
          intro oi ho
          simp only [List.getElem?_toArray, List.getElem?_cons_succ, List.getElem?_cons_zero, Option.some.injEq] at ho
          subst ho
          refine Or.inl ⟨by rfl, ?_⟩
          intro wx hSw
          try dsimp only at hSw
          go_simp
          try rfl
        try simp only [Act.put, List.setIfInBounds_toArray, List.set_cons_zero, List.set_cons_succ]
        refine wpAnyH_takeAt (i := 4) (d := 45) (v := ?va4) (by kernel_rfl) (by kernel_rfl) (by kernel_rfl) (by kernel_rfl) (fun _ _ _ h => h) ?hya4 (by assumption) ?resta4
        case hya4 =>
          intro oi ho
          simp only [List.getElem?_toArray, List.getElem?_cons_succ, List.getElem?_cons_zero, Option.some.injEq] at ho
          subst ho
          refine Or.inl ⟨by rfl, ?_⟩
          intro wx hSw
          try dsimp only at hSw
          go_simp
          try rfl
        try simp only [Act.put, List.setIfInBounds_toArray, List.set_cons_zero, List.set_cons_succ]
        refine wpAnyH_takeAt (i := 5) (d := 46) (v := ?va5) (by kernel_rfl) (by kernel_rfl) (by kernel_rfl) (by kernel_rfl) (fun _ _ _ h => h) ?hya5 (by assumption) ?resta5
        case hya5 =>
          intro oi ho
          simp only [List.getElem?_toArray, List.getElem?_cons_succ, List.getElem?_cons_zero, Option.some.injEq] at ho
          subst ho
          refine Or.inl ⟨by rfl, ?_⟩
          intro wx hSw
          try dsimp only at hSw
          go_simp
          try rfl
        try simp only [Act.put, List.setIfInBounds_toArray, List.set_cons_zero, List.set_cons_succ]
        refine wpAnyH_takeAt (i := 6) (d := 47) (v := ?va6) (by kernel_rfl) (by kernel_rfl) (by kernel_rfl) (by kernel_rfl) (fun _ _ _ h => h) ?hya6 (by assumption) ?resta6
        case hya6 =>
          intro oi ho
          simp only [List.getElem?_toArray, List.getElem?_cons_succ, List.getElem?_cons_zero, Option.some.injEq] at ho
          subst ho
          refine Or.inl ⟨by rfl, ?_⟩
          intro wx hSw
          try dsimp only at hSw
          go_simp
          try rfl
        try simp only [Act.put, List.setIfInBounds_toArray, List.set_cons_zero, List.set_cons_succ]
        refine wpAnyH_takeAt (i := 7) (d := 48) (v := ?va7) (by kernel_rfl) (by kernel_rfl) (by kernel_rfl) (by kernel_rfl) (fun _ _ _ h => h) ?hya7 (by assumption) ?resta7
        case hya7 =>
          intro oi ho
          simp only [List.getElem?_toArray, List.getElem?_cons_succ, List.getElem?_cons_zero, Option.some.injEq] at ho
          subst ho
          refine Or.inl ⟨by rfl, ?_⟩
          intro wx hSw
          try dsimp only at hSw
          go_simp
          try rfl
        try simp only [Act.put, List.setIfInBounds_toArray, List.set_cons_zero, List.set_cons_succ]
        refine wpAnyH_takeAt (i := 8) (d := 49) (v := ?va8) (by kernel_rfl) (by kernel_rfl) (by kernel_rfl) (by kernel_rfl) (fun _ _ _ h => h) ?hya8 (by assumption) ?resta8
        case hya8 =>
          intro oi ho
          simp only [List.getElem?_toArray, List.getElem?_cons_succ, List.getElem?_cons_zero, Option.some.injEq] at ho
          subst ho
          refine Or.inl ⟨by rfl, ?_⟩
          intro wx hSw
          try dsimp only at hSw
          go_simp
          try rfl
        try simp only [Act.put, List.setIfInBounds_toArray, List.set_cons_zero, List.set_cons_succ]
        refine wpAnyH_takeAt (i := 9) (d := 50) (v := ?va9) (by kernel_rfl) (by kernel_rfl) (by kernel_rfl) (by kernel_rfl) (fun _ _ _ h => h) ?hya9 (by assumption) ?resta9
        case hya9 =>
          intro oi ho
          simp only [List.getElem?_toArray, List.getElem?_cons_succ, List.getElem?_cons_zero, Option.some.injEq] at ho
          subst ho
          refine Or.inl ⟨by rfl, ?_⟩
          intro wx hSw
          try dsimp only at hSw
          go_simp
          try rfl
        try simp only [Act.put, List.setIfInBounds_toArray, List.set_cons_zero, List.set_cons_succ]
        refine wpAnyH_takeAt (i := 10) (d := 51) (v := ?va10) (by kernel_rfl) (by kernel_rfl) (by kernel_rfl) (by kernel_rfl) (fun _ _ _ h => h) ?hya10 (by assumption) ?resta10
        case hya10 =>
          intro oi ho
          simp only [List.getElem?_toArray, List.getElem?_cons_succ, List.getElem?_cons_zero, Option.some.injEq] at ho
          subst ho
          refine Or.inl ⟨by rfl, ?_⟩
          intro wx hSw
          try dsimp only at hSw
          go_simp
          try rfl
        try simp only [Act.put, List.setIfInBounds_toArray, List.set_cons_zero, List.set_cons_succ]
        refine wpAnyH_takeAt (i := 11) (d := 52) (v := ?va11) (by kernel_rfl) (by kernel_rfl) (by kernel_rfl) (by kernel_rfl) (fun _ _ _ h => h) ?hya11 (by assumption) ?resta11
        case hya11 =>
          intro oi ho
          simp only [List.getElem?_toArray, List.getElem?_cons_succ, List.getElem?_cons_zero, Option.some.injEq] at ho
          subst ho
          refine Or.inl ⟨by rfl, ?_⟩
          intro wx hSw
          try dsimp only at hSw
          go_simp
          try rfl
        try simp only [Act.put, List.setIfInBounds_toArray, List.set_cons_zero, List.set_cons_succ]
        refine wpAnyH_takeAt (i := 12) (d := 53) (v := ?va12) (by kernel_rfl) (by kernel_rfl) (by kernel_rfl) (by kernel_rfl) (fun _ _ _ h => h) ?hya12 (by assumption) ?resta12
        case hya12 =>
          intro oi ho
          simp only [List.getElem?_toArray, List.getElem?_cons_succ, List.getElem?_cons_zero, Option.some.injEq] at ho
          subst ho
          refine Or.inl ⟨by rfl, ?_⟩
          intro wx hSw
          try dsimp only at hSw
          go_simp
          try rfl
        try simp only [Act.put, List.setIfInBounds_toArray, List.set_cons_zero, List.set_cons_succ]
        refine wpAnyH_takeAt (i := 14) (d := 55) (v := ?va14) (by kernel_rfl) (by kernel_rfl) (by kernel_rfl) (by kernel_rfl) (fun _ _ _ h => h) ?hya14 (by assumption) ?resta14
        case hya14 =>
          intro oi ho
          simp only [List.getElem?_toArray, List.getElem?_cons_succ, List.getElem?_cons_zero, Option.some.injEq] at ho
          subst ho
          refine Or.inl ⟨by rfl, ?_⟩
          intro wx hSw
          try dsimp only at hSw
          go_simp
          try rfl
        try simp only [Act.put, List.setIfInBounds_toArray, List.set_cons_zero, List.set_cons_succ]
        refine wpAnyH_comesAt (i := 13) (by kernel_rfl) (by kernel_rfl) ?_
        intro o ho K hK
        simp only [List.getElem?_toArray, List.getElem?_cons_succ, List.getElem?_cons_zero, Option.some.injEq] at ho
        subst ho
        go_simp
        refine (copied5 HS9.out.s).mono ?_
        rintro e v10 ⟨ia, il, ic, ix, iy, iz, rfl, hs, h1, h2, hb⟩
        have Ni10 := hide hs
        have Li := hide (And.intro h1 h2)
        clear hs h1 h2 hHeld
        have HS10 := hide (HS9.out.next hb)
        have HU10 := hide (HU9.out.later hb (Nat.le_refl _))
        have HV10 := hide (HV9.out.later hb (Nat.le_refl _))
        have HPQ10 := hide (And.intro (fun q => (HPQ9.out.1 q).later hb (Nat.le_refl _)) (fun q => (HPQ9.out.2 q).later hb (Nat.le_refl _)))
        clear hb HS9 HU9 HV9 HPQ9
        refine hK.out _ _ ⟨⟨cell_blk HS10.out.k4, cell_blk HS10.out.k4, cell_blk HS10.out.k4⟩, ⟨cell_blk HS10.out.k5, cell_blk HS10.out.k5, cell_blk HS10.out.k5⟩, by rw [← HSX.out]; exact run_text HU10.out, by rw [← HSY.out]; exact run_text HV10.out⟩ (fun hHeld => ?_)
        clear hK K
        try simp only [Act.put, List.setIfInBounds_toArray, List.set_cons_zero, List.set_cons_succ]
        refine wpAnyH_comesAt (i := 15) (by kernel_rfl) (by kernel_rfl) ?_
        intro o ho K hK
        simp only [List.getElem?_toArray, List.getElem?_cons_succ, List.getElem?_cons_zero, Option.some.injEq] at ho
        subst ho
        go_simp
        refine (copied5 HS10.out.t).mono ?_
        rintro e v11 ⟨ja, jl, jc, jx, jy, jz, rfl, hs, h1, h2, hb⟩
        have Nj11 := hide hs
        have Lj := hide (And.intro h1 h2)
        clear hs h1 h2 hHeld
        have HS11 := hide (HS10.out.next hb)
        have HU11 := hide (HU10.out.later hb (Nat.le_refl _))
        have HV11 := hide (HV10.out.later hb (Nat.le_refl _))
        have HPQ11 := hide (And.intro (fun q => (HPQ10.out.1 q).later hb (Nat.le_refl _)) (fun q => (HPQ10.out.2 q).later hb (Nat.le_refl _)))
        have Ni11 := hide (Ni10.out.later hb)
        clear hb HS10 HU10 HV10 HPQ10 Ni10
        refine hK.out _ _ ⟨⟨cell_blk HS11.out.k4, cell_blk HS11.out.k4, cell_blk HS11.out.k4⟩, ⟨cell_blk HS11.out.k5, cell_blk HS11.out.k5, cell_blk HS11.out.k5⟩, by rw [← HSX.out]; exact run_text HU11.out, by rw [← HSY.out]; exact run_text HV11.out⟩ (fun hHeld => ?_)
        clear hK K
        try simp only [Act.put, List.setIfInBounds_toArray, List.set_cons_zero, List.set_cons_succ]
        refine wpAnyH_comesAt (i := 16) (by kernel_rfl) (by kernel_rfl) ?_
        intro o ho K hK
        simp only [List.getElem?_toArray, List.getElem?_cons_succ, List.getElem?_cons_zero, Option.some.injEq] at ho
        subst ho
        go_simp
        refine (ssame_any Ni11.out Nj11.out (by have := Li.out.1; omega) (by have := Li.out.2; omega)).mono ?_
        rintro e v12 ⟨rfl, hb⟩
        rw [HSN.out]
        clear hHeld
        have HS12 := hide (HS11.out.next hb)
        have HU12 := hide (HU11.out.later hb (Nat.le_refl _))
        have HV12 := hide (HV11.out.later hb (Nat.le_refl _))
        have HPQ12 := hide (And.intro (fun q => (HPQ11.out.1 q).later hb (Nat.le_refl _)) (fun q => (HPQ11.out.2 q).later hb (Nat.le_refl _)))
        clear hb HS11 HU11 HV11 HPQ11 Ni11 Nj11
        refine hK.out _ _ ⟨⟨cell_blk HS12.out.k4, cell_blk HS12.out.k4, cell_blk HS12.out.k4⟩, ⟨cell_blk HS12.out.k5, cell_blk HS12.out.k5, cell_blk HS12.out.k5⟩, by rw [← HSX.out]; exact run_text HU12.out, by rw [← HSY.out]; exact run_text HV12.out⟩ (fun hHeld => ?_)
        clear hK K
        try simp only [Act.put, List.setIfInBounds_toArray, List.set_cons_zero, List.set_cons_succ]
        refine wpAnyH_takeAt (i := 17) (d := 58) (v := ?va17) (by kernel_rfl) (by kernel_rfl) (by kernel_rfl) (by kernel_rfl) (fun _ _ _ h => h) ?hya17 (by assumption) ?resta17
        case hya17 =>
          intro oi ho
          simp only [List.getElem?_toArray, List.getElem?_cons_succ, List.getElem?_cons_zero, Option.some.injEq] at ho
          subst ho
          refine Or.inl ⟨by rfl, ?_⟩
          intro wx hSw
          try dsimp only at hSw
          go_simp
          try rfl
        try simp only [Act.put, List.setIfInBounds_toArray, List.set_cons_zero, List.set_cons_succ]
        refine wpAnyH_takeAt (i := 18) (d := 59) (v := ?va18) (by kernel_rfl) (by kernel_rfl) (by kernel_rfl) (by kernel_rfl) (fun _ _ _ h => h) ?hya18 (by assumption) ?resta18
        case hya18 =>
          intro oi ho
          simp only [List.getElem?_toArray, List.getElem?_cons_succ, List.getElem?_cons_zero, Option.some.injEq] at ho
          subst ho
          refine Or.inl ⟨by rfl, ?_⟩
          intro wx hSw
          try dsimp only at hSw
          go_simp
          try rfl
        try simp only [Act.put, List.setIfInBounds_toArray, List.set_cons_zero, List.set_cons_succ]
        refine wpAnyH_done (by kernel_rfl) ?_ _
        refine NoPanic.normal ?_
        clear hHeld
        go_wp2
        go_meet
        case rel => exact ⟨rfl, HS12.out, HPQ12.out⟩
  case rest =>
    obtain ⟨rfl, hs, hpq⟩ := hcut
    obtain ⟨v9, hvw⟩ : ∃ v, v = wc := ⟨_, rfl⟩
    subst hvw
    have HS9 := hide hs
    have HPQ9 := hide hpq
    clear hs hpq
    go_upto_region 7 with fail
    go_cut [78] from 17 to 111 (fun cz wx => cz = .bool false ∧ SS W g4 g5 s ca cl cc xa xl xc t da dl dc ya yl yc a n c la b m d lb wx)
    case first =>
      by_cases h1 : z3 = 0
      · have d1 : (z3 == (0 : Int)) = true := by simp [h1]
        by_cases h2 : z4 = 0
        · have d2 : (z4 == (0 : Int)) = true := by simp [h2]
          have HSM := hide (samerow_iff (HZ3.out.trans h1) (HZ4.out.trans h2) PA.out PB.out)
          have HP9 := hide (HPQ9.out.1 h1)
          have HQ9 := hide (HPQ9.out.2 h2)
          clear h1 h2
          obtain ⟨sx, hsx⟩ : ∃ sx, str (rowB (la.take 5)) = sx := ⟨_, rfl⟩
          obtain ⟨sy, hsy⟩ : ∃ sy, str (rowB (lb.take 5)) = sy := ⟨_, rfl⟩
          rw [hsx, hsy] at HSM
          have HSX := hide hsx
          have HSY := hide hsy
          obtain ⟨sm, hsm⟩ : ∃ sm, decide (la.take 5 = lb.take 5) = sm := ⟨_, rfl⟩
          have HSN := hide hsm
          rw [hsm] at HSM
          have dq := HSM.out
          have dn : (sm != sm) = false := by cases sm <;> rfl
          clear hsx hsy hsm
          have hb : Below v9.heap.size v9 v9.drew := (Below.refl _ _).drew
          have HS10 := hide (HS9.out.next hb)
          have HP10 := hide (HP9.out.later hb (Nat.le_refl _))
          have HQ10 := hide (HQ9.out.later hb (Nat.le_refl _))
          clear hb HS9 HP9 HQ9
          have HX0 : Hid ((fun wx => (convert 42 9 (.slice pa pn pc)).run Try.prog wx = .ok (.string sx) wx ∧ (convert 42 9 (.slice qa qn qc)).run Try.prog wx = .ok (.string sy) wx) v9.drew) := ⟨by rw [← HSX.out]; exact run_text HP10.out, by rw [← HSY.out]; exact run_text HQ10.out⟩
          refine wp_region_noPanic ?_
          refine wp_region_held_drew (S := fun wx => (convert 42 9 (.slice pa pn pc)).run Try.prog wx = .ok (.string sx) wx ∧ (convert 42 9 (.slice qa qn qc)).run Try.prog wx = .ok (.string sy) wx) (by kernel_rfl) HX0.out (fun hHeld => ?_)
          refine wpAnyH_takeAt (i := 0) (d := 60) (v := ?vb0) (by kernel_rfl) (by kernel_rfl) (by kernel_rfl) (by kernel_rfl) (fun _ _ _ h => h) ?hyb0 (by assumption) ?restb0
          case hyb0 =>
            intro oi ho
            simp only [List.getElem?_toArray, List.getElem?_cons_zero, Option.some.injEq] at ho
            subst ho
            refine Or.inl ⟨by rfl, ?_⟩
            intro wx hSw
            try dsimp only at hSw
            go_simp
            try rfl
          try simp only [Act.put, List.setIfInBounds_toArray, List.set_cons_zero, List.set_cons_succ]
          refine wpAnyH_takeAt (i := 1) (d := 61) (v := ?vb1) (by kernel_rfl) (by kernel_rfl) (by kernel_rfl) (by kernel_rfl) (fun _ _ _ h => h) ?hyb1 (by assumption) ?restb1
          case hyb1 =>
            intro oi ho
            simp only [List.getElem?_toArray, List.getElem?_cons_succ, List.getElem?_cons_zero, Option.some.injEq] at ho
            subst ho
            refine Or.inl ⟨by rfl, ?_⟩
            intro wx hSw
            try dsimp only at hSw
            go_simp
            try rfl
          try simp only [Act.put, List.setIfInBounds_toArray, List.set_cons_zero, List.set_cons_succ]
          refine wpAnyH_takeAt (i := 2) (d := 62) (v := ?vb2) (by kernel_rfl) (by kernel_rfl) (by kernel_rfl) (by kernel_rfl) (fun _ _ _ h => h) ?hyb2 (by assumption) ?restb2
          case hyb2 =>
            intro oi ho
            simp only [List.getElem?_toArray, List.getElem?_cons_succ, List.getElem?_cons_zero, Option.some.injEq] at ho
            subst ho
            refine Or.inl ⟨by rfl, ?_⟩
            intro wx hSw
            try dsimp only at hSw
            go_simp
            try rfl
          try simp only [Act.put, List.setIfInBounds_toArray, List.set_cons_zero, List.set_cons_succ]
          refine wpAnyH_takeAt (i := 3) (d := 63) (v := ?vb3) (by kernel_rfl) (by kernel_rfl) (by kernel_rfl) (by kernel_rfl) (fun _ _ _ h => h) ?hyb3 (by assumption) ?restb3
          case hyb3 =>
            intro oi ho
            simp only [List.getElem?_toArray, List.getElem?_cons_succ, List.getElem?_cons_zero, Option.some.injEq] at ho
            subst ho
            refine Or.inl ⟨by rfl, ?_⟩
            intro wx hSw
            try dsimp only at hSw
            go_simp
            try rfl
          try simp only [Act.put, List.setIfInBounds_toArray, List.set_cons_zero, List.set_cons_succ]
          refine wpAnyH_takeAt (i := 4) (d := 64) (v := ?vb4) (by kernel_rfl) (by kernel_rfl) (by kernel_rfl) (by kernel_rfl) (fun _ _ _ h => h) ?hyb4 (by assumption) ?restb4
          case hyb4 =>
            intro oi ho
            simp only [List.getElem?_toArray, List.getElem?_cons_succ, List.getElem?_cons_zero, Option.some.injEq] at ho
            subst ho
            refine Or.inl ⟨by rfl, ?_⟩
            intro wx hSw
            try dsimp only at hSw
            go_simp
            try rfl
          try simp only [Act.put, List.setIfInBounds_toArray, List.set_cons_zero, List.set_cons_succ]
          refine wpAnyH_takeAt (i := 5) (d := 65) (v := ?vb5) (by kernel_rfl) (by kernel_rfl) (by kernel_rfl) (by kernel_rfl) (fun _ _ _ h => h) ?hyb5 (by assumption) ?restb5
          case hyb5 =>
            intro oi ho
            simp only [List.getElem?_toArray, List.getElem?_cons_succ, List.getElem?_cons_zero, Option.some.injEq] at ho
            subst ho
            refine Or.inl ⟨by rfl, ?_⟩
            intro wx hSw
            try dsimp only at hSw
            go_simp
            try rfl
          try simp only [Act.put, List.setIfInBounds_toArray, List.set_cons_zero, List.set_cons_succ]
          refine wpAnyH_takeAt (i := 6) (d := 66) (v := ?vb6) (by kernel_rfl) (by kernel_rfl) (by kernel_rfl) (by kernel_rfl) (fun _ _ _ h => h) ?hyb6 (by assumption) ?restb6
          case hyb6 =>
            intro oi ho
            simp only [List.getElem?_toArray, List.getElem?_cons_succ, List.getElem?_cons_zero, Option.some.injEq] at ho
            subst ho
            refine Or.inl ⟨by rfl, ?_⟩
            intro wx hSw
            try dsimp only at hSw
            go_simp
            try rfl
          try simp only [Act.put, List.setIfInBounds_toArray, List.set_cons_zero, List.set_cons_succ]
          refine wpAnyH_takeAt (i := 7) (d := 67) (v := ?vb7) (by kernel_rfl) (by kernel_rfl) (by kernel_rfl) (by kernel_rfl) (fun _ _ _ h => h) ?hyb7 (by assumption) ?restb7
          case hyb7 =>
            intro oi ho
            simp only [List.getElem?_toArray, List.getElem?_cons_succ, List.getElem?_cons_zero, Option.some.injEq] at ho
            subst ho
            refine Or.inl ⟨by rfl, ?_⟩
            intro wx hSw
            try dsimp only at hSw
            go_simp
            try rfl
          try simp only [Act.put, List.setIfInBounds_toArray, List.set_cons_zero, List.set_cons_succ]
          refine wpAnyH_takeAt (i := 8) (d := 68) (v := ?vb8) (by kernel_rfl) (by kernel_rfl) (by kernel_rfl) (by kernel_rfl) (fun _ _ _ h => h) ?hyb8 (by assumption) ?restb8
          case hyb8 =>
            intro oi ho
            simp only [List.getElem?_toArray, List.getElem?_cons_succ, List.getElem?_cons_zero, Option.some.injEq] at ho
            subst ho
            refine Or.inl ⟨by rfl, ?_⟩
            intro wx hSw
            try dsimp only at hSw
            go_simp
            try rfl
          try simp only [Act.put, List.setIfInBounds_toArray, List.set_cons_zero, List.set_cons_succ]
          refine wpAnyH_takeAt (i := 9) (d := 69) (v := ?vb9) (by kernel_rfl) (by kernel_rfl) (by kernel_rfl) (by kernel_rfl) (fun _ _ _ h => h) ?hyb9 (by assumption) ?restb9
          case hyb9 =>
            intro oi ho
            simp only [List.getElem?_toArray, List.getElem?_cons_succ, List.getElem?_cons_zero, Option.some.injEq] at ho
            subst ho
            refine Or.inl ⟨by rfl, ?_⟩
            intro wx hSw
            try dsimp only at hSw
            go_simp
            try rfl
          try simp only [Act.put, List.setIfInBounds_toArray, List.set_cons_zero, List.set_cons_succ]
          refine wpAnyH_takeAt (i := 10) (d := 70) (v := ?vb10) (by kernel_rfl) (by kernel_rfl) (by kernel_rfl) (by kernel_rfl) (fun _ _ _ h => h) ?hyb10 (by assumption) ?restb10
          case hyb10 =>
            intro oi ho
            simp only [List.getElem?_toArray, List.getElem?_cons_succ, List.getElem?_cons_zero, Option.some.injEq] at ho
            subst ho
            refine Or.inl ⟨by rfl, ?_⟩
            intro wx hSw
            try dsimp only at hSw
            go_simp
            try rfl
          try simp only [Act.put, List.setIfInBounds_toArray, List.set_cons_zero, List.set_cons_succ]
          refine wpAnyH_takeAt (i := 11) (d := 71) (v := ?vb11) (by kernel_rfl) (by kernel_rfl) (by kernel_rfl) (by kernel_rfl) (fun _ _ _ h => h) ?hyb11 (by assumption) ?restb11
          case hyb11 =>
            intro oi ho
            simp only [List.getElem?_toArray, List.getElem?_cons_succ, List.getElem?_cons_zero, Option.some.injEq] at ho
            subst ho
            refine Or.inl ⟨by rfl, ?_⟩
            intro wx hSw
            try dsimp only at hSw
            go_simp
            try rfl
          try simp only [Act.put, List.setIfInBounds_toArray, List.set_cons_zero, List.set_cons_succ]
          refine wpAnyH_takeAt (i := 12) (d := 72) (v := ?vb12) (by kernel_rfl) (by kernel_rfl) (by kernel_rfl) (by kernel_rfl) (fun _ _ _ h => h) ?hyb12 (by assumption) ?restb12
          case hyb12 =>
            intro oi ho
            simp only [List.getElem?_toArray, List.getElem?_cons_succ, List.getElem?_cons_zero, Option.some.injEq] at ho
            subst ho
            refine Or.inl ⟨by rfl, ?_⟩
            intro wx hSw
            try dsimp only at hSw
            go_simp
            try rfl
          try simp only [Act.put, List.setIfInBounds_toArray, List.set_cons_zero, List.set_cons_succ]
          refine wpAnyH_takeAt (i := 14) (d := 74) (v := ?vb14) (by kernel_rfl) (by kernel_rfl) (by kernel_rfl) (by kernel_rfl) (fun _ _ _ h => h) ?hyb14 (by assumption) ?restb14
          case hyb14 =>
            intro oi ho
            simp only [List.getElem?_toArray, List.getElem?_cons_succ, List.getElem?_cons_zero, Option.some.injEq] at ho
            subst ho
            refine Or.inl ⟨by rfl, ?_⟩
            intro wx hSw
            try dsimp only at hSw
            go_simp
            try rfl
          try simp only [Act.put, List.setIfInBounds_toArray, List.set_cons_zero, List.set_cons_succ]
          refine wpAnyH_comesAt (i := 13) (by kernel_rfl) (by kernel_rfl) ?_
          intro o ho K hK
          simp only [List.getElem?_toArray, List.getElem?_cons_succ, List.getElem?_cons_zero, Option.some.injEq] at ho
          subst ho
          go_simp
          refine (few5 HS10.out.a).mono ?_
          rintro e v11 ⟨ia, il, ic, rfl, hs, h1, hb⟩
          have Ni11 := hide hs
          have Li := hide h1
          clear hs h1 hHeld
          have HS11 := hide (HS10.out.next hb)
          have HP11 := hide (HP10.out.later hb (Nat.le_refl _))
          have HQ11 := hide (HQ10.out.later hb (Nat.le_refl _))
          clear hb HS10 HP10 HQ10
          refine hK.out _ _ ⟨by rw [← HSX.out]; exact run_text HP11.out, by rw [← HSY.out]; exact run_text HQ11.out⟩ (fun hHeld => ?_)
          clear hK K
          try simp only [Act.put, List.setIfInBounds_toArray, List.set_cons_zero, List.set_cons_succ]
          refine wpAnyH_comesAt (i := 15) (by kernel_rfl) (by kernel_rfl) ?_
          intro o ho K hK
          simp only [List.getElem?_toArray, List.getElem?_cons_succ, List.getElem?_cons_zero, Option.some.injEq] at ho
          subst ho
          go_simp
          refine (few5 HS11.out.b).mono ?_
          rintro e v12 ⟨ja, jl, jc, rfl, hs, h1, hb⟩
          have Nj12 := hide hs
          have Lj := hide h1
          clear hs h1 hHeld
          have HS12 := hide (HS11.out.next hb)
          have HP12 := hide (HP11.out.later hb (Nat.le_refl _))
          have HQ12 := hide (HQ11.out.later hb (Nat.le_refl _))
          have Ni12 := hide (Ni11.out.later hb)
          clear hb HS11 HP11 HQ11 Ni11
          refine hK.out _ _ ⟨by rw [← HSX.out]; exact run_text HP12.out, by rw [← HSY.out]; exact run_text HQ12.out⟩ (fun hHeld => ?_)
          clear hK K
          try simp only [Act.put, List.setIfInBounds_toArray, List.set_cons_zero, List.set_cons_succ]
          refine wpAnyH_comesAt (i := 16) (by kernel_rfl) (by kernel_rfl) ?_
          intro o ho K hK
          simp only [List.getElem?_toArray, List.getElem?_cons_succ, List.getElem?_cons_zero, Option.some.injEq] at ho
          subst ho
          go_simp
          refine (samerow_any Ni12.out Nj12.out (by have := Li.out; omega)).mono ?_
          rintro e v13 ⟨rfl, hb⟩
          rw [HSN.out]
          clear hHeld
          have HS13 := hide (HS12.out.next hb)
          have HP13 := hide (HP12.out.later hb (Nat.le_refl _))
          have HQ13 := hide (HQ12.out.later hb (Nat.le_refl _))
          clear hb HS12 HP12 HQ12 Ni12 Nj12
          refine hK.out _ _ ⟨by rw [← HSX.out]; exact run_text HP13.out, by rw [← HSY.out]; exact run_text HQ13.out⟩ (fun hHeld => ?_)
          clear hK K
          try simp only [Act.put, List.setIfInBounds_toArray, List.set_cons_zero, List.set_cons_succ]
          refine wpAnyH_takeAt (i := 17) (d := 77) (v := ?vb17) (by kernel_rfl) (by kernel_rfl) (by kernel_rfl) (by kernel_rfl) (fun _ _ _ h => h) ?hyb17 (by assumption) ?restb17
          case hyb17 =>
            intro oi ho
            simp only [List.getElem?_toArray, List.getElem?_cons_succ, List.getElem?_cons_zero, Option.some.injEq] at ho
            subst ho
            refine Or.inl ⟨by rfl, ?_⟩
            intro wx hSw
            try dsimp only at hSw
            go_simp
            try rfl
          try simp only [Act.put, List.setIfInBounds_toArray, List.set_cons_zero, List.set_cons_succ]
          refine wpAnyH_takeAt (i := 18) (d := 78) (v := ?vb18) (by kernel_rfl) (by kernel_rfl) (by kernel_rfl) (by kernel_rfl) (fun _ _ _ h => h) ?hyb18 (by assumption) ?restb18
          case hyb18 =>
            intro oi ho
            simp only [List.getElem?_toArray, List.getElem?_cons_succ, List.getElem?_cons_zero, Option.some.injEq] at ho
            subst ho
            refine Or.inl ⟨by rfl, ?_⟩
            intro wx hSw
            try dsimp only at hSw
            go_simp
            try rfl
          try simp only [Act.put, List.setIfInBounds_toArray, List.set_cons_zero, List.set_cons_succ]
          refine wpAnyH_done (by kernel_rfl) ?_ _
          refine NoPanic.normal ?_
          clear hHeld
          go_wp2
          go_meet
          case rel => exact ⟨rfl, HS13.out⟩
        · have d2 : (z4 == (0 : Int)) = false := by simp [h2]
          clear h1 h2
          go_quiet (fail)
          go_wp2
          go_meet
          case rel => exact ⟨rfl, HS9.out.next (below_drw (Below.refl _ _) _)⟩
      · have d1 : (z3 == (0 : Int)) = false := by simp [h1]
        clear h1
        go_quiet (fail)
        go_wp2
        go_meet
        case rel => exact ⟨rfl, HS9.out.next (below_drw (Below.refl _ _) _)⟩
    case rest =>
      obtain ⟨rfl, hs⟩ := hcut
      obtain ⟨v10, hvw⟩ : ∃ v, v = wc := ⟨_, rfl⟩
      subst hvw
      have HS10 := hide hs
      clear hs
      go_upto_region 9 with fail
      go_cut [95] from 17 to 111 (fun cz wx => cz = .bool false ∧ SS W g4 g5 s ca cl cc xa xl xc t da dl dc ya yl yc a n c la b m d lb wx)
      case first =>
        obtain ⟨z, hz⟩ : ∃ z, s.t5.fits (la.take 5) = z := ⟨_, rfl⟩
        by_cases h0 : z = 0
        · subst h0
          have HFF := hide (fits_fold hz)
          have HFS : Hid (∀ x ∈ (la.take 5).map foldV, x.2.2.size ≤ 1048576) := fold_small hz (fun x hx => (PA.out x hx).2)
          have hb : Below v10.heap.size v10 v10.drew := (Below.refl _ _).drew
          have HS11 := hide (HS10.out.next hb)
          clear hb HS10
          have HX0 : Hid ((fun wx => wx.cell? ⟨g4, 0, none⟩ = some (.string s.nm) ∧ wx.cell? ⟨g4, 1, none⟩ = some (.slice ca cl cc) ∧ wx.cell? ⟨g4, 2, none⟩ = some (.slice xa xl xc)) v10.drew) := ⟨cell_blk HS11.out.k4, cell_blk HS11.out.k4, cell_blk HS11.out.k4⟩
          refine wp_region_noPanic ?_
          refine wp_region_held_drew (S := fun wx => wx.cell? ⟨g4, 0, none⟩ = some (.string s.nm) ∧ wx.cell? ⟨g4, 1, none⟩ = some (.slice ca cl cc) ∧ wx.cell? ⟨g4, 2, none⟩ = some (.slice xa xl xc)) (by kernel_rfl) HX0.out (fun hHeld => ?_)
          refine wpAnyH_takeAt (i := 0) (d := 79) (v := ?vc0) (by kernel_rfl) (by kernel_rfl) (by kernel_rfl) (by kernel_rfl) (fun _ _ _ h => h) ?hyc0 (by assumption) ?restc0
          case hyc0 =>
            intro oi ho
            simp only [List.getElem?_toArray, List.getElem?_cons_zero, Option.some.injEq] at ho
            subst ho
            refine Or.inl ⟨by rfl, ?_⟩
            intro wx hSw
            try dsimp only at hSw
            go_simp
            try rfl
          try simp only [Act.put, List.setIfInBounds_toArray, List.set_cons_zero, List.set_cons_succ]
          refine wpAnyH_takeAt (i := 2) (d := 81) (v := ?vc2) (by kernel_rfl) (by kernel_rfl) (by kernel_rfl) (by kernel_rfl) (fun _ _ _ h => h) ?hyc2 (by assumption) ?restc2
          case hyc2 =>
            intro oi ho
            simp only [List.getElem?_toArray, List.getElem?_cons_succ, List.getElem?_cons_zero, Option.some.injEq] at ho
            subst ho
            refine Or.inl ⟨by rfl, ?_⟩
            intro wx hSw
            try dsimp only at hSw
            go_simp
            try rfl
          try simp only [Act.put, List.setIfInBounds_toArray, List.set_cons_zero, List.set_cons_succ]
          refine wpAnyH_comesAt (i := 1) (by kernel_rfl) (by kernel_rfl) ?_
          intro o ho K hK
          simp only [List.getElem?_toArray, List.getElem?_cons_succ, List.getElem?_cons_zero, Option.some.injEq] at ho
          subst ho
          go_simp
          refine (copied5 HS11.out.s).mono ?_
          rintro e v12 ⟨ia, il, ic, ix, iy, iz, rfl, hs, h1, h2, hb⟩
          have Ni12 := hide hs
          have Li := hide (And.intro h1 h2)
          clear hs h1 h2 hHeld
          have HS12 := hide (HS11.out.next hb)
          clear hb HS11
          refine hK.out _ _ ⟨cell_blk HS12.out.k4, cell_blk HS12.out.k4, cell_blk HS12.out.k4⟩ (fun hHeld => ?_)
          clear hK K
          try simp only [Act.put, List.setIfInBounds_toArray, List.set_cons_zero, List.set_cons_succ]
          refine wpAnyH_comesAt (i := 3) (by kernel_rfl) (by kernel_rfl) ?_
          intro o ho K hK
          simp only [List.getElem?_toArray, List.getElem?_cons_succ, List.getElem?_cons_zero, Option.some.injEq] at ho
          subst ho
          go_simp
          refine (few5 HS12.out.a).mono ?_
          rintro e v13 ⟨ja, jl, jc, rfl, hs, h1, hb⟩
          have Nj13 := hide hs
          have Lj := hide h1
          clear hs h1 hHeld
          have HS13 := hide (HS12.out.next hb)
          have Ni13 := hide (Ni12.out.later hb)
          clear hb HS12 Ni12
          refine hK.out _ _ ⟨cell_blk HS13.out.k4, cell_blk HS13.out.k4, cell_blk HS13.out.k4⟩ (fun hHeld => ?_)
          clear hK K
          try simp only [Act.put, List.setIfInBounds_toArray, List.set_cons_zero, List.set_cons_succ]
          refine wpAnyH_comesAt (i := 4) (by kernel_rfl) (by kernel_rfl) ?_
          intro o ho K hK
          simp only [List.getElem?_toArray, List.getElem?_cons_succ, List.getElem?_cons_zero, Option.some.injEq] at ho
          subst ho
          go_simp
          refine (sfits_any Ni13.out Nj13.out (fun x hx => (PA.out x hx).2)).mono ?_
          rintro e v14 ⟨rfl, hb⟩
          rw [hz]
          clear hHeld
          have HS14 := hide (HS13.out.next hb)
          clear hb HS13 Ni13 Nj13
          refine hK.out _ _ ⟨cell_blk HS14.out.k4, cell_blk HS14.out.k4, cell_blk HS14.out.k4⟩ (fun hHeld => ?_)
          clear hK K
          try simp only [Act.put, List.setIfInBounds_toArray, List.set_cons_zero, List.set_cons_succ]
          refine wpAnyH_takeAt (i := 5) (d := 84) (v := ?vc5) (by kernel_rfl) (by kernel_rfl) (by kernel_rfl) (by kernel_rfl) (fun _ _ _ h => h) ?hyc5 (by assumption) ?restc5
          case hyc5 =>
            intro oi ho
            simp only [List.getElem?_toArray, List.getElem?_cons_succ, List.getElem?_cons_zero, Option.some.injEq] at ho
            subst ho
            refine Or.inl ⟨by rfl, ?_⟩
            intro wx hSw
            try dsimp only at hSw
            go_simp
            try rfl
          try simp only [Act.put, List.setIfInBounds_toArray, List.set_cons_zero, List.set_cons_succ]
          refine wpAnyH_takeAt (i := 6) (d := 85) (v := ?vc6) (by kernel_rfl) (by kernel_rfl) (by kernel_rfl) (by kernel_rfl) (fun _ _ _ h => h) ?hyc6 (by assumption) ?restc6
          case hyc6 =>
            intro oi ho
            simp only [List.getElem?_toArray, List.getElem?_cons_succ, List.getElem?_cons_zero, Option.some.injEq] at ho
            subst ho
            refine Or.inl ⟨by rfl, ?_⟩
            intro wx hSw
            try dsimp only at hSw
            go_simp
            try rfl
          try simp only [Act.put, List.setIfInBounds_toArray, List.set_cons_zero, List.set_cons_succ]
          refine wpAnyH_takeAt (i := 7) (d := 86) (v := ?vc7) (by kernel_rfl) (by kernel_rfl) (by kernel_rfl) (by kernel_rfl) (fun _ _ _ h => h) ?hyc7 (by assumption) ?restc7
          case hyc7 =>
            intro oi ho
            simp only [List.getElem?_toArray, List.getElem?_cons_succ, List.getElem?_cons_zero, Option.some.injEq] at ho
            subst ho
            refine Or.inl ⟨by rfl, ?_⟩
            intro wx hSw
            try dsimp only at hSw
            go_simp
            try rfl
          try simp only [Act.put, List.setIfInBounds_toArray, List.set_cons_zero, List.set_cons_succ]
          refine wpAnyH_takeAt (i := 9) (d := 88) (v := ?vc9) (by kernel_rfl) (by kernel_rfl) (by kernel_rfl) (by kernel_rfl) (fun _ _ _ h => h) ?hyc9 (by assumption) ?restc9
          case hyc9 =>
            intro oi ho
            simp only [List.getElem?_toArray, List.getElem?_cons_succ, List.getElem?_cons_zero, Option.some.injEq] at ho
            subst ho
            refine Or.inl ⟨by rfl, ?_⟩
            intro wx hSw
            try dsimp only at hSw
            go_simp
            try rfl
          try simp only [Act.put, List.setIfInBounds_toArray, List.set_cons_zero, List.set_cons_succ]
          refine wpAnyH_takeAt (i := 11) (d := 90) (v := ?vc11) (by kernel_rfl) (by kernel_rfl) (by kernel_rfl) (by kernel_rfl) (fun _ _ _ h => h) ?hyc11 (by assumption) ?restc11
          case hyc11 =>
            intro oi ho
            simp only [List.getElem?_toArray, List.getElem?_cons_succ, List.getElem?_cons_zero, Option.some.injEq] at ho
            subst ho
            refine Or.inl ⟨by rfl, ?_⟩
            intro wx hSw
            try dsimp only at hSw
            go_simp
            try rfl
          try simp only [Act.put, List.setIfInBounds_toArray, List.set_cons_zero, List.set_cons_succ]
          refine wpAnyH_comesAt (i := 8) (by kernel_rfl) (by kernel_rfl) ?_
          intro o ho K hK
          simp only [List.getElem?_toArray, List.getElem?_cons_succ, List.getElem?_cons_zero, Option.some.injEq] at ho
          subst ho
          go_simp
          refine (copied5 HS14.out.s).mono ?_
          rintro e v15 ⟨ka, kl, kc, kx, ky, kz, rfl, hs, h1, h2, hb⟩
          have Nk15 := hide hs
          have Lk := hide (And.intro h1 h2)
          clear hs h1 h2 hHeld
          have HS15 := hide (HS14.out.next hb)
          clear hb HS14
          refine hK.out _ _ ⟨cell_blk HS15.out.k4, cell_blk HS15.out.k4, cell_blk HS15.out.k4⟩ (fun hHeld => ?_)
          clear hK K
          try simp only [Act.put, List.setIfInBounds_toArray, List.set_cons_zero, List.set_cons_succ]
          refine wpAnyH_comesAt (i := 10) (by kernel_rfl) (by kernel_rfl) ?_
          intro o ho K hK
          simp only [List.getElem?_toArray, List.getElem?_cons_succ, List.getElem?_cons_zero, Option.some.injEq] at ho
          subst ho
          go_simp
          refine (copied5 HS15.out.s).mono ?_
          rintro e v16 ⟨oa, ol, oc, ox, oy, oz, rfl, hs, h1, h2, hb⟩
          have No16 := hide hs
          have Lo := hide (And.intro h1 h2)
          clear hs h1 h2 hHeld
          have HS16 := hide (HS15.out.next hb)
          have Nk16 := hide (Nk15.out.later hb)
          clear hb HS15 Nk15
          refine hK.out _ _ ⟨cell_blk HS16.out.k4, cell_blk HS16.out.k4, cell_blk HS16.out.k4⟩ (fun hHeld => ?_)
          clear hK K
          try simp only [Act.put, List.setIfInBounds_toArray, List.set_cons_zero, List.set_cons_succ]
          refine wpAnyH_comesAt (i := 12) (by kernel_rfl) (by kernel_rfl) ?_
          intro o ho K hK
          simp only [List.getElem?_toArray, List.getElem?_cons_succ, List.getElem?_cons_zero, Option.some.injEq] at ho
          subst ho
          go_simp
          refine (few5 HS16.out.a).mono ?_
          rintro e v17 ⟨ra, rl, rc, rfl, hs, h1, hb⟩
          have Nr17 := hide hs
          have Lr := hide h1
          clear hs h1 hHeld
          have HS17 := hide (HS16.out.next hb)
          have Nk17 := hide (Nk16.out.later hb)
          have No17 := hide (No16.out.later hb)
          clear hb HS16 Nk16 No16
          refine hK.out _ _ ⟨cell_blk HS17.out.k4, cell_blk HS17.out.k4, cell_blk HS17.out.k4⟩ (fun hHeld => ?_)
          clear hK K
          try simp only [Act.put, List.setIfInBounds_toArray, List.set_cons_zero, List.set_cons_succ]
          refine wpAnyH_comesAt (i := 13) (by kernel_rfl) (by kernel_rfl) ?_
          intro o ho K hK
          simp only [List.getElem?_toArray, List.getElem?_cons_succ, List.getElem?_cons_zero, Option.some.injEq] at ho
          subst ho
          go_simp
          refine (sfold_ok Nr17.out (by have := Lr.out; omega) (fun x hx => (PA.out x hx).2)).mono ?_
          rintro e v18 ⟨fa, fc, rfl, hf, hb⟩
          have Nf18 := hide hf
          clear hf
          clear hHeld
          have HS18 := hide (HS17.out.next hb)
          have Nk18 := hide (Nk17.out.later hb)
          clear hb HS17 Nk17 No17 Nr17
          refine hK.out _ _ ⟨cell_blk HS18.out.k4, cell_blk HS18.out.k4, cell_blk HS18.out.k4⟩ (fun hHeld => ?_)
          clear hK K
          try simp only [Act.put, List.setIfInBounds_toArray, List.set_cons_zero, List.set_cons_succ]
          refine wpAnyH_comesAt (i := 14) (by kernel_rfl) (by kernel_rfl) ?_
          intro o ho K hK
          simp only [List.getElem?_toArray, List.getElem?_cons_succ, List.getElem?_cons_zero, Option.some.injEq] at ho
          subst ho
          go_simp
          refine (sfits_any Nk18.out Nf18.out HFS.out).mono ?_
          rintro e v19 ⟨rfl, hb⟩
          rw [HFF.out]
          clear hHeld
          have HS19 := hide (HS18.out.next hb)
          clear hb HS18 Nk18 Nf18
          refine hK.out _ _ ⟨cell_blk HS19.out.k4, cell_blk HS19.out.k4, cell_blk HS19.out.k4⟩ (fun hHeld => ?_)
          clear hK K
          try simp only [Act.put, List.setIfInBounds_toArray, List.set_cons_zero, List.set_cons_succ]
          refine wpAnyH_takeAt (i := 15) (d := 94) (v := ?vc15) (by kernel_rfl) (by kernel_rfl) (by kernel_rfl) (by kernel_rfl) (fun _ _ _ h => h) ?hyc15 (by assumption) ?restc15
          case hyc15 =>
            intro oi ho
            simp only [List.getElem?_toArray, List.getElem?_cons_succ, List.getElem?_cons_zero, Option.some.injEq] at ho
            subst ho
            refine Or.inl ⟨by rfl, ?_⟩
            intro wx hSw
            try dsimp only at hSw
            go_simp
            try rfl
          try simp only [Act.put, List.setIfInBounds_toArray, List.set_cons_zero, List.set_cons_succ]
          refine wpAnyH_takeAt (i := 16) (d := 95) (v := ?vc16) (by kernel_rfl) (by kernel_rfl) (by kernel_rfl) (by kernel_rfl) (fun _ _ _ h => h) ?hyc16 (by assumption) ?restc16
          case hyc16 =>
            intro oi ho
            simp only [List.getElem?_toArray, List.getElem?_cons_succ, List.getElem?_cons_zero, Option.some.injEq] at ho
            subst ho
            refine Or.inl ⟨by rfl, ?_⟩
            intro wx hSw
            try dsimp only at hSw
            go_simp
            try rfl
          try simp only [Act.put, List.setIfInBounds_toArray, List.set_cons_zero, List.set_cons_succ]
          refine wpAnyH_done (by kernel_rfl) ?_ _
          refine NoPanic.normal ?_
          clear hHeld
          go_wp2
          go_meet
          case rel => exact ⟨rfl, HS19.out⟩
        · have d0 : (z == (0 : Int)) = false := by simp [h0]
          clear h0
          have hb : Below v10.heap.size v10 v10.drew := (Below.refl _ _).drew
          have HS11 := hide (HS10.out.next hb)
          clear hb HS10
          have HX0 : Hid ((fun wx => wx.cell? ⟨g4, 0, none⟩ = some (.string s.nm) ∧ wx.cell? ⟨g4, 1, none⟩ = some (.slice ca cl cc) ∧ wx.cell? ⟨g4, 2, none⟩ = some (.slice xa xl xc)) v10.drew) := ⟨cell_blk HS11.out.k4, cell_blk HS11.out.k4, cell_blk HS11.out.k4⟩
          refine wp_region_noPanic ?_
          refine wp_region_held_drew (S := fun wx => wx.cell? ⟨g4, 0, none⟩ = some (.string s.nm) ∧ wx.cell? ⟨g4, 1, none⟩ = some (.slice ca cl cc) ∧ wx.cell? ⟨g4, 2, none⟩ = some (.slice xa xl xc)) (by kernel_rfl) HX0.out (fun hHeld => ?_)
          refine wpAnyH_takeAt (i := 0) (d := 79) (v := ?vd0) (by kernel_rfl) (by kernel_rfl) (by kernel_rfl) (by kernel_rfl) (fun _ _ _ h => h) ?hyd0 (by assumption) ?restd0
          case hyd0 =>
            intro oi ho
            simp only [List.getElem?_toArray, List.getElem?_cons_zero, Option.some.injEq] at ho
            subst ho
            refine Or.inl ⟨by rfl, ?_⟩
            intro wx hSw
            try dsimp only at hSw
            go_simp
            try rfl
          try simp only [Act.put, List.setIfInBounds_toArray, List.set_cons_zero, List.set_cons_succ]
          refine wpAnyH_takeAt (i := 2) (d := 81) (v := ?vd2) (by kernel_rfl) (by kernel_rfl) (by kernel_rfl) (by kernel_rfl) (fun _ _ _ h => h) ?hyd2 (by assumption) ?restd2
          case hyd2 =>
            intro oi ho
            simp only [List.getElem?_toArray, List.getElem?_cons_succ, List.getElem?_cons_zero, Option.some.injEq] at ho
            subst ho
            refine Or.inl ⟨by rfl, ?_⟩
            intro wx hSw
            try dsimp only at hSw
            go_simp
            try rfl
          try simp only [Act.put, List.setIfInBounds_toArray, List.set_cons_zero, List.set_cons_succ]
          refine wpAnyH_comesAt (i := 1) (by kernel_rfl) (by kernel_rfl) ?_
          intro o ho K hK
          simp only [List.getElem?_toArray, List.getElem?_cons_succ, List.getElem?_cons_zero, Option.some.injEq] at ho
          subst ho
          go_simp
          refine (copied5 HS11.out.s).mono ?_
          rintro e v12 ⟨ia, il, ic, ix, iy, iz, rfl, hs, h1, h2, hb⟩
          have Ni12 := hide hs
          have Li := hide (And.intro h1 h2)
          clear hs h1 h2 hHeld
          have HS12 := hide (HS11.out.next hb)
          clear hb HS11
          refine hK.out _ _ ⟨cell_blk HS12.out.k4, cell_blk HS12.out.k4, cell_blk HS12.out.k4⟩ (fun hHeld => ?_)
          clear hK K
          try simp only [Act.put, List.setIfInBounds_toArray, List.set_cons_zero, List.set_cons_succ]
          refine wpAnyH_comesAt (i := 3) (by kernel_rfl) (by kernel_rfl) ?_
          intro o ho K hK
          simp only [List.getElem?_toArray, List.getElem?_cons_succ, List.getElem?_cons_zero, Option.some.injEq] at ho
          subst ho
          go_simp
          refine (few5 HS12.out.a).mono ?_
          rintro e v13 ⟨ja, jl, jc, rfl, hs, h1, hb⟩
          have Nj13 := hide hs
          have Lj := hide h1
          clear hs h1 hHeld
          have HS13 := hide (HS12.out.next hb)
          have Ni13 := hide (Ni12.out.later hb)
          clear hb HS12 Ni12
          refine hK.out _ _ ⟨cell_blk HS13.out.k4, cell_blk HS13.out.k4, cell_blk HS13.out.k4⟩ (fun hHeld => ?_)
          clear hK K
          try simp only [Act.put, List.setIfInBounds_toArray, List.set_cons_zero, List.set_cons_succ]
          refine wpAnyH_comesAt (i := 4) (by kernel_rfl) (by kernel_rfl) ?_
          intro o ho K hK
          simp only [List.getElem?_toArray, List.getElem?_cons_succ, List.getElem?_cons_zero, Option.some.injEq] at ho
          subst ho
          go_simp
          refine (sfits_any Ni13.out Nj13.out (fun x hx => (PA.out x hx).2)).mono ?_
          rintro e v14 ⟨rfl, hb⟩
          rw [hz]
          clear hHeld
          have HS14 := hide (HS13.out.next hb)
          clear hb HS13 Ni13 Nj13
          refine hK.out _ _ ⟨cell_blk HS14.out.k4, cell_blk HS14.out.k4, cell_blk HS14.out.k4⟩ (fun hHeld => ?_)
          clear hK K
          try simp only [Act.put, List.setIfInBounds_toArray, List.set_cons_zero, List.set_cons_succ]
          refine wpAnyH_takeAt (i := 5) (d := 84) (v := ?vd5) (by kernel_rfl) (by kernel_rfl) (by kernel_rfl) (by kernel_rfl) (fun _ _ _ h => h) ?hyd5 (by assumption) ?restd5
          case hyd5 =>
            intro oi ho
            simp only [List.getElem?_toArray, List.getElem?_cons_succ, List.getElem?_cons_zero, Option.some.injEq] at ho
            subst ho
            refine Or.inl ⟨by rfl, ?_⟩
            intro wx hSw
            try dsimp only at hSw
            go_simp
            try rfl
          try simp only [Act.put, List.setIfInBounds_toArray, List.set_cons_zero, List.set_cons_succ]
          refine wpAnyH_takeAt (i := 6) (d := 85) (v := ?vd6) (by kernel_rfl) (by kernel_rfl) (by kernel_rfl) (by kernel_rfl) (fun _ _ _ h => h) ?hyd6 (by assumption) ?restd6
          case hyd6 =>
            intro oi ho
            simp only [List.getElem?_toArray, List.getElem?_cons_succ, List.getElem?_cons_zero, Option.some.injEq] at ho
            subst ho
            refine Or.inl ⟨by rfl, ?_⟩
            intro wx hSw
            try dsimp only at hSw
            go_simp
            try rfl
          try simp only [Act.put, List.setIfInBounds_toArray, List.set_cons_zero, List.set_cons_succ]
          refine wpAnyH_takeAt (i := 7) (d := 86) (v := undef) (by kernel_rfl) (by kernel_rfl) (by kernel_rfl) (by kernel_rfl) (fun _ _ _ h => h) ?hyd7 (by assumption) ?restd7
          case hyd7 =>
            intro oi ho
            simp only [List.getElem?_toArray, List.getElem?_cons_succ, List.getElem?_cons_zero, Option.some.injEq] at ho
            subst ho
            exact Or.inr ⟨by rfl, rfl⟩
          try simp only [Act.put, List.setIfInBounds_toArray, List.set_cons_zero, List.set_cons_succ]
          refine wpAnyH_takeAt (i := 8) (d := 87) (v := undef) (by kernel_rfl) (by kernel_rfl) (by kernel_rfl) (by kernel_rfl) (fun _ _ _ h => h) ?hyd8 (by assumption) ?restd8
          case hyd8 =>
            intro oi ho
            simp only [List.getElem?_toArray, List.getElem?_cons_succ, List.getElem?_cons_zero, Option.some.injEq] at ho
            subst ho
            exact Or.inr ⟨by rfl, rfl⟩
          try simp only [Act.put, List.setIfInBounds_toArray, List.set_cons_zero, List.set_cons_succ]
          refine wpAnyH_takeAt (i := 9) (d := 88) (v := undef) (by kernel_rfl) (by kernel_rfl) (by kernel_rfl) (by kernel_rfl) (fun _ _ _ h => h) ?hyd9 (by assumption) ?restd9
          case hyd9 =>
            intro oi ho
            simp only [List.getElem?_toArray, List.getElem?_cons_succ, List.getElem?_cons_zero, Option.some.injEq] at ho
            subst ho
            exact Or.inr ⟨by rfl, rfl⟩
          try simp only [Act.put, List.setIfInBounds_toArray, List.set_cons_zero, List.set_cons_succ]
          refine wpAnyH_takeAt (i := 10) (d := 89) (v := undef) (by kernel_rfl) (by kernel_rfl) (by kernel_rfl) (by kernel_rfl) (fun _ _ _ h => h) ?hyd10 (by assumption) ?restd10
          case hyd10 =>
            intro oi ho
            simp only [List.getElem?_toArray, List.getElem?_cons_succ, List.getElem?_cons_zero, Option.some.injEq] at ho
            subst ho
            exact Or.inr ⟨by rfl, rfl⟩
          try simp only [Act.put, List.setIfInBounds_toArray, List.set_cons_zero, List.set_cons_succ]
          refine wpAnyH_takeAt (i := 11) (d := 90) (v := undef) (by kernel_rfl) (by kernel_rfl) (by kernel_rfl) (by kernel_rfl) (fun _ _ _ h => h) ?hyd11 (by assumption) ?restd11
          case hyd11 =>
            intro oi ho
            simp only [List.getElem?_toArray, List.getElem?_cons_succ, List.getElem?_cons_zero, Option.some.injEq] at ho
            subst ho
            exact Or.inr ⟨by rfl, rfl⟩
          try simp only [Act.put, List.setIfInBounds_toArray, List.set_cons_zero, List.set_cons_succ]
          refine wpAnyH_takeAt (i := 12) (d := 91) (v := undef) (by kernel_rfl) (by kernel_rfl) (by kernel_rfl) (by kernel_rfl) (fun _ _ _ h => h) ?hyd12 (by assumption) ?restd12
          case hyd12 =>
            intro oi ho
            simp only [List.getElem?_toArray, List.getElem?_cons_succ, List.getElem?_cons_zero, Option.some.injEq] at ho
            subst ho
            exact Or.inr ⟨by rfl, rfl⟩
          try simp only [Act.put, List.setIfInBounds_toArray, List.set_cons_zero, List.set_cons_succ]
          refine wpAnyH_takeAt (i := 13) (d := 92) (v := undef) (by kernel_rfl) (by kernel_rfl) (by kernel_rfl) (by kernel_rfl) (fun _ _ _ h => h) ?hyd13 (by assumption) ?restd13
          case hyd13 =>
            intro oi ho
            simp only [List.getElem?_toArray, List.getElem?_cons_succ, List.getElem?_cons_zero, Option.some.injEq] at ho
            subst ho
            exact Or.inr ⟨by rfl, rfl⟩
          try simp only [Act.put, List.setIfInBounds_toArray, List.set_cons_zero, List.set_cons_succ]
          refine wpAnyH_takeAt (i := 14) (d := 93) (v := undef) (by kernel_rfl) (by kernel_rfl) (by kernel_rfl) (by kernel_rfl) (fun _ _ _ h => h) ?hyd14 (by assumption) ?restd14
          case hyd14 =>
            intro oi ho
            simp only [List.getElem?_toArray, List.getElem?_cons_succ, List.getElem?_cons_zero, Option.some.injEq] at ho
            subst ho
            exact Or.inr ⟨by rfl, rfl⟩
          try simp only [Act.put, List.setIfInBounds_toArray, List.set_cons_zero, List.set_cons_succ]
          refine wpAnyH_takeAt (i := 15) (d := 94) (v := undef) (by kernel_rfl) (by kernel_rfl) (by kernel_rfl) (by kernel_rfl) (fun _ _ _ h => h) ?hyd15 (by assumption) ?restd15
          case hyd15 =>
            intro oi ho
            simp only [List.getElem?_toArray, List.getElem?_cons_succ, List.getElem?_cons_zero, Option.some.injEq] at ho
            subst ho
            exact Or.inr ⟨by rfl, rfl⟩
          try simp only [Act.put, List.setIfInBounds_toArray, List.set_cons_zero, List.set_cons_succ]
          refine wpAnyH_takeAt (i := 16) (d := 95) (v := ?vd16) (by kernel_rfl) (by kernel_rfl) (by kernel_rfl) (by kernel_rfl) (fun _ _ _ h => h) ?hyd16 (by assumption) ?restd16
          case hyd16 =>
            intro oi ho
            simp only [List.getElem?_toArray, List.getElem?_cons_succ, List.getElem?_cons_zero, Option.some.injEq] at ho
            subst ho
            refine Or.inl ⟨by rfl, ?_⟩
            intro wx hSw
            try dsimp only at hSw
            go_simp
            try rfl
          try simp only [Act.put, List.setIfInBounds_toArray, List.set_cons_zero, List.set_cons_succ]
          refine wpAnyH_done (by kernel_rfl) ?_ _
          refine NoPanic.normal ?_
          clear hHeld
          go_wp2
          go_meet
          case rel => exact ⟨rfl, HS14.out⟩
      case rest =>
        obtain ⟨rfl, hs⟩ := hcut
        obtain ⟨v11, hvw⟩ : ∃ v, v = wc := ⟨_, rfl⟩
        subst hvw
        have HS11 := hide hs
        clear hs
        go_upto_region 11 with fail
        have hb : Below v11.heap.size v11 v11.drew := (Below.refl _ _).drew
        have HS12 := hide (HS11.out.next hb)
        clear hb HS11
        have HX0 : Hid ((fun wx => wx.cell? ⟨g4, 0, none⟩ = some (.string s.nm) ∧ wx.cell? ⟨g4, 1, none⟩ = some (.slice ca cl cc) ∧ wx.cell? ⟨g4, 2, none⟩ = some (.slice xa xl xc)) v11.drew) := ⟨cell_blk HS12.out.k4, cell_blk HS12.out.k4, cell_blk HS12.out.k4⟩
        refine wp_region_noPanic ?_
        refine wp_region_held_drew (S := fun wx => wx.cell? ⟨g4, 0, none⟩ = some (.string s.nm) ∧ wx.cell? ⟨g4, 1, none⟩ = some (.slice ca cl cc) ∧ wx.cell? ⟨g4, 2, none⟩ = some (.slice xa xl xc)) (by kernel_rfl) HX0.out (fun hHeld => ?_)
        refine wpAnyH_comesAt (i := 0) (by kernel_rfl) (by kernel_rfl) ?_
        intro o ho K hK
        simp only [List.getElem?_toArray, List.getElem?_cons_zero, Option.some.injEq] at ho
        subst ho
        go_simp
        refine (told14 _).mono ?_
        rintro e v13 ⟨rfl, hb⟩
        clear hHeld
        have HS13 := hide (HS12.out.next hb)
        clear hb HS12
        refine hK.out _ _ ⟨cell_blk HS13.out.k4, cell_blk HS13.out.k4, cell_blk HS13.out.k4⟩ (fun hHeld => ?_)
        clear hK K
        try simp only [Act.put, List.setIfInBounds_toArray, List.set_cons_zero, List.set_cons_succ]
        refine wpAnyH_takeAt (i := 1) (d := 97) (v := ?ve1) (by kernel_rfl) (by kernel_rfl) (by kernel_rfl) (by kernel_rfl) (fun _ _ _ h => h) ?hye1 (by assumption) ?reste1
        case hye1 =>
          intro oi ho
          simp only [List.getElem?_toArray, List.getElem?_cons_succ, List.getElem?_cons_zero, Option.some.injEq] at ho
          subst ho
          refine Or.inl ⟨by rfl, ?_⟩
          intro wx hSw
          try dsimp only at hSw
          go_simp
          try rfl
        try simp only [Act.put, List.setIfInBounds_toArray, List.set_cons_zero, List.set_cons_succ]
        refine wpAnyH_takeAt (i := 2) (d := 98) (v := ?ve2) (by kernel_rfl) (by kernel_rfl) (by kernel_rfl) (by kernel_rfl) (fun _ _ _ h => h) ?hye2 (by assumption) ?reste2
        case hye2 =>
          intro oi ho
          simp only [List.getElem?_toArray, List.getElem?_cons_succ, List.getElem?_cons_zero, Option.some.injEq] at ho
          subst ho
          refine Or.inl ⟨by rfl, ?_⟩
          intro wx hSw
          try dsimp only at hSw
          go_simp
          try rfl
        try simp only [Act.put, List.setIfInBounds_toArray, List.set_cons_zero, List.set_cons_succ]
        refine wpAnyH_takeAt (i := 4) (d := 100) (v := ?ve4) (by kernel_rfl) (by kernel_rfl) (by kernel_rfl) (by kernel_rfl) (fun _ _ _ h => h) ?hye4 (by assumption) ?reste4
        case hye4 =>
          intro oi ho
          simp only [List.getElem?_toArray, List.getElem?_cons_succ, List.getElem?_cons_zero, Option.some.injEq] at ho
          subst ho
          refine Or.inl ⟨by rfl, ?_⟩
          intro wx hSw
          try dsimp only at hSw
          go_simp
          try rfl
        try simp only [Act.put, List.setIfInBounds_toArray, List.set_cons_zero, List.set_cons_succ]
        refine wpAnyH_comesAt (i := 3) (by kernel_rfl) (by kernel_rfl) ?_
        intro o ho K hK
        simp only [List.getElem?_toArray, List.getElem?_cons_succ, List.getElem?_cons_zero, Option.some.injEq] at ho
        subst ho
        go_simp
        refine (copied5 HS13.out.s).mono ?_
        rintro e v14 ⟨ia, il, ic, ix, iy, iz, rfl, hs, h1, h2, hb⟩
        have Ni14 := hide hs
        have Li := hide (And.intro h1 h2)
        clear hs h1 h2 hHeld
        have HS14 := hide (HS13.out.next hb)
        clear hb HS13
        refine hK.out _ _ ⟨cell_blk HS14.out.k4, cell_blk HS14.out.k4, cell_blk HS14.out.k4⟩ (fun hHeld => ?_)
        clear hK K
        try simp only [Act.put, List.setIfInBounds_toArray, List.set_cons_zero, List.set_cons_succ]
        refine wpAnyH_comesAt (i := 5) (by kernel_rfl) (by kernel_rfl) ?_
        intro o ho K hK
        simp only [List.getElem?_toArray, List.getElem?_cons_succ, List.getElem?_cons_zero, Option.some.injEq] at ho
        subst ho
        go_simp
        refine (copied5 HS14.out.s).mono ?_
        rintro e v15 ⟨ja, jl, jc, jx, jy, jz, rfl, hs, h1, h2, hb⟩
        have Nj15 := hide hs
        have Lj := hide (And.intro h1 h2)
        clear hs h1 h2 hHeld
        have HS15 := hide (HS14.out.next hb)
        have Ni15 := hide (Ni14.out.later hb)
        clear hb HS14 Ni14
        refine hK.out _ _ ⟨cell_blk HS15.out.k4, cell_blk HS15.out.k4, cell_blk HS15.out.k4⟩ (fun hHeld => ?_)
        clear hK K
        try simp only [Act.put, List.setIfInBounds_toArray, List.set_cons_zero, List.set_cons_succ]
        refine wpAnyH_comesAt (i := 6) (by kernel_rfl) (by kernel_rfl) ?_
        intro o ho K hK
        simp only [List.getElem?_toArray, List.getElem?_cons_succ, List.getElem?_cons_zero, Option.some.injEq] at ho
        subst ho
        go_simp
        refine (ssame_any Ni15.out Nj15.out (by have := Li.out.1; omega) (by have := Li.out.2; omega)).mono ?_
        rintro e v16 ⟨rfl, hb⟩
        rw [same_self]
        clear hHeld
        have HS16 := hide (HS15.out.next hb)
        clear hb HS15 Ni15 Nj15
        refine hK.out _ _ ⟨cell_blk HS16.out.k4, cell_blk HS16.out.k4, cell_blk HS16.out.k4⟩ (fun hHeld => ?_)
        clear hK K
        try simp only [Act.put, List.setIfInBounds_toArray, List.set_cons_zero, List.set_cons_succ]
        refine wpAnyH_takeAt (i := 7) (d := 103) (v := ?ve7) (by kernel_rfl) (by kernel_rfl) (by kernel_rfl) (by kernel_rfl) (fun _ _ _ h => h) ?hye7 (by assumption) ?reste7
        case hye7 =>
          intro oi ho
          simp only [List.getElem?_toArray, List.getElem?_cons_succ, List.getElem?_cons_zero, Option.some.injEq] at ho
          subst ho
          refine Or.inl ⟨by rfl, ?_⟩
          intro wx hSw
          try dsimp only at hSw
          go_simp
          try rfl
        try simp only [Act.put, List.setIfInBounds_toArray, List.set_cons_zero, List.set_cons_succ]
        refine wpAnyH_takeAt (i := 8) (d := 104) (v := ?ve8) (by kernel_rfl) (by kernel_rfl) (by kernel_rfl) (by kernel_rfl) (fun _ _ _ h => h) ?hye8 (by assumption) ?reste8
        case hye8 =>
          intro oi ho
          simp only [List.getElem?_toArray, List.getElem?_cons_succ, List.getElem?_cons_zero, Option.some.injEq] at ho
          subst ho
          refine Or.inl ⟨by rfl, ?_⟩
          intro wx hSw
          try dsimp only at hSw
          go_simp
          try rfl
        try simp only [Act.put, List.setIfInBounds_toArray, List.set_cons_zero, List.set_cons_succ]
        refine wpAnyH_takeAt (i := 9) (d := 105) (v := ?ve9) (by kernel_rfl) (by kernel_rfl) (by kernel_rfl) (by kernel_rfl) (fun _ _ _ h => h) ?hye9 (by assumption) ?reste9
        case hye9 =>
          intro oi ho
          simp only [List.getElem?_toArray, List.getElem?_cons_succ, List.getElem?_cons_zero, Option.some.injEq] at ho
          subst ho
          refine Or.inl ⟨by rfl, ?_⟩
          intro wx hSw
          try dsimp only at hSw
          go_simp
          try rfl
        try simp only [Act.put, List.setIfInBounds_toArray, List.set_cons_zero, List.set_cons_succ]
        refine wpAnyH_takeAt (i := 11) (d := 107) (v := ?ve11) (by kernel_rfl) (by kernel_rfl) (by kernel_rfl) (by kernel_rfl) (fun _ _ _ h => h) ?hye11 (by assumption) ?reste11
        case hye11 =>
          intro oi ho
          simp only [List.getElem?_toArray, List.getElem?_cons_succ, List.getElem?_cons_zero, Option.some.injEq] at ho
          subst ho
          refine Or.inl ⟨by rfl, ?_⟩
          intro wx hSw
          try dsimp only at hSw
          go_simp
          try rfl
        try simp only [Act.put, List.setIfInBounds_toArray, List.set_cons_zero, List.set_cons_succ]
        refine wpAnyH_comesAt (i := 10) (by kernel_rfl) (by kernel_rfl) ?_
        intro o ho K hK
        simp only [List.getElem?_toArray, List.getElem?_cons_succ, List.getElem?_cons_zero, Option.some.injEq] at ho
        subst ho
        go_simp
        refine (few5 HS16.out.a).mono ?_
        rintro e v17 ⟨ka, kl, kc, rfl, hs, h1, hb⟩
        have Nk17 := hide hs
        have Lk := hide h1
        clear hs h1 hHeld
        have HS17 := hide (HS16.out.next hb)
        clear hb HS16
        refine hK.out _ _ ⟨cell_blk HS17.out.k4, cell_blk HS17.out.k4, cell_blk HS17.out.k4⟩ (fun hHeld => ?_)
        clear hK K
        try simp only [Act.put, List.setIfInBounds_toArray, List.set_cons_zero, List.set_cons_succ]
        refine wpAnyH_comesAt (i := 12) (by kernel_rfl) (by kernel_rfl) ?_
        intro o ho K hK
        simp only [List.getElem?_toArray, List.getElem?_cons_succ, List.getElem?_cons_zero, Option.some.injEq] at ho
        subst ho
        go_simp
        refine (few5 HS17.out.a).mono ?_
        rintro e v18 ⟨oa, ol, oc, rfl, hs, h1, hb⟩
        have No18 := hide hs
        have Lo := hide h1
        clear hs h1 hHeld
        have HS18 := hide (HS17.out.next hb)
        have Nk18 := hide (Nk17.out.later hb)
        clear hb HS17 Nk17
        refine hK.out _ _ ⟨cell_blk HS18.out.k4, cell_blk HS18.out.k4, cell_blk HS18.out.k4⟩ (fun hHeld => ?_)
        clear hK K
        try simp only [Act.put, List.setIfInBounds_toArray, List.set_cons_zero, List.set_cons_succ]
        refine wpAnyH_comesAt (i := 13) (by kernel_rfl) (by kernel_rfl) ?_
        intro o ho K hK
        simp only [List.getElem?_toArray, List.getElem?_cons_succ, List.getElem?_cons_zero, Option.some.injEq] at ho
        subst ho
        go_simp
        refine (samerow_any Nk18.out No18.out (by have := Lk.out; omega)).mono ?_
        rintro e v19 ⟨rfl, hb⟩
        rw [decide_eq_true rfl]
        clear hHeld
        have HS19 := hide (HS18.out.next hb)
        clear hb HS18 Nk18 No18
        refine hK.out _ _ ⟨cell_blk HS19.out.k4, cell_blk HS19.out.k4, cell_blk HS19.out.k4⟩ (fun hHeld => ?_)
        clear hK K
        try simp only [Act.put, List.setIfInBounds_toArray, List.set_cons_zero, List.set_cons_succ]
        refine wpAnyH_takeAt (i := 14) (d := 110) (v := ?ve14) (by kernel_rfl) (by kernel_rfl) (by kernel_rfl) (by kernel_rfl) (fun _ _ _ h => h) ?hye14 (by assumption) ?reste14
        case hye14 =>
          intro oi ho
          simp only [List.getElem?_toArray, List.getElem?_cons_succ, List.getElem?_cons_zero, Option.some.injEq] at ho
          subst ho
          refine Or.inl ⟨by rfl, ?_⟩
          intro wx hSw
          try dsimp only at hSw
          go_simp
          try rfl
        try simp only [Act.put, List.setIfInBounds_toArray, List.set_cons_zero, List.set_cons_succ]
        refine wpAnyH_takeAt (i := 15) (d := 8) (v := ?ve15) (by kernel_rfl) (by kernel_rfl) (by kernel_rfl) (by kernel_rfl) (fun _ _ _ h => h) ?hye15 (by assumption) ?reste15
        case hye15 =>
          intro oi ho
          simp only [List.getElem?_toArray, List.getElem?_cons_succ, List.getElem?_cons_zero, Option.some.injEq] at ho
          subst ho
          refine Or.inl ⟨by rfl, ?_⟩
          intro wx hSw
          try dsimp only at hSw
          go_simp
          try rfl
        try simp only [Act.put, List.setIfInBounds_toArray, List.set_cons_zero, List.set_cons_succ]
        refine wpAnyH_done (by kernel_rfl) ?_ _
        refine NoPanic.normal ?_
        clear hHeld
        go_wp2
        go_ret
        exact ⟨rfl, by rw [← HG4.out]; exact HS19.out.bel⟩
end Go.Proofs.Ytcophbkgighepaa
