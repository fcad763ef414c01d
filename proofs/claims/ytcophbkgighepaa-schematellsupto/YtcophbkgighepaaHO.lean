/- The law's told. -/
import Derived.Test.YtcophbkgighepaaHK
import Derived.Test.YtcophbkgighepaaHA
set_option linter.unusedVariables false
namespace Go.Proofs.Ytcophbkgighepaa
open Go.RowKit

theorem lit_ok : lit.ok = true := by decide +kernel
theorem lit_err : lit.err = 0 := by decide +kernel
theorem lit_fits : lit.fits [(1, 1, ⟨#[]⟩), (2, 0, ⟨#[195, 164, 195, 182, 195, 188]⟩)] = 0 := by decide +kernel
theorem lit_nofit : lit.fits [(1, 1, ⟨#[]⟩), (2, 0, ⟨#[97, 98, 99, 100]⟩)] = 62 := by decide +kernel
theorem lit_same : lit.same lit = true := by decide +kernel
theorem nm_t : isNm ⟨#[116]⟩ = true := by decide +kernel
theorem nm_T : isNm ⟨#[84]⟩ = false := by decide +kernel
theorem none_err : Sch.err ⟨⟨#[]⟩, [], []⟩ = 61 := by decide +kernel
theorem sm_a : ∀ x ∈ ([(1, 1, ⟨#[]⟩), (2, 0, ⟨#[195, 164, 195, 182, 195, 188]⟩)] : List Val), x.2.2.size ≤ 1048576 := by decide +kernel
theorem sm_b : ∀ x ∈ ([(1, 1, ⟨#[]⟩), (2, 0, ⟨#[97, 98, 99, 100]⟩)] : List Val), x.2.2.size ≤ 1048576 := by decide +kernel
theorem lit_len : 0 < (encS lit).length ∧ (encS lit).length ≤ 300 := by decide +kernel
set_option maxRecDepth 100000 in
set_option maxHeartbeats 8000000 in
theorem told14 (w : World) : Calls Try.prog 10 #[] w fun e w' => e = .returned (.bool true) ∧ Below w.heap.size w w' := by
  have HLI := hide (little_ok w)
  go_enter Try.func10, Try.ntmps10
  go_wp2_with fail
  refine HLI.out.mono ?_
  rintro e w1 ⟨ca, cc, xa, xc, rfl, h1, hb1⟩
  have HEN := hide (encode_ok h1 lit_ok)
  have HB1 := hide hb1
  clear h1 hb1 HLI
  go_wp2_with fail
  refine HEN.out.mono ?_
  rintro e w2 ⟨v2, rfl, ho2, hb2⟩
  obtain ⟨a2, c2, e2⟩ := OB.form ho2
  subst e2
  have HS2 := hide (OB.bs ho2 (encS_lt lit) (by have := lit_len; omega))
  have HB2 := hide (HB1.out.trans (hb2.mono HB1.out.size))
  have HDE : Hid (Calls Try.prog 22 #[.slice a2 (encS lit).length c2] w2 fun e w' => ∃ ca cc xa xc, e = .returned (.tuple #[.agg #[.string ⟨#[116]⟩, .slice ca 2 cc, .slice xa 1 xc], .int .i64 0]) ∧ SC w' ca 2 cc xa 1 xc lit ∧ Below w2.heap.size w2 w') := decode_ok HS2.out lit_ok
  have HL2 : Hid ((0 : Int) < ((encS lit).length : Int)) := by show _ < _; have := lit_len.1; omega
  clear ho2 hb2 HEN HB1
  generalize (encS lit).length = nb at *
  go_wp2_with fail
  refine HDE.out.mono ?_
  rintro e w3 ⟨da, dc, ea, ec, rfl, h3, hb3⟩
  have hbx := below_box w3 (.cells #[.string ⟨#[116]⟩, .slice da 2 dc, .slice ea 1 ec] 25)
  have HV0 : Hid ((w3.alloc (.cells #[.string ⟨#[116]⟩, .slice da 2 dc, .slice ea 1 ec] 25)).heap[w3.heap.size]? = some (.cells #[.string ⟨#[116]⟩, .slice da 2 dc, .slice ea 1 ec] 25 (0, 0))) := boxed w3 _
  have HD0 : Hid (SC (w3.alloc (.cells #[.string ⟨#[116]⟩, .slice da 2 dc, .slice ea 1 ec] 25)) da 2 dc ea 1 ec lit) := h3.later hbx
  have HW0 : Hid (Below w.heap.size w (w3.alloc (.cells #[.string ⟨#[116]⟩, .slice da 2 dc, .slice ea 1 ec] 25))) := (HB2.out.trans (hb3.mono HB2.out.size)).trans (hbx.mono (HB2.out.trans (hb3.mono HB2.out.size)).size)
  have yL := HL2.out
  clear h3 hb3 hbx HDE HS2 HB2 HL2
  go_upto_region 3 with fail
  generalize w3.alloc (.cells #[.string ⟨#[116]⟩, .slice da 2 dc, .slice ea 1 ec] 25) = v0 at *
  generalize w3.heap.size = V at *
  have HV0 : Hid (v0.drew.heap[V]? = some (.cells #[.string ⟨#[116]⟩, .slice da 2 dc, .slice ea 1 ec] 25 (0, 0))) := HV0.out
  have HD0 : Hid (SC v0.drew da 2 dc ea 1 ec lit) := HD0.out.later (Below.refl _ v0).drew
  have HW0 : Hid (Below w.heap.size w v0.drew) := HW0.out.drew
  have HX0 : Hid ((fun wx => wx.cell? ⟨V, 0, none⟩ = some (.string ⟨#[116]⟩) ∧ wx.cell? ⟨V, 1, none⟩ = some (.slice da 2 dc) ∧ wx.cell? ⟨V, 2, none⟩ = some (.slice ea 1 ec)) v0.drew) := ⟨cell_blk HV0.out, cell_blk HV0.out, cell_blk HV0.out⟩
  have dL : decide ((0 : Int) < (nb : Int)) = true := decide_eq_true yL
  have yN : 0 < nb := by omega
  have dN : decide (0 < nb) = true := decide_eq_true yN
  refine wp_region_noPanic ?_
  refine wp_region_held_drew (S := fun wx => wx.cell? ⟨V, 0, none⟩ = some (.string ⟨#[116]⟩) ∧ wx.cell? ⟨V, 1, none⟩ = some (.slice da 2 dc) ∧ wx.cell? ⟨V, 2, none⟩ = some (.slice ea 1 ec)) (by kernel_rfl) HX0.out (fun hHeld => ?_)
  refine wpAnyH_comesAt (i := 0) (by kernel_rfl) (by kernel_rfl) ?_
  intro o ho K hK
  simp only [List.getElem?_toArray, List.getElem?_cons_zero, Option.some.injEq] at ho
  subst ho
  go_simp
  refine (little_ok _).mono ?_
  rintro e v1 ⟨pa, pc, px, pd, rfl, hs, hb⟩
  have HV1 := hide ((hb.block V (blk_lt HV0.out)).trans HV0.out)
  have HW1 := hide (HW0.out.trans (hb.mono HW0.out.size))
  have HD1 := hide (HD0.out.later hb)
  have Hp1 := hide hs
  clear hs
  clear hb hHeld HV0 HW0
  refine hK.out _ _ ⟨cell_blk HV1.out, cell_blk HV1.out, cell_blk HV1.out⟩ (fun hHeld => ?_)
  clear hK K
  try simp only [Act.put, List.setIfInBounds_toArray, List.set_cons_zero, List.set_cons_succ]
  refine wpAnyH_comesAt (i := 1) (by kernel_rfl) (by kernel_rfl) ?_
  intro o ho K hK
  simp only [List.getElem?_toArray, List.getElem?_cons_succ, List.getElem?_cons_zero, Option.some.injEq] at ho
  subst ho
  go_simp
  refine (sright_any Hp1.out).mono ?_
  rintro e v2 ⟨rfl, hb⟩
  have HV2 := hide ((hb.block V (blk_lt HV1.out)).trans HV1.out)
  have HW2 := hide (HW1.out.trans (hb.mono HW1.out.size))
  have HD2 := hide (HD1.out.later hb)
  rw [lit_err]
  clear Hp1
  clear hb hHeld HV1 HW1
  refine hK.out _ _ ⟨cell_blk HV2.out, cell_blk HV2.out, cell_blk HV2.out⟩ (fun hHeld => ?_)
  clear hK K
  try simp only [Act.put, List.setIfInBounds_toArray, List.set_cons_zero, List.set_cons_succ]
  refine wpAnyH_takeAt (i := 2) (d := 17) (v := ?va2) (by kernel_rfl) (by kernel_rfl) (by kernel_rfl) (by kernel_rfl) (fun _ _ _ h => h) ?hya2 (by assumption) ?resta2
  case hya2 =>
    intro oi ho
    simp only [List.getElem?_toArray, List.getElem?_cons_succ, List.getElem?_cons_zero, Option.some.injEq] at ho
    subst ho
    refine Or.inl ⟨by rfl, ?_⟩
    intro wx hSw
    try dsimp only at hSw
    go_simp
    try rfl
  try simp only [Act.put, List.setIfInBounds_toArray, List.set_cons_zero, List.set_cons_succ]
  refine wpAnyH_takeAt (i := 3) (d := 18) (v := ?va3) (by kernel_rfl) (by kernel_rfl) (by kernel_rfl) (by kernel_rfl) (fun _ _ _ h => h) ?hya3 (by assumption) ?resta3
  case hya3 =>
    intro oi ho
    simp only [List.getElem?_toArray, List.getElem?_cons_succ, List.getElem?_cons_zero, Option.some.injEq] at ho
    subst ho
    refine Or.inl ⟨by rfl, ?_⟩
    intro wx hSw
    try dsimp only at hSw
    go_simp
    try rfl
  try simp only [Act.put, List.setIfInBounds_toArray, List.set_cons_zero, List.set_cons_succ]
  refine wpAnyH_comesAt (i := 4) (by kernel_rfl) (by kernel_rfl) ?_
  intro o ho K hK
  simp only [List.getElem?_toArray, List.getElem?_cons_succ, List.getElem?_cons_zero, Option.some.injEq] at ho
  subst ho
  go_simp
  refine (little_ok _).mono ?_
  rintro e v3 ⟨qa, qc, qx, qd, rfl, hs, hb⟩
  have HV3 := hide ((hb.block V (blk_lt HV2.out)).trans HV2.out)
  have HW3 := hide (HW2.out.trans (hb.mono HW2.out.size))
  have HD3 := hide (HD2.out.later hb)
  have Hq3 := hide hs
  clear hs
  clear hb hHeld HV2 HW2
  refine hK.out _ _ ⟨cell_blk HV3.out, cell_blk HV3.out, cell_blk HV3.out⟩ (fun hHeld => ?_)
  clear hK K
  try simp only [Act.put, List.setIfInBounds_toArray, List.set_cons_zero, List.set_cons_succ]
  refine wpAnyH_comesAt (i := 5) (by kernel_rfl) (by kernel_rfl) ?_
  intro o ho K hK
  simp only [List.getElem?_toArray, List.getElem?_cons_succ, List.getElem?_cons_zero, Option.some.injEq] at ho
  subst ho
  go_simp
  refine (row_ok 1 ⟨#[195, 164, 195, 182, 195, 188]⟩ _).mono ?_
  rintro e v4 ⟨ra, rc, rfl, hr, hb⟩
  have HV4 := hide ((hb.block V (blk_lt HV3.out)).trans HV3.out)
  have HW4 := hide (HW3.out.trans (hb.mono HW3.out.size))
  have HD4 := hide (HD3.out.later hb)
  have Hq4 := hide (Hq3.out.later hb)
  have Hr4 := hide hr
  clear hr
  clear hb hHeld HV3 HW3
  refine hK.out _ _ ⟨cell_blk HV4.out, cell_blk HV4.out, cell_blk HV4.out⟩ (fun hHeld => ?_)
  clear hK K
  try simp only [Act.put, List.setIfInBounds_toArray, List.set_cons_zero, List.set_cons_succ]
  refine wpAnyH_comesAt (i := 6) (by kernel_rfl) (by kernel_rfl) ?_
  intro o ho K hK
  simp only [List.getElem?_toArray, List.getElem?_cons_succ, List.getElem?_cons_zero, Option.some.injEq] at ho
  subst ho
  go_simp
  refine (sfits_any Hq4.out Hr4.out sm_a).mono ?_
  rintro e v5 ⟨rfl, hb⟩
  have HV5 := hide ((hb.block V (blk_lt HV4.out)).trans HV4.out)
  have HW5 := hide (HW4.out.trans (hb.mono HW4.out.size))
  have HD5 := hide (HD4.out.later hb)
  rw [lit_fits]
  clear Hq3 Hq4 Hr4
  clear hb hHeld HV4 HW4
  refine hK.out _ _ ⟨cell_blk HV5.out, cell_blk HV5.out, cell_blk HV5.out⟩ (fun hHeld => ?_)
  clear hK K
  try simp only [Act.put, List.setIfInBounds_toArray, List.set_cons_zero, List.set_cons_succ]
  refine wpAnyH_takeAt (i := 7) (d := 22) (v := ?va7) (by kernel_rfl) (by kernel_rfl) (by kernel_rfl) (by kernel_rfl) (fun _ _ _ h => h) ?hya7 (by assumption) ?resta7
  case hya7 =>
    intro oi ho
    simp only [List.getElem?_toArray, List.getElem?_cons_succ, List.getElem?_cons_zero, Option.some.injEq] at ho
    subst ho
    refine Or.inl ⟨by rfl, ?_⟩
    intro wx hSw
    try dsimp only at hSw
    go_simp
    try rfl
  try simp only [Act.put, List.setIfInBounds_toArray, List.set_cons_zero, List.set_cons_succ]
  refine wpAnyH_takeAt (i := 8) (d := 23) (v := ?va8) (by kernel_rfl) (by kernel_rfl) (by kernel_rfl) (by kernel_rfl) (fun _ _ _ h => h) ?hya8 (by assumption) ?resta8
  case hya8 =>
    intro oi ho
    simp only [List.getElem?_toArray, List.getElem?_cons_succ, List.getElem?_cons_zero, Option.some.injEq] at ho
    subst ho
    refine Or.inl ⟨by rfl, ?_⟩
    intro wx hSw
    try dsimp only at hSw
    go_simp
    try rfl
  try simp only [Act.put, List.setIfInBounds_toArray, List.set_cons_zero, List.set_cons_succ]
  refine wpAnyH_takeAt (i := 9) (d := 24) (v := ?va9) (by kernel_rfl) (by kernel_rfl) (by kernel_rfl) (by kernel_rfl) (fun _ _ _ h => h) ?hya9 (by assumption) ?resta9
  case hya9 =>
    intro oi ho
    simp only [List.getElem?_toArray, List.getElem?_cons_succ, List.getElem?_cons_zero, Option.some.injEq] at ho
    subst ho
    refine Or.inl ⟨by rfl, ?_⟩
    intro wx hSw
    try dsimp only at hSw
    go_simp
    try rfl
  try simp only [Act.put, List.setIfInBounds_toArray, List.set_cons_zero, List.set_cons_succ]
  refine wpAnyH_comesAt (i := 10) (by kernel_rfl) (by kernel_rfl) ?_
  intro o ho K hK
  simp only [List.getElem?_toArray, List.getElem?_cons_succ, List.getElem?_cons_zero, Option.some.injEq] at ho
  subst ho
  go_simp
  refine (little_ok _).mono ?_
  rintro e v6 ⟨sa, sc, sx, sd, rfl, hs, hb⟩
  have HV6 := hide ((hb.block V (blk_lt HV5.out)).trans HV5.out)
  have HW6 := hide (HW5.out.trans (hb.mono HW5.out.size))
  have HD6 := hide (HD5.out.later hb)
  have Hs6 := hide hs
  clear hs
  clear hb hHeld HV5 HW5
  refine hK.out _ _ ⟨cell_blk HV6.out, cell_blk HV6.out, cell_blk HV6.out⟩ (fun hHeld => ?_)
  clear hK K
  try simp only [Act.put, List.setIfInBounds_toArray, List.set_cons_zero, List.set_cons_succ]
  refine wpAnyH_comesAt (i := 11) (by kernel_rfl) (by kernel_rfl) ?_
  intro o ho K hK
  simp only [List.getElem?_toArray, List.getElem?_cons_succ, List.getElem?_cons_zero, Option.some.injEq] at ho
  subst ho
  go_simp
  refine (row_ok 1 ⟨#[97, 98, 99, 100]⟩ _).mono ?_
  rintro e v7 ⟨ta, tc, rfl, hr, hb⟩
  have HV7 := hide ((hb.block V (blk_lt HV6.out)).trans HV6.out)
  have HW7 := hide (HW6.out.trans (hb.mono HW6.out.size))
  have HD7 := hide (HD6.out.later hb)
  have Hs7 := hide (Hs6.out.later hb)
  have Ht7 := hide hr
  clear hr
  clear hb hHeld HV6 HW6
  refine hK.out _ _ ⟨cell_blk HV7.out, cell_blk HV7.out, cell_blk HV7.out⟩ (fun hHeld => ?_)
  clear hK K
  try simp only [Act.put, List.setIfInBounds_toArray, List.set_cons_zero, List.set_cons_succ]
  refine wpAnyH_comesAt (i := 12) (by kernel_rfl) (by kernel_rfl) ?_
  intro o ho K hK
  simp only [List.getElem?_toArray, List.getElem?_cons_succ, List.getElem?_cons_zero, Option.some.injEq] at ho
  subst ho
  go_simp
  refine (sfits_any Hs7.out Ht7.out sm_b).mono ?_
  rintro e v8 ⟨rfl, hb⟩
  have HV8 := hide ((hb.block V (blk_lt HV7.out)).trans HV7.out)
  have HW8 := hide (HW7.out.trans (hb.mono HW7.out.size))
  have HD8 := hide (HD7.out.later hb)
  rw [lit_nofit]
  clear Hs6 Hs7 Ht7
  clear hb hHeld HV7 HW7
  refine hK.out _ _ ⟨cell_blk HV8.out, cell_blk HV8.out, cell_blk HV8.out⟩ (fun hHeld => ?_)
  clear hK K
  try simp only [Act.put, List.setIfInBounds_toArray, List.set_cons_zero, List.set_cons_succ]
  refine wpAnyH_takeAt (i := 13) (d := 28) (v := ?va13) (by kernel_rfl) (by kernel_rfl) (by kernel_rfl) (by kernel_rfl) (fun _ _ _ h => h) ?hya13 (by assumption) ?resta13
  case hya13 =>
    intro oi ho
    simp only [List.getElem?_toArray, List.getElem?_cons_succ, List.getElem?_cons_zero, Option.some.injEq] at ho
    subst ho
    refine Or.inl ⟨by rfl, ?_⟩
    intro wx hSw
    try dsimp only at hSw
    go_simp
    try rfl
  try simp only [Act.put, List.setIfInBounds_toArray, List.set_cons_zero, List.set_cons_succ]
  refine wpAnyH_takeAt (i := 14) (d := 29) (v := ?va14) (by kernel_rfl) (by kernel_rfl) (by kernel_rfl) (by kernel_rfl) (fun _ _ _ h => h) ?hya14 (by assumption) ?resta14
  case hya14 =>
    intro oi ho
    simp only [List.getElem?_toArray, List.getElem?_cons_succ, List.getElem?_cons_zero, Option.some.injEq] at ho
    subst ho
    refine Or.inl ⟨by rfl, ?_⟩
    intro wx hSw
    try dsimp only at hSw
    go_simp
    try rfl
  try simp only [Act.put, List.setIfInBounds_toArray, List.set_cons_zero, List.set_cons_succ]
  refine wpAnyH_takeAt (i := 15) (d := 30) (v := ?va15) (by kernel_rfl) (by kernel_rfl) (by kernel_rfl) (by kernel_rfl) (fun _ _ _ h => h) ?hya15 (by assumption) ?resta15
  case hya15 =>
    intro oi ho
    simp only [List.getElem?_toArray, List.getElem?_cons_succ, List.getElem?_cons_zero, Option.some.injEq] at ho
    subst ho
    refine Or.inl ⟨by rfl, ?_⟩
    intro wx hSw
    try dsimp only at hSw
    go_simp
    try rfl
  try simp only [Act.put, List.setIfInBounds_toArray, List.set_cons_zero, List.set_cons_succ]
  refine wpAnyH_takeAt (i := 16) (d := 31) (v := ?va16) (by kernel_rfl) (by kernel_rfl) (by kernel_rfl) (by kernel_rfl) (fun _ _ _ h => h) ?hya16 (by assumption) ?resta16
  case hya16 =>
    intro oi ho
    simp only [List.getElem?_toArray, List.getElem?_cons_succ, List.getElem?_cons_zero, Option.some.injEq] at ho
    subst ho
    refine Or.inl ⟨by rfl, ?_⟩
    intro wx hSw
    try dsimp only at hSw
    go_simp
    try rfl
  try simp only [Act.put, List.setIfInBounds_toArray, List.set_cons_zero, List.set_cons_succ]
  refine wpAnyH_takeAt (i := 17) (d := 32) (v := ?va17) (by kernel_rfl) (by kernel_rfl) (by kernel_rfl) (by kernel_rfl) (fun _ _ _ h => h) ?hya17 (by assumption) ?resta17
  case hya17 =>
    intro oi ho
    simp only [List.getElem?_toArray, List.getElem?_cons_succ, List.getElem?_cons_zero, Option.some.injEq] at ho
    subst ho
    refine Or.inl ⟨by rfl, ?_⟩
    intro wx hSw
    try dsimp only at hSw
    go_simp
    try rfl
  try simp only [Act.put, List.setIfInBounds_toArray, List.set_cons_zero, List.set_cons_succ]
  refine wpAnyH_takeAt (i := 18) (d := 33) (v := ?va18) (by kernel_rfl) (by kernel_rfl) (by kernel_rfl) (by kernel_rfl) (fun _ _ _ h => h) ?hya18 (by assumption) ?resta18
  case hya18 =>
    intro oi ho
    simp only [List.getElem?_toArray, List.getElem?_cons_succ, List.getElem?_cons_zero, Option.some.injEq] at ho
    subst ho
    refine Or.inl ⟨by rfl, ?_⟩
    intro wx hSw
    try dsimp only at hSw
    go_simp
    try rfl
  try simp only [Act.put, List.setIfInBounds_toArray, List.set_cons_zero, List.set_cons_succ]
  refine wpAnyH_takeAt (i := 19) (d := 34) (v := ?va19) (by kernel_rfl) (by kernel_rfl) (by kernel_rfl) (by kernel_rfl) (fun _ _ _ h => h) ?hya19 (by assumption) ?resta19
  case hya19 =>
    intro oi ho
    simp only [List.getElem?_toArray, List.getElem?_cons_succ, List.getElem?_cons_zero, Option.some.injEq] at ho
    subst ho
    refine Or.inl ⟨by rfl, ?_⟩
    intro wx hSw
    try dsimp only at hSw
    go_simp
    try rfl
  try simp only [Act.put, List.setIfInBounds_toArray, List.set_cons_zero, List.set_cons_succ]
  refine wpAnyH_takeAt (i := 20) (d := 35) (v := ?va20) (by kernel_rfl) (by kernel_rfl) (by kernel_rfl) (by kernel_rfl) (fun _ _ _ h => h) ?hya20 (by assumption) ?resta20
  case hya20 =>
    intro oi ho
    simp only [List.getElem?_toArray, List.getElem?_cons_succ, List.getElem?_cons_zero, Option.some.injEq] at ho
    subst ho
    refine Or.inl ⟨by rfl, ?_⟩
    intro wx hSw
    try dsimp only at hSw
    go_simp
    try rfl
  try simp only [Act.put, List.setIfInBounds_toArray, List.set_cons_zero, List.set_cons_succ]
  refine wpAnyH_takeAt (i := 21) (d := 36) (v := ?va21) (by kernel_rfl) (by kernel_rfl) (by kernel_rfl) (by kernel_rfl) (fun _ _ _ h => h) ?hya21 (by assumption) ?resta21
  case hya21 =>
    intro oi ho
    simp only [List.getElem?_toArray, List.getElem?_cons_succ, List.getElem?_cons_zero, Option.some.injEq] at ho
    subst ho
    refine Or.inl ⟨by rfl, ?_⟩
    intro wx hSw
    try dsimp only at hSw
    go_simp
    try rfl
  try simp only [Act.put, List.setIfInBounds_toArray, List.set_cons_zero, List.set_cons_succ]
  refine wpAnyH_takeAt (i := 22) (d := 37) (v := ?va22) (by kernel_rfl) (by kernel_rfl) (by kernel_rfl) (by kernel_rfl) (fun _ _ _ h => h) ?hya22 (by assumption) ?resta22
  case hya22 =>
    intro oi ho
    simp only [List.getElem?_toArray, List.getElem?_cons_succ, List.getElem?_cons_zero, Option.some.injEq] at ho
    subst ho
    refine Or.inl ⟨by rfl, ?_⟩
    intro wx hSw
    try dsimp only at hSw
    go_simp
    try rfl
  try simp only [Act.put, List.setIfInBounds_toArray, List.set_cons_zero, List.set_cons_succ]
  refine wpAnyH_takeAt (i := 23) (d := 38) (v := ?va23) (by kernel_rfl) (by kernel_rfl) (by kernel_rfl) (by kernel_rfl) (fun _ _ _ h => h) ?hya23 (by assumption) ?resta23
  case hya23 =>
    intro oi ho
    simp only [List.getElem?_toArray, List.getElem?_cons_succ, List.getElem?_cons_zero, Option.some.injEq] at ho
    subst ho
    refine Or.inl ⟨by rfl, ?_⟩
    intro wx hSw
    try dsimp only at hSw
    go_simp
    try rfl
  try simp only [Act.put, List.setIfInBounds_toArray, List.set_cons_zero, List.set_cons_succ]
  refine wpAnyH_takeAt (i := 24) (d := 39) (v := ?va24) (by kernel_rfl) (by kernel_rfl) (by kernel_rfl) (by kernel_rfl) (fun _ _ _ h => h) ?hya24 (by assumption) ?resta24
  case hya24 =>
    intro oi ho
    simp only [List.getElem?_toArray, List.getElem?_cons_succ, List.getElem?_cons_zero, Option.some.injEq] at ho
    subst ho
    refine Or.inl ⟨by rfl, ?_⟩
    intro wx hSw
    try dsimp only at hSw
    go_simp
    try rfl
  try simp only [Act.put, List.setIfInBounds_toArray, List.set_cons_zero, List.set_cons_succ]
  refine wpAnyH_takeAt (i := 25) (d := 40) (v := ?va25) (by kernel_rfl) (by kernel_rfl) (by kernel_rfl) (by kernel_rfl) (fun _ _ _ h => h) ?hya25 (by assumption) ?resta25
  case hya25 =>
    intro oi ho
    simp only [List.getElem?_toArray, List.getElem?_cons_succ, List.getElem?_cons_zero, Option.some.injEq] at ho
    subst ho
    refine Or.inl ⟨by rfl, ?_⟩
    intro wx hSw
    try dsimp only at hSw
    go_simp
    try rfl
  try simp only [Act.put, List.setIfInBounds_toArray, List.set_cons_zero, List.set_cons_succ]
  refine wpAnyH_takeAt (i := 26) (d := 41) (v := ?va26) (by kernel_rfl) (by kernel_rfl) (by kernel_rfl) (by kernel_rfl) (fun _ _ _ h => h) ?hya26 (by assumption) ?resta26
  case hya26 =>
    intro oi ho
    simp only [List.getElem?_toArray, List.getElem?_cons_succ, List.getElem?_cons_zero, Option.some.injEq] at ho
    subst ho
    refine Or.inl ⟨by rfl, ?_⟩
    intro wx hSw
    try dsimp only at hSw
    go_simp
    try rfl
  try simp only [Act.put, List.setIfInBounds_toArray, List.set_cons_zero, List.set_cons_succ]
  refine wpAnyH_takeAt (i := 27) (d := 42) (v := ?va27) (by kernel_rfl) (by kernel_rfl) (by kernel_rfl) (by kernel_rfl) (fun _ _ _ h => h) ?hya27 (by assumption) ?resta27
  case hya27 =>
    intro oi ho
    simp only [List.getElem?_toArray, List.getElem?_cons_succ, List.getElem?_cons_zero, Option.some.injEq] at ho
    subst ho
    refine Or.inl ⟨by rfl, ?_⟩
    intro wx hSw
    try dsimp only at hSw
    go_simp
    try rfl
  try simp only [Act.put, List.setIfInBounds_toArray, List.set_cons_zero, List.set_cons_succ]
  refine wpAnyH_takeAt (i := 28) (d := 43) (v := ?va28) (by kernel_rfl) (by kernel_rfl) (by kernel_rfl) (by kernel_rfl) (fun _ _ _ h => h) ?hya28 (by assumption) ?resta28
  case hya28 =>
    intro oi ho
    simp only [List.getElem?_toArray, List.getElem?_cons_succ, List.getElem?_cons_zero, Option.some.injEq] at ho
    subst ho
    refine Or.inl ⟨by rfl, ?_⟩
    intro wx hSw
    try dsimp only at hSw
    go_simp
    try rfl
  try simp only [Act.put, List.setIfInBounds_toArray, List.set_cons_zero, List.set_cons_succ]
  refine wpAnyH_takeAt (i := 29) (d := 44) (v := ?va29) (by kernel_rfl) (by kernel_rfl) (by kernel_rfl) (by kernel_rfl) (fun _ _ _ h => h) ?hya29 (by assumption) ?resta29
  case hya29 =>
    intro oi ho
    simp only [List.getElem?_toArray, List.getElem?_cons_succ, List.getElem?_cons_zero, Option.some.injEq] at ho
    subst ho
    refine Or.inl ⟨by rfl, ?_⟩
    intro wx hSw
    try dsimp only at hSw
    go_simp
    try rfl
  try simp only [Act.put, List.setIfInBounds_toArray, List.set_cons_zero, List.set_cons_succ]
  refine wpAnyH_comesAt (i := 30) (by kernel_rfl) (by kernel_rfl) ?_
  intro o ho K hK
  simp only [List.getElem?_toArray, List.getElem?_cons_succ, List.getElem?_cons_zero, Option.some.injEq] at ho
  subst ho
  go_simp
  refine (little_ok _).mono ?_
  rintro e v9 ⟨ua, uc, ux, ud, rfl, hs, hb⟩
  have HV9 := hide ((hb.block V (blk_lt HV8.out)).trans HV8.out)
  have HW9 := hide (HW8.out.trans (hb.mono HW8.out.size))
  have HD9 := hide (HD8.out.later hb)
  have Hu9 := hide hs
  clear hs
  clear hb hHeld HV8 HW8
  refine hK.out _ _ ⟨cell_blk HV9.out, cell_blk HV9.out, cell_blk HV9.out⟩ (fun hHeld => ?_)
  clear hK K
  try simp only [Act.put, List.setIfInBounds_toArray, List.set_cons_zero, List.set_cons_succ]
  refine wpAnyH_comesAt (i := 31) (by kernel_rfl) (by kernel_rfl) ?_
  intro o ho K hK
  simp only [List.getElem?_toArray, List.getElem?_cons_succ, List.getElem?_cons_zero, Option.some.injEq] at ho
  subst ho
  go_simp
  refine (ssame_any HD9.out Hu9.out (by omega) (by omega)).mono ?_
  rintro e v10 ⟨rfl, hb⟩
  have HV10 := hide ((hb.block V (blk_lt HV9.out)).trans HV9.out)
  have HW10 := hide (HW9.out.trans (hb.mono HW9.out.size))
  rw [lit_same]
  clear Hu9
  clear hb hHeld HV9 HW9
  refine hK.out _ _ ⟨cell_blk HV10.out, cell_blk HV10.out, cell_blk HV10.out⟩ (fun hHeld => ?_)
  clear hK K
  try simp only [Act.put, List.setIfInBounds_toArray, List.set_cons_zero, List.set_cons_succ]
  refine wpAnyH_takeAt (i := 32) (d := 47) (v := ?va32) (by kernel_rfl) (by kernel_rfl) (by kernel_rfl) (by kernel_rfl) (fun _ _ _ h => h) ?hya32 (by assumption) ?resta32
  case hya32 =>
    intro oi ho
    simp only [List.getElem?_toArray, List.getElem?_cons_succ, List.getElem?_cons_zero, Option.some.injEq] at ho
    subst ho
    refine Or.inl ⟨by rfl, ?_⟩
    intro wx hSw
    try dsimp only at hSw
    go_simp
    try rfl
  try simp only [Act.put, List.setIfInBounds_toArray, List.set_cons_zero, List.set_cons_succ]
  refine wpAnyH_takeAt (i := 33) (d := 48) (v := ?va33) (by kernel_rfl) (by kernel_rfl) (by kernel_rfl) (by kernel_rfl) (fun _ _ _ h => h) ?hya33 (by assumption) ?resta33
  case hya33 =>
    intro oi ho
    simp only [List.getElem?_toArray, List.getElem?_cons_succ, List.getElem?_cons_zero, Option.some.injEq] at ho
    subst ho
    refine Or.inl ⟨by rfl, ?_⟩
    intro wx hSw
    try dsimp only at hSw
    go_simp
    try rfl
  try simp only [Act.put, List.setIfInBounds_toArray, List.set_cons_zero, List.set_cons_succ]
  refine wpAnyH_comesAt (i := 34) (by kernel_rfl) (by kernel_rfl) ?_
  intro o ho K hK
  simp only [List.getElem?_toArray, List.getElem?_cons_succ, List.getElem?_cons_zero, Option.some.injEq] at ho
  subst ho
  go_simp
  refine (name_any ⟨#[116]⟩ _).mono ?_
  rintro e v11 ⟨rfl, hb⟩
  have HV11 := hide ((hb.block V (blk_lt HV10.out)).trans HV10.out)
  have HW11 := hide (HW10.out.trans (hb.mono HW10.out.size))
  rw [nm_t]
  clear hb hHeld HV10 HW10
  refine hK.out _ _ ⟨cell_blk HV11.out, cell_blk HV11.out, cell_blk HV11.out⟩ (fun hHeld => ?_)
  clear hK K
  try simp only [Act.put, List.setIfInBounds_toArray, List.set_cons_zero, List.set_cons_succ]
  refine wpAnyH_takeAt (i := 35) (d := 50) (v := ?va35) (by kernel_rfl) (by kernel_rfl) (by kernel_rfl) (by kernel_rfl) (fun _ _ _ h => h) ?hya35 (by assumption) ?resta35
  case hya35 =>
    intro oi ho
    simp only [List.getElem?_toArray, List.getElem?_cons_succ, List.getElem?_cons_zero, Option.some.injEq] at ho
    subst ho
    refine Or.inl ⟨by rfl, ?_⟩
    intro wx hSw
    try dsimp only at hSw
    go_simp
    try rfl
  try simp only [Act.put, List.setIfInBounds_toArray, List.set_cons_zero, List.set_cons_succ]
  refine wpAnyH_takeAt (i := 36) (d := 51) (v := ?va36) (by kernel_rfl) (by kernel_rfl) (by kernel_rfl) (by kernel_rfl) (fun _ _ _ h => h) ?hya36 (by assumption) ?resta36
  case hya36 =>
    intro oi ho
    simp only [List.getElem?_toArray, List.getElem?_cons_succ, List.getElem?_cons_zero, Option.some.injEq] at ho
    subst ho
    refine Or.inl ⟨by rfl, ?_⟩
    intro wx hSw
    try dsimp only at hSw
    go_simp
    try rfl
  try simp only [Act.put, List.setIfInBounds_toArray, List.set_cons_zero, List.set_cons_succ]
  refine wpAnyH_comesAt (i := 37) (by kernel_rfl) (by kernel_rfl) ?_
  intro o ho K hK
  simp only [List.getElem?_toArray, List.getElem?_cons_succ, List.getElem?_cons_zero, Option.some.injEq] at ho
  subst ho
  go_simp
  refine (name_any ⟨#[84]⟩ _).mono ?_
  rintro e v12 ⟨rfl, hb⟩
  have HV12 := hide ((hb.block V (blk_lt HV11.out)).trans HV11.out)
  have HW12 := hide (HW11.out.trans (hb.mono HW11.out.size))
  rw [nm_T]
  clear hb hHeld HV11 HW11
  refine hK.out _ _ ⟨cell_blk HV12.out, cell_blk HV12.out, cell_blk HV12.out⟩ (fun hHeld => ?_)
  clear hK K
  try simp only [Act.put, List.setIfInBounds_toArray, List.set_cons_zero, List.set_cons_succ]
  refine wpAnyH_takeAt (i := 38) (d := 53) (v := ?va38) (by kernel_rfl) (by kernel_rfl) (by kernel_rfl) (by kernel_rfl) (fun _ _ _ h => h) ?hya38 (by assumption) ?resta38
  case hya38 =>
    intro oi ho
    simp only [List.getElem?_toArray, List.getElem?_cons_succ, List.getElem?_cons_zero, Option.some.injEq] at ho
    subst ho
    refine Or.inl ⟨by rfl, ?_⟩
    intro wx hSw
    try dsimp only at hSw
    go_simp
    try rfl
  try simp only [Act.put, List.setIfInBounds_toArray, List.set_cons_zero, List.set_cons_succ]
  refine wpAnyH_takeAt (i := 39) (d := 54) (v := ?va39) (by kernel_rfl) (by kernel_rfl) (by kernel_rfl) (by kernel_rfl) (fun _ _ _ h => h) ?hya39 (by assumption) ?resta39
  case hya39 =>
    intro oi ho
    simp only [List.getElem?_toArray, List.getElem?_cons_succ, List.getElem?_cons_zero, Option.some.injEq] at ho
    subst ho
    refine Or.inl ⟨by rfl, ?_⟩
    intro wx hSw
    try dsimp only at hSw
    go_simp
    try rfl
  try simp only [Act.put, List.setIfInBounds_toArray, List.set_cons_zero, List.set_cons_succ]
  refine wpAnyH_takeAt (i := 40) (d := 55) (v := ?va40) (by kernel_rfl) (by kernel_rfl) (by kernel_rfl) (by kernel_rfl) (fun _ _ _ h => h) ?hya40 (by assumption) ?resta40
  case hya40 =>
    intro oi ho
    simp only [List.getElem?_toArray, List.getElem?_cons_succ, List.getElem?_cons_zero, Option.some.injEq] at ho
    subst ho
    refine Or.inl ⟨by rfl, ?_⟩
    intro wx hSw
    try dsimp only at hSw
    go_simp
    try rfl
  try simp only [Act.put, List.setIfInBounds_toArray, List.set_cons_zero, List.set_cons_succ]
  refine wpAnyH_takeAt (i := 41) (d := 56) (v := ?va41) (by kernel_rfl) (by kernel_rfl) (by kernel_rfl) (by kernel_rfl) (fun _ _ _ h => h) ?hya41 (by assumption) ?resta41
  case hya41 =>
    intro oi ho
    simp only [List.getElem?_toArray, List.getElem?_cons_succ, List.getElem?_cons_zero, Option.some.injEq] at ho
    subst ho
    refine Or.inl ⟨by rfl, ?_⟩
    intro wx hSw
    try dsimp only at hSw
    go_simp
    try rfl
  try simp only [Act.put, List.setIfInBounds_toArray, List.set_cons_zero, List.set_cons_succ]
  refine wpAnyH_comesAt (i := 42) (by kernel_rfl) (by kernel_rfl) ?_
  intro o ho K hK
  simp only [List.getElem?_toArray, List.getElem?_cons_succ, List.getElem?_cons_zero, Option.some.injEq] at ho
  subst ho
  go_simp
  refine (sright_any (s := ⟨⟨#[]⟩, [], []⟩) ⟨SV.nil fC 3 _, SV.nil fX 2 _⟩).mono ?_
  rintro e v13 ⟨rfl, hb⟩
  have HV13 := hide ((hb.block V (blk_lt HV12.out)).trans HV12.out)
  have HW13 := hide (HW12.out.trans (hb.mono HW12.out.size))
  rw [none_err]
  clear hb hHeld HV12 HW12
  refine hK.out _ _ ⟨cell_blk HV13.out, cell_blk HV13.out, cell_blk HV13.out⟩ (fun hHeld => ?_)
  clear hK K
  try simp only [Act.put, List.setIfInBounds_toArray, List.set_cons_zero, List.set_cons_succ]
  refine wpAnyH_takeAt (i := 43) (d := 58) (v := ?va43) (by kernel_rfl) (by kernel_rfl) (by kernel_rfl) (by kernel_rfl) (fun _ _ _ h => h) ?hya43 (by assumption) ?resta43
  case hya43 =>
    intro oi ho
    simp only [List.getElem?_toArray, List.getElem?_cons_succ, List.getElem?_cons_zero, Option.some.injEq] at ho
    subst ho
    refine Or.inl ⟨by rfl, ?_⟩
    intro wx hSw
    try dsimp only at hSw
    go_simp
    try rfl
  try simp only [Act.put, List.setIfInBounds_toArray, List.set_cons_zero, List.set_cons_succ]
  refine wpAnyH_takeAt (i := 44) (d := 59) (v := ?va44) (by kernel_rfl) (by kernel_rfl) (by kernel_rfl) (by kernel_rfl) (fun _ _ _ h => h) ?hya44 (by assumption) ?resta44
  case hya44 =>
    intro oi ho
    simp only [List.getElem?_toArray, List.getElem?_cons_succ, List.getElem?_cons_zero, Option.some.injEq] at ho
    subst ho
    refine Or.inl ⟨by rfl, ?_⟩
    intro wx hSw
    try dsimp only at hSw
    go_simp
    try rfl
  try simp only [Act.put, List.setIfInBounds_toArray, List.set_cons_zero, List.set_cons_succ]
  refine wpAnyH_takeAt (i := 45) (d := 0) (v := ?va45) (by kernel_rfl) (by kernel_rfl) (by kernel_rfl) (by kernel_rfl) (fun _ _ _ h => h) ?hya45 (by assumption) ?resta45
  case hya45 =>
    intro oi ho
    simp only [List.getElem?_toArray, List.getElem?_cons_succ, List.getElem?_cons_zero, Option.some.injEq] at ho
    subst ho
    refine Or.inl ⟨by rfl, ?_⟩
    intro wx hSw
    try dsimp only at hSw
    go_simp
    try rfl
  try simp only [Act.put, List.setIfInBounds_toArray, List.set_cons_zero]
  refine wpAnyH_done (by kernel_rfl) ?_ _
  refine NoPanic.normal ?_
  go_wp2
  go_ret
  exact ⟨rfl, HW13.out⟩
end Go.Proofs.Ytcophbkgighepaa
