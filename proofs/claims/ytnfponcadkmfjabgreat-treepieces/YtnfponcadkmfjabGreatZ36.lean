import Derived.Test.YtnfponcadkmfjabGreatZ35
set_option linter.unusedVariables false
namespace Go.Proofs.YtnfponcadkmfjabGreat
open Go.RowKit
def PutIH [Gd] (B p q px : Nat) (s : DS) (t : PS) (h : Nat) : Prop := ∀ (w : World) (rv : Value) (d n : Int) (gone : List Nat) (b : BT h) (it : It) (ka va : Option Addr) (kc vc : Nat), ST B p q s t w → B ≤ w.heap.size → EV B w px q rv d n gone → gone.length + h < 900 → 0 ≤ n → n < 1000000 → OnD s t h b → ShB h b → BK B w ka it.1.length kc it.1 → BK B w va it.2.length vc it.2 →
  Calls Tryz.prog 58 #[.pointer (some ⟨px, 0, none⟩), plV b.id, .int .i64 ((h + 1 : Nat) : Int), .agg #[.slice ka it.1.length kc, .slice va it.2.length vc]] w fun e w' => ∃ v, e = .returned v ∧ PutR B w px q rv d n gone h b it v w'
set_option maxRecDepth 100000 in
set_option maxHeartbeats 8000000 in
theorem putIn_branch [Gd] {B p q px h : Nat} {s : DS} {t : PS} (hg0 : Gd.g = none) (hlf : s.life = t.life) (hd : s.down = false) (hIH : PutIH B p q px s t h) : PutIH B p q px s t (h + 1) := by
  intro w rv d n gone b it ka va kc vc hST hB hE hlen hn0 hn1 hb hsh hk hv
  obtain ⟨hpg, hit, hcl0, hidb, hkids⟩ := hb
  obtain ⟨hs1, hs2, hs3⟩ := hsh
  have HBX := hide (below_box w (.cells #[.slice ka it.1.length kc, .slice va it.2.length vc] 70))
  have HNX : Hid ((w.alloc (.cells #[.slice ka it.1.length kc, .slice va it.2.length vc] 70)).heap[w.heap.size]? = some (.cells #[.slice ka it.1.length kc, .slice va it.2.length vc] 70 (0, 0))) := heap_alloc_new w _
  have hidm : (b.2.2.map BT.id).length = b.2.1.length + 1 := by rw [List.length_map]; exact hcl0
  have HOP := hide (opened_any hg0 (hST.later HBX.out) (Nat.le_trans hB HBX.out.size) (hE.later HBX.out) (by omega) (i := b.1) (hh := ((h + 1 + 1 : Nat) : Int)) (fun ww v w' => BrN B ww.heap.size w' v b.2.1 (b.2.2.map BT.id)) (fun ww hs hBB => loadedAt_branch b.1 (h + 1 + 1) (by omega) hs hBB hlf hpg.lt (by rw [hpg.of]; decide) hd b.2.1 (b.2.2.map BT.id) hpg.pg hidm (fun x hx => by obtain ⟨k, hk, rfl⟩ := List.mem_map.1 hx; exact hidb k hk) hit.n1 hit.n4 hit.ok hit.so hpg.ln hpg.bt))
  have HK := hide hk
  have HV := hide hv
  have HB := hide hB
  have HST := hide hST
  have HIT := hide hit
  have HEB := hide hE.hB
  have HIH := hide hIH
  have HKD := hide hkids
  have HS3 := hide hs3
  have hfle := fndI_le b.2.1 it.1
  have hn4 := hit.n4
  clear hE hpg hit hk hv hB hIH hkids hs3 hidb hST
  show Calls Tryz.prog 58 #[.pointer (some ⟨px, 0, none⟩), plV b.1, .int .i64 ((h + 1 + 1 : Nat) : Int), .agg #[.slice ka it.1.length kc, .slice va it.2.length vc]] w fun e w' => ∃ v, e = .returned v ∧ PutR B w px q rv d n gone (h + 1) b it v w'
  unfold plV at HOP ⊢
  generalize hkn : it.1.length = kn at *
  generalize hvn : it.2.length = vn at *
  generalize hLL : b.2.1.length = L at *
  generalize hFi : fndI b.2.1 it.1 = Fi at *
  obtain ⟨hb0, hhb⟩ : ∃ x, hasI b.2.1 it.1 = x := ⟨_, rfl⟩
  obtain ⟨n2, hcl⟩ : ∃ x, b.2.2.length = x := ⟨_, rfl⟩
  have hidl : (b.2.2.map BT.id).length = n2 := by rw [List.length_map]; exact hcl
  have hn2 : n2 = L + 1 := by omega
  obtain ⟨H, hH⟩ : ∃ H, h + 1 + 1 = H := ⟨_, rfl⟩
  have hH1 : (H : Int) - 1 = ((h + 1 : Nat) : Int) := by omega
  have hHs : H < 1000 := by omega
  rw [hH] at HOP ⊢
  go_enter Tryz.func58, Tryz.ntmps58
  go_wp2_with fail
  refine HOP.out.mono ?_
  rintro e w3 ⟨v3, w1, rfl, hF1, hs1, ⟨gb, gi, gc, rfl, z1, z2, z5, z3, z4, z6⟩, hb3, hE3⟩
  rw [hLL, hidl] at z3
  have HF1 := hide ((FE.of HBX.out HB.out).trans hF1)
  have HS1 := hide (Nat.le_trans HBX.out.size hs1)
  have HZ3 := hide z3
  have HZ4 := hide z4
  have HZ6 := hide z6
  have HE3 := hide hE3
  have HB3 := hide hb3
  have HNX3 : Hid (w3.heap[w.heap.size]? = some (.cells #[.slice ka kn kc, .slice va vn vc] 70 (0, 0))) := (hb3.block _ (Array.getElem?_eq_some_iff.1 (hF1.2 _ _ _ _ HNX.out (by decide) (by decide))).1).trans (hF1.2 _ _ _ _ HNX.out (by decide) (by decide))
  have ta := asr_branch_yes (.pointer (some ⟨gb, 0, none⟩)) w3
  clear hF1 hs1 z3 z4 z6 hb3 hE3 HOP
  have HF3 := hide (HF1.out.trans (FE.of HB3.out (Nat.le_trans HB.out HS1.out)))
  have hk3 := HK.out.ft HF3.out.ft
  have hv3 := HV.out.ft HF3.out.ft
  have HK3 := hide hk3
  have HV3 := hide hv3
  have HBw3 : Hid (B ≤ w3.heap.size) := Nat.le_trans (Nat.le_trans HB.out HS1.out) HB3.out.size
  have HSw3 : Hid (w.heap.size ≤ w3.heap.size) := Nat.le_trans HS1.out HB3.out.size
  have hgbw : w.heap.size ≤ gb := Nat.le_trans HS1.out z1
  have hgiw : w.heap.size ≤ gi := Nat.le_trans HS1.out z2
  have hgcw : w.heap.size ≤ gc := Nat.le_trans HS1.out z5
  have HFI : Hid (∀ ww, Below w3.heap.size w3 ww → Calls Tryz.prog 93 #[.slice (some ⟨gi, 0, none⟩) L L, .slice ka kn kc] ww fun e w' => e = .returned (.tuple #[.int .i64 (Fi : Int), .bool hb0]) ∧ Below ww.heap.size ww w') := fun ww hb => by
    have := find_ok (HZ4.out.later hb HBw3.out) (Nat.le_trans HBw3.out hb.size) (HK3.out.1.later hb (Nat.le_refl _)) (by have := HIT.out.n4; omega) HIT.out.so hLL
    rw [hFi, hhb] at this
    exact this
  clear hk3 hv3
  go_upto_region 7 with fail
  generalize hG : w.heap.size = G at *
  have hGS : G < w3.heap.size := (Array.getElem?_eq_some_iff.1 HNX3.out).1
  have HX0 : Hid ((fun wx => wx.cell? ⟨gb, 0, none⟩ = some (.slice (some ⟨gi, 0, none⟩) L L) ∧ wx.cell? ⟨G, 0, none⟩ = some (.slice ka kn kc)) w3.drew) := ⟨cell_blk HZ3.out, cell_blk HNX3.out⟩
  refine wp_region_noPanic ?_
  refine wp_region_held_drew (S := fun wx => wx.cell? ⟨gb, 0, none⟩ = some (.slice (some ⟨gi, 0, none⟩) L L) ∧ wx.cell? ⟨G, 0, none⟩ = some (.slice ka kn kc)) (by kernel_rfl) HX0.out (fun hHeld => ?_)
  refine wpAnyH_tk 0 34 (v := ?va0) ?hya0 ?_
  case hya0 => intro oi ho; simp only [List.getElem?_toArray, List.getElem?_cons_zero, Option.some.injEq] at ho; subst ho; refine Or.inl ⟨by rfl, ?_⟩; intro wx hSw; (try dsimp only at hSw); go_simp; try rfl
  try simp only [Act.put, List.setIfInBounds_toArray, List.set_cons_zero, List.set_cons_succ]
  refine wpAnyH_tk 1 35 (v := ?va1) ?hya1 ?_
  case hya1 => intro oi ho; simp only [List.getElem?_toArray, List.getElem?_cons_succ, List.getElem?_cons_zero, Option.some.injEq] at ho; subst ho; refine Or.inl ⟨by rfl, ?_⟩; intro wx hSw; (try dsimp only at hSw); go_simp; try rfl
  try simp only [Act.put, List.setIfInBounds_toArray, List.set_cons_zero, List.set_cons_succ]
  refine wpAnyH_tk 2 36 (v := ?va2) ?hya2 ?_
  case hya2 => intro oi ho; simp only [List.getElem?_toArray, List.getElem?_cons_succ, List.getElem?_cons_zero, Option.some.injEq] at ho; subst ho; refine Or.inl ⟨by rfl, ?_⟩; intro wx hSw; (try dsimp only at hSw); go_simp; try rfl
  try simp only [Act.put, List.setIfInBounds_toArray, List.set_cons_zero, List.set_cons_succ]
  refine wpAnyH_tk 3 37 (v := ?va3) ?hya3 ?_
  case hya3 => intro oi ho; simp only [List.getElem?_toArray, List.getElem?_cons_succ, List.getElem?_cons_zero, Option.some.injEq] at ho; subst ho; refine Or.inl ⟨by rfl, ?_⟩; intro wx hSw; (try dsimp only at hSw); go_simp; try rfl
  try simp only [Act.put, List.setIfInBounds_toArray, List.set_cons_zero, List.set_cons_succ]
  refine wpAnyH_tk 4 38 (v := ?va4) ?hya4 ?_
  case hya4 => intro oi ho; simp only [List.getElem?_toArray, List.getElem?_cons_succ, List.getElem?_cons_zero, Option.some.injEq] at ho; subst ho; refine Or.inl ⟨by rfl, ?_⟩; intro wx hSw; (try dsimp only at hSw); go_simp; try rfl
  try simp only [Act.put, List.setIfInBounds_toArray, List.set_cons_zero, List.set_cons_succ]
  refine wpAnyH_tk 5 39 (v := ?va5) ?hya5 ?_
  case hya5 => intro oi ho; simp only [List.getElem?_toArray, List.getElem?_cons_succ, List.getElem?_cons_zero, Option.some.injEq] at ho; subst ho; refine Or.inl ⟨by rfl, ?_⟩; intro wx hSw; (try dsimp only at hSw); go_simp; try rfl
  try simp only [Act.put, List.setIfInBounds_toArray, List.set_cons_zero, List.set_cons_succ]
  refine wpAnyH_cm 6 ?_; intro o ho K hK; simp only [List.getElem?_toArray, List.getElem?_cons_succ, List.getElem?_cons_zero, Option.some.injEq] at ho; subst ho
  go_simp
  refine (HFI.out w3.drew (Below.refl _ _).drew).mono ?_
  rintro e w4 ⟨rfl, hb4⟩
  have HB4 := hide ((Below.refl w3.heap.size w3).drew.trans hb4)
  have HX1 : Hid ((fun wx => wx.cell? ⟨gb, 0, none⟩ = some (.slice (some ⟨gi, 0, none⟩) L L) ∧ wx.cell? ⟨G, 0, none⟩ = some (.slice ka kn kc)) w4) := ⟨(hb4.cell (p := ⟨gb, 0, none⟩) (Array.getElem?_eq_some_iff.1 HZ3.out).1).trans (cell_blk (w := w3) HZ3.out), (hb4.cell (p := ⟨G, 0, none⟩) hGS).trans (cell_blk (w := w3) HNX3.out)⟩
  clear hb4 hHeld
  refine hK.out _ _ HX1.out (fun hHeld => ?_)
  clear hK K
  try simp only [Act.put, List.setIfInBounds_toArray, List.set_cons_zero, List.set_cons_succ]
  refine wpAnyH_tk 7 33 (v := ?va7) ?hya7 ?_
  case hya7 => intro oi ho; simp only [List.getElem?_toArray, List.getElem?_cons_succ, List.getElem?_cons_zero, Option.some.injEq] at ho; subst ho; refine Or.inl ⟨by rfl, ?_⟩; intro wx hSw; (try dsimp only at hSw); go_simp; try rfl
  try simp only [Act.put, List.setIfInBounds_toArray, List.set_cons_zero, List.set_cons_succ]
  refine wpAnyH_tk 8 41 (v := ?va8) ?hya8 ?_
  case hya8 => intro oi ho; simp only [List.getElem?_toArray, List.getElem?_cons_succ, List.getElem?_cons_zero, Option.some.injEq] at ho; subst ho; refine Or.inl ⟨by rfl, ?_⟩; intro wx hSw; (try dsimp only at hSw); go_simp; try rfl
  try simp only [Act.put, List.setIfInBounds_toArray, List.set_cons_zero, List.set_cons_succ]
  refine wpAnyH_tk 9 42 (v := ?va9) ?hya9 ?_
  case hya9 => intro oi ho; simp only [List.getElem?_toArray, List.getElem?_cons_succ, List.getElem?_cons_zero, Option.some.injEq] at ho; subst ho; refine Or.inl ⟨by rfl, ?_⟩; intro wx hSw; (try dsimp only at hSw); go_simp; try rfl
  try simp only [Act.put, List.setIfInBounds_toArray, List.set_cons_zero, List.set_cons_succ]
  refine wpAnyH_tk 10 12 (v := ?va10) ?hya10 ?_
  case hya10 => intro oi ho; simp only [List.getElem?_toArray, List.getElem?_cons_succ, List.getElem?_cons_zero, Option.some.injEq] at ho; subst ho; refine Or.inl ⟨by rfl, ?_⟩; intro wx hSw; (try dsimp only at hSw); go_simp; try rfl
  try simp only [Act.put, List.setIfInBounds_toArray, List.set_cons_zero, List.set_cons_succ]
  refine wpAnyH_tk 11 13 (v := ?va11) ?hya11 ?_
  case hya11 => intro oi ho; simp only [List.getElem?_toArray, List.getElem?_cons_succ, List.getElem?_cons_zero, Option.some.injEq] at ho; subst ho; refine Or.inl ⟨by rfl, ?_⟩; intro wx hSw; (try dsimp only at hSw); go_simp; try rfl
  try simp only [Act.put, List.setIfInBounds_toArray, List.set_cons_zero, List.set_cons_succ]
  refine wpAnyH_done (by kernel_rfl) ?_ _
  refine NoPanic.normal ?_
  clear hHeld HX0 HX1
  have HF4 := hide (HF3.out.trans (FE.of HB4.out HBw3.out))
  have HGB4 := hide ((HB4.out.block gb (Array.getElem?_eq_some_iff.1 HZ3.out).1).trans HZ3.out)
  have HGC4 := hide ((HB4.out.block gc (Array.getElem?_eq_some_iff.1 HZ6.out).1).trans HZ6.out)
  have HNX4 := hide ((HB4.out.block G hGS).trans HNX3.out)
  have HE4 := hide (HE3.out.later HB4.out)
  have HIR4 := hide (HZ4.out.later HB4.out HBw3.out)
  have HK4 := hide (HK3.out.later HB4.out HBw3.out)
  have HV4 := hide (HV3.out.later HB4.out HBw3.out)
  have HBw4 : Hid (B ≤ w4.heap.size) := Nat.le_trans HBw3.out HB4.out.size
  have HSw4 : Hid (G ≤ w4.heap.size) := Nat.le_trans HSw3.out HB4.out.size
  have y1 : w4.cell? ⟨G, 0, none⟩ = some (.slice ka kn kc) := cell_blk HNX4.out
  have y2 : w4.cell? ⟨G, 1, none⟩ = some (.slice va vn vc) := cell_blk HNX4.out
  have y0 : w4.cell? ⟨gb, 0, none⟩ = some (.slice (some ⟨gi, 0, none⟩) L L) := cell_blk HGB4.out
  clear HZ3 HZ4 HZ6 HE3 HB3 HNX3 ta HK3 HV3 HFI HNX HBX
  cases hb0 with
  | true =>
    obtain ⟨kf, vf, hg1, hg2⟩ := HIR4.out
    rw [hLL] at hg1
    have hFL : Fi < L := by
      obtain ⟨x, hx, _⟩ := (HIT.out.so.has it.1).1 hhb
      rw [hFi] at hx
      have := (List.getElem?_eq_some_iff.1 hx).1
      omega
    have HG1 := hide hg1
    have HG2 := hide hg2
    have y5 : w4.cell? ⟨gi, Fi * 2, none⟩ = some (kf Fi) := by rw [cell_blk hg1, List.getElem?_toArray]; exact two_get0 kf vf Fi L hFL
    have y6 : w4.cell? ⟨gi, Fi * 2 + 1, none⟩ = some (vf Fi) := by rw [cell_blk hg1, List.getElem?_toArray]; exact two_get1 kf vf Fi L hFL
    have f5 : w4.frozen? ⟨gi, Fi * 2, none⟩ = false := frz_blk hg1
    have f6 : w4.frozen? ⟨gi, Fi * 2 + 1, none⟩ = false := frz_blk hg1
    have xF : (Fi : Int) < (L : Int) := by omega
    clear hg1 hg2 HIR4
    go_upto_region 9 with fail
    go_region
    go_wp2
    go_ret
    have h5 : (w4.setCell ⟨gi, Fi * 2, none⟩ (.slice ka kn kc)).heap[gi]? = some (.cells (two (upd kf Fi (.slice ka kn kc)) vf L).toArray 70 (0, 0)) := by
      rw [heap_setCell_same _ _ _ _ _ _ HG1.out, List.setIfInBounds_toArray, two_set0 _ _ _ _ _ hFL]
    have hex : Ex B [gi] w4 ((w4.setCell ⟨gi, Fi * 2, none⟩ (.slice ka kn kc)).setCell ⟨gi, Fi * 2 + 1, none⟩ (.slice va vn vc)).drew := by
      refine ⟨((((Below.refl B w4).setCell (p := ⟨gi, Fi * 2, none⟩) (Nat.le_trans HB.out hgiw) _)).setCell (p := ⟨gi, Fi * 2 + 1, none⟩) (Nat.le_trans HB.out hgiw) _).drew, fun k hk hn => ?_⟩
      simp only [List.mem_cons, List.not_mem_nil, or_false] at hn
      show ((w4.setCell ⟨gi, Fi * 2, none⟩ (.slice ka kn kc)).setCell ⟨gi, Fi * 2 + 1, none⟩ (.slice va vn vc)).heap[k]? = _
      rw [heap_setCell_other _ _ _ _ (by exact hn), heap_setCell_other _ _ _ _ (by exact hn)]
    have hft := hex.ft HG1.out (by decide)
    have hir : IR B ((w4.setCell ⟨gi, Fi * 2, none⟩ (.slice ka kn kc)).setCell ⟨gi, Fi * 2 + 1, none⟩ (.slice va vn vc)).drew gi (b.2.1.set Fi it) := by
      refine IR.set (kf := kf) (vf := vf) hLL HG2.out hft ?_ ⟨ka, kc, by rw [hkn], ?_⟩ ⟨va, vc, by rw [hvn], ?_⟩ hFL
      · show ((w4.setCell ⟨gi, Fi * 2, none⟩ (.slice ka kn kc)).setCell ⟨gi, Fi * 2 + 1, none⟩ (.slice va vn vc)).heap[gi]? = _
        rw [heap_setCell_same _ _ _ _ _ _ h5, List.setIfInBounds_toArray, two_set1 _ _ _ _ _ hFL]
      · rw [hkn]; exact HK4.out.ft hft
      · rw [hvn]; exact HV4.out.ft hft
    have hev := (((HE4.out).set (o := Fi * 2) (u := .slice ka kn kc) HG1.out (by decide) (by decide)).set (o := Fi * 2 + 1) (u := .slice va vn vc) h5 (by decide) (by decide)).later (Below.refl _ _).drew
    have e1 : putE (h + 1) (old b) it = .inr (b.2.1.set Fi it, b.2.2.map old) := by
      rw [putE_yes (e := old b) (it := it) hhb]
      show (Sum.inr (b.2.1.set (fndI b.2.1 it.1) it, b.2.2.map old) : ED (h + 1)) = _
      rw [hFi]
    have e2 : nwB (h + 1) b it.1 = false := by
      show (if hasI b.2.1 it.1 then false else _) = false
      rw [hhb]; rfl
    have e3 : pthB (h + 1) b it.1 = [b.1] := by
      show b.1 :: (if hasI b.2.1 it.1 then [] else _) = _
      rw [hhb]; rfl
    refine ⟨_, rfl, ⟨[gb], ?_, by simp⟩, ?_, hex.fe1 HF4.out (by omega)⟩
    · rw [e1]
      have hl2 : (b.2.1.set Fi it).length = L := by rw [List.length_set]; exact hLL
      have hiv := hir.iv (B1 := G) (by omega) (by rw [hl2]; omega)
      rw [hl2] at hiv
      rw [hG]
      refine nv_none ⟨by omega, _, gc, (b.2.2.map fun k => plV k.id).length, ?_, by omega, Nat.le_refl _, by rw [List.length_map]; omega, ⟨[], ?_⟩, hiv⟩
      · rw [show (b.2.2.map fun k => plV k.id).length = n2 by rw [List.length_map]; exact hcl]
        exact hex.keep HG1.out HGB4.out (by decide)
      · rw [List.append_nil]
        have := hex.keep HG1.out HGC4.out (by decide)
        rw [List.map_map] at this
        exact this
    · rw [e2, e3]
      exact hev
  | false =>
    have hFn : Fi < n2 := by omega
    obtain ⟨kb, hkb⟩ : ∃ kb, b.2.2[Fi]? = some kb := ⟨_, List.getElem?_eq_getElem (by omega)⟩
    have hkm := List.mem_of_getElem? hkb
    have hshk := HS3.out kb hkm
    have r1 : w4.cell? ⟨gb, 1, none⟩ = some (.slice (some ⟨gc, 0, none⟩) n2 n2) := cell_blk HGB4.out
    have r2 : w4.cell? ⟨gc, Fi, none⟩ = some (.iface 105 (.int .i64 (kb.id : Int))) := by
      rw [cell_blk HGC4.out, List.getElem?_toArray, List.getElem?_map, List.getElem?_map, hkb]
      rfl
    have xF : (Fi : Int) < (n2 : Int) := by omega
    have HRC := hide (HIH.out w4.drew rv d n (gone ++ [b.1]) kb it ka va kc vc ((HF4.out.st HST.out hg0).later (Below.refl _ _).drew) HBw4.out (HE4.out.later (Below.refl _ _).drew) (by rw [List.length_append, List.length_singleton]; omega) hn0 hn1 (HKD.out kb hkm) hshk.1 (by rw [hkn]; exact HK4.out.later (Below.refl _ _).drew HBw4.out) (by rw [hvn]; exact HV4.out.later (Below.refl _ _).drew HBw4.out))
    unfold plV at HRC
    rw [hkn, hvn, show ((h + 1 : Nat) : Int) = (h : Int) + 1 by omega] at HRC
    have hwH : IntKind.i64.wrap ((h : Int) + 1) = (h : Int) + 1 := by rw [IntKind.wrap_i64]; omega
    have hgbl := (Array.getElem?_eq_some_iff.1 HGB4.out).1
    have hgcl := (Array.getElem?_eq_some_iff.1 HGC4.out).1
    obtain ⟨ys, hgi1, hgi2⟩ := HIR4.out.itc
    have HGI1 := hide hgi1
    have HGI2 := hide hgi2
    clear hgi1 hgi2
    go_upto_region 11 with fail
    have HX2 : Hid ((fun wx => wx.cell? ⟨gb, 1, none⟩ = some (.slice (some ⟨gc, 0, none⟩) n2 n2) ∧ wx.cell? ⟨G, 0, none⟩ = some (.slice ka kn kc) ∧ wx.cell? ⟨G, 1, none⟩ = some (.slice va vn vc)) w4.drew) := ⟨r1, y1, y2⟩
    refine wp_region_noPanic ?_
    refine wp_region_held_drew (S := fun wx => wx.cell? ⟨gb, 1, none⟩ = some (.slice (some ⟨gc, 0, none⟩) n2 n2) ∧ wx.cell? ⟨G, 0, none⟩ = some (.slice ka kn kc) ∧ wx.cell? ⟨G, 1, none⟩ = some (.slice va vn vc)) (by kernel_rfl) HX2.out (fun hHeld => ?_)
    refine wpAnyH_tk 0 53 (v := ?vc0) ?hyc0 ?_
    case hyc0 => intro oi ho; simp only [List.getElem?_toArray, List.getElem?_cons_zero, Option.some.injEq] at ho; subst ho; refine Or.inl ⟨by rfl, ?_⟩; intro wx hSw; (try dsimp only at hSw); go_simp; try rfl
    try simp only [Act.put, List.setIfInBounds_toArray, List.set_cons_zero, List.set_cons_succ]
    refine wpAnyH_tk 1 54 (v := ?vc1) ?hyc1 ?_
    case hyc1 => intro oi ho; simp only [List.getElem?_toArray, List.getElem?_cons_succ, List.getElem?_cons_zero, Option.some.injEq] at ho; subst ho; refine Or.inl ⟨by rfl, ?_⟩; intro wx hSw; (try dsimp only at hSw); go_simp; try rfl
    try simp only [Act.put, List.setIfInBounds_toArray, List.set_cons_zero, List.set_cons_succ]
    refine wpAnyH_tk 2 55 (v := ?vc2) ?hyc2 ?_
    case hyc2 => intro oi ho; simp only [List.getElem?_toArray, List.getElem?_cons_succ, List.getElem?_cons_zero, Option.some.injEq] at ho; subst ho; refine Or.inl ⟨by rfl, ?_⟩; intro wx hSw; (try dsimp only at hSw); go_simp; try rfl
    try simp only [Act.put, List.setIfInBounds_toArray, List.set_cons_zero, List.set_cons_succ]
    refine wpAnyH_tk 3 56 (v := ?vc3) ?hyc3 ?_
    case hyc3 => intro oi ho; simp only [List.getElem?_toArray, List.getElem?_cons_succ, List.getElem?_cons_zero, Option.some.injEq] at ho; subst ho; refine Or.inl ⟨by rfl, ?_⟩; intro wx hSw; (try dsimp only at hSw); go_simp; try rfl
    try simp only [Act.put, List.setIfInBounds_toArray, List.set_cons_zero, List.set_cons_succ]
    refine wpAnyH_tk 4 57 (v := ?vc4) ?hyc4 ?_
    case hyc4 => intro oi ho; simp only [List.getElem?_toArray, List.getElem?_cons_succ, List.getElem?_cons_zero, Option.some.injEq] at ho; subst ho; refine Or.inl ⟨by rfl, ?_⟩; intro wx hSw; (try dsimp only at hSw); go_simp; try rfl
    try simp only [Act.put, List.setIfInBounds_toArray, List.set_cons_zero, List.set_cons_succ]
    refine wpAnyH_tk 5 58 (v := ?vc5) ?hyc5 ?_
    case hyc5 => intro oi ho; simp only [List.getElem?_toArray, List.getElem?_cons_succ, List.getElem?_cons_zero, Option.some.injEq] at ho; subst ho; refine Or.inl ⟨by rfl, ?_⟩; intro wx hSw; (try dsimp only at hSw); go_simp; try rfl
    try simp only [Act.put, List.setIfInBounds_toArray, List.set_cons_zero, List.set_cons_succ]
    refine wpAnyH_tk 6 59 (v := ?vc6) ?hyc6 ?_
    case hyc6 => intro oi ho; simp only [List.getElem?_toArray, List.getElem?_cons_succ, List.getElem?_cons_zero, Option.some.injEq] at ho; subst ho; refine Or.inl ⟨by rfl, ?_⟩; intro wx hSw; (try dsimp only at hSw); go_simp; try rfl
    try simp only [Act.put, List.setIfInBounds_toArray, List.set_cons_zero, List.set_cons_succ]
    refine wpAnyH_tk 7 60 (v := ?vc7) ?hyc7 ?_
    case hyc7 => intro oi ho; simp only [List.getElem?_toArray, List.getElem?_cons_succ, List.getElem?_cons_zero, Option.some.injEq] at ho; subst ho; refine Or.inl ⟨by rfl, ?_⟩; intro wx hSw; (try dsimp only at hSw); go_simp; try rfl
    try simp only [Act.put, List.setIfInBounds_toArray, List.set_cons_zero, List.set_cons_succ]
    refine wpAnyH_tk 8 61 (v := ?vc8) ?hyc8 ?_
    case hyc8 => intro oi ho; simp only [List.getElem?_toArray, List.getElem?_cons_succ, List.getElem?_cons_zero, Option.some.injEq] at ho; subst ho; refine Or.inl ⟨by rfl, ?_⟩; intro wx hSw; (try dsimp only at hSw); go_simp; try rfl
    try simp only [Act.put, List.setIfInBounds_toArray, List.set_cons_zero, List.set_cons_succ]
    refine wpAnyH_tk 9 62 (v := ?vc9) ?hyc9 ?_
    case hyc9 => intro oi ho; simp only [List.getElem?_toArray, List.getElem?_cons_succ, List.getElem?_cons_zero, Option.some.injEq] at ho; subst ho; refine Or.inl ⟨by rfl, ?_⟩; intro wx hSw; (try dsimp only at hSw); go_simp; try rfl
    try simp only [Act.put, List.setIfInBounds_toArray, List.set_cons_zero, List.set_cons_succ]
    refine wpAnyH_tk 10 63 (v := ?vc10) ?hyc10 ?_
    case hyc10 => intro oi ho; simp only [List.getElem?_toArray, List.getElem?_cons_succ, List.getElem?_cons_zero, Option.some.injEq] at ho; subst ho; refine Or.inl ⟨by rfl, ?_⟩; intro wx hSw; (try dsimp only at hSw); go_simp; try rfl
    try simp only [Act.put, List.setIfInBounds_toArray, List.set_cons_zero, List.set_cons_succ]
    refine wpAnyH_takeAt (i := 11) (d := 64) (v := ?vc11) (by kernel_rfl) (by kernel_rfl) (by kernel_rfl) (by kernel_rfl) (fun _ _ _ h => h) ?hyc11 (by assumption) ?restc11
    case hyc11 =>
      intro oi ho
      simp only [List.getElem?_toArray, List.getElem?_cons_succ, List.getElem?_cons_zero, Option.some.injEq] at ho
      subst ho
      refine Or.inl ⟨by rfl, ?_⟩
      intro wx hSw
      try dsimp only at hSw
      go_simp
      try rfl
      rw [if_pos (by omega)]
    try simp only [Act.put, List.setIfInBounds_toArray, List.set_cons_zero, List.set_cons_succ]
    refine wpAnyH_tk 13 66 (v := ?vc13) ?hyc13 ?_
    case hyc13 => intro oi ho; simp only [List.getElem?_toArray, List.getElem?_cons_succ, List.getElem?_cons_zero, Option.some.injEq] at ho; subst ho; refine Or.inl ⟨by rfl, ?_⟩; intro wx hSw; (try dsimp only at hSw); go_simp; try rfl
    try simp only [Act.put, List.setIfInBounds_toArray, List.set_cons_zero, List.set_cons_succ]
    refine wpAnyH_tk 14 67 (v := ?vc14) ?hyc14 ?_
    case hyc14 => intro oi ho; simp only [List.getElem?_toArray, List.getElem?_cons_succ, List.getElem?_cons_zero, Option.some.injEq] at ho; subst ho; refine Or.inl ⟨by rfl, ?_⟩; intro wx hSw; (try dsimp only at hSw); go_simp; try rfl
    try simp only [Act.put, List.setIfInBounds_toArray, List.set_cons_zero, List.set_cons_succ]
    refine wpAnyH_tk 15 68 (v := ?vc15) ?hyc15 ?_
    case hyc15 => intro oi ho; simp only [List.getElem?_toArray, List.getElem?_cons_succ, List.getElem?_cons_zero, Option.some.injEq] at ho; subst ho; refine Or.inl ⟨by rfl, ?_⟩; intro wx hSw; (try dsimp only at hSw); go_simp; try rfl
    try simp only [Act.put, List.setIfInBounds_toArray, List.set_cons_zero, List.set_cons_succ]
    refine wpAnyH_cm 12 ?_; intro o ho K hK; simp only [List.getElem?_toArray, List.getElem?_cons_succ, List.getElem?_cons_zero, Option.some.injEq] at ho; subst ho
    go_simp
    refine hK.out _ _ HX2.out (fun hHeld => ?_)
    clear hK K
    refine wpAnyH_cm 16 ?_; intro o ho K hK; simp only [List.getElem?_toArray, List.getElem?_cons_succ, List.getElem?_cons_zero, Option.some.injEq] at ho; subst ho
    go_simp
    refine HRC.out.mono ?_
    rintro e w5 ⟨v5, rfl, hP5⟩
    obtain ⟨⟨vt, vv⟩, hve⟩ := NV.cells hP5.1.choose_spec.1
    subst hve
    have HGC5 : Hid (w5.heap[gc]? = some (.cells ((b.2.2.map BT.id).map plV).toArray 107 (0, 0))) := hP5.2.2.2 _ _ _ _ (show w4.drew.heap[gc]? = _ from HGC4.out) (by decide) (by decide)
    have HGB5 : Hid (w5.heap[gb]? = some (.cells #[.slice (some ⟨gi, 0, none⟩) L L, .slice (some ⟨gc, 0, none⟩) n2 n2] 152 (0, 0))) := hP5.2.2.2 _ _ _ _ (show w4.drew.heap[gb]? = _ from HGB4.out) (by decide) (by decide)
    have HNX5 : Hid (w5.heap[G]? = some (.cells #[.slice ka kn kc, .slice va vn vc] 70 (0, 0))) := hP5.2.2.2 _ _ _ _ (show w4.drew.heap[G]? = _ from HNX4.out) (by decide) (by decide)
    have HX5 : Hid ((fun wx => wx.cell? ⟨gb, 1, none⟩ = some (.slice (some ⟨gc, 0, none⟩) n2 n2) ∧ wx.cell? ⟨G, 0, none⟩ = some (.slice ka kn kc) ∧ wx.cell? ⟨G, 1, none⟩ = some (.slice va vn vc)) w5) := ⟨cell_blk HGB5.out, cell_blk HNX5.out, cell_blk HNX5.out⟩
    have HP5 := hide hP5
    clear hP5 hHeld
    refine hK.out _ _ HX5.out (fun hHeld => ?_)
    clear hK K
    refine wpAnyH_takeAt (i := 17) (d := 70) (v := ?vc17) (by kernel_rfl) (by kernel_rfl) (by kernel_rfl) (by kernel_rfl) (fun _ _ _ h => h) ?hyc17 (by assumption) ?restc17
    case hyc17 =>
      intro oi ho
      simp only [List.getElem?_toArray, List.getElem?_cons_succ, List.getElem?_cons_zero, Option.some.injEq] at ho
      subst ho
      refine Or.inl ⟨by rfl, ?_⟩
      intro wx hSw
      try dsimp only at hSw
      go_simp
      try rfl
      rw [if_pos (by omega)]
    try simp only [Act.put, List.setIfInBounds_toArray, List.set_cons_zero, List.set_cons_succ]
    have q2 : w5.cell? ⟨gc, Fi, none⟩ = some (.iface 105 (.int .i64 (kb.id : Int))) := by
      rw [cell_blk HGC5.out, List.getElem?_toArray, List.getElem?_map, List.getElem?_map, hkb]
      rfl
    have f2 : w5.frozen? ⟨gc, Fi, none⟩ = false := frz_blk HGC5.out
    obtain ⟨⟨SS, hNV5, hND5⟩, hEV5, hFE5⟩ := HP5.out
    have HGC6 : Hid ((w5.setCell ⟨gc, Fi, none⟩ (.iface vt vv)).heap[gc]? = some (.cells (((b.2.2.map BT.id).map plV).set Fi (.iface vt vv)).toArray 107 (0, 0))) := by
      show _ = _
      rw [heap_setCell_same _ _ _ _ _ _ HGC5.out, List.setIfInBounds_toArray]
    have hoc : (Value.iface vt vv).oneCell' = true := NV.cell hNV5
    have HOT : Hid (∀ k, k ≠ gc → (w5.setCell ⟨gc, Fi, none⟩ (.iface vt vv)).heap[k]? = w5.heap[k]?) := fun k hk => heap_setCell_other _ _ _ _ hk
    have hgbc : gb ≠ gc := by
      intro q9
      have h9 := HGB5.out
      rw [q9, HGC5.out] at h9
      simp only [Option.some.injEq, Obj.cells.injEq] at h9
      exact absurd h9.2.1 (by decide)
    have hGc : G ≠ gc := by
      intro q9
      have h9 := HNX5.out
      rw [q9, HGC5.out] at h9
      simp only [Option.some.injEq, Obj.cells.injEq] at h9
      exact absurd h9.2.1 (by decide)
    have HX6 : Hid ((fun wx => wx.cell? ⟨gb, 1, none⟩ = some (.slice (some ⟨gc, 0, none⟩) n2 n2) ∧ wx.cell? ⟨G, 0, none⟩ = some (.slice ka kn kc) ∧ wx.cell? ⟨G, 1, none⟩ = some (.slice va vn vc)) (w5.setCell ⟨gc, Fi, none⟩ (.iface vt vv))) := ⟨cell_blk ((HOT.out gb hgbc).trans HGB5.out), cell_blk ((HOT.out G hGc).trans HNX5.out), cell_blk ((HOT.out G hGc).trans HNX5.out)⟩
    have HNV5 := hide hNV5
    have HND5 := hide hND5
    have HEV5 := hide hEV5
    have HFE5 := hide hFE5
    clear hNV5 hND5 hEV5 hFE5
    refine wpAnyH_cm 18 ?_; intro o ho K hK; simp only [List.getElem?_toArray, List.getElem?_cons_succ, List.getElem?_cons_zero, Option.some.injEq] at ho; subst ho
    go_simp
    refine hK.out _ _ HX6.out (fun hHeld => ?_)
    clear hK K
    try simp only [Act.put, List.setIfInBounds_toArray, List.set_cons_zero, List.set_cons_succ]
    refine wpAnyH_done (by kernel_rfl) ?_ _
    refine NoPanic.normal ?_
    clear hHeld q2 f2 HX2 HX5 HX6
    have hsE := ShE_old kb hshk.1
    have h2e : 2 ≤ (itE (putE h (old kb) it)).length := by
      have := (itE_put_le (old kb) it hsE).1
      rw [itE_old] at this
      have := hshk.2
      omega
    have hlow := NV.lo HNV5.out
    have hw45 : w4.heap.size ≤ w5.heap.size := HFE5.out.1.size
    have HBs6 : Hid ((w5.setCell ⟨gc, Fi, none⟩ (.iface vt vv)).heap.size = w5.heap.size) := by show _ = _; simp [World.setCell]
    have HFT6 : Hid (FT B w5 (w5.setCell ⟨gc, Fi, none⟩ (.iface vt vv))) := FT.set HGC5.out (Nat.le_trans HB.out hgcw) (by decide)
    have HNV6 : Hid (NV B G (w5.setCell ⟨gc, Fi, none⟩ (.iface vt vv)) h (putE h (old kb) it) SS (.iface vt vv)) := NV.up HFT6.out (fun k hk _ => HOT.out k (by have h9 : gc < w4.heap.size := hgcl; have h8 : w4.drew.heap.size ≤ k := hk; have h7 : w4.drew.heap.size = w4.heap.size := rfl; omega)) HSw4.out HNV5.out
    have HEV6 := hide (HEV5.out.set (o := Fi) (u := .iface vt vv) HGC5.out (by decide) (by decide))
    have HFE6 : Hid (FE B w (w5.setCell ⟨gc, Fi, none⟩ (.iface vt vv))) := by
      have hch := (HF4.out.trans (FE.of (Below.refl _ _).drew HBw4.out)).trans HFE5.out
      refine ⟨hch.1.trans ((Below.refl B w5).setCell (p := ⟨gc, Fi, none⟩) (Nat.le_trans HB.out hgcw) _), fun k cs t' fz e n1' n2' => ?_⟩
      have e5 := hch.2 k cs t' fz e n1' n2'
      have hk := (Array.getElem?_eq_some_iff.1 e).1
      rw [HOT.out k (by omega)]
      exact e5
    have hGIk := HFE5.out.2 _ _ _ _ (show w4.drew.heap[gi]? = _ from HGI1.out) (by decide) (by decide)
    have HPF : Hid (PF B G (w5.setCell ⟨gc, Fi, none⟩ (.iface vt vv)) gb b.2.1 ((b.2.2.map fun k => plV k.id).set Fi (.iface vt vv))) := by
      refine ⟨by omega, ⟨some ⟨gi, 0, none⟩, L, gc, ?_, by omega, ?_, Or.inr ⟨gi, ys, rfl, hLL.symm, by omega, ?_, (HGI2.out.ft ((FT.of (Below.refl _ _).drew HBw4.out).trans HFE5.out.ft)).ft HFT6.out, by intro q9; have h9 := HIT.out.n1; rw [q9] at h9; simp at h9⟩⟩, ?_⟩
      · rw [show ((b.2.2.map fun k => plV k.id).set Fi (.iface vt vv)).length = n2 by rw [List.length_set, List.length_map]; exact hcl, hLL, HOT.out gb hgbc]
        exact HGB5.out
      · have := HGC6.out
        rw [List.map_map] at this
        exact this
      · rw [HOT.out gi ?_, hGIk]
        intro q9
        have h9 := hGIk
        rw [q9, HGC5.out] at h9
        simp only [Option.some.injEq, Obj.cells.injEq] at h9
        exact absurd h9.2.1 (by decide)
      · intro u hu
        rcases List.mem_or_eq_of_mem_set hu with hu | rfl
        · obtain ⟨k, _, rfl⟩ := List.mem_map.1 hu
          rfl
        · rfl
    have hgS : gb ∉ SS := fun q9 => by
      have h9 := (hlow gb q9).1
      have h8 : w4.drew.heap.size = w4.heap.size := rfl
      omega
    have HSET := hide (settleT_ok (px := px) (i := Fi) (hh := (h : Int) + 1) HPF.out HB.out (by rw [HBs6.out]; omega) (by omega) (by rw [List.length_set, List.length_map]; omega) (by omega) (List.getElem?_set_self (by rw [List.length_map]; omega)) HNV6.out hgS (isNew_put kb it (by
      match h, kb, hshk.1 with
      | 0, _, _ => exact trivial
      | h + 1, _, hq => exact hq.2.1)) h2e (Sh_put _ it hsE))
    generalize hw6 : w5.setCell ⟨gc, Fi, none⟩ (.iface vt vv) = w6 at *
    go_wp2_with fail
    refine HSET.out.mono ?_
    rintro e w7 ⟨rfl, hq7⟩
    have HQ7 := hide hq7
    clear hq7 HSET
    go_wp2
    go_ret
    have hno : ¬ hasI (opS (old b)).1 it.1 = true := by
      show ¬ hasI b.2.1 it.1 = true
      rw [hhb]; simp
    have hget : (opS (old b)).2[fndI (opS (old b)).1 it.1]? = some (old kb) := by
      show (b.2.2.map old)[fndI b.2.1 it.1]? = _
      rw [hFi, List.getElem?_map, hkb]; rfl
    have e1 : putE (h + 1) (old b) it = .inr (setl b.2.1 ((b.2.2.map old).set Fi (putE h (old kb) it)) Fi) := by
      rw [putE_no hno hget]
      show (Sum.inr (setl b.2.1 ((b.2.2.map old).set (fndI b.2.1 it.1) (putE h (old kb) it)) (fndI b.2.1 it.1)) : ED (h + 1)) = _
      rw [hFi]
    have e2 : nwB (h + 1) b it.1 = nwB h kb it.1 := by
      show (if hasI b.2.1 it.1 then false else match b.2.2[fndI b.2.1 it.1]? with | some c => nwB h c it.1 | none => false) = _
      rw [hhb, hFi, hkb]; rfl
    have e3 : pthB (h + 1) b it.1 = b.1 :: pthB h kb it.1 := by
      show b.1 :: (if hasI b.2.1 it.1 then [] else match b.2.2[fndI b.2.1 it.1]? with | some c => pthB h c it.1 | none => []) = _
      rw [hhb, hFi, hkb]; rfl
    have e4 : ((b.2.2.map old).set Fi (putE h (old kb) it))[Fi]? = some (putE h (old kb) it) := List.getElem?_set_self (by rw [List.length_map]; omega)
    have hq := HQ7.out
    by_cases h4 : 4 < (itE (putE h (old kb) it)).length
    · rw [if_pos h4] at hq
      obtain ⟨⟨lv, rv, gl, gr, g5, A, C, hPV, hN1, hN2, hS, hne, hl1, hl2⟩, hEx⟩ := hq
      have e5 : setl b.2.1 ((b.2.2.map old).set Fi (putE h (old kb) it)) Fi = (b.2.1.take Fi ++ midE (putE h (old kb) it) :: b.2.1.drop Fi, ((b.2.2.map old).set Fi (putE h (old kb) it)).take Fi ++ lefE (putE h (old kb) it) :: rigE (putE h (old kb) it) :: ((b.2.2.map old).set Fi (putE h (old kb) it)).drop (Fi + 1)) := by
        unfold setl
        rw [e4]
        simp only
        rw [if_pos h4]
      refine ⟨_, rfl, ⟨gb :: ((gl :: A) ++ (gr :: C)), ?_, ?_⟩, ?_, ?_⟩
      · rw [e1, e5, hG]
        exact nv_two (by omega) hPV hN1 hN2
      · have hnd := HND5.out
        rw [hS] at hnd
        have hnd2 := (List.nodup_cons.1 hnd).2
        have hac := List.nodup_append.1 hnd2
        have hlt : ∀ g ∈ A ++ C, g < w6.heap.size := fun g hg => by
          have := (hlow g (by rw [hS]; exact List.mem_cons_of_mem _ hg)).2
          have := HBs6.out
          omega
        have hgbl6 : gb < w6.heap.size := by have := HBs6.out; omega
        have hgb' : gb ∉ A ++ C := fun q9 => hgS (by rw [hS]; exact List.mem_cons_of_mem _ q9)
        refine List.nodup_cons.2 ⟨?_, List.nodup_append.2 ⟨List.nodup_cons.2 ⟨?_, hac.1⟩, List.nodup_cons.2 ⟨?_, hac.2.1⟩, ?_⟩⟩
        · intro q9
          rcases List.mem_append.1 q9 with q9 | q9
          · rcases List.mem_cons.1 q9 with q9 | q9
            · omega
            · exact hgb' (List.mem_append_left _ q9)
          · rcases List.mem_cons.1 q9 with q9 | q9
            · omega
            · exact hgb' (List.mem_append_right _ q9)
        · intro q9
          have := hlt gl (List.mem_append_left _ q9)
          omega
        · intro q9
          have := hlt gr (List.mem_append_right _ q9)
          omega
        · intro x hx y hy hxy
          subst hxy
          rcases List.mem_cons.1 hx with q1 | q1
          · rcases List.mem_cons.1 hy with q2 | q2
            · exact hne (q1.symm.trans q2)
            · have := hlt x (List.mem_append_right _ q2)
              omega
          · rcases List.mem_cons.1 hy with q2 | q2
            · have := hlt x (List.mem_append_left _ q1)
              omega
            · exact hac.2.2 x q1 x q2 rfl
      · rw [e2, e3]
        obtain ⟨sa', sc', gc', hgb6, _⟩ := HPF.out.hx
        have := HEV6.out.ex hEx hgb6
        rw [List.append_assoc] at this
        exact this
      · exact hEx.fe1 HFE6.out (by omega)
    · rw [if_neg h4] at hq
      subst hq
      have e5 : setl b.2.1 ((b.2.2.map old).set Fi (putE h (old kb) it)) Fi = (b.2.1, (b.2.2.map old).set Fi (putE h (old kb) it)) := by
        unfold setl
        rw [e4]
        simp only
        rw [if_neg h4]
      refine ⟨_, rfl, ⟨gb :: SS, ?_, List.nodup_cons.2 ⟨hgS, HND5.out⟩⟩, ?_, HFE6.out⟩
      · rw [e1, e5, hG]
        exact nv_one (HPF.out.pv (by omega) (by rw [List.length_set, List.length_map]; omega)) (by omega) HNV6.out
      · rw [e2, e3]
        have := HEV6.out
        rw [List.append_assoc] at this
        exact this
theorem putIn_ok [Gd] {B p q px : Nat} {s : DS} {t : PS} (hg0 : Gd.g = none) (hlf : s.life = t.life) (hd : s.down = false) : ∀ h, PutIH B p q px s t h
  | 0 => fun w rv d n gone b it ka va kc vc hST hB hE hlen hn0 hn1 hb _ hk hv => putIn_leaf hg0 hST hB hlf hd hE (by omega) hn0 hn1 b hb it hk hv
  | h + 1 => putIn_branch hg0 hlf hd (putIn_ok hg0 hlf hd h)
end Go.Proofs.YtnfponcadkmfjabGreat
set_option linter.unusedVariables false
namespace Go.Proofs.YtnfponcadkmfjabGreat
open Go.RowKit
theorem NV.asr {B B1 : Nat} {w : World} : ∀ {h : Nat} {e : ED h} {S : List Nat} {v : Value}, NV B B1 w h e S v → isNew e → ∃ (pv : Value) (ok : Bool), ∀ ww, (Instr.typeAssert v 107 148 true).run Tryz.prog ww = .ok (.tuple #[pv, .bool ok]) ww
  | 0, .inr l, S, v, hn, _ => by
    obtain ⟨g, iv, h1, rfl, _⟩ := hn
    exact ⟨_, _, fun ww => asr_branch_no _ ww⟩
  | h + 1, .inr x, S, v, hn, _ => by
    obtain ⟨g, iv, gc, oc, cc, Sk, h1, rfl, _⟩ := hn
    exact ⟨_, _, fun ww => asr_branch_yes _ ww⟩
def rootE (h : Nat) (e : ED h) : Σ h, ED h := if 4 < (itE e).length then ⟨h + 1, .inr ([midE e], [lefE e, rigE e])⟩ else ⟨h, e⟩
theorem fl_root {h : Nat} {e : ED h} (hs : ShE h 5 e) : flE (rootE h e).1 (rootE h e).2 = flE h e := by
  unfold rootE
  by_cases c : 4 < (itE e).length
  · rw [if_pos c]
    show weave [midE e] [flE h (lefE e), flE h (rigE e)] = _
    rw [flE_halves e hs c]
    simp [weave]
  · rw [if_neg c]
theorem Sh_root {h : Nat} {e : ED h} (hs : ShE h 5 e) : ShE (rootE h e).1 4 (rootE h e).2 := by
  unfold rootE
  by_cases c : 4 < (itE e).length
  · rw [if_pos c]
    have hh := Sh_halves e hs c
    refine ⟨by show 1 ≤ 4; omega, rfl, fun k hk => ?_⟩
    have hk : k ∈ [lefE e, rigE e] := hk
    simp only [List.mem_cons, List.not_mem_nil, or_false] at hk
    rcases hk with rfl | rfl
    · exact hh.1
    · exact hh.2
  · rw [if_neg c]
    match h, e, hs, c with
    | 0, e, _, c => show (op0 e).length ≤ 4; simp only [itE] at c; omega
    | h + 1, e, ⟨_, q2, q3⟩, c => exact ⟨by show (opS e).1.length ≤ 4; have c : ¬ 4 < (opS e).1.length := c; omega, q2, q3⟩
theorem EV.cellsx {B px q : Nat} {w : World} {rv : Value} {d n : Int} {gone : List Nat} (h : EV B w px q rv d n gone) : w.cell? ⟨px, 0, none⟩ = some (.pointer (some ⟨q, 0, none⟩)) ∧ w.cell? ⟨px, 1, none⟩ = some rv ∧ w.cell? ⟨px, 2, none⟩ = some (.int .i64 d) ∧ w.cell? ⟨px, 3, none⟩ = some (.int .i64 n) ∧ ∀ i, w.frozen? ⟨px, i, none⟩ = false := by
  obtain ⟨gv, h1, h2⟩ := h.hx
  exact ⟨cell_blk h1, cell_blk h1, cell_blk h1, cell_blk h1, fun i => frz_blk h1⟩
theorem EV.turn {B px q : Nat} {w : World} {rv rv' : Value} {d n d' : Int} {gone : List Nat} (h : EV B w px q rv d n gone) : EV B ((w.setCell ⟨px, 1, none⟩ rv').setCell ⟨px, 2, none⟩ (.int .i64 d')) px q rv' d' n gone ∧ FE B w ((w.setCell ⟨px, 1, none⟩ rv').setCell ⟨px, 2, none⟩ (.int .i64 d')) := by
  obtain ⟨gv, h1, h2⟩ := h.hx
  have e1 : (w.setCell ⟨px, 1, none⟩ rv').heap[px]? = some (.cells (edV q rv' d n gv (.slice none 0 0)) 110 (0, 0)) := by
    rw [heap_setCell_same _ _ _ _ _ _ h1]; rfl
  have oth : ∀ k, k ≠ px → ((w.setCell ⟨px, 1, none⟩ rv').setCell ⟨px, 2, none⟩ (.int .i64 d')).heap[k]? = w.heap[k]? := fun k hk => by
    rw [heap_setCell_other _ _ _ _ hk, heap_setCell_other _ _ _ _ hk]
  have ne : ∀ (k : Nat) (cs : Array Value) (t : TypeId) (fz : Nat × Nat), w.heap[k]? = some (.cells cs t fz) → t ≠ 110 → k ≠ px := by
    intro k cs t fz e ht q9
    subst q9
    rw [h1] at e
    simp only [Option.some.injEq, Obj.cells.injEq] at e
    exact ht e.2.1.symm
  refine ⟨⟨h.hB, ⟨gv, ?_, own_stay h2 fun k cs _ e => by rw [oth k (ne k cs _ _ e (by decide)), e]⟩, h.hn⟩, ⟨((Below.refl B w).setCell (p := ⟨px, 1, none⟩) h.hB _).setCell (p := ⟨px, 2, none⟩) h.hB _, fun k cs t fz e n1 _ => by rw [oth k (ne k cs t fz e n1), e]⟩⟩
  rw [heap_setCell_same _ _ _ _ _ _ e1]; rfl
set_option maxRecDepth 100000 in
set_option maxHeartbeats 4000000 in
theorem settleRoot_ok {B B1 px q h : Nat} {w : World} {v : Value} {d n : Int} {gone S : List Nat} {e : ED h} (hE : EV B w px q v d n gone) (hn : NV B B1 w h e S v) (hnew : isNew e) (h1 : 1 ≤ (itE e).length) (hsh : ShE h 5 e) (hnd : S.Nodup) (hB : B ≤ B1) (hBw : B1 ≤ w.heap.size) (hpx : px < B1) (hd0 : 0 ≤ d) (hd1 : d < 1000) :
    Calls Tryz.prog 59 #[.pointer (some ⟨px, 0, none⟩)] w fun e' w' => e' = .returned (.tuple #[]) ∧ ∃ rv' S', EV B w' px q rv' (if 4 < (itE e).length then d + 1 else d) n gone ∧ NV B B1 w' (rootE h e).1 (rootE h e).2 S' rv' ∧ S'.Nodup ∧ FE B w w' := by
  obtain ⟨pv, ok, hta⟩ := NV.asr hn hnew
  have HIO := hide (itemsOf_ok hn hnew)
  obtain ⟨c0, c1, c2, c3, fz⟩ := hE.cellsx
  obtain ⟨⟨vt, vv⟩, hve⟩ := NV.cells hn
  subst hve
  have HE := hide hE
  have HN := hide hn
  have HSH := hide hsh
  have HND := hide hnd
  have ta := hta w
  have hle5 : (itE e).length ≤ 5 := by
    match h, e, hsh with
    | 0, e, hs => exact hs
    | h + 1, e, hs => exact hs.1
  clear hE hn hsh hnd hta
  by_cases h4 : 4 < (itE e).length
  · have HRT : Hid (rootE h e = ⟨h + 1, .inr ([midE e], [lefE e, rigE e])⟩) := by show _ = _; unfold rootE; rw [if_pos h4]
    have hL5 : (itE e).length = 5 := by omega
    obtain ⟨q1, q2, q3⟩ := two_new w #[.iface vt vv] #[.slice none 0 0, .slice (some ⟨w.heap.size, 0, none⟩) 1 1] 107 152
    have HQ1 : Hid (((w.alloc (.cells #[.iface vt vv] 107)).alloc (.cells #[.slice none 0 0, .slice (some ⟨w.heap.size, 0, none⟩) 1 1] 152)).heap[w.heap.size]? = some (.cells #[.iface vt vv] 107 (0, 0))) := q1
    have HQ2 : Hid (((w.alloc (.cells #[.iface vt vv] 107)).alloc (.cells #[.slice none 0 0, .slice (some ⟨w.heap.size, 0, none⟩) 1 1] 152)).heap[w.heap.size + 1]? = some (.cells #[.slice none 0 0, .slice (some ⟨w.heap.size, 0, none⟩) 1 1] 152 (0, 0))) := q2
    have HQ3 : Hid (Below w.heap.size w ((w.alloc (.cells #[.iface vt vv] 107)).alloc (.cells #[.slice none 0 0, .slice (some ⟨w.heap.size, 0, none⟩) 1 1] 152))) := (below_box w _).trans ((below_box (w.alloc (.cells #[.iface vt vv] 107)) _).mono (below_box w (.cells #[.iface vt vv] 107)).size)
    have HPS : Hid (px < w.heap.size) := by show _ < _; omega
    clear q1 q2 q3
    rw [if_pos h4]
    have x4 : (4 : Int) < ((itE e).length : Int) := by omega
    go_enter Tryz.func59, Tryz.ntmps59
    go_wp2_with fail
    refine HIO.out.mono ?_
    rintro e' w1 ⟨iv, rfl, hiv, hw⟩
    have hw := hw.symm
    subst hw
    obtain ⟨a1, c9, rfl⟩ := hiv.len
    clear hiv
    go_upto_region 4 with fail
    generalize hG : (w.alloc (.cells #[.iface vt vv] 107)).alloc (.cells #[.slice none 0 0, .slice (some ⟨w.heap.size, 0, none⟩) 1 1] 152) = w2 at *
    clear hG
    have HN2 := hide (HN.out.later HQ3.out (Nat.le_trans hB hBw) (Nat.le_refl _))
    have HE2 := hide (HE.out.later HQ3.out)
    have hgS : w.heap.size + 1 ∉ S := fun q9 => by have := (NV.lo HN.out _ q9).2; omega
    have HPF : Hid (PF B B1 w2 (w.heap.size + 1) [] [.iface vt vv]) := ⟨by omega, ⟨none, 0, w.heap.size, HQ2.out, by omega, HQ1.out, Or.inl ⟨rfl, rfl, rfl⟩⟩, by intro u hu; simp only [List.mem_singleton] at hu; subst hu; rfl⟩
    have HSP := hide (split_ok (i := 0) e HPF.out hB (Nat.le_trans hBw HQ3.out.size) (by simp) (by simp) (Nat.le_refl _) rfl HN2.out hgS hnew hL5 HSH.out)
    generalize hgb : w.heap.size + 1 = gb at *
    go_wp2_with fail
    refine HSP.out.mono ?_
    rintro e' w3 ⟨rfl, ⟨lv, rv, gl, gr, g5, A, C, hPV, hN1, hN2, hS, hne, hl1, hl2⟩, hEx⟩
    have HE3 := hide (HE2.out.ex hEx HQ2.out)
    have HEX := hide hEx
    have HPV := hide hPV
    have HNA := hide hN1
    have HNC := hide hN2
    clear hEx hPV hN1 hN2
    obtain ⟨d0', d1', d2', d3', fz'⟩ := HE3.out.cellsx
    have f1 := fz' 1
    have f2 := fz' 2
    clear c0 c1 c2 c3 fz fz' HSP ta
    go_wp2
    go_end0
    obtain ⟨t1, t2⟩ := HE3.out.turn (rv' := brP gb) (d' := d + 1)
    have hlt : ∀ g ∈ A ++ C, g < w2.heap.size := fun g hg => (NV.lo HN2.out g (by rw [hS]; exact List.mem_cons_of_mem _ hg)).2
    have hgb2 : gb < w2.heap.size := (Array.getElem?_eq_some_iff.1 HQ2.out).1
    have hfe3 : FE B w w3 := HEX.out.fe1 (FE.of HQ3.out (Nat.le_trans hB hBw)) (by omega)
    have hnv : NV B B1 w3 (h + 1) (.inr ([midE e], [lefE e, rigE e])) (gb :: [gl :: A, gr :: C].flatten) (brP gb) := by
      refine nv_mk (cv := [lv, rv]) HPV.out rfl rfl (fun j k Sj u hk hSj hu => ?_)
      match j, hk, hSj, hu with
      | 0, hk, hSj, hu =>
        simp only [List.getElem?_cons_zero, Option.some.injEq] at hk hSj hu
        subst hk hSj hu
        exact HNA.out
      | 1, hk, hSj, hu =>
        simp only [List.getElem?_cons_succ, List.getElem?_cons_zero, Option.some.injEq] at hk hSj hu
        subst hk hSj hu
        exact HNC.out
      | j + 2, hk, _, _ => simp at hk
    refine ⟨rfl, brP gb, gb :: [gl :: A, gr :: C].flatten, t1, ?_, ?_, hfe3.trans t2⟩
    · rw [HRT.out]
      refine NV.up t2.ft (fun k hk hks => ?_) (Nat.le_refl _) hnv
      rw [heap_setCell_other _ _ _ _ (by show k ≠ px; omega), heap_setCell_other _ _ _ _ (by show k ≠ px; omega)]
    · have hnd := HND.out
      rw [hS] at hnd
      have hac := List.nodup_append.1 (List.nodup_cons.1 hnd).2
      have hgb' : gb ∉ A ++ C := fun q9 => hgS (by rw [hS]; exact List.mem_cons_of_mem _ q9)
      simp only [List.flatten_cons, List.flatten_nil, List.append_nil]
      refine List.nodup_cons.2 ⟨?_, List.nodup_append.2 ⟨List.nodup_cons.2 ⟨?_, hac.1⟩, List.nodup_cons.2 ⟨?_, hac.2.1⟩, ?_⟩⟩
      · intro q9
        rcases List.mem_append.1 q9 with q9 | q9
        · rcases List.mem_cons.1 q9 with q9 | q9
          · omega
          · exact hgb' (List.mem_append_left _ q9)
        · rcases List.mem_cons.1 q9 with q9 | q9
          · omega
          · exact hgb' (List.mem_append_right _ q9)
      · intro q9
        have := hlt gl (List.mem_append_left _ q9)
        omega
      · intro q9
        have := hlt gr (List.mem_append_right _ q9)
        omega
      · intro x hx y hy hxy
        subst hxy
        rcases List.mem_cons.1 hx with q1 | q1
        · rcases List.mem_cons.1 hy with q2 | q2
          · exact hne (q1.symm.trans q2)
          · have := hlt x (List.mem_append_right _ q2)
            omega
        · rcases List.mem_cons.1 hy with q2 | q2
          · have := hlt x (List.mem_append_left _ q1)
            omega
          · exact hac.2.2 x q1 x q2 rfl
  · have HRT : Hid (rootE h e = ⟨h, e⟩) := by show _ = _; unfold rootE; rw [if_neg h4]
    rw [if_neg h4]
    generalize hL : (itE e).length = L at *
    have x4 : ¬ (4 : Int) < (L : Int) := by omega
    have x0 : ((L : Int) == 0) = false := by simp; omega
    go_enter Tryz.func59, Tryz.ntmps59
    go_wp2_with fail
    refine HIO.out.mono ?_
    rintro e' w1 ⟨iv, rfl, hiv, hw⟩
    have hw := hw.symm
    subst hw
    obtain ⟨a1, c9, rfl⟩ := hiv.len
    rw [hL]
    clear hiv
    go_wp2
    go_end0
    refine ⟨rfl, _, S, HE.out, ?_, HND.out, FE.refl _ _⟩
    rw [HRT.out]
    exact HN.out
end Go.Proofs.YtnfponcadkmfjabGreat
set_option linter.unusedVariables false
namespace Go.Proofs.YtnfponcadkmfjabGreat
open Go.RowKit
theorem EV.root {B px q : Nat} {w : World} {rv rv' : Value} {d n : Int} {gone : List Nat} (h : EV B w px q rv d n gone) : EV B (w.setCell ⟨px, 1, none⟩ rv') px q rv' d n gone ∧ FE B w (w.setCell ⟨px, 1, none⟩ rv') := by
  obtain ⟨gv, h1, h2⟩ := h.hx
  have oth : ∀ k, k ≠ px → (w.setCell ⟨px, 1, none⟩ rv').heap[k]? = w.heap[k]? := fun k hk => heap_setCell_other _ _ _ _ hk
  have ne : ∀ (k : Nat) (cs : Array Value) (t : TypeId) (fz : Nat × Nat), w.heap[k]? = some (.cells cs t fz) → t ≠ 110 → k ≠ px := by
    intro k cs t fz e ht q9
    subst q9
    rw [h1] at e
    simp only [Option.some.injEq, Obj.cells.injEq] at e
    exact ht e.2.1.symm
  refine ⟨⟨h.hB, ⟨gv, ?_, own_stay h2 fun k cs _ e => by rw [oth k (ne k cs _ _ e (by decide)), e]⟩, h.hn⟩, ⟨(Below.refl B w).setCell (p := ⟨px, 1, none⟩) h.hB _, fun k cs t fz e n1 _ => by rw [oth k (ne k cs t fz e n1), e]⟩⟩
  rw [heap_setCell_same _ _ _ _ _ _ h1]; rfl
set_option maxRecDepth 100000 in
theorem search_nil {w : World} (k : Value) :
    Calls Tryz.prog 118 #[.slice none 0 0, k, .func (Fn.func 119) #[] #[]] w fun e w' => e = .returned (.tuple #[.int .i64 0, .bool false]) ∧ w' = w := by
  go_enter Tryz.func118, Tryz.ntmps118
  go_wp2_with fail
  go_loopw [9, 10] (fun i j wx => i = .int .i64 0 ∧ j = .int .i64 0 ∧ wx = w) (fun i j _ => 0)
  case atStart => exact ⟨rfl, rfl, rfl⟩
  case round =>
    obtain ⟨rfl, rfl, rfl⟩ := hrel
    go_wp2
    go_ret2
    exact ⟨rfl, rfl⟩
set_option maxRecDepth 100000 in
theorem find_nil {w : World} (k : Value) :
    Calls Tryz.prog 93 #[.slice none 0 0, k] w fun e w' => e = .returned (.tuple #[.int .i64 0, .bool false]) ∧ w' = w := by
  have HC := hide (search_nil (w := w) k)
  go_enter Tryz.func93, Tryz.ntmps93
  go_wp2_with fail
  refine HC.out.mono ?_
  rintro e w3 ⟨rfl, rfl⟩
  go_wp2
  go_ret2
  exact ⟨rfl, rfl⟩
set_option maxRecDepth 100000 in
theorem opened_new {w : World} (x : Value) (g : Nat) (hh : Int) :
    Calls Tryz.prog 91 #[x, lfP g, .int .i64 hh] w fun e w' => e = .returned (lfP g) ∧ w' = w := by
  have ta := asr_place_no (.pointer (some ⟨g, 0, none⟩)) w
  unfold lfP
  go_enter Tryz.func91, Tryz.ntmps91
  go_wp2
  go_ret
  exact ⟨rfl, rfl⟩
set_option maxRecDepth 100000 in
set_option maxHeartbeats 2000000 in
theorem putIn_nil {B px q gl : Nat} {w : World} {rv : Value} {d n : Int} {gone : List Nat} {ka va : Option Addr} {kn kc vn vc : Nat} (hn1 : n < 1000000) (hn0 : 0 ≤ n) (hE : EV B w px q rv d n gone) (hgl : w.heap[gl]? = some (.cells #[.slice none 0 0] 117 (0, 0))) (hB : B ≤ w.heap.size) (hglB : B ≤ gl) :
    Calls Tryz.prog 58 #[.pointer (some ⟨px, 0, none⟩), lfP gl, .int .i64 1, .agg #[.slice ka kn kc, .slice va vn vc]] w fun e w' => e = .returned (lfP gl) ∧ (∃ gn c, w'.heap[gl]? = some (.cells #[.slice (some ⟨gn, 0, none⟩) 1 c] 117 (0, 0)) ∧ w.heap.size ≤ gn ∧ 1 ≤ c ∧ c ≤ 9223372036854775807 ∧ RowN w' gn 70 [.slice ka kn kc, .slice va vn vc]) ∧ EV B w' px q rv d (n + 1) gone ∧ Ex B [gl, px] w w' := by
  have HBX := hide (below_box w (.cells #[.slice ka kn kc, .slice va vn vc] 70))
  have HNX : Hid ((w.alloc (.cells #[.slice ka kn kc, .slice va vn vc] 70)).heap[w.heap.size]? = some (.cells #[.slice ka kn kc, .slice va vn vc] 70 (0, 0))) := heap_alloc_new w _
  have HPL := hide (putInLeaf_new hn1 hn0 (hE.later HBX.out) ((HBX.out.block gl (Array.getElem?_eq_some_iff.1 hgl).1).trans hgl) (Nat.le_trans hB HBX.out.size) hglB [.slice ka kn kc, .slice va vn vc] (ka := ka) (kn := kn) (kc := kc) (va := va) (vn := vn) (vc := vc) (Fi := 0) (fun ww hb => (find_nil _).mono fun e w' ⟨h1, h2⟩ => ⟨h1, by rw [h2]; exact Below.refl _ _⟩) (fun ww gv hb hg => insert_nil hg rfl rfl))
  have HOP := hide (opened_new (w := w.alloc (.cells #[.slice ka kn kc, .slice va vn vc] 70)) (.pointer (some ⟨px, 0, none⟩)) gl 1)
  have ta := asr_branch_no (.pointer (some ⟨gl, 0, none⟩)) (w.alloc (.cells #[.slice ka kn kc, .slice va vn vc] 70))
  have tb := asr_leaf (.pointer (some ⟨gl, 0, none⟩)) (w.alloc (.cells #[.slice ka kn kc, .slice va vn vc] 70))
  have r0 : (w.alloc (.cells #[.slice ka kn kc, .slice va vn vc] 70)).cell? ⟨w.heap.size, 0, none⟩ = some (.slice ka kn kc) := cell_blk HNX.out
  have r1 : (w.alloc (.cells #[.slice ka kn kc, .slice va vn vc] 70)).cell? ⟨w.heap.size, 1, none⟩ = some (.slice va vn vc) := cell_blk HNX.out
  have HB := hide hB
  unfold lfP at HOP ⊢
  clear hE hgl hB hglB
  go_enter Tryz.func58, Tryz.ntmps58
  go_upto_region 1 with fail
  generalize w.alloc (.cells #[.slice ka kn kc, .slice va vn vc] 70) = w1 at *
  go_wp2_with fail
  refine HOP.out.mono ?_
  rintro e w2 ⟨rfl, hw⟩
  have hw := hw.symm
  subst hw
  go_wp2_with fail
  refine HPL.out.mono ?_
  rintro e w4 ⟨rfl, ⟨gn, c4, h41, h44, h45, h46, h47⟩, h42, h43⟩
  have H1 := hide h41
  have H2 := hide h42
  have H3 := hide h43
  have H7 := hide h47
  clear h41 h42 h43 h47 ta tb r0 r1
  go_wp2
  go_ret
  refine ⟨rfl, ⟨gn, c4, H1.out, Nat.le_trans HBX.out.size h44, h45, h46, H7.out⟩, H2.out, (HBX.out.mono HB.out).trans H3.out.1, fun k hk hn => ?_⟩
  rw [H3.out.2 k (Nat.lt_of_lt_of_le hk HBX.out.size) hn, HBX.out.block k hk]
end Go.Proofs.YtnfponcadkmfjabGreat
