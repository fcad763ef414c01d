import Derived.Test.YtnfponcadkmfjabGreatZ41
import Derived.BigRegion
import Derived.Test.YtnfponcadkmfjabGreatZ33
set_option linter.unusedVariables false
namespace Go.Proofs.YtnfponcadkmfjabGreat
open Go.RowKit
theorem news3 (w : World) (a b c : Value) (t : TypeId) : ∀ j u, [a, b, c][j]? = some u → (w.alloc (.cells #[a, b, c] t)).cell? ((⟨w.heap.size, 0, none⟩ : Addr).add j) = some u := by
  intro j u hu
  rw [Addr.add_lit, Nat.zero_add, cell_blk (heap_alloc_new w _)]
  simpa using hu
theorem SpV.push {B B1 : Nat} {w w3 : World} {r : Nat} {lv hv : Value} {lo hi : List Nat} {most : Nat} {F : List It} {fv v3 kv vv : Value} {it : It} {kvl : List (Value × Value)} (h : SpV B B1 w r lv hv lo hi most F) (hB : B ≤ B1) (hB1 : B1 ≤ w.heap.size) (h1 : w.heap[r]? = some (.cells #[lv, hv, .int .i64 (most : Int), fv] 84 (0, 0))) (hkl : kvl.length = F.length) (hown : w.ownsRow B1 36 3 fv F.length (prC kvl)) (hall : ∀ (i : Nat) it x, F[i]? = some it → kvl[i]? = some x → KV B w x.1 it.1 ∧ KV B w x.2 it.2) (hk : KV B w kv it.1) (hv' : KV B w vv it.2)
    (ho : w3.ownsRow B1 36 3 v3 (F.length + 1) (prC kvl ++ [.int .i64 0, kv, vv])) (hg : (w.alloc (.cells #[.int .i64 0, kv, vv] 36)).grownBy w3 fv.ownBlock) :
    w3.heap[r]? = some (.cells #[lv, hv, .int .i64 (most : Int), fv] 84 (0, 0)) ∧ SpV B B1 (w3.setCell ⟨r, 3, none⟩ v3) r lv hv lo hi most (F ++ [it]) ∧ LkF B1 w (w3.setCell ⟨r, 3, none⟩ v3) := by
  have hb := below_box w (.cells #[.int .i64 0, kv, vv] 36)
  have own1 := own_later hown hb
  have keep : ∀ (k : Nat) (cs : Array Value) (t : TypeId) (fz : Nat × Nat), w.heap[k]? = some (Obj.cells cs t fz) → t ≠ 36 → w3.heap[k]? = some (Obj.cells cs t fz) := by
    intro k cs t fz e ht
    have e1 := (hb.block k (Array.getElem?_eq_some_iff.1 e).1).trans e
    rw [hg.block k (Array.getElem?_eq_some_iff.1 e1).1 ?_, e1]
    intro q9
    obtain ⟨_, cur, hc⟩ := own_block own1 q9.symm
    rw [hc] at e1
    simp only [Option.some.injEq, Obj.cells.injEq] at e1
    exact ht e1.2.1.symm
  have hr3 := keep _ _ _ _ h1 (by decide)
  have bel : Below B1 w w3 := (hb.mono hB1).trans ((Below.refl B1 _).grown hg (Nat.le_trans hB1 hb.size) (fun k hk => (own1.lt k hk).1))
  have hlk : LkF B1 w (w3.setCell ⟨r, 3, none⟩ v3) := by
    refine ⟨bel.trans ((Below.refl B1 w3).setCell (p := ⟨r, 3, none⟩) h.hr _), fun k cs t fz e n1 n2 => ?_⟩
    have e1 := keep k cs t fz e n2
    rw [heap_setCell_other _ _ _ _ ?_, e1]
    intro q9
    have q9 : k = r := q9
    subst q9
    rw [hr3] at e1
    simp only [Option.some.injEq, Obj.cells.injEq] at e1
    exact n1 e1.2.1.symm
  have hft := hlk.ft hB
  refine ⟨hr3, ⟨h.hr, h.klo.ft hft, h.khi.ft hft, v3, ?_, kvl ++ [(kv, vv)], by simp [hkl], ?_, fun i it' x e1 e2 => ?_⟩, hlk⟩
  · rw [heap_setCell_same _ _ _ _ _ _ hr3]; rfl
  · rw [List.length_append, prC_app]
    refine own_stay ho fun k cs hk e => ?_
    rw [heap_setCell_other _ _ _ _ ?_, e]
    intro q9
    have q9 : k = r := q9
    subst q9
    rw [hr3] at e
    simp only [Option.some.injEq, Obj.cells.injEq] at e
    exact absurd e.2.1 (by decide)
  · by_cases c : i < F.length
    · rw [List.getElem?_append_left c] at e1
      rw [List.getElem?_append_left (by omega)] at e2
      have := hall i it' x e1 e2
      exact ⟨this.1.ft hft, this.2.ft hft⟩
    · have hi : i = F.length := by
        have := (List.getElem?_eq_some_iff.1 e1).1
        simp at this
        omega
      subst hi
      simp at e1
      rw [← hkl] at e2
      simp at e2
      subst e1 e2
      exact ⟨hk.ft hft, hv'.ft hft⟩
set_option maxRecDepth 100000 in
set_option maxHeartbeats 4000000 in
theorem spTake_ok {B B1 r : Nat} {w : World} {lv hv : Value} {lo hi : List Nat} {most : Nat} {F : List It} (h : SpV B B1 w r lv hv lo hi most F) (hB : B ≤ B1) (hB1 : B1 ≤ w.heap.size) (hF : F.length < 100000) (it : It) {kv vv : Value} (hk : KV B w kv it.1) (hv' : KV B w vv it.2) :
    Calls Tryz.prog 99 #[.pointer (some ⟨r, 0, none⟩), .agg #[kv, vv]] w fun e w' => TkR B B1 w r lv hv lo hi most F [it] e w' := by
  obtain ⟨i0, hi0, hz0, hz1, hz2⟩ := info_parts info_pair
  obtain ⟨ka, kc, rfl, hkb⟩ := hk
  obtain ⟨va, vc, rfl, hvb⟩ := hv'
  have HBX := hide (below_box w (.cells #[.slice ka it.1.length kc, .slice va it.2.length vc] 70))
  have HNX : Hid ((w.alloc (.cells #[.slice ka it.1.length kc, .slice va it.2.length vc] 70)).heap[w.heap.size]? = some (.cells #[.slice ka it.1.length kc, .slice va it.2.length vc] 70 (0, 0))) := heap_alloc_new w _
  have HSP := hide (h.later HBX.out (Nat.le_trans hB hB1))
  have HBw : Hid (B1 ≤ (w.alloc (.cells #[.slice ka it.1.length kc, .slice va it.2.length vc] 70)).heap.size) := Nat.le_trans hB1 HBX.out.size
  have HKB := hide (hkb.later HBX.out (Nat.le_trans hB hB1))
  have HVB := hide (hvb.later HBX.out (Nat.le_trans hB hB1))
  have HEN := hide (ends_any HSP.out HKB.out.1)
  have HLK := hide (LkF.of HBX.out hB1)
  have HSC := hide (scan_one hi most F it)
  have c0 : (w.alloc (.cells #[.slice ka it.1.length kc, .slice va it.2.length vc] 70)).cell? ⟨w.heap.size, 0, none⟩ = some (.slice ka it.1.length kc) := cell_blk HNX.out
  have c1 : (w.alloc (.cells #[.slice ka it.1.length kc, .slice va it.2.length vc] 70)).cell? ⟨w.heap.size, 1, none⟩ = some (.slice va it.2.length vc) := cell_blk HNX.out
  have HBB := hide hB
  clear h hkb hvb hB hB1
  generalize hkn : it.1.length = kn at *
  generalize hvn : it.2.length = vn at *
  go_enter Tryz.func99, Tryz.ntmps99
  go_wp2_with fail
  refine HEN.out.mono ?_
  rintro e w1 ⟨rfl, rfl⟩
  generalize (w.alloc (.cells #[.slice ka kn kc, .slice va vn vc] 70)) = w1 at *
  generalize hG : w.heap.size = G at *
  cases hen : endB hi it.1 with
  | true =>
    rw [hen] at HSC
    simp only [if_true] at HSC
    clear c0 c1
    go_wp2
    go_ret
    unfold TkR
    rw [HSC.out]
    exact ⟨rfl, HSP.out, HLK.out⟩
  | false =>
    rw [hen] at HSC
    simp only [Bool.false_eq_true, if_false] at HSC
    obtain ⟨fv, hs1, hs2⟩ := HSP.out.hx
    obtain ⟨fa, fc, rfl⟩ := hs2.form
    have r3 : w1.cell? ⟨r, 3, none⟩ = some (.slice fa F.length fc) := cell_blk hs1
    have HS1 := hide hs1
    have HS2 := hide hs2
    clear hs1 hs2
    obtain ⟨kvl, hkl, hown, hall⟩ := HS2.out
    have hGl : G < w1.heap.size := (Array.getElem?_eq_some_iff.1 HNX.out).1
    have HNE : Hid (G ≠ r) := by
      intro q9
      have h9 := HNX.out
      rw [q9, HS1.out] at h9
      simp only [Option.some.injEq, Obj.cells.injEq] at h9
      exact absurd h9.2.1 (by decide)
    have HBP := hide (below_box w1.drew (.cells #[.int .i64 0, .slice ka kn kc, .slice va vn vc] 36))
    have HO2 : Hid ((w1.drew.alloc (.cells #[.int .i64 0, .slice ka kn kc, .slice va vn vc] 36)).ownsRow B1 36 3 (.slice fa F.length fc) F.length (prC kvl)) := own_later (w := w1.drew) hown HBP.out
    have HLD : Hid (LkF B1 w1 w1.drew) := LkF.of (Below.refl _ _).drew HBw.out
    have hkv : KV B w1.drew (.slice ka kn kc) it.1 := ⟨ka, kc, by rw [hkn], by rw [hkn]; exact HKB.out.later (Below.refl _ _).drew (Nat.le_trans HBB.out HBw.out)⟩
    have hvv : KV B w1.drew (.slice va vn vc) it.2 := ⟨va, vc, by rw [hvn], by rw [hvn]; exact HVB.out.later (Below.refl _ _).drew (Nat.le_trans HBB.out HBw.out)⟩
    have HPU : Hid (∀ v3 w3, w3.ownsRow B1 36 3 v3 (F.length + 1) (prC kvl ++ [.int .i64 0, .slice ka kn kc, .slice va vn vc]) → (w1.drew.alloc (.cells #[.int .i64 0, .slice ka kn kc, .slice va vn vc] 36)).grownBy w3 (Value.slice fa F.length fc).ownBlock → w3.heap[r]? = some (.cells #[lv, hv, .int .i64 (most : Int), .slice fa F.length fc] 84 (0, 0)) ∧ SpV B B1 (w3.setCell ⟨r, 3, none⟩ v3) r lv hv lo hi most (F ++ [it]) ∧ LkF B1 w1.drew (w3.setCell ⟨r, 3, none⟩ v3)) := fun v3 w3 ho hg => (HSP.out.later (Below.refl _ _).drew (Nat.le_trans HBB.out HBw.out)).push HBB.out HBw.out HS1.out hkl hown (fun i it x e1 e2 => ⟨(hall i it x e1 e2).1.ft (FT.of (Below.refl _ _).drew (Nat.le_trans HBB.out HBw.out)), (hall i it x e1 e2).2.ft (FT.of (Below.refl _ _).drew (Nat.le_trans HBB.out HBw.out))⟩) hkv hvv ho hg
    have HXG : Hid (∀ v3 w3, w3.ownsRow B1 36 3 v3 (F.length + 1) (prC kvl ++ [.int .i64 0, .slice ka kn kc, .slice va vn vc]) → (w1.drew.alloc (.cells #[.int .i64 0, .slice ka kn kc, .slice va vn vc] 36)).grownBy w3 (Value.slice fa F.length fc).ownBlock → w3.cell? ⟨G, 0, none⟩ = some (.slice ka kn kc) ∧ w3.cell? ⟨G, 1, none⟩ = some (.slice va vn vc)) := fun v3 w3 ho hg => by
      have e1 : (w1.drew.alloc (.cells #[.int .i64 0, .slice ka kn kc, .slice va vn vc] 36)).heap[G]? = _ := (HBP.out.block G hGl).trans HNX.out
      have e2 : w3.heap[G]? = _ := (hg.block G (Array.getElem?_eq_some_iff.1 e1).1 (fun q9 => by
        obtain ⟨_, cur, hc⟩ := own_block HO2.out q9.symm
        rw [hc] at e1
        simp only [Option.some.injEq, Obj.cells.injEq] at e1
        exact absurd e1.2.1 (by decide))).trans e1
      exact ⟨cell_blk e2, cell_blk e2⟩
    have HX0 : Hid ((fun wx => wx.cell? ⟨G, 0, none⟩ = some (.slice ka kn kc) ∧ wx.cell? ⟨G, 1, none⟩ = some (.slice va vn vc)) w1.drew) := ⟨c0, c1⟩
    have HX2 : Hid ((fun wx => wx.cell? ⟨G, 0, none⟩ = some (.slice ka kn kc) ∧ wx.cell? ⟨G, 1, none⟩ = some (.slice va vn vc)) (w1.drew.alloc (.cells #[.int .i64 0, .slice ka kn kc, .slice va vn vc] 36))) := ⟨(HBP.out.cell (p := ⟨G, 0, none⟩) hGl).trans c0, (HBP.out.cell (p := ⟨G, 1, none⟩) hGl).trans c1⟩
    have r4 : (w1.alloc (.cells #[.int .i64 0, .slice ka kn kc, .slice va vn vc] 36)).cell? ⟨r, 3, none⟩ = some (.slice fa F.length fc) := (HBP.out.cell (p := ⟨r, 3, none⟩) (Array.getElem?_eq_some_iff.1 HS1.out).1).trans r3
    clear hkv hvv hkl hown hall c0 c1
    generalize hM' : F.length = M at *
    go_upto_region 3 with fail
    refine wp_region_noPanic ?_
    refine wp_region_held_drew (S := fun wx => wx.cell? ⟨G, 0, none⟩ = some (.slice ka kn kc) ∧ wx.cell? ⟨G, 1, none⟩ = some (.slice va vn vc)) (by kernel_rfl) HX0.out (fun hHeld => ?_)
    refine wpAnyH_tk 0 9 (v := ?va0) ?hya0 ?_
    case hya0 => intro oi ho; simp only [List.getElem?_toArray, List.getElem?_cons_zero, Option.some.injEq] at ho; subst ho; refine Or.inl ⟨by rfl, ?_⟩; intro wx hSw; (try dsimp only at hSw); go_simp; try rfl
    try simp only [Act.put, List.setIfInBounds_toArray, List.set_cons_zero, List.set_cons_succ]
    refine wpAnyH_tk 1 10 (v := ?va1) ?hya1 ?_
    case hya1 => intro oi ho; simp only [List.getElem?_toArray, List.getElem?_cons_succ, List.getElem?_cons_zero, Option.some.injEq] at ho; subst ho; refine Or.inl ⟨by rfl, ?_⟩; intro wx hSw; (try dsimp only at hSw); go_simp; try rfl
    try simp only [Act.put, List.setIfInBounds_toArray, List.set_cons_zero, List.set_cons_succ]
    refine wpAnyH_tk 2 11 (v := ?va2) ?hya2 ?_
    case hya2 => intro oi ho; simp only [List.getElem?_toArray, List.getElem?_cons_succ, List.getElem?_cons_zero, Option.some.injEq] at ho; subst ho; refine Or.inl ⟨by rfl, ?_⟩; intro wx hSw; (try dsimp only at hSw); go_simp; try rfl
    try simp only [Act.put, List.setIfInBounds_toArray, List.set_cons_zero, List.set_cons_succ]
    refine wpAnyH_tk 3 12 (v := ?va3) ?hya3 ?_
    case hya3 => intro oi ho; simp only [List.getElem?_toArray, List.getElem?_cons_succ, List.getElem?_cons_zero, Option.some.injEq] at ho; subst ho; refine Or.inl ⟨by rfl, ?_⟩; intro wx hSw; (try dsimp only at hSw); go_simp; try rfl
    try simp only [Act.put, List.setIfInBounds_toArray, List.set_cons_zero, List.set_cons_succ]
    refine wpAnyH_tk 5 14 (v := ?va5) ?hya5 ?_
    case hya5 => intro oi ho; simp only [List.getElem?_toArray, List.getElem?_cons_succ, List.getElem?_cons_zero, Option.some.injEq] at ho; subst ho; refine Or.inl ⟨by rfl, ?_⟩; intro wx hSw; (try dsimp only at hSw); go_simp; try rfl
    try simp only [Act.put, List.setIfInBounds_toArray, List.set_cons_zero, List.set_cons_succ]
    refine wpAnyH_tk 6 15 (v := ?va6) ?hya6 ?_
    case hya6 => intro oi ho; simp only [List.getElem?_toArray, List.getElem?_cons_succ, List.getElem?_cons_zero, Option.some.injEq] at ho; subst ho; refine Or.inl ⟨by rfl, ?_⟩; intro wx hSw; (try dsimp only at hSw); go_simp; try rfl
    try simp only [Act.put, List.setIfInBounds_toArray, List.set_cons_zero, List.set_cons_succ]
    refine wpAnyH_tk 7 16 (v := ?va7) ?hya7 ?_
    case hya7 => intro oi ho; simp only [List.getElem?_toArray, List.getElem?_cons_succ, List.getElem?_cons_zero, Option.some.injEq] at ho; subst ho; refine Or.inl ⟨by rfl, ?_⟩; intro wx hSw; (try dsimp only at hSw); go_simp; try rfl
    try simp only [Act.put, List.setIfInBounds_toArray, List.set_cons_zero, List.set_cons_succ]
    refine wpAnyH_tk 8 17 (v := ?va8) ?hya8 ?_
    case hya8 => intro oi ho; simp only [List.getElem?_toArray, List.getElem?_cons_succ, List.getElem?_cons_zero, Option.some.injEq] at ho; subst ho; refine Or.inl ⟨by rfl, ?_⟩; intro wx hSw; (try dsimp only at hSw); go_simp; try rfl
    try simp only [Act.put, List.setIfInBounds_toArray, List.set_cons_zero, List.set_cons_succ]
    refine wpAnyH_tk 9 18 (v := ?va9) ?hya9 ?_
    case hya9 => intro oi ho; simp only [List.getElem?_toArray, List.getElem?_cons_succ, List.getElem?_cons_zero, Option.some.injEq] at ho; subst ho; refine Or.inl ⟨by rfl, ?_⟩; intro wx hSw; (try dsimp only at hSw); go_simp; try rfl
    try simp only [Act.put, List.setIfInBounds_toArray, List.set_cons_zero, List.set_cons_succ]
    refine wpAnyH_comes2At (i := 4) (j := 10) (by kernel_rfl) (by kernel_rfl) (by kernel_rfl) ?ba ?bb
    case ba =>
      intro o ho K hK
      simp only [List.getElem?_toArray, List.getElem?_cons_succ, List.getElem?_cons_zero, Option.some.injEq] at ho
      subst ho
      go_simp
      refine hK.out _ _ hHeld (fun hHeld => ?_)
      clear hK K
      try simp only [Act.put, List.setIfInBounds_toArray, List.set_cons_zero, List.set_cons_succ]
      refine wpAnyH_cm 10 ?_; intro o ho K hK; simp only [List.getElem?_toArray, List.getElem?_cons_succ, List.getElem?_cons_zero, Option.some.injEq] at ho; subst ho
      go_simp
      clear hHeld
      refine hK.out _ _ HX2.out (fun hHeld => ?_)
      clear hK K
      try simp only [Act.put, List.setIfInBounds_toArray, List.set_cons_zero, List.set_cons_succ]
      refine wpAnyH_cm 11 ?_; intro o ho K hK; simp only [List.getElem?_toArray, List.getElem?_cons_succ, List.getElem?_cons_zero, Option.some.injEq] at ho; subst ho
      rw [if_pos (by rfl)]
      refine wp_append_at (.tmp 13) (.tmp 19) 30 rfl B1 36 i0 (.agg #[.int .i64 0, .slice none 0 0, .slice none 0 0]) 3 56 Tryz.underlying30 hi0 hz0 hz1 hz2 rfl (by omega) (.slice fa M fc) M (prC kvl) rfl HO2.out ⟨w1.drew.heap.size, 0, none⟩ 1 1 [.int .i64 0, .slice ka kn kc, .slice va vn vc] rfl rfl (news3 w1.drew _ _ _ _) (by intro u hu; simp at hu; rcases hu with rfl | rfl | rfl <;> rfl) (by unfold maxLen; omega) (by omega) (Nat.le_trans HBw.out HBP.out.size) ?_
      intro v3 w3 ho3 hg3 hat3
      obtain ⟨p1, p2, p3⟩ := HPU.out v3 w3 ho3 hg3
      obtain ⟨a3, c3, rfl⟩ := own_slice ho3
      have HR3 := hide p1
      have HP2 := hide p2
      have HP3 := hide p3
      have HX3 : Hid ((fun wx => wx.cell? ⟨G, 0, none⟩ = some (.slice ka kn kc) ∧ wx.cell? ⟨G, 1, none⟩ = some (.slice va vn vc)) w3) := HXG.out _ _ ho3 hg3
      have y3 : w3.cell? ⟨r, 3, none⟩ = some (.slice fa M fc) := cell_blk p1
      have f3 : w3.frozen? ⟨r, 3, none⟩ = false := frz_blk p1
      clear ho3 hg3 hat3 p1 p2 p3 hHeld
      refine hK.out _ _ HX3.out (fun hHeld => ?_)
      clear hK K
      try simp only [Act.put, List.setIfInBounds_toArray, List.set_cons_zero, List.set_cons_succ]
      refine wpAnyH_tk 12 21 (v := ?vp12) ?hyp12 ?_
      case hyp12 => intro oi ho; simp only [List.getElem?_toArray, List.getElem?_cons_succ, List.getElem?_cons_zero, Option.some.injEq] at ho; subst ho; refine Or.inl ⟨by rfl, ?_⟩; intro wx hSw; (try dsimp only at hSw); go_simp; try rfl
      try simp only [Act.put, List.setIfInBounds_toArray, List.set_cons_zero, List.set_cons_succ]
      refine wpAnyH_tk 13 22 (v := ?vp13) ?hyp13 ?_
      case hyp13 => intro oi ho; simp only [List.getElem?_toArray, List.getElem?_cons_succ, List.getElem?_cons_zero, Option.some.injEq] at ho; subst ho; refine Or.inl ⟨by rfl, ?_⟩; intro wx hSw; (try dsimp only at hSw); go_simp; try rfl
      try simp only [Act.put, List.setIfInBounds_toArray, List.set_cons_zero, List.set_cons_succ]
      refine wpAnyH_cm 14 ?_; intro o ho K hK; simp only [List.getElem?_toArray, List.getElem?_cons_succ, List.getElem?_cons_zero, Option.some.injEq] at ho; subst ho
      go_simp
      have HX4 : Hid ((fun wx => wx.cell? ⟨G, 0, none⟩ = some (.slice ka kn kc) ∧ wx.cell? ⟨G, 1, none⟩ = some (.slice va vn vc)) (w3.setCell ⟨r, 3, none⟩ (.slice a3 (M + 1) c3))) := by
        have hne : G ≠ r := HNE.out
        exact ⟨(World.cell?_of_block (heap_setCell_other _ _ _ _ hne)).trans HX3.out.1, (World.cell?_of_block (heap_setCell_other _ _ _ _ hne)).trans HX3.out.2⟩
      clear hHeld
      refine hK.out _ _ HX4.out (fun hHeld => ?_)
      clear hK K
      try simp only [Act.put, List.setIfInBounds_toArray, List.set_cons_zero, List.set_cons_succ]
      refine wpAnyH_done (by kernel_rfl) ?_ _
      refine NoPanic.normal ?_
      clear hHeld y3 f3
      generalize (w3.setCell ⟨r, 3, none⟩ (.slice a3 (M + 1) c3)) = w4 at *
      obtain ⟨fv4, k1, k2⟩ := HP2.out.hx
      obtain ⟨fa4, fc4, rfl⟩ := k2.form
      have z3 : w4.cell? ⟨r, 3, none⟩ = some (.slice fa4 (F ++ [it]).length fc4) := cell_blk k1
      have z2 : w4.cell? ⟨r, 2, none⟩ = some (.int .i64 (most : Int)) := cell_blk k1
      rw [List.length_append, hM', List.length_singleton] at z3
      have HLE := hide (HLK.out.trans HLD.out |>.trans HP3.out)
      have HSZ : Hid (w1.heap.size ≤ w4.heap.size) := HP3.out.1.size
      clear k1 k2
      by_cases hmo : M + 1 < most
      · have x5 : ((M + 1 : Nat) : Int) < (most : Int) := by omega
        rw [if_pos hmo] at HSC
        go_wp2
        go_region
        go_wp2
        go_ret
        unfold TkR
        rw [HSC.out]
        refine ⟨?_, HP2.out.later (Below.refl _ _).drew (Nat.le_trans (Nat.le_trans HBB.out HBw.out) HSZ.out), HLE.out.trans (LkF.of (Below.refl _ _).drew (Nat.le_trans HBw.out HSZ.out))⟩
        simp
        omega
      · have x5 : ¬ ((M + 1 : Nat) : Int) < (most : Int) := by omega
        rw [if_neg hmo] at HSC
        go_wp2
        go_region
        go_wp2
        go_ret
        unfold TkR
        rw [HSC.out]
        refine ⟨?_, HP2.out.later (Below.refl _ _).drew (Nat.le_trans (Nat.le_trans HBB.out HBw.out) HSZ.out), HLE.out.trans (LkF.of (Below.refl _ _).drew (Nat.le_trans HBw.out HSZ.out))⟩
        simp
        omega
    case bb =>
      intro o ho K hK
      simp only [List.getElem?_toArray, List.getElem?_cons_succ, List.getElem?_cons_zero, Option.some.injEq] at ho
      subst ho
      go_simp
      clear hHeld
      refine hK.out _ _ HX2.out (fun hHeld => ?_)
      clear hK K
      try simp only [Act.put, List.setIfInBounds_toArray, List.set_cons_zero, List.set_cons_succ]
      refine wpAnyH_cm 4 ?_; intro o ho K hK; simp only [List.getElem?_toArray, List.getElem?_cons_succ, List.getElem?_cons_zero, Option.some.injEq] at ho; subst ho
      go_simp
      refine hK.out _ _ hHeld (fun hHeld => ?_)
      clear hK K
      try simp only [Act.put, List.setIfInBounds_toArray, List.set_cons_zero, List.set_cons_succ]
      refine wpAnyH_cm 11 ?_; intro o ho K hK; simp only [List.getElem?_toArray, List.getElem?_cons_succ, List.getElem?_cons_zero, Option.some.injEq] at ho; subst ho
      rw [if_pos (by rfl)]
      refine wp_append_at (.tmp 13) (.tmp 19) 30 rfl B1 36 i0 (.agg #[.int .i64 0, .slice none 0 0, .slice none 0 0]) 3 56 Tryz.underlying30 hi0 hz0 hz1 hz2 rfl (by omega) (.slice fa M fc) M (prC kvl) rfl HO2.out ⟨w1.drew.heap.size, 0, none⟩ 1 1 [.int .i64 0, .slice ka kn kc, .slice va vn vc] rfl rfl (news3 w1.drew _ _ _ _) (by intro u hu; simp at hu; rcases hu with rfl | rfl | rfl <;> rfl) (by unfold maxLen; omega) (by omega) (Nat.le_trans HBw.out HBP.out.size) ?_
      intro v3 w3 ho3 hg3 hat3
      obtain ⟨p1, p2, p3⟩ := HPU.out v3 w3 ho3 hg3
      obtain ⟨a3, c3, rfl⟩ := own_slice ho3
      have HR3 := hide p1
      have HP2 := hide p2
      have HP3 := hide p3
      have HX3 : Hid ((fun wx => wx.cell? ⟨G, 0, none⟩ = some (.slice ka kn kc) ∧ wx.cell? ⟨G, 1, none⟩ = some (.slice va vn vc)) w3) := HXG.out _ _ ho3 hg3
      have y3 : w3.cell? ⟨r, 3, none⟩ = some (.slice fa M fc) := cell_blk p1
      have f3 : w3.frozen? ⟨r, 3, none⟩ = false := frz_blk p1
      clear ho3 hg3 hat3 p1 p2 p3 hHeld
      refine hK.out _ _ HX3.out (fun hHeld => ?_)
      clear hK K
      try simp only [Act.put, List.setIfInBounds_toArray, List.set_cons_zero, List.set_cons_succ]
      refine wpAnyH_tk 12 21 (v := ?vq12) ?hyq12 ?_
      case hyq12 => intro oi ho; simp only [List.getElem?_toArray, List.getElem?_cons_succ, List.getElem?_cons_zero, Option.some.injEq] at ho; subst ho; refine Or.inl ⟨by rfl, ?_⟩; intro wx hSw; (try dsimp only at hSw); go_simp; try rfl
      try simp only [Act.put, List.setIfInBounds_toArray, List.set_cons_zero, List.set_cons_succ]
      refine wpAnyH_tk 13 22 (v := ?vq13) ?hyq13 ?_
      case hyq13 => intro oi ho; simp only [List.getElem?_toArray, List.getElem?_cons_succ, List.getElem?_cons_zero, Option.some.injEq] at ho; subst ho; refine Or.inl ⟨by rfl, ?_⟩; intro wx hSw; (try dsimp only at hSw); go_simp; try rfl
      try simp only [Act.put, List.setIfInBounds_toArray, List.set_cons_zero, List.set_cons_succ]
      refine wpAnyH_cm 14 ?_; intro o ho K hK; simp only [List.getElem?_toArray, List.getElem?_cons_succ, List.getElem?_cons_zero, Option.some.injEq] at ho; subst ho
      go_simp
      have HX4 : Hid ((fun wx => wx.cell? ⟨G, 0, none⟩ = some (.slice ka kn kc) ∧ wx.cell? ⟨G, 1, none⟩ = some (.slice va vn vc)) (w3.setCell ⟨r, 3, none⟩ (.slice a3 (M + 1) c3))) := by
        have hne : G ≠ r := HNE.out
        exact ⟨(World.cell?_of_block (heap_setCell_other _ _ _ _ hne)).trans HX3.out.1, (World.cell?_of_block (heap_setCell_other _ _ _ _ hne)).trans HX3.out.2⟩
      clear hHeld
      refine hK.out _ _ HX4.out (fun hHeld => ?_)
      clear hK K
      try simp only [Act.put, List.setIfInBounds_toArray, List.set_cons_zero, List.set_cons_succ]
      refine wpAnyH_done (by kernel_rfl) ?_ _
      refine NoPanic.normal ?_
      clear hHeld y3 f3
      generalize (w3.setCell ⟨r, 3, none⟩ (.slice a3 (M + 1) c3)) = w4 at *
      obtain ⟨fv4, k1, k2⟩ := HP2.out.hx
      obtain ⟨fa4, fc4, rfl⟩ := k2.form
      have z3 : w4.cell? ⟨r, 3, none⟩ = some (.slice fa4 (F ++ [it]).length fc4) := cell_blk k1
      have z2 : w4.cell? ⟨r, 2, none⟩ = some (.int .i64 (most : Int)) := cell_blk k1
      rw [List.length_append, hM', List.length_singleton] at z3
      have HLE := hide (HLK.out.trans HLD.out |>.trans HP3.out)
      have HSZ : Hid (w1.heap.size ≤ w4.heap.size) := HP3.out.1.size
      clear k1 k2
      by_cases hmo : M + 1 < most
      · have x5 : ((M + 1 : Nat) : Int) < (most : Int) := by omega
        rw [if_pos hmo] at HSC
        go_wp2
        go_region
        go_wp2
        go_ret
        unfold TkR
        rw [HSC.out]
        refine ⟨?_, HP2.out.later (Below.refl _ _).drew (Nat.le_trans (Nat.le_trans HBB.out HBw.out) HSZ.out), HLE.out.trans (LkF.of (Below.refl _ _).drew (Nat.le_trans HBw.out HSZ.out))⟩
        simp
        omega
      · have x5 : ¬ ((M + 1 : Nat) : Int) < (most : Int) := by omega
        rw [if_neg hmo] at HSC
        go_wp2
        go_region
        go_wp2
        go_ret
        unfold TkR
        rw [HSC.out]
        refine ⟨?_, HP2.out.later (Below.refl _ _).drew (Nat.le_trans (Nat.le_trans HBB.out HBw.out) HSZ.out), HLE.out.trans (LkF.of (Below.refl _ _).drew (Nat.le_trans HBw.out HSZ.out))⟩
        simp
        omega
end Go.Proofs.YtnfponcadkmfjabGreat
set_option linter.unusedVariables false
namespace Go.Proofs.YtnfponcadkmfjabGreat
open Go.RowKit
def LkI (B B1 : Nat) (w : World) (r : Nat) (lv hv : Value) (lo hi : List Nat) (most : Nat) (F : List It) (all rest : List It) (wx : World) : Prop :=
  ∃ Fj : List It, Fj.length < most ∧ scan hi most F all = scan hi most Fj rest ∧ SpV B B1 wx r lv hv lo hi most Fj ∧ LkF B1 w wx
theorem scan_more {hi : List Nat} {most : Nat} {F a b : List It} (h : (scan hi most F a).2 = true) : scan hi most F (a ++ b) = scan hi most (scan hi most F a).1 b := by rw [scan_app, if_pos h]
theorem scan_stop {hi : List Nat} {most : Nat} {F a b : List It} (h : (scan hi most F a).2 = false) : scan hi most F (a ++ b) = scan hi most F a := by rw [scan_app, h]; simp
set_option maxRecDepth 100000 in
set_option maxHeartbeats 4000000 in
theorem look_leaf [Gd] {B p q r : Nat} {s : DS} {t : PS} {w0 w : World} {lv hv : Value} {lo hi : List Nat} {most : Nat} (hST : ST B p q s t w0) (hB : B ≤ w0.heap.size) (hlf : s.life = t.life) (hdn : s.down = false) (hb : Below w0.heap.size w0 w) (b : BT 0) (hon : OnD s t 0 b) (F : List It) (hsp : SpV B w0.heap.size w r lv hv lo hi most F) (hF : F.length < most) (hmo : most < 100000) :
    Calls Tryz.prog 62 #[.pointer (some ⟨r, 0, none⟩), .pointer (some ⟨q, 0, none⟩), .int .i64 (b.1 : Int), .int .i64 1] w fun e w' => TkR B w0.heap.size w r lv hv lo hi most F (frm b.2 lo) e w' := by
  obtain ⟨hpg, hit⟩ := hon
  have hBw := Nat.le_trans hB hb.size
  have HLD := hide (loadedAt_leaf b.1 (hST.later hb) hBw hlf hpg.lt (by rw [hpg.of]; decide) hdn b.2 hpg.pg hit.n1 hit.n4 hit.ok hit.so hpg.ln hpg.bt)
  have HIT := hide hit
  have HSP := hide hsp
  have HB := hide hB
  have HBw := hide hBw
  have HS0 := hide hb.size
  have hl4 := hit.n4
  have HF := hide hF
  have HMO := hide hmo
  obtain ⟨la, lc, hlv, hlb⟩ := hsp.klo
  subst hlv
  have HLB := hide hlb
  have HFD := hide (frm_drop hit.so lo)
  have hfl := fndI_le b.2 lo
  clear hST hb hpg hit hsp hF hmo hlb hlf hdn hB hBw
  generalize hl : b.2 = l at *
  generalize hLL : l.length = L at *
  generalize hFi : fndI l lo = Fi at *
  generalize hhb : hasI l lo = hb0 at *
  generalize hB1 : w0.heap.size = B1 at *
  go_enter Tryz.func62, Tryz.ntmps62
  go_wp2_with fail
  refine HLD.out.mono ?_
  rintro e w1 ⟨v1, rfl, ⟨gl, gi, rfl, z1, z2, z3, z4⟩, hb1⟩
  rw [hLL] at z3
  have HIO := hide (itemsOf_leaf z3)
  have HBw1 : Hid (B ≤ w1.heap.size) := Nat.le_trans HBw.out hb1.size
  have HSP1 := hide (HSP.out.later hb1 HBw.out)
  have HLK1 : Hid (LkF B1 w w1) := LkF.of hb1 HS0.out
  have HFN : Hid (∀ ww, Below w1.heap.size w1 ww → Calls Tryz.prog 93 #[.slice (some ⟨gi, 0, none⟩) L L, .slice la lo.length lc] ww fun e w' => e = .returned (.tuple #[.int .i64 (Fi : Int), .bool hb0]) ∧ Below ww.heap.size ww w') := fun ww hbb => by
    have := find_ok (z4.later hbb HBw1.out) (Nat.le_trans HBw1.out hbb.size) ((HLB.out.later (hb1.trans (hbb.mono hb1.size)) HBw.out).1) (by omega) HIT.out.so hLL
    rw [hFi, hhb] at this
    exact this
  have r0 : w1.cell? ⟨r, 0, none⟩ = some (.slice la lo.length lc) := HSP1.out.cellsx.1
  have HZ4 := hide z4
  clear z3 z4 hb1 HLD
  unfold lfP at HIO
  go_wp2_with fail
  refine HIO.out.mono ?_
  rintro e w2 ⟨rfl, rfl⟩
  go_wp2_with fail
  refine (HFN.out _ (Below.refl _ _)).mono ?_
  rintro e w3 ⟨rfl, hb3⟩
  have ta := asr_branch_no (.pointer (some ⟨gl, 0, none⟩)) w3
  have HSP3 := hide (HSP1.out.later hb3 HBw1.out)
  have HS1 : Hid (B1 ≤ w2.heap.size) := Nat.le_trans HS0.out HLK1.out.1.size
  have HLK3 : Hid (LkF B1 w w3) := HLK1.out.trans (LkF.of hb3 HS1.out)
  have HIR3 := hide (HZ4.out.later hb3 HBw1.out)
  have HS3 : Hid (B1 ≤ w3.heap.size) := Nat.le_trans HS1.out hb3.size
  clear hb3 r0 HFN HIO HZ4
  go_wp2_with fail
  go_loopw [15] (fun i wx => ∃ j : Nat, Fi ≤ j ∧ j ≤ L + 1 ∧ i = .int .i64 j ∧ LkI B B1 w3 r (.slice la lo.length lc) hv lo hi most F (frm l lo) (l.drop j) wx) (fun i _ => L + 1 - (intOf i).toNat)
  case atStart => exact ⟨Fi, Nat.le_refl _, by omega, rfl, F, HF.out, by rw [HFD.out], HSP3.out, LkF.refl _ _⟩
  case round =>
    obtain ⟨j, hj0, hj, rfl, hP⟩ := hrel
    obtain ⟨Fj, hFj, hsc, hsp, hlk⟩ := hP
    have HFj := hide hFj
    have HSC := hide hsc
    have HSPj := hide hsp
    have HLKj := hide hlk
    have HLKw := hide (HLK3.out.trans hlk)
    clear hFj hsc hsp hlk
    by_cases hjn : j < L
    · have x1 : (j : Int) ≤ (L : Int) := by omega
      have x2 : (j : Int) < (L : Int) := by omega
      have d2 : decide ((j : Int) < (L : Int)) = true := by simp; omega
      obtain ⟨it, hitj⟩ : ∃ it, l[j]? = some it := ⟨_, List.getElem?_eq_getElem (by omega)⟩
      obtain ⟨kf, vf, hg1, hg2⟩ := HIR3.out
      rw [hLL] at hg1
      have hgr := HLKj.out.2 _ _ _ _ hg1 (by decide) (by decide)
      obtain ⟨hk1, hv1⟩ := hg2 j it hitj
      have hft := HLKj.out.ft (HB.out)
      have hk1' := hk1.ft hft
      have hv1' := hv1.ft hft
      have y5 : wr.cell? ⟨gi, j * 2, none⟩ = some (kf j) := by rw [cell_blk hgr, List.getElem?_toArray]; exact two_get0 kf vf j L hjn
      have y6 : wr.cell? ⟨gi, j * 2 + 1, none⟩ = some (vf j) := by rw [cell_blk hgr, List.getElem?_toArray]; exact two_get1 kf vf j L hjn
      have HTK := hide (spTake_ok HSPj.out HB.out (Nat.le_trans HS3.out HLKj.out.1.size) (by have := HFj.out; have := HMO.out; omega) it hk1' hv1')
      obtain ⟨ka, kc, hka, hkk⟩ := hk1'
      obtain ⟨va, vc, hva, hvv⟩ := hv1'
      rw [hka] at y5 HTK
      rw [hva] at y6 HTK
      have hd : l.drop j = [it] ++ l.drop (j + 1) := by
        rw [← (List.getElem?_eq_some_iff.1 hitj).2]
        simp
      have HD := hide hd
      generalize hkn : it.1.length = kn at *
      generalize hvn : it.2.length = vn at *
      clear hg1 hg2 hgr hk1 hv1 hft hkk hvv hka hva hd hitj ta
      cases hb0 with
      | false =>
        go_wp2_with fail
        refine HTK.out.mono ?_
        rintro e w5 ⟨rfl, hsp5, hlk5⟩
        have HSP5 := hide hsp5
        have HLK5 := hide hlk5
        clear hsp5 hlk5 y5 y6
        cases hsc2 : (scan hi most Fj [it]).2 with
        | true =>
          have HSC2 := hide hsc2
          clear hsc2
          go_wp2_with fail
          go_roundw
          case rel =>
            refine ⟨j + 1, by omega, by omega, by go_num, _, (((scan_len hi most [it] Fj).2 HFj.out).2 HSC2.out), ?_, HSP5.out, HLKj.out.trans HLK5.out⟩
            rw [HSC.out, HD.out, scan_more HSC2.out]
          case measure => simp [intOf]; omega
        | false =>
          have HSC2 := hide hsc2
          clear hsc2
          go_wp2
          (try simp only [Exit.inBlock, Exit.then])
          go_ret
          have hq : scan hi most F (frm l lo) = scan hi most Fj [it] := by rw [HSC.out, HD.out, scan_stop HSC2.out]
          unfold TkR
          rw [hq, HSC2.out]
          exact ⟨rfl, HSP5.out, HLKw.out.trans HLK5.out⟩
      | true =>
        go_wp2_with fail
        refine HTK.out.mono ?_
        rintro e w5 ⟨rfl, hsp5, hlk5⟩
        have HSP5 := hide hsp5
        have HLK5 := hide hlk5
        clear hsp5 hlk5 y5 y6
        cases hsc2 : (scan hi most Fj [it]).2 with
        | true =>
          have HSC2 := hide hsc2
          clear hsc2
          go_wp2_with fail
          go_roundw
          case rel =>
            refine ⟨j + 1, by omega, by omega, by go_num, _, (((scan_len hi most [it] Fj).2 HFj.out).2 HSC2.out), ?_, HSP5.out, HLKj.out.trans HLK5.out⟩
            rw [HSC.out, HD.out, scan_more HSC2.out]
          case measure => simp [intOf]; omega
        | false =>
          have HSC2 := hide hsc2
          clear hsc2
          go_wp2
          (try simp only [Exit.inBlock, Exit.then])
          go_ret
          have hq : scan hi most F (frm l lo) = scan hi most Fj [it] := by rw [HSC.out, HD.out, scan_stop HSC2.out]
          unfold TkR
          rw [hq, HSC2.out]
          exact ⟨rfl, HSP5.out, HLKw.out.trans HLK5.out⟩
    · by_cases hje : j = L
      · have x1 : (j : Int) ≤ (L : Int) := by omega
        have x2 : ¬ (j : Int) < (L : Int) := by omega
        have d2 : decide ((j : Int) < (L : Int)) = false := by simp; omega
        clear ta
        cases hb0 with
        | false =>
          go_wp2_with fail
          go_roundw
          case rel =>
            refine ⟨j + 1, by omega, by omega, by go_num, Fj, HFj.out, ?_, HSPj.out, HLKj.out⟩
            rw [HSC.out, List.drop_eq_nil_of_le (by omega), List.drop_eq_nil_of_le (by omega)]
          case measure => simp [intOf]; omega
        | true =>
          go_wp2_with fail
          go_roundw
          case rel =>
            refine ⟨j + 1, by omega, by omega, by go_num, Fj, HFj.out, ?_, HSPj.out, HLKj.out⟩
            rw [HSC.out, List.drop_eq_nil_of_le (by omega), List.drop_eq_nil_of_le (by omega)]
          case measure => simp [intOf]; omega
      · have x1 : ¬ (j : Int) ≤ (L : Int) := by omega
        clear ta
        go_wp2
        (try simp only [Exit.inBlock, Exit.then])
        go_ret
        have hq : scan hi most F (frm l lo) = (Fj, true) := by
          rw [HSC.out, List.drop_eq_nil_of_le (by omega)]
          rfl
        unfold TkR
        rw [hq]
        exact ⟨rfl, HSPj.out, HLKw.out⟩
end Go.Proofs.YtnfponcadkmfjabGreat
set_option linter.unusedVariables false
namespace Go.Proofs.YtnfponcadkmfjabGreat
open Go.RowKit
def rsJ (l : List It) (cs : List (List It)) (lo : List Nat) (j : Nat) : List It := if j ≤ l.length then (if j = fndI l lo ∧ hasI l lo = true then [] else frm (cs.getD j []) lo) ++ rstB l cs j else []
section
variable {l : List It} {cs : List (List It)} {lo : List Nat}
theorem rsJ_at {j : Nat} (hj : j ≤ l.length) : rsJ l cs lo j = (if j = fndI l lo ∧ hasI l lo = true then [] else frm (cs.getD j []) lo) ++ rstB l cs j := if_pos hj
theorem rsJ_end {j : Nat} (hj : l.length < j) : rsJ l cs lo j = [] := if_neg (by omega)
theorem rsJ_start (hs : Srt (weave l cs)) (hl : cs.length = l.length + 1) : frm (weave l cs) lo = rsJ l cs lo (fndI l lo) := by
  have hle := fndI_le l lo
  obtain ⟨c, hc⟩ : ∃ c, cs[fndI l lo]? = some c := ⟨_, List.getElem?_eq_getElem (by omega)⟩
  rw [frm_weave hs hl hc, rsJ_at hle, List.getD_eq_getElem?_getD, hc]
  by_cases hh : hasI l lo = true
  · rw [if_pos hh, if_pos ⟨rfl, hh⟩]; rfl
  · rw [if_neg hh, if_neg (fun q => hh q.2)]; rfl
theorem rsJ_succ (hs : Srt (weave l cs)) (hl : cs.length = l.length + 1) {j : Nat} {x : It} (hj : fndI l lo ≤ j) (hx : l[j]? = some x) : rstB l cs j = [x] ++ rsJ l cs lo (j + 1) := by
  have hjl := (List.getElem?_eq_some_iff.1 hx).1
  obtain ⟨c, hc⟩ : ∃ c, cs[j + 1]? = some c := ⟨_, List.getElem?_eq_getElem (by omega)⟩
  rw [rsJ_at (by omega), if_neg (by omega), List.getD_eq_getElem?_getD, hc, Option.getD_some, frm_kid hs hl (show fndI l lo < j + 1 by omega) hc]
  unfold rstB
  rw [wvR_cons hx hc]
  rfl
theorem rst_end {j : Nat} (hj : l.length ≤ j) : rstB l cs j = [] := wvR_end hj
end
def LkC [Gd] (B p q r : Nat) (s : DS) (t : PS) (B1 : Nat) (w0 : World) (lv hv : Value) (lo hi : List Nat) (most : Nat) (h : Nat) : Prop :=
  ∀ (w : World) (b : BT h) (F : List It), Below B1 w0 w → OnD s t h b → Srt (flB h b) → SpV B B1 w r lv hv lo hi most F → F.length < most →
    Calls Tryz.prog 62 #[.pointer (some ⟨r, 0, none⟩), .pointer (some ⟨q, 0, none⟩), .int .i64 (BT.id b : Int), .int .i64 ((h : Int) + 1)] w fun e w' => TkR B B1 w r lv hv lo hi most F (frm (flB h b) lo) e w'
set_option maxRecDepth 100000 in
set_option maxHeartbeats 8000000 in
theorem look_branch [Gd] {B p q r h : Nat} {s : DS} {t : PS} {w0 w : World} {lv hv : Value} {lo hi : List Nat} {most : Nat} (hST : ST B p q s t w0) (hB : B ≤ w0.heap.size) (hlf : s.life = t.life) (hdn : s.down = false) (hb : Below w0.heap.size w0 w) (b : BT (h + 1)) (hon : OnD s t (h + 1) b) (hsr : Srt (flB (h + 1) b)) (F : List It) (hsp : SpV B w0.heap.size w r lv hv lo hi most F) (hF : F.length < most) (hmo : most < 100000) (hh : h < 100000)
    (hIH : LkC B p q r s t w0.heap.size w0 lv hv lo hi most h) :
    Calls Tryz.prog 62 #[.pointer (some ⟨r, 0, none⟩), .pointer (some ⟨q, 0, none⟩), .int .i64 (b.1 : Int), .int .i64 ((h : Int) + 1 + 1)] w fun e w' => TkR B w0.heap.size w r lv hv lo hi most F (frm (flB (h + 1) b) lo) e w' := by
  obtain ⟨hpg, hit, hcl, hid, hkd⟩ := hon
  have hBw := Nat.le_trans hB hb.size
  have hidl : (b.2.2.map BT.id).length = b.2.1.length + 1 := by rw [List.length_map]; exact hcl
  have HLD := loadedAt_branch b.1 (h + 2) (by omega) (hST.later hb) hBw hlf hpg.lt (by rw [hpg.of]; decide) hdn b.2.1 (b.2.2.map BT.id) hpg.pg hidl (by intro x hx; obtain ⟨k, hk, rfl⟩ := List.mem_map.1 hx; exact hid k hk) hit.n1 hit.n4 hit.ok hit.so hpg.ln hpg.bt
  rw [show (((h + 2 : Nat) : Nat) : Int) = (h : Int) + 1 + 1 by omega] at HLD
  replace HLD := hide HLD
  have HIT := hide hit
  have HSP := hide hsp
  have HB := hide hB
  have HBw := hide hBw
  have HS0 := hide hb.size
  have HB0 := hide hb
  have HIH := hide hIH
  have hl4 := hit.n4
  have HF := hide hF
  have HMO := hide hmo
  obtain ⟨la, lc, hlv, hlb⟩ := hsp.klo
  subst hlv
  have HLB := hide hlb
  have hcs : (b.2.2.map (flB h)).length = b.2.1.length + 1 := by rw [List.length_map]; exact hcl
  have HCS := hide hcs
  have HSR : Hid (Srt (weave b.2.1 (b.2.2.map (flB h)))) := hsr
  have HST0 : Hid (frm (flB (h + 1) b) lo = rsJ b.2.1 (b.2.2.map (flB h)) lo (fndI b.2.1 lo)) := rsJ_start hsr hcs
  have HKD := hide hkd
  have HKS : Hid (∀ k ∈ b.2.2, Srt (flB h k)) := fun k hk => Srt.kid hsr hcs (List.mem_map_of_mem hk)
  have hfl := fndI_le b.2.1 lo
  have HHS : Hid (hasI b.2.1 lo = true → fndI b.2.1 lo < b.2.1.length) := fun q9 => by
    obtain ⟨x, hx, _⟩ := (hit.so.has lo).1 q9
    exact (List.getElem?_eq_some_iff.1 hx).1
  generalize flB (h + 1) b = all at *
  clear hST hb hpg hit hsp hF hmo hlb hlf hdn hB hBw hsr hid hkd hcs hIH
  generalize hl : b.2.1 = l at *
  generalize hLL : l.length = L at *
  generalize hFi : fndI l lo = Fi at *
  generalize hhb : hasI l lo = hb0 at *
  generalize hB1 : w0.heap.size = B1 at *
  have hn2 : (b.2.2.map BT.id).length = L + 1 := hidl
  go_enter Tryz.func62, Tryz.ntmps62
  go_wp2_with fail
  refine HLD.out.mono ?_
  rintro e w1 ⟨v1, rfl, ⟨gb, gi, gc, rfl, z1, z2, z5, z3, z4, z6⟩, hb1⟩
  rw [hLL, hn2] at z3
  have HIO := hide (itemsOf_branch z3)
  have HBw1 : Hid (B ≤ w1.heap.size) := Nat.le_trans HBw.out hb1.size
  have HSP1 := hide (HSP.out.later hb1 HBw.out)
  have HLK1 : Hid (LkF B1 w w1) := LkF.of hb1 HS0.out
  have HFN : Hid (∀ ww, Below w1.heap.size w1 ww → Calls Tryz.prog 93 #[.slice (some ⟨gi, 0, none⟩) L L, .slice la lo.length lc] ww fun e w' => e = .returned (.tuple #[.int .i64 (Fi : Int), .bool hb0]) ∧ Below ww.heap.size ww w') := fun ww hbb => by
    have := find_ok (z4.later hbb HBw1.out) (Nat.le_trans HBw1.out hbb.size) ((HLB.out.later (hb1.trans (hbb.mono hb1.size)) HBw.out).1) (by omega) HIT.out.so hLL
    rw [hFi, hhb] at this
    exact this
  have r0 : w1.cell? ⟨r, 0, none⟩ = some (.slice la lo.length lc) := HSP1.out.cellsx.1
  have HZ4 := hide z4
  have HZ3 := hide z3
  have HZ6 := hide z6
  clear z3 z4 z6 hb1 HLD
  unfold brP at HIO
  go_wp2_with fail
  refine HIO.out.mono ?_
  rintro e w2 ⟨rfl, rfl⟩
  go_wp2_with fail
  refine (HFN.out _ (Below.refl _ _)).mono ?_
  rintro e w3 ⟨rfl, hb3⟩
  have ta := asr_branch_yes (.pointer (some ⟨gb, 0, none⟩)) w3
  have HSP3 := hide (HSP1.out.later hb3 HBw1.out)
  have HS1 : Hid (B1 ≤ w2.heap.size) := Nat.le_trans HS0.out HLK1.out.1.size
  have HLK3 : Hid (LkF B1 w w3) := HLK1.out.trans (LkF.of hb3 HS1.out)
  have HIR3 := hide (HZ4.out.later hb3 HBw1.out)
  have HGB3 := hide ((hb3.block gb (Array.getElem?_eq_some_iff.1 HZ3.out).1).trans HZ3.out)
  have HGC3 := hide ((hb3.block gc (Array.getElem?_eq_some_iff.1 HZ6.out).1).trans HZ6.out)
  have HS3 : Hid (B1 ≤ w3.heap.size) := Nat.le_trans HS1.out hb3.size
  have HB3 : Hid (Below B1 w0 w3) := HB0.out.trans HLK3.out.1
  clear hb3 r0 HFN HIO HZ4 HZ3 HZ6
  go_wp2_with fail
  go_loopw [15] (fun i wx => ∃ j : Nat, Fi ≤ j ∧ j ≤ L + 1 ∧ i = .int .i64 j ∧ LkI B B1 w3 r (.slice la lo.length lc) hv lo hi most F (frm all lo) (rsJ l (b.2.2.map (flB h)) lo j) wx) (fun i _ => L + 1 - (intOf i).toNat)
  case atStart => exact ⟨Fi, Nat.le_refl _, by omega, rfl, F, HF.out, by rw [HST0.out], HSP3.out, LkF.refl _ _⟩
  case round =>
    obtain ⟨j, hj0, hj, rfl, hP⟩ := hrel
    obtain ⟨Fj, hFj, hsc, hsp, hlk⟩ := hP
    have HFj := hide hFj
    have HSC := hide hsc
    have HSPj := hide hsp
    have HLKj := hide hlk
    have HLKw := hide (HLK3.out.trans hlk)
    clear hFj hsc hsp hlk ta
    by_cases hjn : j ≤ L
    · have x1 : (j : Int) ≤ (L : Int) := by omega
      cases hb0 with
      | false =>
        obtain ⟨kb, hkb⟩ : ∃ kb, b.2.2[j]? = some kb := ⟨_, List.getElem?_eq_getElem (by omega)⟩
        have hkm := List.mem_of_getElem? hkb
        have HKR : Hid (rsJ l (b.2.2.map (flB h)) lo j = frm (flB h kb) lo ++ rstB l (b.2.2.map (flB h)) j) := by
          show _ = _
          rw [rsJ_at (by omega), if_neg (fun q9 => by rw [hhb] at q9; exact absurd q9.2 (by decide)), List.getD_eq_getElem?_getD, List.getElem?_map, hkb]
          rfl
        have hgb := HLKj.out.2 _ _ _ _ HGB3.out (by decide) (by decide)
        have hgc := HLKj.out.2 _ _ _ _ HGC3.out (by decide) (by decide)
        have g1 : wr.cell? ⟨gb, 1, none⟩ = some (.slice (some ⟨gc, 0, none⟩) (L + 1) (L + 1)) := cell_blk hgb
        have g2 : wr.cell? ⟨gc, j, none⟩ = some (.iface 105 (.int .i64 (BT.id kb : Int))) := by
          rw [cell_blk hgc, List.getElem?_toArray, List.getElem?_map, List.getElem?_map, hkb]
          rfl
        have g3 := asr_place (.int .i64 (BT.id kb : Int)) wr
        have xl : (j : Int) < ((L + 1 : Nat) : Int) := by omega
        have HCL := hide (HIH.out wr kb Fj (HB3.out.trans HLKj.out.1) (HKD.out kb hkm) (HKS.out kb hkm) HSPj.out HFj.out)
        clear hgb hgc hkm hkb
        go_wp2_with fail
        refine HCL.out.mono ?_
        rintro e w4 ⟨rfl, hsp4, hlk4⟩
        have HSPc := hide hsp4
        have HLKc := hide (HLKj.out.trans hlk4)
        have HLKwc := hide (HLKw.out.trans hlk4)
        clear hsp4 hlk4 g1 g2 g3 HCL
        cases hsc1 : (scan hi most Fj (frm (flB h kb) lo)).2 with
        | false =>
          have HSC1 := hide hsc1
          clear hsc1
          go_wp2
          (try simp only [Exit.inBlock, Exit.then])
          go_ret
          have hq : scan hi most F (frm all lo) = scan hi most Fj (frm (flB h kb) lo) := by rw [HSC.out, HKR.out, scan_stop HSC1.out]
          unfold TkR
          rw [hq, HSC1.out]
          exact ⟨rfl, HSPc.out, HLKwc.out⟩
        | true =>
          have HFc : Hid ((scan hi most Fj (frm (flB h kb) lo)).1.length < most) := (((scan_len hi most (frm (flB h kb) lo) Fj).2 HFj.out).2 hsc1)
          have HSCc : Hid (scan hi most F (frm all lo) = scan hi most (scan hi most Fj (frm (flB h kb) lo)).1 (rstB l (b.2.2.map (flB h)) j)) := by
            show _ = _
            rw [HSC.out, HKR.out, scan_more hsc1]
          clear hsc1
          generalize (scan hi most Fj (frm (flB h kb) lo)).1 = Fc at *
          by_cases hjl : j < L
          · have x2 : (j : Int) < (L : Int) := by omega
            have d2 : decide ((j : Int) < (L : Int)) = true := by simp; omega
            obtain ⟨it, hitj⟩ : ∃ it, l[j]? = some it := ⟨_, List.getElem?_eq_getElem (by omega)⟩
            have HRS : Hid (rstB l (b.2.2.map (flB h)) j = [it] ++ rsJ l (b.2.2.map (flB h)) lo (j + 1)) := rsJ_succ HSR.out (by rw [hLL]; exact HCS.out) (by rw [hFi]; exact hj0) hitj
            obtain ⟨kf, vf, hg1, hg2⟩ := HIR3.out
            rw [hLL] at hg1
            have hgr := HLKc.out.2 _ _ _ _ hg1 (by decide) (by decide)
            obtain ⟨hk1, hv1⟩ := hg2 j it hitj
            have hft := HLKc.out.ft (HB.out)
            have hk1' := hk1.ft hft
            have hv1' := hv1.ft hft
            have y5 : w4.cell? ⟨gi, j * 2, none⟩ = some (kf j) := by rw [cell_blk hgr, List.getElem?_toArray]; exact two_get0 kf vf j L (by omega)
            have y6 : w4.cell? ⟨gi, j * 2 + 1, none⟩ = some (vf j) := by rw [cell_blk hgr, List.getElem?_toArray]; exact two_get1 kf vf j L (by omega)
            have HTK := hide (spTake_ok HSPc.out HB.out (Nat.le_trans HS3.out HLKc.out.1.size) (by have := HFc.out; have := HMO.out; omega) it hk1' hv1')
            obtain ⟨ka, kc, hka, hkk⟩ := hk1'
            obtain ⟨va, vc, hva, hvv⟩ := hv1'
            rw [hka] at y5 HTK
            rw [hva] at y6 HTK
            generalize hkn : it.1.length = kn at *
            generalize hvn : it.2.length = vn at *
            clear hg1 hg2 hgr hk1 hv1 hft hkk hvv hka hva hitj
            go_wp2_with fail
            refine HTK.out.mono ?_
            rintro e w5 ⟨rfl, hsp5, hlk5⟩
            have HSP5 := hide hsp5
            have HLK5 := hide hlk5
            clear hsp5 hlk5 y5 y6
            cases hsc2 : (scan hi most Fc [it]).2 with
            | true =>
              have HSC2 := hide hsc2
              clear hsc2
              go_wp2_with fail
              go_roundw
              case rel =>
                refine ⟨j + 1, by omega, by omega, by go_num, _, (((scan_len hi most [it] Fc).2 HFc.out).2 HSC2.out), ?_, HSP5.out, HLKc.out.trans HLK5.out⟩
                rw [HSCc.out, HRS.out, scan_more HSC2.out]
              case measure => simp [intOf]; omega
            | false =>
              have HSC2 := hide hsc2
              clear hsc2
              go_wp2
              (try simp only [Exit.inBlock, Exit.then])
              go_ret
              have hq : scan hi most F (frm all lo) = scan hi most Fc [it] := by rw [HSCc.out, HRS.out, scan_stop HSC2.out]
              unfold TkR
              rw [hq, HSC2.out]
              exact ⟨rfl, HSP5.out, HLKwc.out.trans HLK5.out⟩
          · have x2 : ¬ (j : Int) < (L : Int) := by omega
            have d2 : decide ((j : Int) < (L : Int)) = false := by simp; omega
            go_wp2_with fail
            go_roundw
            case rel =>
              refine ⟨j + 1, by omega, by omega, by go_num, Fc, HFc.out, ?_, HSPc.out, HLKc.out⟩
              rw [HSCc.out, rst_end (by omega), rsJ_end (by omega)]
            case measure => simp [intOf]; omega
      | true =>
        by_cases hjf : j = Fi
        · obtain rfl : Fi = j := hjf.symm
          have hFL : Fi < L := HHS.out rfl
          have x2 : (Fi : Int) < (L : Int) := by omega
          have d2 : decide ((Fi : Int) < (L : Int)) = true := by simp; omega
          have HFc := HFj
          have HSPc := HSPj
          have HLKc := HLKj
          have HLKwc := HLKw
          have HSCc : Hid (scan hi most F (frm all lo) = scan hi most Fj (rstB l (b.2.2.map (flB h)) Fi)) := by
            show _ = _
            rw [HSC.out, rsJ_at (by omega), if_pos ⟨by omega, hhb⟩, List.nil_append]
          obtain ⟨it, hitj⟩ : ∃ it, l[Fi]? = some it := ⟨_, List.getElem?_eq_getElem (by omega)⟩
          have HRS : Hid (rstB l (b.2.2.map (flB h)) Fi = [it] ++ rsJ l (b.2.2.map (flB h)) lo (Fi + 1)) := rsJ_succ HSR.out (by rw [hLL]; exact HCS.out) (by rw [hFi]; exact hj0) hitj
          obtain ⟨kf, vf, hg1, hg2⟩ := HIR3.out
          rw [hLL] at hg1
          have hgr := HLKc.out.2 _ _ _ _ hg1 (by decide) (by decide)
          obtain ⟨hk1, hv1⟩ := hg2 Fi it hitj
          have hft := HLKc.out.ft (HB.out)
          have hk1' := hk1.ft hft
          have hv1' := hv1.ft hft
          have y5 : wr.cell? ⟨gi, Fi * 2, none⟩ = some (kf Fi) := by rw [cell_blk hgr, List.getElem?_toArray]; exact two_get0 kf vf Fi L (by omega)
          have y6 : wr.cell? ⟨gi, Fi * 2 + 1, none⟩ = some (vf Fi) := by rw [cell_blk hgr, List.getElem?_toArray]; exact two_get1 kf vf Fi L (by omega)
          have HTK := hide (spTake_ok HSPc.out HB.out (Nat.le_trans HS3.out HLKc.out.1.size) (by have := HFc.out; have := HMO.out; omega) it hk1' hv1')
          obtain ⟨ka, kc, hka, hkk⟩ := hk1'
          obtain ⟨va, vc, hva, hvv⟩ := hv1'
          rw [hka] at y5 HTK
          rw [hva] at y6 HTK
          generalize hkn : it.1.length = kn at *
          generalize hvn : it.2.length = vn at *
          clear hg1 hg2 hgr hk1 hv1 hft hkk hvv hka hva hitj
          go_wp2_with fail
          refine HTK.out.mono ?_
          rintro e w5 ⟨rfl, hsp5, hlk5⟩
          have HSP5 := hide hsp5
          have HLK5 := hide hlk5
          clear hsp5 hlk5 y5 y6
          cases hsc2 : (scan hi most Fj [it]).2 with
          | true =>
            have HSC2 := hide hsc2
            clear hsc2
            go_wp2_with fail
            go_roundw
            case rel =>
              refine ⟨Fi + 1, by omega, by omega, by go_num, _, (((scan_len hi most [it] Fj).2 HFc.out).2 HSC2.out), ?_, HSP5.out, HLKc.out.trans HLK5.out⟩
              rw [HSCc.out, HRS.out, scan_more HSC2.out]
            case measure => simp [intOf]; omega
          | false =>
            have HSC2 := hide hsc2
            clear hsc2
            go_wp2
            (try simp only [Exit.inBlock, Exit.then])
            go_ret
            have hq : scan hi most F (frm all lo) = scan hi most Fj [it] := by rw [HSCc.out, HRS.out, scan_stop HSC2.out]
            unfold TkR
            rw [hq, HSC2.out]
            exact ⟨rfl, HSP5.out, HLKwc.out.trans HLK5.out⟩
        · have x3 : ¬ (j : Int) = (Fi : Int) := by omega
          have d3 : ((j : Int) == (Fi : Int)) = false := by simp; omega
          obtain ⟨kb, hkb⟩ : ∃ kb, b.2.2[j]? = some kb := ⟨_, List.getElem?_eq_getElem (by omega)⟩
          have hkm := List.mem_of_getElem? hkb
          have HKR : Hid (rsJ l (b.2.2.map (flB h)) lo j = frm (flB h kb) lo ++ rstB l (b.2.2.map (flB h)) j) := by
            show _ = _
            rw [rsJ_at (by omega), if_neg (fun q9 => hjf (by rw [← hFi]; exact q9.1)), List.getD_eq_getElem?_getD, List.getElem?_map, hkb]
            rfl
          have hgb := HLKj.out.2 _ _ _ _ HGB3.out (by decide) (by decide)
          have hgc := HLKj.out.2 _ _ _ _ HGC3.out (by decide) (by decide)
          have g1 : wr.cell? ⟨gb, 1, none⟩ = some (.slice (some ⟨gc, 0, none⟩) (L + 1) (L + 1)) := cell_blk hgb
          have g2 : wr.cell? ⟨gc, j, none⟩ = some (.iface 105 (.int .i64 (BT.id kb : Int))) := by
            rw [cell_blk hgc, List.getElem?_toArray, List.getElem?_map, List.getElem?_map, hkb]
            rfl
          have g3 := asr_place (.int .i64 (BT.id kb : Int)) wr
          have xl : (j : Int) < ((L + 1 : Nat) : Int) := by omega
          have HCL := hide (HIH.out wr kb Fj (HB3.out.trans HLKj.out.1) (HKD.out kb hkm) (HKS.out kb hkm) HSPj.out HFj.out)
          clear hgb hgc hkm hkb
          go_wp2_with fail
          refine HCL.out.mono ?_
          rintro e w4 ⟨rfl, hsp4, hlk4⟩
          have HSPc := hide hsp4
          have HLKc := hide (HLKj.out.trans hlk4)
          have HLKwc := hide (HLKw.out.trans hlk4)
          clear hsp4 hlk4 g1 g2 g3 HCL
          cases hsc1 : (scan hi most Fj (frm (flB h kb) lo)).2 with
          | false =>
            have HSC1 := hide hsc1
            clear hsc1
            go_wp2
            (try simp only [Exit.inBlock, Exit.then])
            go_ret
            have hq : scan hi most F (frm all lo) = scan hi most Fj (frm (flB h kb) lo) := by rw [HSC.out, HKR.out, scan_stop HSC1.out]
            unfold TkR
            rw [hq, HSC1.out]
            exact ⟨rfl, HSPc.out, HLKwc.out⟩
          | true =>
            have HFc : Hid ((scan hi most Fj (frm (flB h kb) lo)).1.length < most) := (((scan_len hi most (frm (flB h kb) lo) Fj).2 HFj.out).2 hsc1)
            have HSCc : Hid (scan hi most F (frm all lo) = scan hi most (scan hi most Fj (frm (flB h kb) lo)).1 (rstB l (b.2.2.map (flB h)) j)) := by
              show _ = _
              rw [HSC.out, HKR.out, scan_more hsc1]
            clear hsc1
            generalize (scan hi most Fj (frm (flB h kb) lo)).1 = Fc at *
            by_cases hjl : j < L
            · have x2 : (j : Int) < (L : Int) := by omega
              have d2 : decide ((j : Int) < (L : Int)) = true := by simp; omega
              obtain ⟨it, hitj⟩ : ∃ it, l[j]? = some it := ⟨_, List.getElem?_eq_getElem (by omega)⟩
              have HRS : Hid (rstB l (b.2.2.map (flB h)) j = [it] ++ rsJ l (b.2.2.map (flB h)) lo (j + 1)) := rsJ_succ HSR.out (by rw [hLL]; exact HCS.out) (by rw [hFi]; exact hj0) hitj
              obtain ⟨kf, vf, hg1, hg2⟩ := HIR3.out
              rw [hLL] at hg1
              have hgr := HLKc.out.2 _ _ _ _ hg1 (by decide) (by decide)
              obtain ⟨hk1, hv1⟩ := hg2 j it hitj
              have hft := HLKc.out.ft (HB.out)
              have hk1' := hk1.ft hft
              have hv1' := hv1.ft hft
              have y5 : w4.cell? ⟨gi, j * 2, none⟩ = some (kf j) := by rw [cell_blk hgr, List.getElem?_toArray]; exact two_get0 kf vf j L (by omega)
              have y6 : w4.cell? ⟨gi, j * 2 + 1, none⟩ = some (vf j) := by rw [cell_blk hgr, List.getElem?_toArray]; exact two_get1 kf vf j L (by omega)
              have HTK := hide (spTake_ok HSPc.out HB.out (Nat.le_trans HS3.out HLKc.out.1.size) (by have := HFc.out; have := HMO.out; omega) it hk1' hv1')
              obtain ⟨ka, kc, hka, hkk⟩ := hk1'
              obtain ⟨va, vc, hva, hvv⟩ := hv1'
              rw [hka] at y5 HTK
              rw [hva] at y6 HTK
              generalize hkn : it.1.length = kn at *
              generalize hvn : it.2.length = vn at *
              clear hg1 hg2 hgr hk1 hv1 hft hkk hvv hka hva hitj
              go_wp2_with fail
              refine HTK.out.mono ?_
              rintro e w5 ⟨rfl, hsp5, hlk5⟩
              have HSP5 := hide hsp5
              have HLK5 := hide hlk5
              clear hsp5 hlk5 y5 y6
              cases hsc2 : (scan hi most Fc [it]).2 with
              | true =>
                have HSC2 := hide hsc2
                clear hsc2
                go_wp2_with fail
                go_roundw
                case rel =>
                  refine ⟨j + 1, by omega, by omega, by go_num, _, (((scan_len hi most [it] Fc).2 HFc.out).2 HSC2.out), ?_, HSP5.out, HLKc.out.trans HLK5.out⟩
                  rw [HSCc.out, HRS.out, scan_more HSC2.out]
                case measure => simp [intOf]; omega
              | false =>
                have HSC2 := hide hsc2
                clear hsc2
                go_wp2
                (try simp only [Exit.inBlock, Exit.then])
                go_ret
                have hq : scan hi most F (frm all lo) = scan hi most Fc [it] := by rw [HSCc.out, HRS.out, scan_stop HSC2.out]
                unfold TkR
                rw [hq, HSC2.out]
                exact ⟨rfl, HSP5.out, HLKwc.out.trans HLK5.out⟩
            · have x2 : ¬ (j : Int) < (L : Int) := by omega
              have d2 : decide ((j : Int) < (L : Int)) = false := by simp; omega
              go_wp2_with fail
              go_roundw
              case rel =>
                refine ⟨j + 1, by omega, by omega, by go_num, Fc, HFc.out, ?_, HSPc.out, HLKc.out⟩
                rw [HSCc.out, rst_end (by omega), rsJ_end (by omega)]
              case measure => simp [intOf]; omega
    · have x1 : ¬ (j : Int) ≤ (L : Int) := by omega
      go_wp2
      (try simp only [Exit.inBlock, Exit.then])
      go_ret
      have hq : scan hi most F (frm all lo) = (Fj, true) := by
        rw [HSC.out, rsJ_end (by omega)]
        rfl
      unfold TkR
      rw [hq]
      exact ⟨rfl, HSPj.out, HLKw.out⟩
theorem look_ok [Gd] {B p q r : Nat} {s : DS} {t : PS} {w0 : World} {lv hv : Value} {lo hi : List Nat} {most : Nat} (hST : ST B p q s t w0) (hB : B ≤ w0.heap.size) (hlf : s.life = t.life) (hdn : s.down = false) (hmo : most < 100000) : ∀ h, h < 100000 → LkC B p q r s t w0.heap.size w0 lv hv lo hi most h
  | 0, _ => fun w b F hb hon _ hsp hF => look_leaf hST hB hlf hdn hb b hon F hsp hF hmo
  | h + 1, hh => fun w b F hb hon hsr hsp hF => look_branch hST hB hlf hdn hb b hon hsr F hsp hF hmo (by omega) (look_ok hST hB hlf hdn hmo h (by omega))
end Go.Proofs.YtnfponcadkmfjabGreat
