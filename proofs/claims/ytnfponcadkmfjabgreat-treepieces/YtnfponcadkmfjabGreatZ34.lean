import Derived.Test.YtnfponcadkmfjabGreatZ33
import Derived.Deep.CutRange
set_option linter.unusedVariables false
namespace Go.Proofs.YtnfponcadkmfjabGreat
open Go.RowKit
def Ex (B : Nat) (S : List Nat) (w w' : World) : Prop := Below B w w' ∧ ∀ k, k < w.heap.size → k ∉ S → w'.heap[k]? = w.heap[k]?
set_option maxRecDepth 100000 in
set_option maxHeartbeats 4000000 in
theorem putInLeaf_new {B px q gl L : Nat} {w : World} {rv : Value} {d n : Int} {gone : List Nat} {sa ka va : Option Addr} {sc kn kc vn vc Fi : Nat} (hn : n < 1000000) (hn0 : 0 ≤ n) (hE : EV B w px q rv d n gone) (hgl : w.heap[gl]? = some (.cells #[.slice sa L sc] 117 (0, 0))) (hB : B ≤ w.heap.size) (hglB : B ≤ gl) (ys : List Value)
    (hF : ∀ ww, Below w.heap.size w ww → Calls Tryz.prog 93 #[.slice sa L sc, .slice ka kn kc] ww fun e w' => e = .returned (.tuple #[.int .i64 (Fi : Int), .bool false]) ∧ Below ww.heap.size ww w')
    (hI : ∀ ww gv, Below w.heap.size w ww → ww.heap[gv]? = some (.cells #[.slice ka kn kc, .slice va vn vc] 70 (0, 0)) → Calls Tryz.prog 117 #[.slice sa L sc, .int .i64 (Fi : Int), .slice (some ⟨gv, 0, none⟩) 1 1] ww fun e w' => ∃ gn c, e = .returned (.slice (some ⟨gn, 0, none⟩) (L + 1) c) ∧ ww.heap.size ≤ gn ∧ L + 1 ≤ c ∧ c ≤ 9223372036854775807 ∧ RowN w' gn 70 ys ∧ Below ww.heap.size ww w') :
    Calls Tryz.prog 92 #[.pointer (some ⟨px, 0, none⟩), .pointer (some ⟨gl, 0, none⟩), .agg #[.slice ka kn kc, .slice va vn vc]] w fun e w' => e = .returned (.tuple #[]) ∧ (∃ gn c, w'.heap[gl]? = some (.cells #[.slice (some ⟨gn, 0, none⟩) (L + 1) c] 117 (0, 0)) ∧ w.heap.size ≤ gn ∧ L + 1 ≤ c ∧ c ≤ 9223372036854775807 ∧ RowN w' gn 70 ys) ∧ EV B w' px q rv d (n + 1) gone ∧ Ex B [gl, px] w w' := by
  have HBX := hide (below_box w (.cells #[.slice ka kn kc, .slice va vn vc] 70))
  have HNX : Hid ((w.alloc (.cells #[.slice ka kn kc, .slice va vn vc] 70)).heap[w.heap.size]? = some (.cells #[.slice ka kn kc, .slice va vn vc] 70 (0, 0))) := heap_alloc_new w _
  have HGL : Hid ((w.alloc (.cells #[.slice ka kn kc, .slice va vn vc] 70)).heap[gl]? = some (.cells #[.slice sa L sc] 117 (0, 0))) := (HBX.out.block gl (Array.getElem?_eq_some_iff.1 hgl).1).trans hgl
  have HBD : Hid (Below w.heap.size w (w.alloc (.cells #[.slice ka kn kc, .slice va vn vc] 70)).drew) := HBX.out.drew
  have HEV := hide (hE.later HBX.out)
  have HF := hide hF
  have HI := hide (fun ww gv (hb : Below (w.alloc (.cells #[.slice ka kn kc, .slice va vn vc] 70)).heap.size (w.alloc (.cells #[.slice ka kn kc, .slice va vn vc] 70)) ww) h => hI ww gv (HBX.out.trans (hb.mono HBX.out.size)) h)
  have HB := hide hB
  have HLB := hide hglB
  clear hF hI hE hgl hB hglB
  go_enter Tryz.func92, Tryz.ntmps92
  go_upto_region 1 with fail
  generalize w.alloc (.cells #[.slice ka kn kc, .slice va vn vc] 70) = w0 at *
  generalize hG : w.heap.size = G at *
  have HGS : Hid (G < w0.heap.size) := (Array.getElem?_eq_some_iff.1 HNX.out).1
  have HX0 : Hid ((fun wx => wx.cell? ⟨gl, 0, none⟩ = some (.slice sa L sc) ∧ wx.cell? ⟨G, 0, none⟩ = some (.slice ka kn kc) ∧ wx.cell? ⟨G, 1, none⟩ = some (.slice va vn vc)) w0.drew) := ⟨cell_blk HGL.out, cell_blk HNX.out, cell_blk HNX.out⟩
  refine wp_region_noPanic ?_
  refine wp_region_held_drew (S := fun wx => wx.cell? ⟨gl, 0, none⟩ = some (.slice sa L sc) ∧ wx.cell? ⟨G, 0, none⟩ = some (.slice ka kn kc) ∧ wx.cell? ⟨G, 1, none⟩ = some (.slice va vn vc)) (by kernel_rfl) HX0.out (fun hHeld => ?_)
  refine wpAnyH_tk 0 9 (v := ?va0) ?hya0 ?_
  case hya0 => intro oi ho; simp only [List.getElem?_toArray, List.getElem?_cons_zero, Option.some.injEq] at ho; subst ho; refine Or.inl ⟨by rfl, ?_⟩; intro wx hSw; (try dsimp only at hSw); go_simp; try rfl
  try simp only [Act.put, List.setIfInBounds_toArray, List.set_cons_zero, List.set_cons_succ]
  refine wpAnyH_tk 1 10 (v := ?va1) ?hya1 ?_
  case hya1 => intro oi ho; simp only [List.getElem?_toArray, List.getElem?_cons_succ, List.getElem?_cons_zero, Option.some.injEq] at ho; subst ho; refine Or.inl ⟨by rfl, ?_⟩; intro wx hSw; (try dsimp only at hSw); go_simp; try rfl
  try simp only [Act.put, List.setIfInBounds_toArray, List.set_cons_zero, List.set_cons_succ]
  refine wpAnyH_tk 2 11 (v := ?va2) ?hya2 ?_
  case hya2 => intro oi ho; simp only [List.getElem?_toArray, List.getElem?_cons_succ, List.getElem?_cons_zero, Option.some.injEq] at ho; subst ho; refine Or.inl ⟨by rfl, ?_⟩; intro wx hSw; (try dsimp only at hSw); go_simp; try rfl
  try simp only [Act.put, List.setIfInBounds_toArray, List.set_cons_zero, List.set_cons_succ]
  refine wpAnyH_tk 3 12 (v := ?va3) ?hya3 ?_
  case hya3 => intro oi ho; simp only [List.getElem?_toArray, List.getElem?_cons_succ, List.getElem?_cons_zero, Option.some.injEq] at ho; subst ho; refine Or.inl ⟨by rfl, ?_⟩; intro wx hSw; (try dsimp only at hSw); go_simp; try rfl
  try simp only [Act.put, List.setIfInBounds_toArray, List.set_cons_zero, List.set_cons_succ]
  refine wpAnyH_tk 4 13 (v := ?va4) ?hya4 ?_
  case hya4 => intro oi ho; simp only [List.getElem?_toArray, List.getElem?_cons_succ, List.getElem?_cons_zero, Option.some.injEq] at ho; subst ho; refine Or.inl ⟨by rfl, ?_⟩; intro wx hSw; (try dsimp only at hSw); go_simp; try rfl
  try simp only [Act.put, List.setIfInBounds_toArray, List.set_cons_zero, List.set_cons_succ]
  refine wpAnyH_tk 5 14 (v := ?va5) ?hya5 ?_
  case hya5 => intro oi ho; simp only [List.getElem?_toArray, List.getElem?_cons_succ, List.getElem?_cons_zero, Option.some.injEq] at ho; subst ho; refine Or.inl ⟨by rfl, ?_⟩; intro wx hSw; (try dsimp only at hSw); go_simp; try rfl
  try simp only [Act.put, List.setIfInBounds_toArray, List.set_cons_zero, List.set_cons_succ]
  refine wpAnyH_cm 6 ?_; intro o ho K hK; simp only [List.getElem?_toArray, List.getElem?_cons_succ, List.getElem?_cons_zero, Option.some.injEq] at ho; subst ho
  go_simp
  refine (HF.out w0.drew HBD.out).mono ?_
  rintro e w1 ⟨rfl, hb1⟩
  have HB1 := hide ((Below.refl w0.heap.size w0).drew.trans hb1)
  have HX1 : Hid ((fun wx => wx.cell? ⟨gl, 0, none⟩ = some (.slice sa L sc) ∧ wx.cell? ⟨G, 0, none⟩ = some (.slice ka kn kc) ∧ wx.cell? ⟨G, 1, none⟩ = some (.slice va vn vc)) w1) := ⟨(hb1.cell (p := ⟨gl, 0, none⟩) (Array.getElem?_eq_some_iff.1 HGL.out).1).trans (cell_blk (w := w0) HGL.out), (hb1.cell (p := ⟨G, 0, none⟩) HGS.out).trans (cell_blk (w := w0) HNX.out), (hb1.cell (p := ⟨G, 1, none⟩) HGS.out).trans (cell_blk (w := w0) HNX.out)⟩
  clear hb1 hHeld
  refine hK.out _ _ HX1.out (fun hHeld => ?_)
  clear hK K
  try simp only [Act.put, List.setIfInBounds_toArray, List.set_cons_zero, List.set_cons_succ]
  refine wpAnyH_tk 7 8 (v := ?va7) ?hya7 ?_
  case hya7 => intro oi ho; simp only [List.getElem?_toArray, List.getElem?_cons_succ, List.getElem?_cons_zero, Option.some.injEq] at ho; subst ho; refine Or.inl ⟨by rfl, ?_⟩; intro wx hSw; (try dsimp only at hSw); go_simp; try rfl
  try simp only [Act.put, List.setIfInBounds_toArray, List.set_cons_zero, List.set_cons_succ]
  refine wpAnyH_tk 8 16 (v := ?va8) ?hya8 ?_
  case hya8 => intro oi ho; simp only [List.getElem?_toArray, List.getElem?_cons_succ, List.getElem?_cons_zero, Option.some.injEq] at ho; subst ho; refine Or.inl ⟨by rfl, ?_⟩; intro wx hSw; (try dsimp only at hSw); go_simp; try rfl
  try simp only [Act.put, List.setIfInBounds_toArray, List.set_cons_zero, List.set_cons_succ]
  refine wpAnyH_tk 9 17 (v := ?va9) ?hya9 ?_
  case hya9 => intro oi ho; simp only [List.getElem?_toArray, List.getElem?_cons_succ, List.getElem?_cons_zero, Option.some.injEq] at ho; subst ho; refine Or.inl ⟨by rfl, ?_⟩; intro wx hSw; (try dsimp only at hSw); go_simp; try rfl
  try simp only [Act.put, List.setIfInBounds_toArray, List.set_cons_zero, List.set_cons_succ]
  refine wpAnyH_tk 10 6 (v := ?va10) ?hya10 ?_
  case hya10 => intro oi ho; simp only [List.getElem?_toArray, List.getElem?_cons_succ, List.getElem?_cons_zero, Option.some.injEq] at ho; subst ho; refine Or.inl ⟨by rfl, ?_⟩; intro wx hSw; (try dsimp only at hSw); go_simp; try rfl
  try simp only [Act.put, List.setIfInBounds_toArray, List.set_cons_zero, List.set_cons_succ]
  refine wpAnyH_tk 11 7 (v := ?va11) ?hya11 ?_
  case hya11 => intro oi ho; simp only [List.getElem?_toArray, List.getElem?_cons_succ, List.getElem?_cons_zero, Option.some.injEq] at ho; subst ho; refine Or.inl ⟨by rfl, ?_⟩; intro wx hSw; (try dsimp only at hSw); go_simp; try rfl
  try simp only [Act.put, List.setIfInBounds_toArray, List.set_cons_zero, List.set_cons_succ]
  refine wpAnyH_done (by kernel_rfl) ?_ _
  refine NoPanic.normal ?_
  clear hHeld
  go_upto_region 4 with fail
  have HGL1 : Hid (w1.heap[gl]? = some (.cells #[.slice sa L sc] 117 (0, 0))) := (HB1.out.block gl (Array.getElem?_eq_some_iff.1 HGL.out).1).trans HGL.out
  have y0 : w1.cell? ⟨gl, 0, none⟩ = some (.slice sa L sc) := HX1.out.1
  have y1 : w1.cell? ⟨G, 0, none⟩ = some (.slice ka kn kc) := HX1.out.2.1
  have y2 : w1.cell? ⟨G, 1, none⟩ = some (.slice va vn vc) := HX1.out.2.2
  have y3 : gl < w1.heap.size := (Array.getElem?_eq_some_iff.1 HGL1.out).1
  have y4 : G < w1.heap.size := Nat.lt_of_lt_of_le HGS.out HB1.out.size
  have f1 : w1.frozen? ⟨gl, 0, none⟩ = false := frz_blk HGL1.out
  have HBA := hide ((below_box w1 (.cells #[.slice ka kn kc, .slice va vn vc] 70)).drew)
  have HNA : Hid ((w1.alloc (.cells #[.slice ka kn kc, .slice va vn vc] 70)).drew.heap[w1.heap.size]? = some (.cells #[.slice ka kn kc, .slice va vn vc] 70 (0, 0))) := heap_alloc_new w1 _
  have HBwA := hide (HB1.out.trans (HBA.out.mono HB1.out.size))
  go_region_with ((go_at_call 117; refine (HI.out _ _ HBwA.out HNA.out).mono ?_; rintro e w2 ⟨gn, c2, rfl, hgn, hc2, hcm2, hrow2, hb2⟩; have HGL2 : Hid (w2.heap[gl]? = some (.cells #[.slice sa L sc] 117 (0, 0))) := (hb2.block gl (Nat.lt_of_lt_of_le y3 HBA.out.size)).trans ((HBA.out.block gl y3).trans HGL1.out); have z0 : w2.cell? ⟨gl, 0, none⟩ = some (.slice sa L sc) := cell_blk HGL2.out; have f2 : w2.frozen? ⟨gl, 0, none⟩ = false := frz_blk HGL2.out; have HB2 := hide (HBwA.out.trans (hb2.mono HBwA.out.size)); have HROW := hide hrow2; have HGN := hide (Nat.le_trans HBA.out.size hgn); have HC2 := hide hc2; have HCM2 := hide hcm2; clear hgn hc2 hcm2 hrow2 hb2))
  all_goals
    have HEV2 := hide ((HEV.out.later HB2.out).set (o := 0) (u := .slice (some ⟨gn, 0, none⟩) (L + 1) c2) HGL2.out (by decide) (by decide))
    have HGL3 : Hid ((w2.setCell ⟨gl, 0, none⟩ (.slice (some ⟨gn, 0, none⟩) (L + 1) c2)).heap[gl]? = some (.cells #[.slice (some ⟨gn, 0, none⟩) (L + 1) c2] 117 (0, 0))) := by
      show _ = _
      rw [heap_setCell_same _ _ _ _ _ _ HGL2.out]
      rfl
    have HOT : Hid (∀ k, k ≠ gl → (w2.setCell ⟨gl, 0, none⟩ (.slice (some ⟨gn, 0, none⟩) (L + 1) c2)).heap[k]? = w2.heap[k]?) := fun k hk => heap_setCell_other _ _ _ _ hk
    have HSZ : Hid ((w2.setCell ⟨gl, 0, none⟩ (.slice (some ⟨gn, 0, none⟩) (L + 1) c2)).heap.size = w2.heap.size) := by show _ = _; simp [World.setCell]
    have HBS : Hid (Below B w2 (w2.setCell ⟨gl, 0, none⟩ (.slice (some ⟨gn, 0, none⟩) (L + 1) c2))) := (Below.refl B w2).setCell (p := ⟨gl, 0, none⟩) HLB.out _
    clear z0 f2 y0 y1 y2 f1
    generalize w2.setCell ⟨gl, 0, none⟩ (.slice (some ⟨gn, 0, none⟩) (L + 1) c2) = w3 at *
    obtain ⟨gv, ex1, ex2⟩ := HEV2.out.hx
    have HEX := hide ex1
    have HEO := hide ex2
    have k3 : w3.cell? ⟨px, 3, none⟩ = some (.int .i64 n) := cell_blk ex1
    have fk : w3.frozen? ⟨px, 3, none⟩ = false := frz_blk ex1
    clear ex1 ex2
    go_wp2
    go_end0
    have hne : px ≠ gl := by
      intro q9
      have h1 := HEX.out
      rw [q9, HGL3.out] at h1
      simp only [Option.some.injEq, Obj.cells.injEq] at h1
      exact absurd h1.2.1 (by decide)
    have hgp : gn ≠ px := by
      intro q9
      have h1 := HEX.out
      obtain ⟨row, hr⟩ := HROW.out
      have h2 := Nat.lt_of_lt_of_le (Array.getElem?_eq_some_iff.1 HEV.out.hx.choose_spec.1).1 HB1.out.size
      have h3 := HGN.out
      omega
    have hgg : gn ≠ gl := by have h3 := HGN.out; omega
    refine ⟨rfl, ⟨gn, c2, ?_, ?_, HC2.out, HCM2.out, ?_⟩, ⟨HEV2.out.hB, ⟨gv, ?_, ?_⟩, HEV2.out.hn⟩, ?_, ?_⟩
    · rw [heap_setCell_other _ _ _ _ (by exact fun h => hne h.symm)]; exact HGL3.out
    · have h1 := HGN.out; have h2 := HB1.out.size; have h3 := HGS.out; omega
    · obtain ⟨row, hr⟩ := HROW.out
      refine ⟨row, ?_⟩
      rw [heap_setCell_other _ _ _ _ (by exact hgp), HOT.out gn hgg]
      exact hr
    · rw [heap_setCell_same _ _ _ _ _ _ HEX.out]
      rfl
    · refine own_stay HEO.out fun k cs hk e => ?_
      rw [heap_setCell_other _ _ _ _ ?_, e]
      intro q9
      have q9 : k = px := q9
      subst q9
      rw [HEX.out] at e
      simp only [Option.some.injEq, Obj.cells.injEq] at e
      exact absurd e.2.1 (by decide)
    · exact (((HBX.out.mono HB.out).trans (HB2.out.mono (by have := HGS.out; have := HB.out; omega))).trans HBS.out).trans ((Below.refl B w3).setCell (p := ⟨px, 3, none⟩) HEV2.out.hB _)
    · intro k hk hn
      simp only [List.mem_cons, List.not_mem_nil, or_false, not_or] at hn
      rw [heap_setCell_other _ _ _ _ (by exact hn.2), HOT.out k hn.1, HB2.out.block k (by have := HBX.out.size; omega), HBX.out.block k (by omega)]
set_option maxRecDepth 100000 in
set_option maxHeartbeats 4000000 in
theorem putInLeaf_old {B px q gl gi L : Nat} {w : World} {rv : Value} {d n : Int} {gone : List Nat} {ka va : Option Addr} {kn kc vn vc Fi : Nat} {kf vf : Nat → Value} (hE : EV B w px q rv d n gone) (hgl : w.heap[gl]? = some (.cells #[.slice (some ⟨gi, 0, none⟩) L L] 117 (0, 0))) (hgi : w.heap[gi]? = some (.cells (two kf vf L).toArray 70 (0, 0))) (hB : B ≤ w.heap.size) (hgB : B ≤ gi) (hL : L ≤ 5) (hFL : Fi < L)
    (hF : ∀ ww, Below w.heap.size w ww → Calls Tryz.prog 93 #[.slice (some ⟨gi, 0, none⟩) L L, .slice ka kn kc] ww fun e w' => e = .returned (.tuple #[.int .i64 (Fi : Int), .bool true]) ∧ Below ww.heap.size ww w') :
    Calls Tryz.prog 92 #[.pointer (some ⟨px, 0, none⟩), .pointer (some ⟨gl, 0, none⟩), .agg #[.slice ka kn kc, .slice va vn vc]] w fun e w' => e = .returned (.tuple #[]) ∧ w'.heap[gi]? = some (.cells (two (upd kf Fi (.slice ka kn kc)) (upd vf Fi (.slice va vn vc)) L).toArray 70 (0, 0)) ∧ EV B w' px q rv d n gone ∧ Ex B [gi] w w' := by
  have HBX := hide (below_box w (.cells #[.slice ka kn kc, .slice va vn vc] 70))
  have HNX : Hid ((w.alloc (.cells #[.slice ka kn kc, .slice va vn vc] 70)).heap[w.heap.size]? = some (.cells #[.slice ka kn kc, .slice va vn vc] 70 (0, 0))) := heap_alloc_new w _
  have HGL : Hid ((w.alloc (.cells #[.slice ka kn kc, .slice va vn vc] 70)).heap[gl]? = some (.cells #[.slice (some ⟨gi, 0, none⟩) L L] 117 (0, 0))) := (HBX.out.block gl (Array.getElem?_eq_some_iff.1 hgl).1).trans hgl
  have HGI : Hid ((w.alloc (.cells #[.slice ka kn kc, .slice va vn vc] 70)).heap[gi]? = some (.cells (two kf vf L).toArray 70 (0, 0))) := (HBX.out.block gi (Array.getElem?_eq_some_iff.1 hgi).1).trans hgi
  have HBD : Hid (Below w.heap.size w (w.alloc (.cells #[.slice ka kn kc, .slice va vn vc] 70)).drew) := HBX.out.drew
  have HEV := hide (hE.later HBX.out)
  have HF := hide hF
  have HB := hide hB
  have HGB := hide hgB
  clear hF hE hgl hB hgi hgB
  go_enter Tryz.func92, Tryz.ntmps92
  go_upto_region 1 with fail
  generalize w.alloc (.cells #[.slice ka kn kc, .slice va vn vc] 70) = w0 at *
  generalize hG : w.heap.size = G at *
  have HGS : Hid (G < w0.heap.size) := (Array.getElem?_eq_some_iff.1 HNX.out).1
  have HX0 : Hid ((fun wx => wx.cell? ⟨gl, 0, none⟩ = some (.slice (some ⟨gi, 0, none⟩) L L) ∧ wx.cell? ⟨G, 0, none⟩ = some (.slice ka kn kc) ∧ wx.cell? ⟨G, 1, none⟩ = some (.slice va vn vc)) w0.drew) := ⟨cell_blk HGL.out, cell_blk HNX.out, cell_blk HNX.out⟩
  refine wp_region_noPanic ?_
  refine wp_region_held_drew (S := fun wx => wx.cell? ⟨gl, 0, none⟩ = some (.slice (some ⟨gi, 0, none⟩) L L) ∧ wx.cell? ⟨G, 0, none⟩ = some (.slice ka kn kc) ∧ wx.cell? ⟨G, 1, none⟩ = some (.slice va vn vc)) (by kernel_rfl) HX0.out (fun hHeld => ?_)
  refine wpAnyH_tk 0 9 (v := ?va0) ?hya0 ?_
  case hya0 => intro oi ho; simp only [List.getElem?_toArray, List.getElem?_cons_zero, Option.some.injEq] at ho; subst ho; refine Or.inl ⟨by rfl, ?_⟩; intro wx hSw; (try dsimp only at hSw); go_simp; try rfl
  try simp only [Act.put, List.setIfInBounds_toArray, List.set_cons_zero, List.set_cons_succ]
  refine wpAnyH_tk 1 10 (v := ?va1) ?hya1 ?_
  case hya1 => intro oi ho; simp only [List.getElem?_toArray, List.getElem?_cons_succ, List.getElem?_cons_zero, Option.some.injEq] at ho; subst ho; refine Or.inl ⟨by rfl, ?_⟩; intro wx hSw; (try dsimp only at hSw); go_simp; try rfl
  try simp only [Act.put, List.setIfInBounds_toArray, List.set_cons_zero, List.set_cons_succ]
  refine wpAnyH_tk 2 11 (v := ?va2) ?hya2 ?_
  case hya2 => intro oi ho; simp only [List.getElem?_toArray, List.getElem?_cons_succ, List.getElem?_cons_zero, Option.some.injEq] at ho; subst ho; refine Or.inl ⟨by rfl, ?_⟩; intro wx hSw; (try dsimp only at hSw); go_simp; try rfl
  try simp only [Act.put, List.setIfInBounds_toArray, List.set_cons_zero, List.set_cons_succ]
  refine wpAnyH_tk 3 12 (v := ?va3) ?hya3 ?_
  case hya3 => intro oi ho; simp only [List.getElem?_toArray, List.getElem?_cons_succ, List.getElem?_cons_zero, Option.some.injEq] at ho; subst ho; refine Or.inl ⟨by rfl, ?_⟩; intro wx hSw; (try dsimp only at hSw); go_simp; try rfl
  try simp only [Act.put, List.setIfInBounds_toArray, List.set_cons_zero, List.set_cons_succ]
  refine wpAnyH_tk 4 13 (v := ?va4) ?hya4 ?_
  case hya4 => intro oi ho; simp only [List.getElem?_toArray, List.getElem?_cons_succ, List.getElem?_cons_zero, Option.some.injEq] at ho; subst ho; refine Or.inl ⟨by rfl, ?_⟩; intro wx hSw; (try dsimp only at hSw); go_simp; try rfl
  try simp only [Act.put, List.setIfInBounds_toArray, List.set_cons_zero, List.set_cons_succ]
  refine wpAnyH_tk 5 14 (v := ?va5) ?hya5 ?_
  case hya5 => intro oi ho; simp only [List.getElem?_toArray, List.getElem?_cons_succ, List.getElem?_cons_zero, Option.some.injEq] at ho; subst ho; refine Or.inl ⟨by rfl, ?_⟩; intro wx hSw; (try dsimp only at hSw); go_simp; try rfl
  try simp only [Act.put, List.setIfInBounds_toArray, List.set_cons_zero, List.set_cons_succ]
  refine wpAnyH_cm 6 ?_; intro o ho K hK; simp only [List.getElem?_toArray, List.getElem?_cons_succ, List.getElem?_cons_zero, Option.some.injEq] at ho; subst ho
  go_simp
  refine (HF.out w0.drew HBD.out).mono ?_
  rintro e w1 ⟨rfl, hb1⟩
  have HB1 := hide ((Below.refl w0.heap.size w0).drew.trans hb1)
  have HX1 : Hid ((fun wx => wx.cell? ⟨gl, 0, none⟩ = some (.slice (some ⟨gi, 0, none⟩) L L) ∧ wx.cell? ⟨G, 0, none⟩ = some (.slice ka kn kc) ∧ wx.cell? ⟨G, 1, none⟩ = some (.slice va vn vc)) w1) := ⟨(hb1.cell (p := ⟨gl, 0, none⟩) (Array.getElem?_eq_some_iff.1 HGL.out).1).trans (cell_blk (w := w0) HGL.out), (hb1.cell (p := ⟨G, 0, none⟩) HGS.out).trans (cell_blk (w := w0) HNX.out), (hb1.cell (p := ⟨G, 1, none⟩) HGS.out).trans (cell_blk (w := w0) HNX.out)⟩
  clear hb1 hHeld
  refine hK.out _ _ HX1.out (fun hHeld => ?_)
  clear hK K
  try simp only [Act.put, List.setIfInBounds_toArray, List.set_cons_zero, List.set_cons_succ]
  refine wpAnyH_tk 7 8 (v := ?va7) ?hya7 ?_
  case hya7 => intro oi ho; simp only [List.getElem?_toArray, List.getElem?_cons_succ, List.getElem?_cons_zero, Option.some.injEq] at ho; subst ho; refine Or.inl ⟨by rfl, ?_⟩; intro wx hSw; (try dsimp only at hSw); go_simp; try rfl
  try simp only [Act.put, List.setIfInBounds_toArray, List.set_cons_zero, List.set_cons_succ]
  refine wpAnyH_tk 8 16 (v := ?va8) ?hya8 ?_
  case hya8 => intro oi ho; simp only [List.getElem?_toArray, List.getElem?_cons_succ, List.getElem?_cons_zero, Option.some.injEq] at ho; subst ho; refine Or.inl ⟨by rfl, ?_⟩; intro wx hSw; (try dsimp only at hSw); go_simp; try rfl
  try simp only [Act.put, List.setIfInBounds_toArray, List.set_cons_zero, List.set_cons_succ]
  refine wpAnyH_tk 9 17 (v := ?va9) ?hya9 ?_
  case hya9 => intro oi ho; simp only [List.getElem?_toArray, List.getElem?_cons_succ, List.getElem?_cons_zero, Option.some.injEq] at ho; subst ho; refine Or.inl ⟨by rfl, ?_⟩; intro wx hSw; (try dsimp only at hSw); go_simp; try rfl
  try simp only [Act.put, List.setIfInBounds_toArray, List.set_cons_zero, List.set_cons_succ]
  refine wpAnyH_tk 10 6 (v := ?va10) ?hya10 ?_
  case hya10 => intro oi ho; simp only [List.getElem?_toArray, List.getElem?_cons_succ, List.getElem?_cons_zero, Option.some.injEq] at ho; subst ho; refine Or.inl ⟨by rfl, ?_⟩; intro wx hSw; (try dsimp only at hSw); go_simp; try rfl
  try simp only [Act.put, List.setIfInBounds_toArray, List.set_cons_zero, List.set_cons_succ]
  refine wpAnyH_tk 11 7 (v := ?va11) ?hya11 ?_
  case hya11 => intro oi ho; simp only [List.getElem?_toArray, List.getElem?_cons_succ, List.getElem?_cons_zero, Option.some.injEq] at ho; subst ho; refine Or.inl ⟨by rfl, ?_⟩; intro wx hSw; (try dsimp only at hSw); go_simp; try rfl
  try simp only [Act.put, List.setIfInBounds_toArray, List.set_cons_zero, List.set_cons_succ]
  refine wpAnyH_done (by kernel_rfl) ?_ _
  refine NoPanic.normal ?_
  clear hHeld
  go_upto_region 3 with fail
  have HGL1 : Hid (w1.heap[gl]? = some (.cells #[.slice (some ⟨gi, 0, none⟩) L L] 117 (0, 0))) := (HB1.out.block gl (Array.getElem?_eq_some_iff.1 HGL.out).1).trans HGL.out
  have HGI1 : Hid (w1.heap[gi]? = some (.cells (two kf vf L).toArray 70 (0, 0))) := (HB1.out.block gi (Array.getElem?_eq_some_iff.1 HGI.out).1).trans HGI.out
  have y0 : w1.cell? ⟨gl, 0, none⟩ = some (.slice (some ⟨gi, 0, none⟩) L L) := HX1.out.1
  have y1 : w1.cell? ⟨G, 0, none⟩ = some (.slice ka kn kc) := HX1.out.2.1
  have y2 : w1.cell? ⟨G, 1, none⟩ = some (.slice va vn vc) := HX1.out.2.2
  have y5 : w1.cell? ⟨gi, Fi * 2, none⟩ = some (kf Fi) := by rw [cell_blk HGI1.out, List.getElem?_toArray]; exact two_get0 kf vf Fi L hFL
  have y6 : w1.cell? ⟨gi, Fi * 2 + 1, none⟩ = some (vf Fi) := by rw [cell_blk HGI1.out, List.getElem?_toArray]; exact two_get1 kf vf Fi L hFL
  have f5 : w1.frozen? ⟨gi, Fi * 2, none⟩ = false := frz_blk HGI1.out
  have f6 : w1.frozen? ⟨gi, Fi * 2 + 1, none⟩ = false := frz_blk HGI1.out
  have xF : (Fi : Int) < (L : Int) := by omega
  go_region
  go_wp2
  (try simp only [Exit.inBlock, Exit.then])
  refine bodyPost_ret (results_none rfl _ _ _) rfl ?_
  have h5 : (w1.setCell ⟨gi, Fi * 2, none⟩ (.slice ka kn kc)).heap[gi]? = some (.cells (two (upd kf Fi (.slice ka kn kc)) vf L).toArray 70 (0, 0)) := by
    rw [heap_setCell_same _ _ _ _ _ _ HGI1.out, List.setIfInBounds_toArray, two_set0 _ _ _ _ _ hFL]
  have hevs := (((HEV.out.later HB1.out).set (o := Fi * 2) (u := .slice ka kn kc) HGI1.out (by decide) (by decide)).set (o := Fi * 2 + 1) (u := .slice va vn vc) h5 (by decide) (by decide))
  refine ⟨rfl, ?_, hevs.later (Below.refl _ _).drew, ?_, ?_⟩
  · show ((w1.setCell ⟨gi, Fi * 2, none⟩ (.slice ka kn kc)).setCell ⟨gi, Fi * 2 + 1, none⟩ (.slice va vn vc)).heap[gi]? = _
    rw [heap_setCell_same _ _ _ _ _ _ h5, List.setIfInBounds_toArray, two_set1 _ _ _ _ _ hFL]
  · exact (((HBX.out.mono HB.out).trans (HB1.out.mono (by have := HGS.out; have := HB.out; omega))).trans ((((Below.refl B w1).setCell (p := ⟨gi, Fi * 2, none⟩) HGB.out _)).setCell (p := ⟨gi, Fi * 2 + 1, none⟩) HGB.out _)).drew
  · intro k hk hn
    simp only [List.mem_cons, List.not_mem_nil, or_false] at hn
    show ((w1.setCell ⟨gi, Fi * 2, none⟩ (.slice ka kn kc)).setCell ⟨gi, Fi * 2 + 1, none⟩ (.slice va vn vc)).heap[k]? = _
    rw [heap_setCell_other _ _ _ _ (by exact hn), heap_setCell_other _ _ _ _ (by exact hn), HB1.out.block k (by have := HBX.out.size; omega), HBX.out.block k (by omega)]
end Go.Proofs.YtnfponcadkmfjabGreat
set_option linter.unusedVariables false
namespace Go.Proofs.YtnfponcadkmfjabGreat
open Go.RowKit
def ItC (B : Nat) (w : World) (ys : List Value) (l : List It) : Prop := ys.length = l.length * 2 ∧ ∀ i it, l[i]? = some it → ∃ a c b d, ys[i * 2]? = some (.slice a it.1.length c) ∧ ys[i * 2 + 1]? = some (.slice b it.2.length d) ∧ BK B w a it.1.length c it.1 ∧ BK B w b it.2.length d it.2
theorem ItC.ft {B : Nat} {w w' : World} {ys : List Value} {l : List It} (h : ItC B w ys l) (f : FT B w w') : ItC B w' ys l := by
  refine ⟨h.1, fun i it hi => ?_⟩
  obtain ⟨a, c, b, d, h1, h2, h3, h4⟩ := h.2 i it hi
  exact ⟨a, c, b, d, h1, h2, h3.ft f, h4.ft f⟩
theorem ItC.one {B : Nat} {w : World} {ys : List Value} {l : List It} (h : ItC B w ys l) : ∀ u ∈ ys, u.oneCell' = true := by
  intro u hu
  obtain ⟨j, hj⟩ := List.mem_iff_getElem?.1 hu
  have hlt := (List.getElem?_eq_some_iff.1 hj).1
  have h1 := h.1
  obtain ⟨it, hit⟩ : ∃ it, l[j / 2]? = some it := ⟨_, List.getElem?_eq_getElem (by omega)⟩
  obtain ⟨a, c, b, d, q1, q2, _, _⟩ := h.2 _ it hit
  by_cases e : j % 2 = 0
  · rw [show j / 2 * 2 = j by omega, hj] at q1
    simp only [Option.some.injEq] at q1
    subst q1
    rfl
  · rw [show j / 2 * 2 + 1 = j by omega, hj] at q2
    simp only [Option.some.injEq] at q2
    subst q2
    rfl
theorem IR.itc {B gi : Nat} {w : World} {l : List It} (h : IR B w gi l) : ∃ ys, w.heap[gi]? = some (.cells ys.toArray 70 (0, 0)) ∧ ItC B w ys l := by
  obtain ⟨kf, vf, h1, h2⟩ := h
  refine ⟨_, h1, two_len _ _ _, fun i it hi => ?_⟩
  obtain ⟨⟨a, c, e1, b1⟩, ⟨b, d, e2, b2⟩⟩ := h2 i it hi
  have hlt := (List.getElem?_eq_some_iff.1 hi).1
  exact ⟨a, c, b, d, by rw [two_get0 _ _ _ _ hlt, e1], by rw [two_get1 _ _ _ _ hlt, e2], b1, b2⟩
theorem ItC.nil (B : Nat) (w : World) : ItC B w [] [] := ⟨rfl, fun i it hi => by simp at hi⟩
theorem ItC.insert {B i : Nat} {w : World} {ys : List Value} {l : List It} {it : It} {a b : Option Addr} {c d : Nat} (h : ItC B w ys l) (hi : i ≤ l.length) (h1 : BK B w a it.1.length c it.1) (h2 : BK B w b it.2.length d it.2) : ItC B w (ys.take (i * 2) ++ (.slice a it.1.length c :: .slice b it.2.length d :: ys.drop (i * 2))) (l.take i ++ it :: l.drop i) := by
  have hl := h.1
  have hT : (ys.take (i * 2)).length = i * 2 := by rw [List.length_take]; omega
  have hT2 : (l.take i).length = i := by rw [List.length_take]; omega
  refine ⟨by simp; omega, fun j x hj => ?_⟩
  rcases Nat.lt_trichotomy j i with q | q | q
  · rw [List.getElem?_append_left (by omega), List.getElem?_take_of_lt q] at hj
    obtain ⟨a', c', b', d', e1, e2, e3, e4⟩ := h.2 j x hj
    refine ⟨a', c', b', d', ?_, ?_, e3, e4⟩
    · rw [List.getElem?_append_left (by omega), List.getElem?_take_of_lt (by omega)]; exact e1
    · rw [List.getElem?_append_left (by omega), List.getElem?_take_of_lt (by omega)]; exact e2
  · subst q
    rw [List.getElem?_append_right (by omega), hT2, Nat.sub_self, List.getElem?_cons_zero] at hj
    simp only [Option.some.injEq] at hj
    subst hj
    refine ⟨a, c, b, d, ?_, ?_, h1, h2⟩
    · rw [List.getElem?_append_right (by omega), hT, Nat.sub_self]; rfl
    · rw [List.getElem?_append_right (by omega), hT, show j * 2 + 1 - j * 2 = 1 by omega]; rfl
  · rw [List.getElem?_append_right (by omega), hT2, show j - i = (j - i - 1) + 1 by omega, List.getElem?_cons_succ, List.getElem?_drop, show i + (j - i - 1) = j - 1 by omega] at hj
    obtain ⟨a', c', b', d', e1, e2, e3, e4⟩ := h.2 (j - 1) x hj
    refine ⟨a', c', b', d', ?_, ?_, e3, e4⟩
    · rw [List.getElem?_append_right (by omega), hT, show j * 2 - i * 2 = ((j - 1) * 2 - i * 2) + 1 + 1 by omega, List.getElem?_cons_succ, List.getElem?_cons_succ, List.getElem?_drop, show i * 2 + ((j - 1) * 2 - i * 2) = (j - 1) * 2 by omega]; exact e1
    · rw [List.getElem?_append_right (by omega), hT, show j * 2 + 1 - i * 2 = ((j - 1) * 2 + 1 - i * 2) + 1 + 1 by omega, List.getElem?_cons_succ, List.getElem?_cons_succ, List.getElem?_drop, show i * 2 + ((j - 1) * 2 + 1 - i * 2) = (j - 1) * 2 + 1 by omega]; exact e2
theorem IR.set {B gi F L : Nat} {w w' : World} {l : List It} {it : It} {kf vf : Nat → Value} {kv vv : Value} (hL : l.length = L) (h2 : ∀ i it, l[i]? = some it → KV B w (kf i) it.1 ∧ KV B w (vf i) it.2) (f : FT B w w') (hg : w'.heap[gi]? = some (.cells (two (upd kf F kv) (upd vf F vv) L).toArray 70 (0, 0))) (hk : KV B w' kv it.1) (hv : KV B w' vv it.2) (hF : F < L) : IR B w' gi (l.set F it) := by
  refine ⟨upd kf F kv, upd vf F vv, by rw [List.length_set, hL]; exact hg, fun i x hi => ?_⟩
  by_cases q : i = F
  · subst q
    rw [List.getElem?_set_self (by omega)] at hi
    simp only [Option.some.injEq] at hi
    subst hi
    rw [upd_at, upd_at]
    exact ⟨hk, hv⟩
  · rw [List.getElem?_set_ne (by omega)] at hi
    rw [upd_ne _ _ q, upd_ne _ _ q]
    exact ⟨(h2 i x hi).1.ft f, (h2 i x hi).2.ft f⟩
theorem IV.row {B B1 gn c : Nat} {w : World} {ys : List Value} {l : List It} (hr : RowN w gn 70 ys) (hi : ItC B w ys l) (hB : B1 ≤ gn) (hc : l.length ≤ c) (hc2 : c ≤ 9223372036854775807) : IV B B1 w (.slice (some ⟨gn, 0, none⟩) l.length c) l := by
  obtain ⟨row, hr⟩ := hr
  refine ⟨_, _, rfl, hc, hc2, by simp, fun x hx => ?_⟩
  simp only [Option.some.injEq] at hx
  subst hx
  refine ⟨gn, 0, rfl, hB, ⟨_, hr⟩, fun i it hit => ?_⟩
  obtain ⟨a, c', b, d, h1, h2, h3, h4⟩ := hi.2 i it hit
  have hlt := (List.getElem?_eq_some_iff.1 hit).1
  have hl := hi.1
  refine ⟨a, c', b, d, ?_, ?_, h3, h4⟩
  · rw [cell_blk hr, Nat.zero_add, List.getElem?_toArray, List.getElem?_append_left (by omega)]; exact h1
  · rw [cell_blk hr, Nat.zero_add, List.getElem?_toArray, List.getElem?_append_left (by omega)]; exact h2
theorem IV.take {B B1 m : Nat} {w : World} {a : Option Addr} {n c : Nat} {l : List It} (h : IV B B1 w (.slice a n c) l) (hm : m ≤ n) : IV B B1 w (.slice a m c) (l.take m) := by
  obtain ⟨a', c', h1, h2, h3, h4, h5⟩ := h
  simp only [Value.slice.injEq] at h1
  obtain ⟨rfl, rfl, rfl⟩ := h1
  have hl : (l.take m).length = m := by rw [List.length_take]; omega
  refine ⟨a, c, by rw [hl], by omega, h3, h4, fun x hx => ?_⟩
  obtain ⟨g, o, e, hB, hcs, hI⟩ := h5 x hx
  exact ⟨g, o, e, hB, hcs, fun i it hi => hI i it (by rw [List.getElem?_take] at hi; split at hi; exact hi; cases hi)⟩
theorem IV.drop {B B1 m g o : Nat} {w : World} {n c : Nat} {l : List It} (h : IV B B1 w (.slice (some ⟨g, o, none⟩) n c) l) (hm : m ≤ n) : IV B B1 w (.slice (some ⟨g, o + m * 2, none⟩) (n - m) (c - m)) (l.drop m) := by
  obtain ⟨a', c', h1, h2, h3, h4, h5⟩ := h
  simp only [Value.slice.injEq] at h1
  obtain ⟨rfl, rfl, rfl⟩ := h1
  obtain ⟨g', o', e, hB, hcs, hI⟩ := h5 _ rfl
  simp only [Addr.mk.injEq, and_true] at e
  obtain ⟨rfl, rfl⟩ := e
  have hl : (l.drop m).length = l.length - m := by rw [List.length_drop]
  refine ⟨_, _, by rw [hl], by omega, by omega, by simp, fun x hx => ?_⟩
  simp only [Option.some.injEq] at hx
  subst hx
  refine ⟨g, o + m * 2, rfl, hB, hcs, fun i it hi => ?_⟩
  rw [List.getElem?_drop] at hi
  obtain ⟨a, c', b, d, q1, q2, q3, q4⟩ := hI (m + i) it hi
  refine ⟨a, c', b, d, ?_, ?_, q3, q4⟩
  · rw [show o + m * 2 + i * 2 = o + (m + i) * 2 by omega]; exact q1
  · rw [show o + m * 2 + i * 2 + 1 = o + (m + i) * 2 + 1 by omega]; exact q2
end Go.Proofs.YtnfponcadkmfjabGreat
set_option linter.unusedVariables false
namespace Go.Proofs.YtnfponcadkmfjabGreat
open Go.RowKit
theorem replace_any {w : World} {g n gv i : Nat} {cs : List Value} {l r : Value} (hg : w.heap[g]? = some (.cells cs.toArray 107 (0, 0))) (hl : cs.length = n) (hL : n ≤ 10) (hi : i < n) (hv : w.heap[gv]? = some (.cells #[l, r] 107 (0, 0))) (h1 : ∀ u ∈ cs, u.oneCell' = true) (hk1 : l.oneCell' = true) (hv1 : r.oneCell' = true) :
    Calls Tryz.prog 121 #[.slice (some ⟨g, 0, none⟩) n n, .int .i64 (i : Int), .int .i64 ((i : Int) + 1), .slice (some ⟨gv, 0, none⟩) 2 2] w fun e w' => ∃ gn c, e = .returned (.slice (some ⟨gn, 0, none⟩) (n + 1) c) ∧ w.heap.size ≤ gn ∧ n + 1 ≤ c ∧ c ≤ 9223372036854775807 ∧ RowN w' gn 107 (cs.take i ++ (l :: r :: cs.drop (i + 1))) ∧ Below w.heap.size w w' := by
  by_cases e : i + 1 = n
  · have h := replace_end hg hl hL e hv hk1 hv1
    have e1 : ((n : Nat) : Int) = (i : Int) + 1 := by omega
    rw [e1] at h
    have e2 : cs.drop (i + 1) = [] := List.drop_of_length_le (by omega)
    rw [e2]
    exact h
  · exact replace_mid hg hl hL (by omega) hv h1 hk1 hv1
theorem two_new (w : World) (A C : Array Value) (t t' : TypeId) : ((w.alloc (.cells A t)).alloc (.cells C t')).drew.heap[w.heap.size]? = some (.cells A t (0, 0)) ∧ ((w.alloc (.cells A t)).alloc (.cells C t')).drew.heap[w.heap.size + 1]? = some (.cells C t' (0, 0)) ∧ Below w.heap.size w ((w.alloc (.cells A t)).alloc (.cells C t')).drew := by
  have h1 := heap_alloc_new w (.cells A t)
  have hs : (w.alloc (.cells A t)).heap.size = w.heap.size + 1 := by simp
  have h2 := heap_alloc_new (w.alloc (.cells A t)) (.cells C t')
  rw [hs] at h2
  refine ⟨?_, h2, ((below_box w _).trans ((below_box (w.alloc (.cells A t)) (.cells C t')).mono (by rw [hs]; omega))).drew⟩
  show ((w.alloc (.cells A t)).alloc (.cells C t')).heap[w.heap.size]? = _
  rw [(below_box (w.alloc (.cells A t)) (.cells C t')).block _ (by rw [hs]; omega)]
  exact h1
set_option maxRecDepth 100000 in
set_option maxHeartbeats 8000000 in
theorem split_leaf {B gb gc n i g5 gq oq cq m sc : Nat} {w : World} {sa ka va : Option Addr} {kn kc vn vc : Nat} {cv ys : List Value} (hgb : w.heap[gb]? = some (.cells #[.slice sa m sc, .slice (some ⟨gc, 0, none⟩) n n] 152 (0, 0))) (hB : B ≤ gb) (hBw : B ≤ w.heap.size)
    (hgc : w.heap[gc]? = some (.cells cv.toArray 107 (0, 0))) (hn : cv.length = n) (hn10 : n ≤ 10) (hi : i < n) (hcv : cv[i]? = some (lfP g5)) (h1 : ∀ u ∈ cv, u.oneCell' = true)
    (hg5 : w.heap[g5]? = some (.cells #[.slice (some ⟨gq, oq, none⟩) 5 cq] 117 (0, 0))) (hcq : 5 ≤ cq)
    (hk : w.cell? ⟨gq, oq + 4, none⟩ = some (.slice ka kn kc)) (hv : w.cell? ⟨gq, oq + 5, none⟩ = some (.slice va vn vc))
    (hI : ∀ ww gv, Below w.heap.size w ww → ww.heap[gv]? = some (.cells #[.slice ka kn kc, .slice va vn vc] 70 (0, 0)) → Calls Tryz.prog 117 #[.slice sa m sc, .int .i64 (i : Int), .slice (some ⟨gv, 0, none⟩) 1 1] ww fun e w' => ∃ gn c, e = .returned (.slice (some ⟨gn, 0, none⟩) (m + 1) c) ∧ ww.heap.size ≤ gn ∧ m + 1 ≤ c ∧ c ≤ 9223372036854775807 ∧ RowN w' gn 70 ys ∧ Below ww.heap.size ww w') :
    Calls Tryz.prog 96 #[.pointer (some ⟨gb, 0, none⟩), .int .i64 (i : Int)] w fun e w' => e = .returned (.tuple #[]) ∧ (∃ gl gr gn c gm c2, w'.heap[gb]? = some (.cells #[.slice (some ⟨gn, 0, none⟩) (m + 1) c, .slice (some ⟨gm, 0, none⟩) (n + 1) c2] 152 (0, 0)) ∧ RowN w' gn 70 ys ∧ RowN w' gm 107 (cv.take i ++ (lfP gl :: lfP gr :: cv.drop (i + 1))) ∧
      w'.heap[gl]? = some (.cells #[.slice (some ⟨gq, oq, none⟩) 2 cq] 117 (0, 0)) ∧ w'.heap[gr]? = some (.cells #[.slice (some ⟨gq, oq + 6, none⟩) 2 (cq - 3)] 117 (0, 0)) ∧ gl ≠ gr ∧ w.heap.size ≤ gl ∧ w.heap.size ≤ gr ∧ w.heap.size ≤ gn ∧ w.heap.size ≤ gm ∧ m + 1 ≤ c ∧ c ≤ 9223372036854775807 ∧ n + 1 ≤ c2 ∧ c2 ≤ 9223372036854775807) ∧ Ex B [gb] w w' := by
  have HGB := hide hgb
  have HGC := hide hgc
  have HG5 := hide hg5
  have HB := hide hB
  have HBW := hide hBw
  have HI := hide hI
  have HK := hide hk
  have HV := hide hv
  have H1 := hide h1
  have HN := hide hn
  have HIO := hide (itemsOf_leaf hg5)
  unfold lfP at HIO
  have r0 : w.cell? ⟨gb, 1, none⟩ = some (.slice (some ⟨gc, 0, none⟩) n n) := cell_blk hgb
  have r1 : w.cell? ⟨gc, i, none⟩ = some (.iface 114 (.pointer (some ⟨g5, 0, none⟩))) := by rw [cell_blk hgc, List.getElem?_toArray]; exact hcv
  have hcq3 : ¬ cq = 3 := by omega
  have xi : (i : Int) < (n : Int) := by omega
  have HT := hide (asr_branch_no (.pointer (some ⟨g5, 0, none⟩)))
  clear hgb hgc hg5 hB hBw hI h1 hn hk hv hcv
  go_enter Tryz.func96, Tryz.ntmps96
  go_wp2_with fail
  refine HIO.out.mono ?_
  rintro e w1 ⟨rfl, hw⟩
  have hw := hw.symm
  subst hw
  go_upto_region 2 with fail
  go_cut [6, 7] from 21 to 33 (fun a b wx => ∃ g1 g2, a = .iface 114 (.pointer (some ⟨g1, 0, none⟩)) ∧ b = .iface 114 (.pointer (some ⟨g2, 0, none⟩)) ∧ wx.heap[g1]? = some (.cells #[.slice (some ⟨gq, oq, none⟩) 2 cq] 117 (0, 0)) ∧ wx.heap[g2]? = some (.cells #[.slice (some ⟨gq, oq + 6, none⟩) 2 (cq - 3)] 117 (0, 0)) ∧ g1 ≠ g2 ∧ w.heap.size ≤ g1 ∧ w.heap.size ≤ g2 ∧ Below w.heap.size w wx)
  case first =>
    go_region
    · go_wp2
      go_meet
      obtain ⟨q1, q2, q3⟩ := two_new w #[.slice (some ⟨gq, oq, none⟩) 2 cq] #[.slice (some ⟨gq, oq + 6, none⟩) 2 (cq - 3)] 117 117
      exact ⟨w.heap.size, w.heap.size + 1, rfl, rfl, q1, q2, by omega, by omega, by omega, q3⟩
    · go_wp2
      go_meet
      obtain ⟨q1, q2, q3⟩ := two_new w #[.slice (some ⟨gq, oq + 6, none⟩) 2 (cq - 3)] #[.slice (some ⟨gq, oq, none⟩) 2 cq] 117 117
      exact ⟨w.heap.size + 1, w.heap.size, rfl, rfl, q2, q1, by omega, by omega, by omega, q3⟩
  case rest =>
    obtain ⟨gl, gr, rfl, rfl, z1, z2, z3, z4, z5, z6⟩ := hcut
    have HZ1 := hide z1
    have HZ2 := hide z2
    have HZ6 := hide z6
    have HGBc : Hid (wc.heap[gb]? = some (.cells #[.slice sa m sc, .slice (some ⟨gc, 0, none⟩) n n] 152 (0, 0))) := (z6.block gb (Array.getElem?_eq_some_iff.1 HGB.out).1).trans HGB.out
    have c0 : wc.cell? ⟨gb, 0, none⟩ = some (.slice sa m sc) := cell_blk HGBc.out
    have c1 : wc.cell? ⟨gb, 1, none⟩ = some (.slice (some ⟨gc, 0, none⟩) n n) := cell_blk HGBc.out
    have c2 : wc.cell? ⟨gc, i, none⟩ = some (.iface 114 (.pointer (some ⟨g5, 0, none⟩))) := (z6.cell (p := ⟨gc, i, none⟩) (block_lt_of_cell r1)).trans r1
    have c3 : wc.cell? ⟨gq, oq + 4, none⟩ = some (.slice ka kn kc) := (z6.cell (p := ⟨gq, oq + 4, none⟩) (block_lt_of_cell HK.out)).trans HK.out
    have c4 : wc.cell? ⟨gq, oq + 5, none⟩ = some (.slice va vn vc) := (z6.cell (p := ⟨gq, oq + 5, none⟩) (block_lt_of_cell HV.out)).trans HV.out
    have ta := HT.out wc
    have f0 : wc.frozen? ⟨gb, 0, none⟩ = false := frz_blk HGBc.out
    have hgbl := (Array.getElem?_eq_some_iff.1 HGBc.out).1
    have hgql : gq < wc.heap.size := block_lt_of_cell c3
    clear z1 z2 z6 r0 r1
    go_upto_region 7 with fail
    have HBA := hide ((below_box wc (.cells #[.slice ka kn kc, .slice va vn vc] 70)).drew)
    have HNA : Hid ((wc.alloc (.cells #[.slice ka kn kc, .slice va vn vc] 70)).drew.heap[wc.heap.size]? = some (.cells #[.slice ka kn kc, .slice va vn vc] 70 (0, 0))) := heap_alloc_new wc _
    have HBwA := hide (HZ6.out.trans (HBA.out.mono HZ6.out.size))
    go_cut [] from 73 to 86 (fun wx => ∃ gn c, wx.heap[gb]? = some (.cells #[.slice (some ⟨gn, 0, none⟩) (m + 1) c, .slice (some ⟨gc, 0, none⟩) n n] 152 (0, 0)) ∧ RowN wx gn 70 ys ∧ wc.heap.size ≤ gn ∧ m + 1 ≤ c ∧ c ≤ 9223372036854775807 ∧ Ex B [gb] wc wx)
    case first =>
      go_region_with ((go_at_call 117; refine (HI.out _ _ HBwA.out HNA.out).mono ?_; rintro e w2 ⟨gn, c5, rfl, hgn, hc2, hcm2, hrow2, hb2⟩; have HGB2 : Hid (w2.heap[gb]? = some (.cells #[.slice sa m sc, .slice (some ⟨gc, 0, none⟩) n n] 152 (0, 0))) := (hb2.block gb (Nat.lt_of_lt_of_le hgbl HBA.out.size)).trans ((HBA.out.block gb hgbl).trans HGBc.out); have z0 : w2.cell? ⟨gb, 0, none⟩ = some (.slice sa m sc) := cell_blk HGB2.out; have f2 : w2.frozen? ⟨gb, 0, none⟩ = false := frz_blk HGB2.out; have HB2 := hide (HBA.out.trans (hb2.mono HBA.out.size)); have HROW := hide hrow2; have HGN := hide (Nat.le_trans HBA.out.size hgn); have HC2 := hide hc2; have HCM2 := hide hcm2; clear hgn hc2 hcm2 hrow2 hb2))
      all_goals
        go_wp2
        go_meet
        refine ⟨gn, c5, ?_, ?_, HGN.out, HC2.out, HCM2.out, ?_, ?_⟩
        · rw [heap_setCell_same _ _ _ _ _ _ HGB2.out]
          rfl
        · obtain ⟨row, hr⟩ := HROW.out
          refine ⟨row, ?_⟩
          rw [heap_setCell_other _ _ _ _ (by show gn ≠ gb; have := HGN.out; omega)]
          exact hr
        · exact ((HB2.out.mono (Nat.le_trans HBW.out HZ6.out.size)).trans ((Below.refl B w2).setCell (p := ⟨gb, 0, none⟩) HB.out _))
        · intro k hk hnk
          simp only [List.mem_cons, List.not_mem_nil, or_false] at hnk
          rw [heap_setCell_other _ _ _ _ (by exact hnk), HB2.out.block k hk]
    case rest =>
      obtain ⟨gn, c5, y1, y2, y3, y4, y5, y6⟩ := hcut
      have hgcb : gc ≠ gb := by
        intro q9
        have h9 := HGC.out
        rw [q9, HGB.out] at h9
        simp only [Option.some.injEq, Obj.cells.injEq] at h9
        exact absurd h9.2.1 (by decide)
      have hgcw := (Array.getElem?_eq_some_iff.1 HGC.out).1
      have HGC2 : Hid (wc.heap[gc]? = some (.cells cv.toArray 107 (0, 0))) := by
        show _ = _
        rw [y6.2 gc (Nat.lt_of_lt_of_le hgcw HZ6.out.size) (by simpa using hgcb), HZ6.out.block gc hgcw]
        exact HGC.out
      have hglb : gl ≠ gb := by have := (Array.getElem?_eq_some_iff.1 HGB.out).1; omega
      have hgrb : gr ≠ gb := by have := (Array.getElem?_eq_some_iff.1 HGB.out).1; omega
      have HL2 : Hid (wc.heap[gl]? = some (.cells #[.slice (some ⟨gq, oq, none⟩) 2 cq] 117 (0, 0))) := (y6.2 gl (Array.getElem?_eq_some_iff.1 HZ1.out).1 (by simpa using hglb)).trans HZ1.out
      have HR2 : Hid (wc.heap[gr]? = some (.cells #[.slice (some ⟨gq, oq + 6, none⟩) 2 (cq - 3)] 117 (0, 0))) := (y6.2 gr (Array.getElem?_eq_some_iff.1 HZ2.out).1 (by simpa using hgrb)).trans HZ2.out
      have HEx : Hid (Ex B [gb] w wc) := ⟨(HZ6.out.mono HBW.out).trans y6.1, fun k hk hnk => (y6.2 k (Nat.lt_of_lt_of_le hk HZ6.out.size) hnk).trans (HZ6.out.block k hk)⟩
      have HSW : Hid (w.heap.size ≤ wc.heap.size) := Nat.le_trans HZ6.out.size y6.1.size
      have HY1 := hide y1
      have HY2 := hide y2
      have HGNw : Hid (w.heap.size ≤ gn) := Nat.le_trans HZ6.out.size y3
      clear c0 c1 c2 c3 c4 ta f0 hgbl hgql y2 y6 HBA HNA HBwA
      have d1 : wc.cell? ⟨gb, 1, none⟩ = some (.slice (some ⟨gc, 0, none⟩) n n) := cell_blk HY1.out
      have hgbl := (Array.getElem?_eq_some_iff.1 y1).1
      have HBA := hide (below_box wc (.cells #[lfP gl, lfP gr] 107))
      have HNA : Hid ((wc.alloc (.cells #[lfP gl, lfP gr] 107)).heap[wc.heap.size]? = some (.cells #[lfP gl, lfP gr] 107 (0, 0))) := heap_alloc_new wc _
      have HRP := hide (replace_any (w := wc.alloc (.cells #[lfP gl, lfP gr] 107)) (i := i) ((HBA.out.block gc (Array.getElem?_eq_some_iff.1 HGC2.out).1).trans HGC2.out) HN.out hn10 hi HNA.out H1.out rfl rfl)
      clear y1 hgcw
      unfold lfP at HRP HBA HNA
      go_wp2_with fail
      refine HRP.out.mono ?_
      rintro e w5 ⟨gm, c6, rfl, hgm, hc6, hcm6, hrow6, hb6⟩
      have HB5 := hide (HBA.out.trans (hb6.mono HBA.out.size))
      have HGM := hide (Nat.le_trans HBA.out.size hgm)
      have HROW6 := hide hrow6
      have HGB5 : Hid (w5.heap[gb]? = some (.cells #[.slice (some ⟨gn, 0, none⟩) (m + 1) c5, .slice (some ⟨gc, 0, none⟩) n n] 152 (0, 0))) := (HB5.out.block gb hgbl).trans HY1.out
      have HC6 := hide hc6
      have HCM6 := hide hcm6
      have e1 : w5.cell? ⟨gb, 1, none⟩ = some (.slice (some ⟨gc, 0, none⟩) n n) := cell_blk HGB5.out
      have f5 : w5.frozen? ⟨gb, 1, none⟩ = false := frz_blk HGB5.out
      clear hgm hc6 hcm6 hrow6 hb6 HRP d1
      go_wp2
      go_end0
      have oth : ∀ k, k ≠ gb → (w5.setCell ⟨gb, 1, none⟩ (.slice (some ⟨gm, 0, none⟩) (n + 1) c6)).heap[k]? = w5.heap[k]? := fun k hk => heap_setCell_other _ _ _ _ hk
      refine ⟨rfl, ⟨gl, gr, gn, c5, gm, c6, ?_, ?_, ?_, ?_, ?_, z3, z4, z5, HGNw.out, Nat.le_trans HSW.out HGM.out, y4, y5, HC6.out, HCM6.out⟩, ?_, ?_⟩
      · rw [heap_setCell_same _ _ _ _ _ _ HGB5.out]
        rfl
      · obtain ⟨row, hr⟩ := HY2.out
        refine ⟨row, ?_⟩
        have hgnb : gn ≠ gb := by have h9 := HGNw.out; have h8 := (Array.getElem?_eq_some_iff.1 HGB.out).1; omega
        rw [oth gn hgnb, HB5.out.block gn (Array.getElem?_eq_some_iff.1 hr).1]
        exact hr
      · obtain ⟨row, hr⟩ := HROW6.out
        refine ⟨row, ?_⟩
        rw [oth gm (by have h9 := HGM.out; omega)]
        exact hr
      · rw [oth gl hglb, HB5.out.block gl (Array.getElem?_eq_some_iff.1 HL2.out).1]
        exact HL2.out
      · rw [oth gr hgrb, HB5.out.block gr (Array.getElem?_eq_some_iff.1 HR2.out).1]
        exact HR2.out
      · exact (HEx.out.1.trans (HB5.out.mono (Nat.le_trans HBW.out HSW.out))).trans ((Below.refl B w5).setCell (p := ⟨gb, 1, none⟩) HB.out _)
      · intro k hk hnk
        rw [oth k (by simpa using hnk), HB5.out.block k (Nat.lt_of_lt_of_le hk HSW.out)]
        exact HEx.out.2 k hk hnk
end Go.Proofs.YtnfponcadkmfjabGreat
