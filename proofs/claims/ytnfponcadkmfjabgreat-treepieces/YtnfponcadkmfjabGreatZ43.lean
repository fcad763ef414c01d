import Derived.Test.YtnfponcadkmfjabGreatZ42
import Derived.Test.YtnfponcadkmfjabGreatZ40
import Derived.Test.YtnfponcadkmfjabGreatZ41
set_option linter.unusedVariables false
namespace Go.Proofs.YtnfponcadkmfjabGreat
open Go.RowKit
def LkB (w : World) (k : Nat) : Prop := ∃ cs t fz, w.heap[k]? = some (Obj.cells cs t fz) ∧ t ≠ 84 ∧ t ≠ 36
theorem LkF.cell {B1 k : Nat} {w w' : World} (h : LkF B1 w w') (hk : LkB w k) (o : Nat) : w'.cell? ⟨k, o, none⟩ = w.cell? ⟨k, o, none⟩ := by
  obtain ⟨cs, t, fz, h1, h2, h3⟩ := hk
  exact World.cell?_of_block ((h.2 k cs t fz h1 h2 h3).trans h1.symm)
set_option maxRecDepth 100000 in
set_option maxHeartbeats 4000000 in
theorem pairs1_ok [Gd] {B p q g r rb tb sb gs so h : Nat} {s : DS} {t : PS} {w0 w : World} {lv hv : Value} {lo hi : List Nat} {most : Nat} (hST : ST B p q s t w0) (hB : B ≤ w0.heap.size) (hlf : s.life = t.life) (hdn : s.down = false) (hb : Below w0.heap.size w0 w) (b : BT h) (hon : OnD s t h b) (hsr : Srt (flB h b)) (hh : h < 100000) (hsp : SpV B w0.heap.size w r lv hv lo hi most []) (hm0 : 0 < most) (hmo : most < 100000)
    (c1 : w.cell? ⟨rb, 0, none⟩ = some (.pointer (some ⟨r, 0, none⟩))) (c2 : w.cell? ⟨tb, 0, none⟩ = some (.pointer (some ⟨g, 0, none⟩))) (c3 : w.cell? ⟨g, 1, none⟩ = some (.pointer (some ⟨q, 0, none⟩))) (c4 : w.cell? ⟨sb, 0, none⟩ = some (.pointer (some ⟨gs, so, none⟩))) (c5 : w.cell? ⟨gs, so, none⟩ = some (.int .i64 (BT.id b : Int))) (c6 : w.cell? ⟨gs, so + 1, none⟩ = some (.int .i64 ((h : Int) + 1)))
    (k1 : LkB w rb) (k2 : LkB w tb) (k3 : LkB w g) (k4 : LkB w sb) (k5 : LkB w gs) :
    Calls Tryz.prog 61 #[.pointer (some ⟨rb, 0, none⟩), .pointer (some ⟨tb, 0, none⟩), .pointer (some ⟨sb, 0, none⟩)] w fun e w' => e = .returned (.int .i64 0) ∧ SpV B w0.heap.size w' r lv hv lo hi most (scan hi most [] (frm (flB h b) lo)).1 ∧ LkF w0.heap.size w w' := by
  have HBd := hide (Below.refl w.heap.size w).drew
  have HLK := hide (look_ok hST hB hlf hdn hmo h hh w.drew b [] (hb.trans (HBd.out.mono hb.size)) hon hsr (hsp.later HBd.out (Nat.le_trans hB hb.size)) hm0)
  have HS0 := hide hb.size
  have HX0 : Hid ((fun wx => wx.cell? ⟨rb, 0, none⟩ = some (.pointer (some ⟨r, 0, none⟩)) ∧ wx.cell? ⟨tb, 0, none⟩ = some (.pointer (some ⟨g, 0, none⟩)) ∧ wx.cell? ⟨g, 1, none⟩ = some (.pointer (some ⟨q, 0, none⟩)) ∧ wx.cell? ⟨sb, 0, none⟩ = some (.pointer (some ⟨gs, so, none⟩)) ∧ wx.cell? ⟨gs, so, none⟩ = some (.int .i64 (BT.id b : Int)) ∧ wx.cell? ⟨gs, so + 1, none⟩ = some (.int .i64 ((h : Int) + 1))) w.drew) := ⟨c1, c2, c3, c4, c5, c6⟩
  have HKK := hide (show ∀ w', LkF w0.heap.size w.drew w' → ((fun wx => wx.cell? ⟨rb, 0, none⟩ = some (.pointer (some ⟨r, 0, none⟩)) ∧ wx.cell? ⟨tb, 0, none⟩ = some (.pointer (some ⟨g, 0, none⟩)) ∧ wx.cell? ⟨g, 1, none⟩ = some (.pointer (some ⟨q, 0, none⟩)) ∧ wx.cell? ⟨sb, 0, none⟩ = some (.pointer (some ⟨gs, so, none⟩)) ∧ wx.cell? ⟨gs, so, none⟩ = some (.int .i64 (BT.id b : Int)) ∧ wx.cell? ⟨gs, so + 1, none⟩ = some (.int .i64 ((h : Int) + 1))) w') from fun w' hl => ⟨(hl.cell k1 0).trans c1, (hl.cell k2 0).trans c2, (hl.cell k3 1).trans c3, (hl.cell k4 0).trans c4, (hl.cell k5 so).trans c5, (hl.cell k5 (so + 1)).trans c6⟩)
  clear hST hb hon hsr hsp c1 c2 c3 c4 c5 c6 k1 k2 k3 k4 k5
  go_enter Tryz.func61, Tryz.ntmps61
  go_upto_region 1 with fail
  refine wp_region_noPanic ?_
  refine wp_region_held_drew (S := fun wx => wx.cell? ⟨rb, 0, none⟩ = some (.pointer (some ⟨r, 0, none⟩)) ∧ wx.cell? ⟨tb, 0, none⟩ = some (.pointer (some ⟨g, 0, none⟩)) ∧ wx.cell? ⟨g, 1, none⟩ = some (.pointer (some ⟨q, 0, none⟩)) ∧ wx.cell? ⟨sb, 0, none⟩ = some (.pointer (some ⟨gs, so, none⟩)) ∧ wx.cell? ⟨gs, so, none⟩ = some (.int .i64 (BT.id b : Int)) ∧ wx.cell? ⟨gs, so + 1, none⟩ = some (.int .i64 ((h : Int) + 1))) (by kernel_rfl) HX0.out (fun hHeld => ?_)
  refine wpAnyH_tk 0 4 (v := ?va0) ?hya0 ?_
  case hya0 => intro oi ho; simp only [List.getElem?_toArray, List.getElem?_cons_zero, Option.some.injEq] at ho; subst ho; refine Or.inl ⟨by rfl, ?_⟩; intro wx hSw; (try dsimp only at hSw); go_simp; try rfl
  try simp only [Act.put, List.setIfInBounds_toArray, List.set_cons_zero, List.set_cons_succ]
  refine wpAnyH_tk 1 5 (v := ?va1) ?hya1 ?_
  case hya1 => intro oi ho; simp only [List.getElem?_toArray, List.getElem?_cons_succ, List.getElem?_cons_zero, Option.some.injEq] at ho; subst ho; refine Or.inl ⟨by rfl, ?_⟩; intro wx hSw; (try dsimp only at hSw); go_simp; try rfl
  try simp only [Act.put, List.setIfInBounds_toArray, List.set_cons_zero, List.set_cons_succ]
  refine wpAnyH_tk 2 6 (v := ?va2) ?hya2 ?_
  case hya2 => intro oi ho; simp only [List.getElem?_toArray, List.getElem?_cons_succ, List.getElem?_cons_zero, Option.some.injEq] at ho; subst ho; refine Or.inl ⟨by rfl, ?_⟩; intro wx hSw; (try dsimp only at hSw); go_simp; try rfl
  try simp only [Act.put, List.setIfInBounds_toArray, List.set_cons_zero, List.set_cons_succ]
  refine wpAnyH_tk 3 7 (v := ?va3) ?hya3 ?_
  case hya3 => intro oi ho; simp only [List.getElem?_toArray, List.getElem?_cons_succ, List.getElem?_cons_zero, Option.some.injEq] at ho; subst ho; refine Or.inl ⟨by rfl, ?_⟩; intro wx hSw; (try dsimp only at hSw); go_simp; try rfl
  try simp only [Act.put, List.setIfInBounds_toArray, List.set_cons_zero, List.set_cons_succ]
  refine wpAnyH_tk 4 8 (v := ?va4) ?hya4 ?_
  case hya4 => intro oi ho; simp only [List.getElem?_toArray, List.getElem?_cons_succ, List.getElem?_cons_zero, Option.some.injEq] at ho; subst ho; refine Or.inl ⟨by rfl, ?_⟩; intro wx hSw; (try dsimp only at hSw); go_simp; try rfl
  try simp only [Act.put, List.setIfInBounds_toArray, List.set_cons_zero, List.set_cons_succ]
  refine wpAnyH_tk 5 9 (v := ?va5) ?hya5 ?_
  case hya5 => intro oi ho; simp only [List.getElem?_toArray, List.getElem?_cons_succ, List.getElem?_cons_zero, Option.some.injEq] at ho; subst ho; refine Or.inl ⟨by rfl, ?_⟩; intro wx hSw; (try dsimp only at hSw); go_simp; try rfl
  try simp only [Act.put, List.setIfInBounds_toArray, List.set_cons_zero, List.set_cons_succ]
  refine wpAnyH_tk 6 10 (v := ?va6) ?hya6 ?_
  case hya6 => intro oi ho; simp only [List.getElem?_toArray, List.getElem?_cons_succ, List.getElem?_cons_zero, Option.some.injEq] at ho; subst ho; refine Or.inl ⟨by rfl, ?_⟩; intro wx hSw; (try dsimp only at hSw); go_simp; try rfl
  try simp only [Act.put, List.setIfInBounds_toArray, List.set_cons_zero, List.set_cons_succ]
  refine wpAnyH_tk 7 11 (v := ?va7) ?hya7 ?_
  case hya7 => intro oi ho; simp only [List.getElem?_toArray, List.getElem?_cons_succ, List.getElem?_cons_zero, Option.some.injEq] at ho; subst ho; refine Or.inl ⟨by rfl, ?_⟩; intro wx hSw; (try dsimp only at hSw); go_simp; try rfl
  try simp only [Act.put, List.setIfInBounds_toArray, List.set_cons_zero, List.set_cons_succ]
  refine wpAnyH_tk 8 12 (v := ?va8) ?hya8 ?_
  case hya8 => intro oi ho; simp only [List.getElem?_toArray, List.getElem?_cons_succ, List.getElem?_cons_zero, Option.some.injEq] at ho; subst ho; refine Or.inl ⟨by rfl, ?_⟩; intro wx hSw; (try dsimp only at hSw); go_simp; try rfl
  try simp only [Act.put, List.setIfInBounds_toArray, List.set_cons_zero, List.set_cons_succ]
  refine wpAnyH_tk 9 13 (v := ?va9) ?hya9 ?_
  case hya9 => intro oi ho; simp only [List.getElem?_toArray, List.getElem?_cons_succ, List.getElem?_cons_zero, Option.some.injEq] at ho; subst ho; refine Or.inl ⟨by rfl, ?_⟩; intro wx hSw; (try dsimp only at hSw); go_simp; try rfl
  try simp only [Act.put, List.setIfInBounds_toArray, List.set_cons_zero, List.set_cons_succ]
  refine wpAnyH_tk 10 14 (v := ?va10) ?hya10 ?_
  case hya10 => intro oi ho; simp only [List.getElem?_toArray, List.getElem?_cons_succ, List.getElem?_cons_zero, Option.some.injEq] at ho; subst ho; refine Or.inl ⟨by rfl, ?_⟩; intro wx hSw; (try dsimp only at hSw); go_simp; try rfl
  try simp only [Act.put, List.setIfInBounds_toArray, List.set_cons_zero, List.set_cons_succ]
  refine wpAnyH_tk 11 15 (v := ?va11) ?hya11 ?_
  case hya11 => intro oi ho; simp only [List.getElem?_toArray, List.getElem?_cons_succ, List.getElem?_cons_zero, Option.some.injEq] at ho; subst ho; refine Or.inl ⟨by rfl, ?_⟩; intro wx hSw; (try dsimp only at hSw); go_simp; try rfl
  try simp only [Act.put, List.setIfInBounds_toArray, List.set_cons_zero, List.set_cons_succ]
  refine wpAnyH_tk 12 16 (v := ?va12) ?hya12 ?_
  case hya12 => intro oi ho; simp only [List.getElem?_toArray, List.getElem?_cons_succ, List.getElem?_cons_zero, Option.some.injEq] at ho; subst ho; refine Or.inl ⟨by rfl, ?_⟩; intro wx hSw; (try dsimp only at hSw); go_simp; try rfl
  try simp only [Act.put, List.setIfInBounds_toArray, List.set_cons_zero, List.set_cons_succ]
  refine wpAnyH_cm 13 ?_; intro o ho K hK; simp only [List.getElem?_toArray, List.getElem?_cons_succ, List.getElem?_cons_zero, Option.some.injEq] at ho; subst ho
  go_simp
  refine HLK.out.mono ?_
  rintro e w1 ⟨rfl, hs1, hl1⟩
  have HS1 := hide hs1
  have HL1 := hide hl1
  have HX1 := hide (HKK.out w1 hl1)
  clear hs1 hl1 hHeld
  refine hK.out _ _ HX1.out (fun hHeld => ?_)
  clear hK K
  try simp only [Act.put, List.setIfInBounds_toArray, List.set_cons_zero, List.set_cons_succ]
  refine wpAnyH_done (by kernel_rfl) ?_ _
  refine NoPanic.normal ?_
  clear hHeld
  go_wp2
  go_ret
  exact ⟨rfl, HS1.out, (LkF.of HBd.out HS0.out).trans HL1.out⟩
end Go.Proofs.YtnfponcadkmfjabGreat
set_option linter.unusedVariables false
namespace Go.Proofs.YtnfponcadkmfjabGreat
open Go.RowKit
set_option maxRecDepth 100000 in
set_option maxHeartbeats 8000000 in
theorem change1_ok [Gd] {B p q g tb hb hf ty1 ty2 : Nat} {s : DS} {t : PS} {w : World} {cs : Array Value} {now last : StT} {sv : Value} {left d n : Int} {cap : Array Value} {gone : List Nat} {h : Nat} {e : ED h} (hg0 : Gd.g = none) (hST : ST B p q s t w) (hB : B ≤ w.heap.size) (hgB : B ≤ g) (hg : w.heap[g]? = some (.cells cs 81 (0, 0))) (hT : TV cs p q now last sv left false)
    (htb : w.heap[tb]? = some (.cells #[.pointer (some ⟨g, 0, none⟩)] ty1 (0, 0))) (hhb : w.heap[hb]? = some (.cells #[.func (Fn.func hf) #[] cap] ty2 (0, 0))) (hty1 : NT ty1) (hcf : ∀ (v : Value) (ww : World), (callFunc hf (#[v] ++ cap)).run Tryz.prog ww = .ok (.enter hf (#[v] ++ cap)) ww)
    (hHow : ∀ (w1 : World) (px : Nat), B ≤ px → Below w.heap.size w w1 → EV B w1 px q (.iface 105 (.int .i64 now.root)) now.depth now.keys [] → ST B p q s t w1 → B ≤ w1.heap.size → Calls Tryz.prog hf (#[.pointer (some ⟨px, 0, none⟩)] ++ cap) w1 fun e' w' => e' = .returned (.bool true) ∧ ∃ rv S, EV B w' px q rv d n gone ∧ NV B w1.heap.size w' h e S rv ∧ S.Nodup ∧ FE B w1 w')
    (hlf : s.life = t.life) (hdn : s.down = false) (haf : s.after < 1) (hl1 : s.life < 100000) (hm : s.m + frE h e ≤ 100000) (hsn : t.st.length = s.n) (hf1 : frE h e ≤ 1000) (hfr : frE h e ≤ cntF t.st) (hon : OnE s t h e) (hgo : ∀ x ∈ gone, x < 4096) (hgl : gone.length < 100000) :
    Calls Tryz.prog 54 #[.pointer (some ⟨tb, 0, none⟩), .pointer (some ⟨hb, 0, none⟩)] w fun e' w' => e' = .returned (.int .i64 0) ∧ ChR B p q g s t w now last sv d n gone h e w' := by
  have r1 : w.cell? ⟨g, 1, none⟩ = some (.pointer (some ⟨q, 0, none⟩)) := (cell_blk hg).trans hT.c1
  have r2 : w.cell? ⟨g, 2, none⟩ = some (.int .i64 now.root) := (cell_blk hg).trans hT.n0
  have r3 : w.cell? ⟨g, 3, none⟩ = some (.int .i64 now.depth) := (cell_blk hg).trans hT.n1
  have r4 : w.cell? ⟨g, 4, none⟩ = some (.int .i64 now.keys) := (cell_blk hg).trans hT.n2
  have r5 : w.cell? ⟨tb, 0, none⟩ = some (.pointer (some ⟨g, 0, none⟩)) := cell_blk htb
  have r6 : w.cell? ⟨hb, 0, none⟩ = some (.func (Fn.func hf) #[] cap) := cell_blk hhb
  have hsl : t.st.length ≤ 4096 := by obtain ⟨_, gs, h2⟩ := hST; exact h2.ok.sl
  have HG := hide hg
  have HT := hide hT
  have HST := hide hST
  have HTB := hide htb
  have HHW := hide hHow
  have HLP := hide (fun (ww : World) (px : Nat) (rv : Value) (S : List Nat) (B1 : Nat) (a1 : ST B p q s t ww) (a2 : B ≤ ww.heap.size) (a3 : B ≤ B1) (a4 : EL B ww px q rv d n gone []) (a5 : NV B B1 ww h e S rv) (a6 : S.Nodup) => lay_ok hg0 h s t ww [] e S rv (⟨a1, a2, a3, hlf, hdn, haf, hl1, hm, hsn, a4, by simpa using hf1, hfr, hon, a5, a6⟩ : LayP B B1 p q px s t ww rv d n gone [] h e S rv))
  have HFR := hide (fun (B1 : Nat) (ww : World) (S : List Nat) (v : Value) (a1 : B ≤ ww.heap.size) (a2 : NV B B1 ww h e S v) => fresh_ok h ww e S v a1 hf1 a2)
  have HGO := hide hgo
  have HGL := hide hgl
  have HMM := hide hm
  have HSM : Hid (∀ (s' : DS) (t' : PS) (L : List Nat) (a b : Nat), Gw s t s' t' L → L.length ≤ 4096) := fun s' t' L a b hg => by
    have h1 := hg.nd
    have h2 := gw_lt hg hsl
    have := List.Nodup.length_le_of_subset (l₂ := List.range 4096) h1 fun x hx => List.mem_range.2 (h2 x hx)
    simpa using this
  have HNT := hide hty1
  clear hg hT hST htb hhb hHow hlf hdn haf hl1 hm hsn hon hgo hgl hty1
  go_enter Tryz.func54, Tryz.ntmps54
  go_upto_region 1 with fail
  have HY0 : Hid ((fun wx => wx.cell? ⟨tb, 0, none⟩ = some (.pointer (some ⟨g, 0, none⟩)) ∧ wx.cell? ⟨g, 1, none⟩ = some (.pointer (some ⟨q, 0, none⟩)) ∧ wx.cell? ⟨g, 2, none⟩ = some (.int .i64 now.root) ∧ wx.cell? ⟨g, 3, none⟩ = some (.int .i64 now.depth) ∧ wx.cell? ⟨g, 4, none⟩ = some (.int .i64 now.keys)) w.drew) := ⟨r5, r1, r2, r3, r4⟩
  have HBQ := hide ((below_box w (.cells #[.pointer (some ⟨q, 0, none⟩), .iface 105 (.int .i64 now.root), .int .i64 now.depth, .int .i64 now.keys, .slice none 0 0, .slice none 0 0] 110)).drew)
  have HX1 : Hid ((w.alloc (.cells #[.pointer (some ⟨q, 0, none⟩), .iface 105 (.int .i64 now.root), .int .i64 now.depth, .int .i64 now.keys, .slice none 0 0, .slice none 0 0] 110)).drew.heap[w.heap.size]? = some (.cells #[.pointer (some ⟨q, 0, none⟩), .iface 105 (.int .i64 now.root), .int .i64 now.depth, .int .i64 now.keys, .slice none 0 0, .slice none 0 0] 110 (0, 0))) := heap_alloc_new w _
  have HY1 : Hid ((fun wx => wx.cell? ⟨tb, 0, none⟩ = some (.pointer (some ⟨g, 0, none⟩)) ∧ wx.cell? ⟨g, 1, none⟩ = some (.pointer (some ⟨q, 0, none⟩)) ∧ wx.cell? ⟨g, 2, none⟩ = some (.int .i64 now.root) ∧ wx.cell? ⟨g, 3, none⟩ = some (.int .i64 now.depth) ∧ wx.cell? ⟨g, 4, none⟩ = some (.int .i64 now.keys)) ((w.alloc (.cells #[.pointer (some ⟨q, 0, none⟩), .iface 105 (.int .i64 now.root), .int .i64 now.depth, .int .i64 now.keys, .slice none 0 0, .slice none 0 0] 110)).drew)) := by
    have k5 := block_lt_of_cell r5
    have k1 := block_lt_of_cell r1
    exact ⟨(HBQ.out.cell (p := ⟨tb, 0, none⟩) k5).trans r5, (HBQ.out.cell (p := ⟨g, 1, none⟩) k1).trans r1, (HBQ.out.cell (p := ⟨g, 2, none⟩) k1).trans r2, (HBQ.out.cell (p := ⟨g, 3, none⟩) k1).trans r3, (HBQ.out.cell (p := ⟨g, 4, none⟩) k1).trans r4⟩
  have HR5 := hide r5
  have HR6 := hide r6
  clear r1 r2 r3 r4 r5 r6
  refine wp_region_noPanic ?_
  refine wp_region_held_drew (S := fun wx => wx.cell? ⟨tb, 0, none⟩ = some (.pointer (some ⟨g, 0, none⟩)) ∧ wx.cell? ⟨g, 1, none⟩ = some (.pointer (some ⟨q, 0, none⟩)) ∧ wx.cell? ⟨g, 2, none⟩ = some (.int .i64 now.root) ∧ wx.cell? ⟨g, 3, none⟩ = some (.int .i64 now.depth) ∧ wx.cell? ⟨g, 4, none⟩ = some (.int .i64 now.keys)) (by kernel_rfl) HY0.out (fun hHeld => ?_)
  refine wpAnyH_tk 0 6 (v := ?vz0) ?hyz0 ?_
  case hyz0 => intro oi ho; simp only [List.getElem?_toArray, List.getElem?_cons_zero, Option.some.injEq] at ho; subst ho; refine Or.inl ⟨by rfl, ?_⟩; intro wx hSw; (try dsimp only at hSw); go_simp; try rfl
  try simp only [Act.put, List.setIfInBounds_toArray, List.set_cons_zero, List.set_cons_succ]
  refine wpAnyH_tk 1 7 (v := ?vz1) ?hyz1 ?_
  case hyz1 => intro oi ho; simp only [List.getElem?_toArray, List.getElem?_cons_succ, List.getElem?_cons_zero, Option.some.injEq] at ho; subst ho; refine Or.inl ⟨by rfl, ?_⟩; intro wx hSw; (try dsimp only at hSw); go_simp; try rfl
  try simp only [Act.put, List.setIfInBounds_toArray, List.set_cons_zero, List.set_cons_succ]
  refine wpAnyH_tk 2 8 (v := ?vz2) ?hyz2 ?_
  case hyz2 => intro oi ho; simp only [List.getElem?_toArray, List.getElem?_cons_succ, List.getElem?_cons_zero, Option.some.injEq] at ho; subst ho; refine Or.inl ⟨by rfl, ?_⟩; intro wx hSw; (try dsimp only at hSw); go_simp; try rfl
  try simp only [Act.put, List.setIfInBounds_toArray, List.set_cons_zero, List.set_cons_succ]
  refine wpAnyH_tk 3 9 (v := ?vz3) ?hyz3 ?_
  case hyz3 => intro oi ho; simp only [List.getElem?_toArray, List.getElem?_cons_succ, List.getElem?_cons_zero, Option.some.injEq] at ho; subst ho; refine Or.inl ⟨by rfl, ?_⟩; intro wx hSw; (try dsimp only at hSw); go_simp; try rfl
  try simp only [Act.put, List.setIfInBounds_toArray, List.set_cons_zero, List.set_cons_succ]
  refine wpAnyH_tk 4 10 (v := ?vz4) ?hyz4 ?_
  case hyz4 => intro oi ho; simp only [List.getElem?_toArray, List.getElem?_cons_succ, List.getElem?_cons_zero, Option.some.injEq] at ho; subst ho; refine Or.inl ⟨by rfl, ?_⟩; intro wx hSw; (try dsimp only at hSw); go_simp; try rfl
  try simp only [Act.put, List.setIfInBounds_toArray, List.set_cons_zero, List.set_cons_succ]
  refine wpAnyH_tk 5 11 (v := ?vz5) ?hyz5 ?_
  case hyz5 => intro oi ho; simp only [List.getElem?_toArray, List.getElem?_cons_succ, List.getElem?_cons_zero, Option.some.injEq] at ho; subst ho; refine Or.inl ⟨by rfl, ?_⟩; intro wx hSw; (try dsimp only at hSw); go_simp; try rfl
  try simp only [Act.put, List.setIfInBounds_toArray, List.set_cons_zero, List.set_cons_succ]
  refine wpAnyH_tk 6 12 (v := ?vz6) ?hyz6 ?_
  case hyz6 => intro oi ho; simp only [List.getElem?_toArray, List.getElem?_cons_succ, List.getElem?_cons_zero, Option.some.injEq] at ho; subst ho; refine Or.inl ⟨by rfl, ?_⟩; intro wx hSw; (try dsimp only at hSw); go_simp; try rfl
  try simp only [Act.put, List.setIfInBounds_toArray, List.set_cons_zero, List.set_cons_succ]
  refine wpAnyH_tk 7 13 (v := ?vz7) ?hyz7 ?_
  case hyz7 => intro oi ho; simp only [List.getElem?_toArray, List.getElem?_cons_succ, List.getElem?_cons_zero, Option.some.injEq] at ho; subst ho; refine Or.inl ⟨by rfl, ?_⟩; intro wx hSw; (try dsimp only at hSw); go_simp; try rfl
  try simp only [Act.put, List.setIfInBounds_toArray, List.set_cons_zero, List.set_cons_succ]
  refine wpAnyH_tk 8 14 (v := ?vz8) ?hyz8 ?_
  case hyz8 => intro oi ho; simp only [List.getElem?_toArray, List.getElem?_cons_succ, List.getElem?_cons_zero, Option.some.injEq] at ho; subst ho; refine Or.inl ⟨by rfl, ?_⟩; intro wx hSw; (try dsimp only at hSw); go_simp; try rfl
  try simp only [Act.put, List.setIfInBounds_toArray, List.set_cons_zero, List.set_cons_succ]
  refine wpAnyH_tk 9 15 (v := ?vz9) ?hyz9 ?_
  case hyz9 => intro oi ho; simp only [List.getElem?_toArray, List.getElem?_cons_succ, List.getElem?_cons_zero, Option.some.injEq] at ho; subst ho; refine Or.inl ⟨by rfl, ?_⟩; intro wx hSw; (try dsimp only at hSw); go_simp; try rfl
  try simp only [Act.put, List.setIfInBounds_toArray, List.set_cons_zero, List.set_cons_succ]
  refine wpAnyH_tk 10 16 (v := ?vz10) ?hyz10 ?_
  case hyz10 => intro oi ho; simp only [List.getElem?_toArray, List.getElem?_cons_succ, List.getElem?_cons_zero, Option.some.injEq] at ho; subst ho; refine Or.inl ⟨by rfl, ?_⟩; intro wx hSw; (try dsimp only at hSw); go_simp; try rfl
  try simp only [Act.put, List.setIfInBounds_toArray, List.set_cons_zero, List.set_cons_succ]
  refine wpAnyH_tk 11 17 (v := ?vz11) ?hyz11 ?_
  case hyz11 => intro oi ho; simp only [List.getElem?_toArray, List.getElem?_cons_succ, List.getElem?_cons_zero, Option.some.injEq] at ho; subst ho; refine Or.inl ⟨by rfl, ?_⟩; intro wx hSw; (try dsimp only at hSw); go_simp; try rfl
  try simp only [Act.put, List.setIfInBounds_toArray, List.set_cons_zero, List.set_cons_succ]
  refine wpAnyH_tk 12 18 (v := ?vz12) ?hyz12 ?_
  case hyz12 => intro oi ho; simp only [List.getElem?_toArray, List.getElem?_cons_succ, List.getElem?_cons_zero, Option.some.injEq] at ho; subst ho; refine Or.inl ⟨by rfl, ?_⟩; intro wx hSw; (try dsimp only at hSw); go_simp; try rfl
  try simp only [Act.put, List.setIfInBounds_toArray, List.set_cons_zero, List.set_cons_succ]
  refine wpAnyH_tk 13 19 (v := ?vz13) ?hyz13 ?_
  case hyz13 => intro oi ho; simp only [List.getElem?_toArray, List.getElem?_cons_succ, List.getElem?_cons_zero, Option.some.injEq] at ho; subst ho; refine Or.inl ⟨by rfl, ?_⟩; intro wx hSw; (try dsimp only at hSw); go_simp; try rfl
  try simp only [Act.put, List.setIfInBounds_toArray, List.set_cons_zero, List.set_cons_succ]
  refine wpAnyH_tk 14 20 (v := ?vz14) ?hyz14 ?_
  case hyz14 => intro oi ho; simp only [List.getElem?_toArray, List.getElem?_cons_succ, List.getElem?_cons_zero, Option.some.injEq] at ho; subst ho; refine Or.inl ⟨by rfl, ?_⟩; intro wx hSw; (try dsimp only at hSw); go_simp; try rfl
  try simp only [Act.put, List.setIfInBounds_toArray, List.set_cons_zero, List.set_cons_succ]
  refine wpAnyH_tk 15 21 (v := ?vz15) ?hyz15 ?_
  case hyz15 => intro oi ho; simp only [List.getElem?_toArray, List.getElem?_cons_succ, List.getElem?_cons_zero, Option.some.injEq] at ho; subst ho; refine Or.inl ⟨by rfl, ?_⟩; intro wx hSw; (try dsimp only at hSw); go_simp; try rfl
  try simp only [Act.put, List.setIfInBounds_toArray, List.set_cons_zero, List.set_cons_succ]
  refine wpAnyH_tk 16 22 (v := ?vz16) ?hyz16 ?_
  case hyz16 => intro oi ho; simp only [List.getElem?_toArray, List.getElem?_cons_succ, List.getElem?_cons_zero, Option.some.injEq] at ho; subst ho; refine Or.inl ⟨by rfl, ?_⟩; intro wx hSw; (try dsimp only at hSw); go_simp; try rfl
  try simp only [Act.put, List.setIfInBounds_toArray, List.set_cons_zero, List.set_cons_succ]
  refine wpAnyH_tk 17 23 (v := ?vz17) ?hyz17 ?_
  case hyz17 => intro oi ho; simp only [List.getElem?_toArray, List.getElem?_cons_succ, List.getElem?_cons_zero, Option.some.injEq] at ho; subst ho; refine Or.inl ⟨by rfl, ?_⟩; intro wx hSw; (try dsimp only at hSw); go_simp; try rfl
  try simp only [Act.put, List.setIfInBounds_toArray, List.set_cons_zero, List.set_cons_succ]
  refine wpAnyH_tk 18 24 (v := ?vz18) ?hyz18 ?_
  case hyz18 => intro oi ho; simp only [List.getElem?_toArray, List.getElem?_cons_succ, List.getElem?_cons_zero, Option.some.injEq] at ho; subst ho; refine Or.inl ⟨by rfl, ?_⟩; intro wx hSw; (try dsimp only at hSw); go_simp; try rfl
  try simp only [Act.put, List.setIfInBounds_toArray, List.set_cons_zero, List.set_cons_succ]
  refine wpAnyH_tk 19 25 (v := ?vz19) ?hyz19 ?_
  case hyz19 => intro oi ho; simp only [List.getElem?_toArray, List.getElem?_cons_succ, List.getElem?_cons_zero, Option.some.injEq] at ho; subst ho; refine Or.inl ⟨by rfl, ?_⟩; intro wx hSw; (try dsimp only at hSw); go_simp; try rfl
  try simp only [Act.put, List.setIfInBounds_toArray, List.set_cons_zero, List.set_cons_succ]
  refine wpAnyH_tk 20 26 (v := ?vz20) ?hyz20 ?_
  case hyz20 => intro oi ho; simp only [List.getElem?_toArray, List.getElem?_cons_succ, List.getElem?_cons_zero, Option.some.injEq] at ho; subst ho; refine Or.inl ⟨by rfl, ?_⟩; intro wx hSw; (try dsimp only at hSw); go_simp; try rfl
  try simp only [Act.put, List.setIfInBounds_toArray, List.set_cons_zero, List.set_cons_succ]
  refine wpAnyH_cm 21 ?_; intro o ho K hK; simp only [List.getElem?_toArray, List.getElem?_cons_succ, List.getElem?_cons_zero, Option.some.injEq] at ho; subst ho
  go_simp
  clear hHeld
  refine hK.out _ _ HY1.out (fun hHeld => ?_)
  clear hK K
  try simp only [Act.put, List.setIfInBounds_toArray, List.set_cons_zero, List.set_cons_succ]
  refine wpAnyH_tk 22 3 (v := ?vz22) ?hyz22 ?_
  case hyz22 => intro oi ho; simp only [List.getElem?_toArray, List.getElem?_cons_succ, List.getElem?_cons_zero, Option.some.injEq] at ho; subst ho; refine Or.inl ⟨by rfl, ?_⟩; intro wx hSw; (try dsimp only at hSw); go_simp; try rfl
  try simp only [Act.put, List.setIfInBounds_toArray, List.set_cons_zero, List.set_cons_succ]
  refine wpAnyH_done (by kernel_rfl) ?_ _
  refine NoPanic.normal ?_
  clear hHeld HY0 HY1
  have HB1 := HBQ
  clear HBQ
  generalize ((w.alloc (.cells #[.pointer (some ⟨q, 0, none⟩), .iface 105 (.int .i64 now.root), .int .i64 now.depth, .int .i64 now.keys, .slice none 0 0, .slice none 0 0] 110)).drew) = w1 at *
  have r5 := HR5.out
  have r6 := HR6.out
  have t1 : w1.cell? ⟨tb, 0, none⟩ = some (.pointer (some ⟨g, 0, none⟩)) := (HB1.out.cell (p := ⟨tb, 0, none⟩) (block_lt_of_cell r5)).trans r5
  have h1 : w1.cell? ⟨hb, 0, none⟩ = some (.func (Fn.func hf) #[] cap) := (HB1.out.cell (p := ⟨hb, 0, none⟩) (block_lt_of_cell r6)).trans r6
  have c1 := hcf (.pointer (some ⟨w.heap.size, 0, none⟩)) w1
  have HF1 := hide (FE.of HB1.out hB)
  have HEV1 : Hid (EV B w1 w.heap.size q (.iface 105 (.int .i64 now.root)) now.depth now.keys []) := ⟨hB, ⟨_, HX1.out, own_nil⟩, by simp⟩
  have HCL := hide (HHW.out w1 w.heap.size hB HB1.out HEV1.out (HST.out.later HB1.out) (Nat.le_trans hB HB1.out.size))
  have HBw1 : Hid (B ≤ w1.heap.size) := Nat.le_trans hB HB1.out.size
  clear r5 r6 hcf HX1 HEV1 HHW HB1 HR5 HR6
  generalize hpx : w.heap.size = px at *
  go_wp2_with fail
  refine HCL.out.mono ?_
  rintro e2 w2 ⟨rfl, rv, S, v1, v2, v3, v4⟩
  obtain ⟨ty, pv, rfl⟩ := v2.form
  have HF2 := hide (HF1.out.trans v4)
  have HBw2 : Hid (B ≤ w2.heap.size) := Nat.le_trans HBw1.out v4.1.size
  have HEV2 := hide v1
  have HNV2 := hide v2
  have HND := hide v3
  have HST2 := hide (HF2.out.st HST.out hg0)
  have HG2 := hide (HF2.out.nt HG.out (by decide))
  have HMR := hide (makeRoom_fast HST2.out HG2.out HT.out v1 (HFR.out _ w2 S _ HBw2.out v2) hfr)
  have t2 : w2.cell? ⟨tb, 0, none⟩ = some (.pointer (some ⟨g, 0, none⟩)) := cell_blk (HF2.out.nt HTB.out HNT.out)
  clear v1 v2 v3 v4 t1 h1 c1 HCL
  go_wp2_with fail
  refine HMR.out.mono ?_
  rintro e3 w3 ⟨rfl, hb3⟩
  have HB3 := hide hb3
  have HB3d : Hid (Below w2.heap.size w2 w3.drew) := hb3.drew
  have HF3 := hide (HF2.out.trans (FE.of HB3d.out HBw2.out))
  have HG3 : Hid (w3.heap[g]? = some (.cells cs 81 (0, 0))) := HF3.out.nt HG.out (by decide)
  have t3 : w3.cell? ⟨tb, 0, none⟩ = some (.pointer (some ⟨g, 0, none⟩)) := cell_blk (show w3.heap[tb]? = _ from HF3.out.nt HTB.out HNT.out)
  have g3 : w3.cell? ⟨g, 1, none⟩ = some (.pointer (some ⟨q, 0, none⟩)) := (cell_blk HG3.out).trans HT.out.c1
  have p3 : w3.cell? ⟨px, 1, none⟩ = some (.iface ty pv) := ((HEV2.out.later hb3).cellsx).2.1
  have HLY := hide (HLP.out w3.drew px (.iface ty pv) S w1.heap.size (HST2.out.later HB3d.out) (Nat.le_trans HBw2.out HB3d.out.size) HBw1.out (HEV2.out.later HB3d.out).el (NV.lf (T := []) (Lf.fe [] (FE.of HB3d.out HBw2.out)) (fun _ _ => List.not_mem_nil) HNV2.out) HND.out)
  clear hb3 t2 HMR
  go_upto_region 6 with fail
  have HX0 : Hid ((fun wx => wx.cell? ⟨tb, 0, none⟩ = some (.pointer (some ⟨g, 0, none⟩)) ∧ wx.cell? ⟨g, 1, none⟩ = some (.pointer (some ⟨q, 0, none⟩)) ∧ wx.cell? ⟨px, 1, none⟩ = some (.iface ty pv)) w3.drew) := ⟨t3, g3, p3⟩
  clear t3 g3 p3
  refine wp_region_noPanic ?_
  refine wp_region_held_drew (S := fun wx => wx.cell? ⟨tb, 0, none⟩ = some (.pointer (some ⟨g, 0, none⟩)) ∧ wx.cell? ⟨g, 1, none⟩ = some (.pointer (some ⟨q, 0, none⟩)) ∧ wx.cell? ⟨px, 1, none⟩ = some (.iface ty pv)) (by kernel_rfl) HX0.out (fun hHeld => ?_)
  refine wpAnyH_tk 0 37 (v := ?va0) ?hya0 ?_
  case hya0 => intro oi ho; simp only [List.getElem?_toArray, List.getElem?_cons_zero, Option.some.injEq] at ho; subst ho; refine Or.inl ⟨by rfl, ?_⟩; intro wx hSw; (try dsimp only at hSw); go_simp; try rfl
  try simp only [Act.put, List.setIfInBounds_toArray, List.set_cons_zero, List.set_cons_succ]
  refine wpAnyH_tk 1 38 (v := ?va1) ?hya1 ?_
  case hya1 => intro oi ho; simp only [List.getElem?_toArray, List.getElem?_cons_succ, List.getElem?_cons_zero, Option.some.injEq] at ho; subst ho; refine Or.inl ⟨by rfl, ?_⟩; intro wx hSw; (try dsimp only at hSw); go_simp; try rfl
  try simp only [Act.put, List.setIfInBounds_toArray, List.set_cons_zero, List.set_cons_succ]
  refine wpAnyH_tk 2 39 (v := ?va2) ?hya2 ?_
  case hya2 => intro oi ho; simp only [List.getElem?_toArray, List.getElem?_cons_succ, List.getElem?_cons_zero, Option.some.injEq] at ho; subst ho; refine Or.inl ⟨by rfl, ?_⟩; intro wx hSw; (try dsimp only at hSw); go_simp; try rfl
  try simp only [Act.put, List.setIfInBounds_toArray, List.set_cons_zero, List.set_cons_succ]
  refine wpAnyH_tk 3 40 (v := ?va3) ?hya3 ?_
  case hya3 => intro oi ho; simp only [List.getElem?_toArray, List.getElem?_cons_succ, List.getElem?_cons_zero, Option.some.injEq] at ho; subst ho; refine Or.inl ⟨by rfl, ?_⟩; intro wx hSw; (try dsimp only at hSw); go_simp; try rfl
  try simp only [Act.put, List.setIfInBounds_toArray, List.set_cons_zero, List.set_cons_succ]
  refine wpAnyH_tk 4 41 (v := ?va4) ?hya4 ?_
  case hya4 => intro oi ho; simp only [List.getElem?_toArray, List.getElem?_cons_succ, List.getElem?_cons_zero, Option.some.injEq] at ho; subst ho; refine Or.inl ⟨by rfl, ?_⟩; intro wx hSw; (try dsimp only at hSw); go_simp; try rfl
  try simp only [Act.put, List.setIfInBounds_toArray, List.set_cons_zero, List.set_cons_succ]
  refine wpAnyH_tk 5 42 (v := ?va5) ?hya5 ?_
  case hya5 => intro oi ho; simp only [List.getElem?_toArray, List.getElem?_cons_succ, List.getElem?_cons_zero, Option.some.injEq] at ho; subst ho; refine Or.inl ⟨by rfl, ?_⟩; intro wx hSw; (try dsimp only at hSw); go_simp; try rfl
  try simp only [Act.put, List.setIfInBounds_toArray, List.set_cons_zero, List.set_cons_succ]
  refine wpAnyH_tk 6 43 (v := ?va6) ?hya6 ?_
  case hya6 => intro oi ho; simp only [List.getElem?_toArray, List.getElem?_cons_succ, List.getElem?_cons_zero, Option.some.injEq] at ho; subst ho; refine Or.inl ⟨by rfl, ?_⟩; intro wx hSw; (try dsimp only at hSw); go_simp; try rfl
  try simp only [Act.put, List.setIfInBounds_toArray, List.set_cons_zero, List.set_cons_succ]
  refine wpAnyH_tk 7 44 (v := ?va7) ?hya7 ?_
  case hya7 => intro oi ho; simp only [List.getElem?_toArray, List.getElem?_cons_succ, List.getElem?_cons_zero, Option.some.injEq] at ho; subst ho; refine Or.inl ⟨by rfl, ?_⟩; intro wx hSw; (try dsimp only at hSw); go_simp; try rfl
  try simp only [Act.put, List.setIfInBounds_toArray, List.set_cons_zero, List.set_cons_succ]
  refine wpAnyH_tk 8 45 (v := ?va8) ?hya8 ?_
  case hya8 => intro oi ho; simp only [List.getElem?_toArray, List.getElem?_cons_succ, List.getElem?_cons_zero, Option.some.injEq] at ho; subst ho; refine Or.inl ⟨by rfl, ?_⟩; intro wx hSw; (try dsimp only at hSw); go_simp; try rfl
  try simp only [Act.put, List.setIfInBounds_toArray, List.set_cons_zero, List.set_cons_succ]
  refine wpAnyH_cm 9 ?_; intro o ho K hK; simp only [List.getElem?_toArray, List.getElem?_cons_succ, List.getElem?_cons_zero, Option.some.injEq] at ho; subst ho
  go_simp
  refine HLY.out.mono ?_
  rintro e4 w4 ⟨v4, rfl, b, s4, t4, L, rfl, l1, l2, l3, l4, l5, l6⟩
  have HL1 := hide l1
  have HL2 := hide l2
  have HL3 := hide l3
  have HL4 := hide l4
  have HL5 := hide l5
  have HL6 := hide l6
  have HG4 : Hid (w4.heap[g]? = some (.cells cs 81 (0, 0))) := l6.2.1 g cs _ _ (show w3.drew.heap[g]? = _ from HG3.out) (by decide)
  have HTB4 : Hid (w4.heap[tb]? = some (.cells #[.pointer (some ⟨g, 0, none⟩)] ty1 (0, 0))) := l6.2.1 tb _ _ _ (show w3.drew.heap[tb]? = _ from HF3.out.nt HTB.out HNT.out) HNT.out
  have HX1 : Hid ((fun wx => wx.cell? ⟨tb, 0, none⟩ = some (.pointer (some ⟨g, 0, none⟩)) ∧ wx.cell? ⟨g, 1, none⟩ = some (.pointer (some ⟨q, 0, none⟩)) ∧ wx.cell? ⟨px, 1, none⟩ = some (.iface ty pv)) w4) := by
    obtain ⟨gv, lv, k1, k2, k3, k4⟩ := l5.hx
    exact ⟨cell_blk HTB4.out, (cell_blk HG4.out).trans HT.out.c1, cell_blk k1⟩
  clear l1 l2 l3 l4 l5 l6 hHeld
  refine hK.out _ _ HX1.out (fun hHeld => ?_)
  clear hK K
  try simp only [Act.put, List.setIfInBounds_toArray, List.set_cons_zero, List.set_cons_succ]
  refine wpAnyH_tk 10 36 (v := ?va10) ?hya10 ?_
  case hya10 => intro oi ho; simp only [List.getElem?_toArray, List.getElem?_cons_succ, List.getElem?_cons_zero, Option.some.injEq] at ho; subst ho; refine Or.inl ⟨by rfl, ?_⟩; intro wx hSw; (try dsimp only at hSw); go_simp; try rfl
  try simp only [Act.put, List.setIfInBounds_toArray, List.set_cons_zero, List.set_cons_succ]
  refine wpAnyH_tk 11 47 (v := ?va11) ?hya11 ?_
  case hya11 => intro oi ho; simp only [List.getElem?_toArray, List.getElem?_cons_succ, List.getElem?_cons_zero, Option.some.injEq] at ho; subst ho; refine Or.inl ⟨by rfl, ?_⟩; intro wx hSw; (try dsimp only at hSw); go_simp; try rfl
  try simp only [Act.put, List.setIfInBounds_toArray, List.set_cons_zero, List.set_cons_succ]
  refine wpAnyH_tk 12 48 (v := ?va12) ?hya12 ?_
  case hya12 => intro oi ho; simp only [List.getElem?_toArray, List.getElem?_cons_succ, List.getElem?_cons_zero, Option.some.injEq] at ho; subst ho; refine Or.inl ⟨by rfl, ?_⟩; intro wx hSw; (try dsimp only at hSw); go_simp; try rfl
  try simp only [Act.put, List.setIfInBounds_toArray, List.set_cons_zero, List.set_cons_succ]
  refine wpAnyH_tk 13 4 (v := ?va13) ?hya13 ?_
  case hya13 => intro oi ho; simp only [List.getElem?_toArray, List.getElem?_cons_succ, List.getElem?_cons_zero, Option.some.injEq] at ho; subst ho; refine Or.inl ⟨by rfl, ?_⟩; intro wx hSw; (try dsimp only at hSw); go_simp; try rfl
  try simp only [Act.put, List.setIfInBounds_toArray, List.set_cons_zero, List.set_cons_succ]
  refine wpAnyH_tk 14 5 (v := ?va14) ?hya14 ?_
  case hya14 => intro oi ho; simp only [List.getElem?_toArray, List.getElem?_cons_succ, List.getElem?_cons_zero, Option.some.injEq] at ho; subst ho; refine Or.inl ⟨by rfl, ?_⟩; intro wx hSw; (try dsimp only at hSw); go_simp; try rfl
  try simp only [Act.put, List.setIfInBounds_toArray, List.set_cons_zero, List.set_cons_succ]
  refine wpAnyH_done (by kernel_rfl) ?_ _
  refine NoPanic.normal ?_
  clear hHeld HX0 HX1 HLY
  have t4x : w4.cell? ⟨tb, 0, none⟩ = some (.pointer (some ⟨g, 0, none⟩)) := cell_blk HTB4.out
  have hLn : L.length < 100000 := by exact Nat.lt_of_le_of_lt (HSM.out _ _ _ 0 0 HL2.out) (by decide)
  have HTK := hide (take_ok (root := BT.id b) hgB HL3.out HG4.out HT.out HL5.out HGO.out (by rw [List.nil_append]; exact gw_lt HL2.out hsl) HGL.out (by rw [List.nil_append]; exact hLn))
  go_wp2_with fail
  refine HTK.out.mono ?_
  rintro e5 w5 ⟨rfl, cs', k1, k2, k3⟩
  rw [List.nil_append] at k2
  have HK1 := hide k1
  have HK2 := hide k2
  have HK3 := hide k3
  clear k1 k2 k3 t4x HTK
  go_wp2
  go_ret
  refine ⟨rfl, b, s4, t4, L, cs', HL1.out, HL2.out, HL3.out.exT HK3.out HG4.out, HL4.out, HK1.out, HK2.out, ((HF3.out.1.trans HL6.out.1).trans HK3.out.1), fun k cs0 t0 fz k1 k2 k3 => ?_⟩
  have m1 := HL6.out.2.1 k cs0 t0 fz (show w3.drew.heap[k]? = _ from HF3.out.nt k1 k2) k2
  rw [HK3.out.2 k (Array.getElem?_eq_some_iff.1 m1).1 (by simpa using k3), m1]
end Go.Proofs.YtnfponcadkmfjabGreat
set_option linter.unusedVariables false
namespace Go.Proofs.YtnfponcadkmfjabGreat
open Go.RowKit
theorem Ex.keepX {B g k : Nat} {w w' : World} {cs cs' : Array Value} {t T0 : TypeId} {fz fz0 : Nat × Nat} (h : Ex B [g] w w') (hg : w.heap[g]? = some (.cells cs T0 fz0)) (hk : w.heap[k]? = some (.cells cs' t fz)) (ht : t ≠ T0) : w'.heap[k]? = some (.cells cs' t fz) := by
  rw [h.2 k (Array.getElem?_eq_some_iff.1 hk).1 ?_, hk]
  intro q9
  simp only [List.mem_singleton] at q9
  subst q9
  rw [hg] at hk
  simp only [Option.some.injEq, Obj.cells.injEq] at hk
  exact ht hk.2.1.symm
theorem ST.exE [Gd] {B p q g : Nat} {s : DS} {t : PS} {w w' : World} {cs : Array Value} (h : ST B p q s t w) (f : Ex B [g] w w') (hg : w.heap[g]? = some (.cells cs 28 (0, 0))) : ST B p q s t w' := by
  obtain ⟨h1, gs, h2⟩ := h
  refine ⟨?_, gs, f.keepX hg h2.hq (by decide), f.keepX hg h2.hs (by decide), h2.qB, h2.gB, h2.ok⟩
  exact h1.of_stay (fun k cs t e ht => f.keepX hg e (by rcases ht with rfl | rfl | rfl | rfl | rfl <;> decide))
set_option maxRecDepth 100000 in
set_option maxHeartbeats 4000000 in
theorem change_ok [Gd] {B p q g hf : Nat} {s : DS} {t : PS} {w : World} {cs : Array Value} {now last : StT} {sv : Value} {left d n : Int} {cap : Array Value} {gone : List Nat} {h : Nat} {e : ED h} (hg0 : Gd.g = none) (hST : ST B p q s t w) (hB : B ≤ w.heap.size) (hgB : B ≤ g) (hg : w.heap[g]? = some (.cells cs 81 (0, 0))) (hT : TV cs p q now last sv left false)
    (hcf : ∀ (v : Value) (ww : World), (callFunc hf (#[v] ++ cap)).run Tryz.prog ww = .ok (.enter hf (#[v] ++ cap)) ww)
    (hHow : ∀ (w1 : World) (px : Nat), B ≤ px → Below w.heap.size w w1 → EV B w1 px q (.iface 105 (.int .i64 now.root)) now.depth now.keys [] → ST B p q s t w1 → B ≤ w1.heap.size → Calls Tryz.prog hf (#[.pointer (some ⟨px, 0, none⟩)] ++ cap) w1 fun e' w' => e' = .returned (.bool true) ∧ ∃ rv S, EV B w' px q rv d n gone ∧ NV B w1.heap.size w' h e S rv ∧ S.Nodup ∧ FE B w1 w')
    (hlf : s.life = t.life) (hdn : s.down = false) (haf : s.after < 1) (hl1 : s.life < 100000) (hm : s.m + frE h e ≤ 100000) (hsn : t.st.length = s.n) (hf1 : frE h e ≤ 1000) (hfr : frE h e ≤ cntF t.st) (hon : OnE s t h e) (hgo : ∀ x ∈ gone, x < 4096) (hgl : gone.length < 100000) :
    Calls Tryz.prog 29 #[.pointer (some ⟨g, 0, none⟩), .func (Fn.func hf) #[] cap] w fun e' w' => e' = .returned (.int .i64 0) ∧ ChR B p q g s t w now last sv d n gone h e w' := by
  have hmf : ∀ (fn : Fn) (first cap : Array Value) (w : World), (Instr.makeFunc fn first cap).run Tryz.prog w = .ok (.func fn first cap) w := fun _ _ _ _ => rfl
  have hgl' := (Array.getElem?_eq_some_iff.1 hg).1
  have x1 : Hid ((w.alloc (.cells #[.pointer (some ⟨g, 0, none⟩)] 25)).heap[w.heap.size]? = some (.cells #[.pointer (some ⟨g, 0, none⟩)] 25 (0, 0))) := heap_alloc_new w _
  have b1 := below_box w (.cells #[.pointer (some ⟨g, 0, none⟩)] 25)
  have e1 : (w.alloc (.cells #[.pointer (some ⟨g, 0, none⟩)] 25)).heap.size = w.heap.size + 1 := Array.size_push _
  have HCR : Hid (Calls Tryz.prog 53 #[.func (Fn.func 54) #[] #[.pointer (some ⟨w.heap.size, 0, none⟩), .pointer (some ⟨w.heap.size + 1, 0, none⟩)]] ((w.alloc (.cells #[.pointer (some ⟨g, 0, none⟩)] 25)).alloc (.cells #[.func (Fn.func hf) #[] cap] 71)) fun e' w' => e' = .returned (.int .i64 0) ∧ ChR B p q g s t w now last sv d n gone h e w') := by
    generalize hw1 : (w.alloc (.cells #[.pointer (some ⟨g, 0, none⟩)] 25)) = w1 at *
    have x2 : (w1.alloc (.cells #[.func (Fn.func hf) #[] cap] 71)).heap[w1.heap.size]? = some (.cells #[.func (Fn.func hf) #[] cap] 71 (0, 0)) := heap_alloc_new w1 _
    have b2 := below_box w1 (.cells #[.func (Fn.func hf) #[] cap] 71)
    generalize hw2 : (w1.alloc (.cells #[.func (Fn.func hf) #[] cap] 71)) = w2 at *
    have x3 : (w2.alloc (.cells #[.int .i64 0] 28)).heap[w2.heap.size]? = some (.cells #[.int .i64 0] 28 (0, 0)) := heap_alloc_new w2 _
    have b3 := below_box w2 (.cells #[.int .i64 0] 28)
    have b12 : Below w.heap.size w w2 := b1.trans (b2.mono b1.size)
    have b13 : Below w.heap.size w (w2.alloc (.cells #[.int .i64 0] 28)) := b12.trans (b3.mono b12.size)
    have hbx : B ≤ w2.heap.size := Nat.le_trans hB b12.size
    have y1 := ((b2.block w.heap.size (by omega)).trans x1.out)
    have y1' := ((b3.block w.heap.size (Array.getElem?_eq_some_iff.1 y1).1).trans y1)
    have y2' := ((b3.block w1.heap.size (Array.getElem?_eq_some_iff.1 x2).1).trans x2)
    rw [e1] at y2'
    have hC := change1_ok (w := w2.alloc (.cells #[.int .i64 0] 28)) hg0 (hST.later b13) (Nat.le_trans hB b13.size) hgB ((b13.block g hgl').trans hg) hT y1' y2' (by decide) hcf (fun wx px k1 k2 => hHow wx px k1 (b13.trans (k2.mono b13.size))) hlf hdn haf hl1 hm hsn hf1 hfr hon hgo hgl
    have hgs : g < w2.heap.size := Nat.lt_of_lt_of_le hgl' b12.size
    refine (caught_ret (w := w2) (P := fun r ww => r = 0 ∧ ChR B p q g s t (w2.alloc (.cells #[.int .i64 0] 28)) now last sv d n gone h e ww) (fun ww => by rfl) (hC.mono ?_)).mono ?_
    · rintro e9 w9 ⟨rfl, hc⟩
      refine ⟨0, rfl, ⟨rfl, hc⟩, ?_⟩
      obtain ⟨b, s', t', L, cs', k1, k2, k3, k4, k5, k6, k7⟩ := hc
      exact k7.2 _ _ _ _ x3 (by decide) (by omega)
    · rintro e9 w9 ⟨r, w8, rfl, ⟨rfl, hc⟩, rfl⟩
      refine ⟨rfl, ?_⟩
      obtain ⟨b, s', t', L, cs', k1, k2, k3, k4, k5, k6, k7⟩ := hc
      have x9 := k7.2 _ _ _ _ x3 (by decide) (by omega)
      have hex : Ex B [w2.heap.size] w8 (w8.setCell ⟨w2.heap.size, 0, none⟩ (.int .i64 0)) := Ex.set hbx
      refine ⟨b, s', t', L, cs', k1, k2, k3.exE hex x9, k4, hex.keepX x9 k5 (by decide), k6, (b13.mono hB).trans (k7.1.trans hex.1), fun k cs0 t0 fz m1 m2 m3 => ?_⟩
      have m4 := k7.2 k cs0 t0 fz ((b13.block k (Array.getElem?_eq_some_iff.1 m1).1).trans m1) m2 m3
      have hkl := (Array.getElem?_eq_some_iff.1 m1).1
      have hs2 := b12.size
      rw [hex.2 k (Array.getElem?_eq_some_iff.1 m4).1 (by simp; omega), m4]
  clear hST hg hT hcf hHow hlf hdn haf hl1 hm hsn hf1 hfr hon hgo hgl x1 b1
  go_enter Tryz.func29, Tryz.ntmps29
  go_wp2_with fail
  refine HCR.out.mono ?_
  rintro e9 w9 ⟨rfl, hc⟩
  have HC := hide hc
  clear hc
  go_wp2
  go_ret
  exact ⟨rfl, HC.out⟩
end Go.Proofs.YtnfponcadkmfjabGreat
set_option linter.unusedVariables false
namespace Go.Proofs.YtnfponcadkmfjabGreat
open Go.RowKit
structure TM [Gd] (B p q g : Nat) (s : DS) (t : PS) (now last : StT) (sv : Value) (left : Int) (w : World) : Prop where
  st : ST B p q s t w
  bw : B ≤ w.heap.size
  bg : B ≤ g
  tv : ∃ cs, w.heap[g]? = some (.cells cs 81 (0, 0)) ∧ TV cs p q now last sv left false
  lf : s.life = t.life
  dn : s.down = false
  af : s.after < 1
  l1 : s.life < 100000
  sn : t.st.length = s.n
  hd : t.st.getD 0 0 = 0 ∧ t.st.getD 1 0 = 0
theorem TM.later [Gd] {B p q g : Nat} {s : DS} {t : PS} {now last : StT} {sv : Value} {left : Int} {w w' : World} (h : TM B p q g s t now last sv left w) (hb : Below w.heap.size w w') : TM B p q g s t now last sv left w' := by
  obtain ⟨cs, h1, h2⟩ := h.tv
  exact ⟨h.st.later hb, Nat.le_trans h.bw hb.size, h.bg, ⟨cs, (hb.block g (Array.getElem?_eq_some_iff.1 h1).1).trans h1, h2⟩, h.lf, h.dn, h.af, h.l1, h.sn, h.hd⟩
theorem TM.sl [Gd] {B p q g : Nat} {s : DS} {t : PS} {now last : StT} {sv : Value} {left : Int} {w : World} (h : TM B p q g s t now last sv left w) : t.st.length ≤ 4096 := by
  obtain ⟨_, gs, h2⟩ := h.st
  exact h2.ok.sl
theorem Gw.heads {s s' : DS} {t t' : PS} {L : List Nat} (g : Gw s t s' t' L) (h : t.st.getD 0 0 = 0 ∧ t.st.getD 1 0 = 0) : t'.st.getD 0 0 = 0 ∧ t'.st.getD 1 0 = 0 :=
  ⟨(g.old 0 fun q => by have := (g.new 0 q).1; omega).trans h.1, (g.old 1 fun q => by have := (g.new 1 q).1; omega).trans h.2⟩
theorem id_mem : ∀ {h : Nat} (b : BT h), BT.id b ∈ pgB h b
  | 0, _ => List.mem_singleton.2 rfl
  | _ + 1, _ => List.mem_cons_self
theorem ChR.tm [Gd] {B p q g : Nat} {s : DS} {t : PS} {w w' : World} {now last : StT} {sv : Value} {left d n : Int} {gone : List Nat} {h : Nat} {e : ED h} (hM : TM B p q g s t now last sv left w) (hc : ChR B p q g s t w now last sv d n gone h e w') :
    ∃ (b : BT h) (s' : DS) (t' : PS) (L : List Nat), LdR h e b L ∧ Gw s t s' t' L ∧ OnD s' t' h b ∧ TM B p q g s' t' ⟨(BT.id b : Nat), d, n, L.foldl adP (gone.foldl drP now.pgs)⟩ last sv (cntF t'.st : Nat) w' ∧ ChF B g w w' := by
  obtain ⟨b, s', t', L, cs', k1, k2, k3, k4, k5, k6, k7⟩ := hc
  exact ⟨b, s', t', L, k1, k2, k4, ⟨k3, Nat.le_trans hM.bw k7.1.size, hM.bg, ⟨cs', k5, k6⟩, by rw [k2.life, k2.tlife]; exact hM.lf, by rw [k2.down]; exact hM.dn, by rw [k2.after]; exact hM.af, by rw [k2.life]; exact hM.l1, by rw [k2.len, k2.n]; exact hM.sn, k2.heads hM.hd⟩, k7⟩
def PutT [Gd] (B p q g : Nat) (s : DS) (t : PS) (now last : StT) (sv : Value) (l : List It) (it : It) (w w' : World) : Prop :=
  ∃ (s' : DS) (t' : PS) (now' : StT) (L : List Nat), Gw s t s' t' L ∧ TM B p q g s' t' now' last sv (cntF t'.st : Nat) w' ∧ Tr s' t' now' (putL l it) ∧ (L.length : Int) ≤ 2 * now.depth + 1 ∧ ChF B g w w'
set_option maxRecDepth 100000 in
set_option maxHeartbeats 1000000 in
theorem put_change [Gd] {B p q g kb vb : Nat} {s : DS} {t : PS} {w : World} {now last : StT} {sv : Value} {left : Int} {l : List It} (hg0 : Gd.g = none) (hM : TM B p q g s t now last sv left w) (hTr : Tr s t now l) (hl : l.length < 100000) (it : It) (hit : ItOk it) {ka va : Option Addr} {kn kc vn vc : Nat} (hkn : it.1.length = kn) (hvn : it.2.length = vn) (hk : BK B w ka kn kc it.1) (hv : BK B w va vn vc it.2) (hroom : 2 * now.depth + 1 ≤ ((cntF t.st : Nat) : Int)) (hdep : now.depth ≤ 400) (hm : s.m + 1000 ≤ 100000)
    (hkb : w.heap[kb]? = some (.cells #[.slice ka kn kc] 23 (0, 0))) (hvb : w.heap[vb]? = some (.cells #[.slice va vn vc] 23 (0, 0))) :
    Calls Tryz.prog 29 #[.pointer (some ⟨g, 0, none⟩), .func (Fn.func 30) #[] #[.pointer (some ⟨kb, 0, none⟩), .pointer (some ⟨vb, 0, none⟩)]] w fun e w' => e = .returned (.int .i64 0) ∧ PutT B p q g s t now last sv l it w w' := by
  obtain ⟨cs, hg, hT⟩ := hM.tv
  have hcf : ∀ (v : Value) (ww : World), (callFunc 30 (#[v] ++ #[.pointer (some ⟨kb, 0, none⟩), .pointer (some ⟨vb, 0, none⟩)])).run Tryz.prog ww = .ok (.enter 30 (#[v] ++ #[.pointer (some ⟨kb, 0, none⟩), .pointer (some ⟨vb, 0, none⟩)])) ww := fun v ww => by rfl
  have hcell : ∀ w1, Below w.heap.size w w1 → w1.cell? ⟨kb, 0, none⟩ = some (.slice ka kn kc) ∧ w1.cell? ⟨vb, 0, none⟩ = some (.slice va vn vc) := fun w1 hb => ⟨(hb.cell (p := ⟨kb, 0, none⟩) (Array.getElem?_eq_some_iff.1 hkb).1).trans (cell_blk hkb), (hb.cell (p := ⟨vb, 0, none⟩) (Array.getElem?_eq_some_iff.1 hvb).1).trans (cell_blk hvb)⟩
  rcases hTr with ⟨r1, r2, r3, rfl, r5⟩ | ⟨h, b, e1, e2, e3, e4, e5, e6, e7, e8, e9⟩
  · have hr : rootE 0 (Sum.inr [it] : ED 0) = ⟨0, Sum.inr [it]⟩ := if_neg (show ¬ 4 < 1 by decide)
    have hits : ItsOk [it] := ⟨Nat.le_refl _, show 1 ≤ 4 by decide, fun x hx => by rw [List.mem_singleton] at hx; rw [hx]; exact hit, List.pairwise_singleton _ _⟩
    have hfr : frE 0 (Sum.inr [it] : ED 0) = 1 := rfl
    have hC := change_ok (B := B) (h := 0) (e := (Sum.inr [it] : ED 0)) (d := 1) (n := 1) (gone := []) (hf := 30) (cap := #[.pointer (some ⟨kb, 0, none⟩), .pointer (some ⟨vb, 0, none⟩)]) hg0 hM.st hM.bw hM.bg hg hT hcf (fun w1 px k1 k2 k3 k4 k5 => by
      have c := hcell w1 k2
      rw [r1, r2, r3] at k3
      have hP := put_none (w := w1) (n := 0) k3 k5 (Int.le_refl _) (by decide) it hkn hvn (hk.later k2 hM.bw) (hv.later k2 hM.bw)
      refine (put1_any c.1 c.2 hP).mono ?_
      rintro e9 w9 ⟨rfl, rv, S, m1, m2, m3, m4⟩
      rw [hr] at m2
      exact ⟨rfl, rv, S, m1, m2, m3, m4⟩) hM.lf hM.dn hM.af hM.l1 (by rw [hfr]; omega) hM.sn (by rw [hfr]; decide) (by rw [hfr]; omega) hits (fun x hx => by simp at hx) (by simp)
    refine hC.mono ?_
    rintro e9 w9 ⟨rfl, hc⟩
    obtain ⟨b, s', t', L, k1, k2, k3, k4, k5⟩ := hc.tm hM
    have hlen := k1.len
    refine ⟨rfl, s', t', _, L, k2, k4, Or.inr ⟨0, b, rfl, rfl, rfl, ?_, List.pairwise_singleton _ _, k3, ?_, ?_, ?_⟩, ?_, k5⟩
    · exact k1.fl
    · exact k1.sh (show (1 : Nat) ≤ 4 by decide)
    · rw [k1.it]; exact Nat.le_refl 1
    · refine r5.step (gone := []) (old := []) (List.Perm.refl _) ?_ k2.nd (gw_lt k2 hM.sl) fun x _ => List.not_mem_nil
      exact k1.pg
    · rw [hlen, hfr]; omega
  · have ho := on_put it hit e4 e5 e6 e7
    have hfr := fr_put2 (b := b) it
    have hpl := pth_len b it.1
    have hh : h ≤ 399 := by omega
    have hC := change_ok (B := B) (h := (rootE h (putE h (old b) it)).1) (e := (rootE h (putE h (old b) it)).2) (d := (if 4 < (itE (putE h (old b) it)).length then ((h + 1 : Nat) : Int) + 1 else ((h + 1 : Nat) : Int))) (n := cntN ((l.length : Nat) : Int) (nwB h b it.1)) (gone := pthB h b it.1) (hf := 30) (cap := #[.pointer (some ⟨kb, 0, none⟩), .pointer (some ⟨vb, 0, none⟩)]) hg0 hM.st hM.bw hM.bg hg hT hcf (fun w1 px k1 k2 k3 k4 k5 => by
      have c := hcell w1 k2
      rw [e1, e2, e3] at k3
      have hP := put_some (w := w1) (gone := []) hg0 hM.lf hM.dn b k3 rfl k4 k5 (by simp; omega) (by omega) (by omega) e6 e7 it hkn hvn (hk.later k2 hM.bw) (hv.later k2 hM.bw)
      refine (put1_any c.1 c.2 hP).mono ?_
      rintro e9 w9 ⟨rfl, rv, S, m1, m2, m3, m4⟩
      exact ⟨rfl, rv, S, m1, m2, m3, m4⟩) hM.lf hM.dn hM.af hM.l1 (by omega) hM.sn (by omega) (by omega) ho.2.2.2 (fun x hx => Nat.lt_of_lt_of_le (e6.pth it.1 x hx) (by rw [← hM.sn]; exact hM.sl)) (by omega)
    refine hC.mono ?_
    rintro e9 w9 ⟨rfl, hc⟩
    obtain ⟨b', s', t', L, k1, k2, k3, k4, k5⟩ := hc.tm hM
    have hlen := k1.len
    exact ⟨rfl, s', t', _, L, k2, k4, Tr.put hit e4 e5 e6 e7 e9 hM.sl k1 k2 k3, by omega, k5⟩
set_option maxRecDepth 100000 in
set_option maxHeartbeats 4000000 in
theorem Put_ok [Gd] {B p q g : Nat} {s : DS} {t : PS} {w : World} {now last : StT} {sv : Value} {left : Int} {l : List It} (hg0 : Gd.g = none) (hM : TM B p q g s t now last sv left w) (hTr : Tr s t now l) (hl : l.length < 100000) (it : It) (hit : ItOk it) {ka va : Option Addr} {kn kc vn vc : Nat} (hkn : it.1.length = kn) (hvn : it.2.length = vn) (hk : BK B w ka kn kc it.1) (hv : BK B w va vn vc it.2) (hroom : 2 * now.depth + 1 ≤ ((cntF t.st : Nat) : Int)) (hdep : now.depth ≤ 400) (hm : s.m + 1000 ≤ 100000) :
    Calls Tryz.prog 8 #[.pointer (some ⟨g, 0, none⟩), .slice ka kn kc, .slice va vn vc] w fun e w' => e = .returned (.int .i64 0) ∧ PutT B p q g s t now last sv l it w w' := by
  have hmf : ∀ (fn : Fn) (first cap : Array Value) (w : World), (Instr.makeFunc fn first cap).run Tryz.prog w = .ok (.func fn first cap) w := fun _ _ _ _ => rfl
  have hk0 : ¬ (kn : Int) = 0 := by
    intro q9
    have : it.1.length = 0 := by omega
    exact hit.k0 (List.eq_nil_of_length_eq_zero this)
  have hk6 := hit.k1
  have hv1 := hit.v1
  rw [hkn] at hk6
  rw [hvn] at hv1
  have xv : ¬ (1800 : Int) < (vn : Int) := by omega
  have b1 := below_box w (.cells #[.slice ka kn kc] 23)
  have b2 := below_box (w.alloc (.cells #[.slice ka kn kc] 23)) (.cells #[.slice va vn vc] 23)
  have x1 : (w.alloc (.cells #[.slice ka kn kc] 23)).heap[w.heap.size]? = some (.cells #[.slice ka kn kc] 23 (0, 0)) := heap_alloc_new w _
  have x2 := heap_alloc_new (w.alloc (.cells #[.slice ka kn kc] 23)) (.cells #[.slice va vn vc] 23)
  have e1 : (w.alloc (.cells #[.slice ka kn kc] 23)).heap.size = w.heap.size + 1 := Array.size_push _
  have b12 := b1.trans (b2.mono b1.size)
  have x1' := (b2.block w.heap.size (by omega)).trans x1
  rw [e1] at x2
  have HM := hide hM
  have HTR := hide hTr
  have HK := hide hk
  have HV := hide hv
  have HBB := hide b12
  have HX1 := hide x1'
  have HX2 := hide x2
  have HRF := hide (fun (ww : World) (hb : Below w.heap.size w ww) => by
    obtain ⟨cs, hg, hT⟩ := (hM.later hb).tv
    have hr := refusal_any (hM.later hb).st hM.lf hg hT ka kn kc
    rw [if_neg (by omega), if_neg (by omega)] at hr
    exact hr)
  have HPC := hide (fun (ww : World) (hb : Below w.heap.size w ww) (y1 : ww.heap[w.heap.size]? = some (.cells #[.slice ka kn kc] 23 (0, 0))) (y2 : ww.heap[w.heap.size + 1]? = some (.cells #[.slice va vn vc] 23 (0, 0))) => put_change hg0 (hM.later hb) hTr hl it hit hkn hvn (hk.later hb hM.bw) (hv.later hb hM.bw) hroom hdep hm y1 y2)
  have c1 : ((w.alloc (.cells #[.slice ka kn kc] 23)).alloc (.cells #[.slice va vn vc] 23)).cell? ⟨w.heap.size, 0, none⟩ = some (.slice ka kn kc) := cell_blk x1'
  clear hM hTr hk hv hl hit hroom hdep hm b1 b2 x1 x2 b12 x1' hk6 hv1 hkn hvn
  go_enter Tryz.func8, Tryz.ntmps8
  go_wp2_with fail
  refine (HRF.out _ HBB.out).mono ?_
  rintro e9 w1 ⟨rfl, hb1⟩
  have HB1 := hide (HBB.out.trans (hb1.mono HBB.out.size))
  have y1 := (hb1.block _ (Array.getElem?_eq_some_iff.1 HX1.out).1).trans HX1.out
  have y2 := (hb1.block _ (Array.getElem?_eq_some_iff.1 HX2.out).1).trans HX2.out
  have HCH := hide (HPC.out w1 HB1.out y1 y2)
  have c2 : w1.cell? ⟨w.heap.size + 1, 0, none⟩ = some (.slice va vn vc) := cell_blk y2
  clear hb1 y1 y2 c1
  go_wp2_with fail
  refine HCH.out.mono ?_
  rintro e9 w2 ⟨rfl, hp⟩
  have HP := hide hp
  clear hp
  go_wp2
  go_ret
  refine ⟨rfl, ?_⟩
  obtain ⟨s', t', now', L, k1, k2, k3, k4, k5⟩ := HP.out
  refine ⟨s', t', now', L, k1, k2, k3, k4, (HB1.out.mono HM.out.bw).trans k5.1, fun k cs0 t0 fz m1 m2 m3 => ?_⟩
  exact k5.2 k cs0 t0 fz ((HB1.out.block k (Array.getElem?_eq_some_iff.1 m1).1).trans m1) m2 m3
end Go.Proofs.YtnfponcadkmfjabGreat
