/- slices.Clone of values; schema.Fold. -/
import Derived.Test.YtcophbkgighepaaH7
import Derived.Test.YtcophbkgighepaaE1
set_option linter.unusedVariables false
namespace Go.Proofs.Ytcophbkgighepaa
open Go.RowKit

set_option maxRecDepth 100000 in
set_option maxHeartbeats 2000000 in
theorem vclone_ok {w : World} {a : Option Addr} {n c : Nat} {l : List Val} (h : SV fV 3 w a n c l) (hn : n ≤ 1000) :
    Calls Try.prog 28 #[.slice a n c] w fun e w' => ∃ v, e = .returned v ∧ w'.ownsRow w.heap.size 39 3 v n (l.flatMap fV) ∧ Below w.heap.size w w' := by
  have HL := hide h.hl
  cases a with
  | none =>
    have := h.hn rfl
    have := h.hc
    obtain rfl : n = 0 := by omega
    have e : l = [] := List.eq_nil_of_length_eq_zero h.hl
    subst e
    clear h
    have hq := fun (n c : Nat) (ww : World) => Lib.run_eql_slice_nil (P := Try.prog) ww 26 39 none n c 0 0 Try.underlying26
    go_enter Try.func28, Try.ntmps28
    go_wp2
    go_ret
    exact ⟨_, rfl, own_nil _ _ _ _, Below.refl _ _⟩
  | some x =>
    have HO : Hid ((w.alloc (.cells #[] 39)).ownsRow w.heap.size 39 3 (.slice (some ⟨w.heap.size, 0, none⟩) 0 0) 0 []) := World.ownsRow_lit w #[] 0 (Nat.le_refl _) (by unfold maxLen; omega) rfl
    have HB := hide (below_box w (.cells #[] 39))
    have HV := hide (h.later HB.out)
    clear h
    have hq := fun (n c : Nat) (ww : World) => Lib.run_eql_slice_nil (P := Try.prog) ww 26 39 (some x) n c 0 0 Try.underlying26
    go_enter Try.func28, Try.ntmps28
    go_wp2_with (at_builtin; refine wpList_app_sv fV_len (by omega) fV_one Try.underlying26 info_val rfl (by omega) rfl (.tmp 5) (.tmp 6) rfl (B1 := w.heap.size) (F := []) (G := l) rfl rfl HO.out HV.out (by simp) (by show 0 + n ≤ _; omega) ?_; intro v' w' ho' hb' _; have HO2 := hide ho'; have HB2 := hide (HB.out.trans hb'); clear ho' hb')
    go_ret
    have h2 := HO2.out
    rw [List.nil_append, HL.out] at h2
    exact ⟨v', rfl, h2, HB2.out⟩
theorem fl_set {α : Type} {f : α → List Value} {k : Nat} (hk : ∀ x, (f x).length = k) {j : Nat} {u : Value} (hj : j < k) : ∀ {l : List α} {i : Nat} {x x' : α}, l[i]? = some x → f x' = (f x).set j u → (l.flatMap f).set (i * k + j) u = (l.set i x').flatMap f
  | [], i, x, x', h, _ => by simp at h
  | y :: l, 0, x, x', h, e => by
    simp only [List.getElem?_cons_zero, Option.some.injEq] at h
    subst h
    rw [List.set_cons_zero, List.flatMap_cons, List.flatMap_cons, Nat.zero_mul, Nat.zero_add, List.set_append_left _ _ (by rw [hk]; exact hj), e]
  | y :: l, i + 1, x, x', h, e => by
    rw [List.set_cons_succ, List.flatMap_cons, List.flatMap_cons, List.set_append_right _ _ (by rw [hk, Nat.add_mul]; omega), hk, show (i + 1) * k + j - k = i * k + j by rw [Nat.add_mul]; omega, fl_set hk hj (by simpa using h) e]
theorem own_set {B te k n g c i : Nat} {w : World} {u : Value} {xs : List Value} (h : w.ownsRow B te k (.slice (some ⟨g, 0, none⟩) n c) n xs) (hi : i < n * k) : (w.setCell ⟨g, i, none⟩ u).ownsRow B te k (.slice (some ⟨g, 0, none⟩) n c) n (xs.set i u) := by
  refine ⟨by rw [List.length_set]; exact h.1, ?_⟩
  rcases h.2 with ⟨e, _⟩ | ⟨g', cap', cur, e, h5, h6, h7, h8, h9, h10⟩
  · cases e
  · simp only [Value.slice.injEq, Option.some.injEq, Addr.mk.injEq] at e
    obtain ⟨⟨rfl, _, _⟩, _, rfl⟩ := e
    refine Or.inr ⟨g, c, cur.setIfInBounds i u, rfl, h5, heap_setCell_same _ _ _ _ _ _ h6, h7, h8, by simpa using h9, ?_⟩
    rw [Array.toList_setIfInBounds, List.take_set, h10]
theorem own_mono {B B2 te k n : Nat} {w : World} {v : Value} {xs : List Value} (h : w.ownsRow B te k v n xs) (hb : B2 ≤ B) : w.ownsRow B2 te k v n xs := by
  refine ⟨h.1, ?_⟩
  rcases h.2 with e | ⟨g, cap, cur, e, h5, h6⟩
  · exact Or.inl e
  · exact Or.inr ⟨g, cap, cur, e, Nat.le_trans hb h5, h6⟩
/-- A value with small letters. -/
def foldV (x : Val) : Val := if x.1 = 2 then (x.1, x.2.1, foldS x.2.2) else x
set_option maxRecDepth 100000 in
set_option maxHeartbeats 4000000 in
theorem sfold_ok {w : World} {ca xa : Option Addr} {cl cc xl xc : Nat} {nm : ByteArray} {a : Option Addr} {n c : Nat} {l : List Val} (h : SV fV 3 w a n c l) (hn : n ≤ 1000) (hs : ∀ x ∈ l, x.2.2.size ≤ 1048576) :
    Calls Try.prog 9 #[.agg #[.string nm, .slice ca cl cc, .slice xa xl xc], .slice a n c] w fun e w' => ∃ a' c', e = .returned (.slice a' n c') ∧ SV fV 3 w' a' n c' (l.map foldV) ∧ Below w.heap.size w w' := by
  have hbx := below_box w (.cells #[.string nm, .slice ca cl cc, .slice xa xl xc] 25)
  have HCL := hide (vclone_ok (h.later hbx) hn)
  have HL := hide h.hl
  have HS := hide hs
  have HB1 := hide hbx
  clear h hbx hs
  go_enter Try.func9, Try.ntmps9
  go_wp2_with fail
  refine HCL.out.mono ?_
  rintro e w2 ⟨v2, rfl, ho2, hb2⟩
  have HN0 : Hid (w.heap.size ≤ w2.heap.size) := Nat.le_trans HB1.out.size hb2.size
  have HO2 : Hid (w2.ownsRow w.heap.size 39 3 v2 n (l.flatMap fV)) := own_mono ho2 HB1.out.size
  have HB2 : Hid (Below w.heap.size w w2) := HB1.out.trans (hb2.mono HB1.out.size)
  obtain ⟨a2, c2, e2, hsv2⟩ := own_sv fV_len ho2 HL.out
  subst e2
  clear ho2 hb2 hsv2 HCL HB1
  generalize hn0 : w.heap.size = n0 at *
  go_wp2_with fail
  go_loopg [12] n (fun gh s12 wx => ∃ j : Nat, j + gh = n ∧ s12 = .int .i64 (j : Int) ∧ wx.ownsRow n0 39 3 (.slice a2 n c2) n (((l.take j).map foldV ++ l.drop j).flatMap fV) ∧ Below n0 w wx)
  case atStart => exact ⟨0, by omega, rfl, by simpa using HO2.out, HB2.out⟩
  case round =>
    obtain ⟨j, hj, rfl, hor, hbr⟩ := hrel
    have HOR := hide hor
    have HBR := hide hbr
    clear hor hbr
    by_cases hjn : j < n
    · have xj : (j : Int) < (n : Int) := by omega
      obtain ⟨x, hxj⟩ : ∃ x, l[j]? = some x := ⟨_, List.getElem?_eq_getElem (by rw [HL.out]; exact hjn)⟩
      have hlj : ((l.take j).map foldV).length = j := by rw [List.length_map, List.length_take, HL.out]; omega
      have HAT : Hid (((l.take j).map foldV ++ l.drop j)[j]? = some x) := by
        show _ = _
        rw [List.getElem?_append_right (by omega), hlj, Nat.sub_self, List.getElem?_drop, Nat.add_zero]
        exact hxj
      have HNX : Hid (((l.take j).map foldV ++ l.drop j).set j (foldV x) = (l.take (j + 1)).map foldV ++ l.drop (j + 1)) := by
        show _ = _
        have hd : l.drop j = x :: l.drop (j + 1) := by
          rw [List.drop_eq_getElem_cons (by rw [HL.out]; exact hjn)]
          congr 1
          exact (List.getElem?_eq_some_iff.1 hxj).2
        rw [List.set_append_right _ _ (by omega), hlj, Nat.sub_self, List.take_add_one, hxj, hd, List.set_cons_zero]
        simp
      have HSX : Hid (x.2.2.size ≤ 1048576) := HS.out x (List.mem_of_getElem? hxj)
      obtain ⟨aa, ac, ea, hsv⟩ := own_sv fV_len HOR.out (by rw [List.length_append, hlj, List.length_drop, HL.out]; omega)
      simp only [Value.slice.injEq] at ea
      obtain ⟨rfl, _, rfl⟩ := ea
      obtain ⟨g, o, e0, hg, hcs⟩ := hsv.pl (by omega)
      have ho0 : o = 0 := by
        rcases HOR.out.2 with ⟨e, _⟩ | ⟨g', cap', cur, e, _⟩
        · rw [e0] at e; cases e
        · rw [e0] at e
          simp only [Value.slice.injEq, Option.some.injEq, Addr.mk.injEq] at e
          exact e.1.2.1
      subst ho0 e0
      have y0 : wr.cell? ⟨g, j * 3, none⟩ = some (.int .i64 x.1) := by have := hcs j x HAT.out 0 (by omega); simpa [fV] using this
      have y1 : wr.cell? ⟨g, j * 3 + 1, none⟩ = some (.int .i64 x.2.1) := by have := hcs j x HAT.out 1 (by omega); simpa [fV] using this
      have y2 : wr.cell? ⟨g, j * 3 + 2, none⟩ = some (.string x.2.2) := by have := hcs j x HAT.out 2 (by omega); simpa [fV] using this
      have hbk := below_box wr (.cells #[.int .i64 x.1, .int .i64 x.2.1, .string x.2.2] 39)
      have HR3 : Hid ((wr.alloc (.cells #[.int .i64 x.1, .int .i64 x.2.1, .string x.2.2] 39)).heap[wr.heap.size]? = some (.cells #[.int .i64 x.1, .int .i64 x.2.1, .string x.2.2] 39 (0, 0))) := boxed wr _
      have HO3 := hide (ownsRow_later HOR.out hbk)
      have HNR : Hid (n0 ≤ wr.heap.size) := by show n0 ≤ _; have := HBR.out.size; omega
      have HB3 : Hid (Below n0 w (wr.alloc (.cells #[.int .i64 x.1, .int .i64 x.2.1, .string x.2.2] 39))) := HBR.out.trans (hbk.mono HNR.out)
      have HLT : Hid (g < wr.heap.size) := hg
      clear hcs hsv hbk hlj hg
      by_cases hk2 : x.1 = 2
      · have HFV : Hid (fV (foldV x) = (fV x).set 2 (.string (foldS x.2.2))) := by show fV (foldV x) = _; unfold foldV; rw [if_pos hk2]; rfl
        have hk2' : (x.1 == 2) = true := by rw [hk2]; rfl
        clear hk2
        go_upto_region 5 with fail
        generalize (wr.alloc (.cells #[.int .i64 x.1, .int .i64 x.2.1, .string x.2.2] 39)) = w3 at *
        have z0 : w3.cell? ⟨wr.heap.size, 0, none⟩ = some (.int .i64 x.1) := cell_blk HR3.out
        have z2 : w3.cell? ⟨wr.heap.size, 2, none⟩ = some (.string x.2.2) := cell_blk HR3.out
        have HFD := hide (fold_any x.2.2 w3 HSX.out)
        go_wp2_with fail
        refine HFD.out.mono ?_
        rintro e w4 ⟨rfl, hb4⟩
        have HO4 := hide (ownsRow_later HO3.out hb4)
        have HB4 : Hid (Below n0 w w4) := HB3.out.trans (hb4.mono (by have := blk_lt HR3.out; have := HNR.out; omega))
        obtain ⟨cur, hcur⟩ : ∃ cur, w4.heap[g]? = some (.cells cur 39 (0, 0)) := by
          rcases HO4.out.2 with ⟨e, _⟩ | ⟨g', cap', cur, e, _, h6, _⟩
          · cases e
          · simp only [Value.slice.injEq, Option.some.injEq, Addr.mk.injEq] at e
            rw [e.1.1]
            exact ⟨cur, h6⟩
        have f2 : w4.frozen? ⟨g, j * 3 + 2, none⟩ = false := frz_blk hcur
        have q2 : w4.cell? ⟨g, j * 3 + 2, none⟩ = some (.string x.2.2) := by
          obtain ⟨aa, ac, ea, hsv⟩ := own_sv fV_len HO4.out (by rw [List.length_append, List.length_map, List.length_take, List.length_drop, HL.out]; omega)
          simp only [Value.slice.injEq] at ea
          obtain ⟨rfl, _, rfl⟩ := ea
          obtain ⟨g', o', e0, _, hcs⟩ := hsv.pl (by omega)
          simp only [Option.some.injEq, Addr.mk.injEq] at e0
          obtain ⟨rfl, rfl, _⟩ := e0
          have := hcs j x HAT.out 2 (by omega)
          simpa [fV] using this
        have HO5 : Hid ((w4.setCell ⟨g, j * 3 + 2, none⟩ (.string (foldS x.2.2))).ownsRow n0 39 3 (.slice (some ⟨g, 0, none⟩) n c2) n (((l.take (j + 1)).map foldV ++ l.drop (j + 1)).flatMap fV)) := by
          have h9 := own_set (u := .string (foldS x.2.2)) (i := j * 3 + 2) HO4.out (by omega)
          rw [fl_set fV_len (by omega) HAT.out HFV.out, HNX.out] at h9
          exact h9
        have hge : n0 ≤ g := by
          rcases HO4.out.2 with ⟨e, _⟩ | ⟨g', cap', cur, e, h5, _⟩
          · cases e
          · simp only [Value.slice.injEq, Option.some.injEq, Addr.mk.injEq] at e
            rw [e.1.1]; exact h5
        have HB5 : Hid (Below n0 w (w4.setCell ⟨g, j * 3 + 2, none⟩ (.string (foldS x.2.2)))) := HB4.out.setCell (p := ⟨g, j * 3 + 2, none⟩) hge _
        clear hb4 hcur hge HFD
        go_wp2
        go_roundg (gk - 1)
        case measure => omega
        case rel => exact ⟨j + 1, by omega, rfl, HO5.out, HB5.out⟩
      · have HFV : Hid (foldV x = x) := if_neg hk2
        have hk2' : (x.1 == 2) = false := by simp [hk2]
        have HO5 : Hid ((wr.alloc (.cells #[.int .i64 x.1, .int .i64 x.2.1, .string x.2.2] 39)).ownsRow n0 39 3 (.slice (some ⟨g, 0, none⟩) n c2) n (((l.take (j + 1)).map foldV ++ l.drop (j + 1)).flatMap fV)) := by
          have h9 := HO3.out
          rw [← HNX.out, HFV.out]
          rw [show ((l.take j).map foldV ++ l.drop j).set j x = (l.take j).map foldV ++ l.drop j from by
            apply List.ext_getElem?
            intro t
            rw [List.getElem?_set]
            split
            · rename_i q
              subst q
              rw [if_pos (List.getElem?_eq_some_iff.1 HAT.out).1, HAT.out]
            · rfl]
          exact h9
        clear hk2
        go_wp2
        go_roundg (gk - 1)
        case measure => omega
        case rel => exact ⟨j + 1, by omega, rfl, HO5.out, HB3.out⟩
    · have xj : ¬ (j : Int) < (n : Int) := by omega
      have ej : j = n := by omega
      have HE : Hid ((l.take j).map foldV ++ l.drop j = l.map foldV) := by
        show _ = _
        rw [ej, ← HL.out, List.take_length, List.drop_length, List.append_nil]
      have h9 := HOR.out
      rw [HE.out] at h9
      obtain ⟨aa, ac, ea, hsv⟩ := own_sv fV_len h9 (by rw [List.length_map]; exact HL.out)
      simp only [Value.slice.injEq] at ea
      obtain ⟨rfl, _, rfl⟩ := ea
      have HSV := hide hsv
      clear hsv h9 ej
      go_wp2
      go_ret
      exact ⟨a2, c2, rfl, HSV.out, by first | exact HBR.out | (rw [hn0]; exact HBR.out)⟩
end Go.Proofs.Ytcophbkgighepaa
