/- The walk of the law KeysFold: whatever text of the bulk, it returns true and writes nothing that was there. -/
import Derived.Test.YtnmejnkdgeljeaaDoorF2
import Derived.Test.YtnmejnkdgeljeaaDoorE3
set_option linter.unusedVariables false
namespace Go.Proofs.YtnmejnkdgeljeaaDoor
open Go.RowKit

theorem bl_mk (l : List UInt8) : bl ⟨l.toArray⟩ = l := rfl
theorem fold_runes {s : ByteArray} {rs : List Nat} (h : runes (bl s) = some rs) : runes (bl (foldS s)) = some (rs.map foldR) := by
  have hv := ((runes_iff (bl s) rs).1 h).2
  rw [foldS, h]
  refine (runes_iff _ _).2 ⟨rfl, ?_⟩
  intro r hm
  simp only [List.mem_map] at hm
  obtain ⟨q, hq, rfl⟩ := hm
  exact foldR_vr (hv q hq)
theorem fold_none {s : ByteArray} (h : runes (bl s) = none) : foldS s = ⟨#[]⟩ := by rw [foldS, h]
theorem fold_twice (s : ByteArray) : foldS (foldS s) = foldS s := by
  cases h : runes (bl s) with
  | none => rw [fold_none h]; rfl
  | some rs =>
    have h2 := fold_runes h
    have e : foldS (foldS s) = ⟨(encs ((rs.map foldR).map foldR)).toArray⟩ := by rw [foldS, h2]
    have e2 : foldS s = ⟨(encs (rs.map foldR)).toArray⟩ := by rw [foldS, h]
    have e3 : (rs.map foldR).map foldR = rs.map foldR := by rw [List.map_map]; apply List.map_congr_left; intro r _; exact foldR_twice r
    rw [e, e2, e3]
theorem enc_fold_len (r : Nat) : (enc (foldR r)).length = (enc r).length := by
  by_cases g : great r
  · have e : foldR r = r + 32 := if_pos g
    rw [e]
    unfold great at g
    by_cases h : r ≤ 90
    · rw [enc1 (r := r) (by omega), enc1 (r := r + 32) (by omega)]; rfl
    · rw [enc2 (r := r) (by omega) (by omega), enc2 (r := r + 32) (by omega) (by omega)]; rfl
  · have e : foldR r = r := if_neg g
    rw [e]
theorem encs_fold_len (rs : List Nat) : (encs (rs.map foldR)).length = (encs rs).length := by
  induction rs with
  | nil => rfl
  | cons r rs ih =>
    have e1 : encs ((r :: rs).map foldR) = enc (foldR r) ++ encs (rs.map foldR) := by simp [encs]
    have e2 : encs (r :: rs) = enc r ++ encs rs := by simp [encs]
    rw [e1, e2, List.length_append, List.length_append, ih, enc_fold_len]
theorem fold_size (s : ByteArray) : (foldS s).size ≤ s.size := by
  cases h : runes (bl s) with
  | none => rw [fold_none h]; exact Nat.zero_le _
  | some rs =>
    have e : (foldS s).size = (encs (rs.map foldR)).length := by rw [foldS, h]; simp [ByteArray.size]
    have h1 := ((runes_iff (bl s) rs).1 h).1
    have h2 := bl_len s
    rw [h1] at h2
    rw [e, encs_fold_len, h2]
    exact Nat.le_refl _

set_option maxRecDepth 100000 in
set_option maxHeartbeats 2000000 in
theorem keysFold_walk (s : ByteArray) (w : World) (hs : s.size ≤ 1048576) :
    Calls Tryd.prog 7 #[.string s] w fun e w' => e = .returned (.bool true) ∧ Below w.heap.size w w' := by
  have c1 := fun w => fold_any s w hs
  have c2 := fun w => refFold_any s w hs
  have hz := fold_size s
  have c3 := fun w => fold_any (foldS s) w (by omega)
  have c4 := fun w => runes_any s w (by omega)
  have c5 := fun w => runes_any (foldS s) w (by omega)
  rw [fold_twice] at c3
  clear hz
  cases hr : runes (bl s) with
  | none =>
    have h1 := fold_none hr
    rw [hr] at c4
    rw [h1] at c1 c2 c3 c5
    clear c5
    go_enter Tryd.func7, Tryd.ntmps7
    go_wp2_with fail
    refine (c1 _).mono ?_
    rintro e w1 ⟨rfl, hb1⟩
    have HB1 := hid_of hb1
    clear hb1
    go_wp2_with fail
    refine (told_any _).mono ?_
    rintro e w2 ⟨rfl, hb2⟩
    have HB2 := hid_of (HB1.out.trans (hb2.mono HB1.out.size))
    clear hb2
    go_wp2_with fail
    refine (c2 _).mono ?_
    rintro e w3 ⟨rfl, hb3⟩
    have HB3 := hid_of (HB2.out.trans (hb3.mono HB2.out.size))
    clear hb3
    go_wp2_with fail
    refine (c3 _).mono ?_
    rintro e w4 ⟨rfl, hb4⟩
    have HB4 := hid_of (HB3.out.trans (hb4.mono HB3.out.size))
    clear hb4
    go_wp2_with fail
    refine (c4 _).mono ?_
    rintro e w5 ⟨rfl, hb5⟩
    have HB5 := hid_of (HB4.out.trans (hb5.mono HB4.out.size))
    clear hb5
    simp only [countOf]
    go_wp2
    go_ret
    exact ⟨rfl, HB5.out⟩
  | some rs =>
    have h2 := fold_runes hr
    rw [hr] at c4
    rw [h2] at c5
    have hl := runes_len hr
    rw [bl_len] at hl
    have e4 : countOf (some rs) = (rs.length : Int) := rfl
    have e5 : countOf (some (rs.map foldR)) = (rs.length : Int) := by simp [countOf]
    rw [e4] at c4
    rw [e5] at c5
    have hge : ¬ ((rs.length : Int) < 0) := by omega
    generalize foldS s = t at c1 c2 c3 c5
    clear e4 e5 h2
    go_enter Tryd.func7, Tryd.ntmps7
    go_wp2_with fail
    refine (c1 _).mono ?_
    rintro e w1 ⟨rfl, hb1⟩
    have HB1 := hid_of hb1
    clear hb1
    go_wp2_with fail
    refine (told_any _).mono ?_
    rintro e w2 ⟨rfl, hb2⟩
    have HB2 := hid_of (HB1.out.trans (hb2.mono HB1.out.size))
    clear hb2
    go_wp2_with fail
    refine (c2 _).mono ?_
    rintro e w3 ⟨rfl, hb3⟩
    have HB3 := hid_of (HB2.out.trans (hb3.mono HB2.out.size))
    clear hb3
    go_wp2_with fail
    refine (c3 _).mono ?_
    rintro e w4 ⟨rfl, hb4⟩
    have HB4 := hid_of (HB3.out.trans (hb4.mono HB3.out.size))
    clear hb4
    go_wp2_with fail
    refine (c4 _).mono ?_
    rintro e w5 ⟨rfl, hb5⟩
    have HB5 := hid_of (HB4.out.trans (hb5.mono HB4.out.size))
    clear hb5
    go_wp2_with fail
    refine (c5 _).mono ?_
    rintro e w6 ⟨rfl, hb6⟩
    have HB6 := hid_of (HB5.out.trans (hb6.mono HB5.out.size))
    clear hb6
    go_wp2
    go_ret
    exact ⟨rfl, HB6.out⟩
end Go.Proofs.YtnmejnkdgeljeaaDoor
