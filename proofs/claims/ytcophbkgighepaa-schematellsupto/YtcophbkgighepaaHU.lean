/- The document's own Small, RowRight, FoldOne, Fold. -/
import Derived.Test.YtcophbkgighepaaHS
import Derived.Test.YtcophbkgighepaaE3
import Derived.Test.YtcophbkgighepaaC3
set_option linter.unusedVariables false
namespace Go.Proofs.Ytcophbkgighepaa
open Go.RowKit

theorem rcn_zero {v : Val} (h : v.err = 0) (hk : v.1 ≠ 2) : rcn v.2.2 = 0 := by
  obtain ⟨k, n, s⟩ := v
  have h1 : rightOf k n s = 0 := h
  have key : s.toList.isEmpty = true → rcn s = 0 := fun q => by
    have := nil_of_empty q
    subst this
    rfl
  dsimp only at hk ⊢
  by_cases k0 : k = 0
  · subst k0
    rw [r0] at h1
    split at h1
    · rename_i q; exact key q.2
    · cases h1
  by_cases k1 : k = 1
  · subst k1
    rw [r1] at h1
    split at h1
    · rename_i q; exact key q
    · cases h1
  by_cases k3 : k = 3
  · subst k3
    rw [r3] at h1
    split at h1
    · rename_i q; exact key q.1
    · cases h1
  · rw [r4 n s k0 k1 hk k3] at h1
    cases h1
theorem rcn_text {v : Val} (h : v.err = 0) : countOf (runes (bl v.2.2)) = (rcn v.2.2 : Int) := by
  obtain ⟨rs, hr⟩ := right_runes (k := v.1) (n := v.2.1) (s := v.2.2) h
  unfold rcn
  rw [hr]
  rfl
def smallB (v : Val) : Bool := decide (v.err = 0) && decide (rcn v.2.2 ≤ 8)
set_option maxRecDepth 100000 in
set_option maxHeartbeats 2000000 in
theorem small_any (v : Val) (hs : v.2.2.size ≤ 1048576) (w : World) :
    Calls Try.prog 42 #[.agg #[.int .i64 v.1, .int .i64 v.2.1, .string v.2.2]] w fun e w' => e = .returned (.bool (smallB v)) ∧ Below w.heap.size w w' := by
  obtain ⟨w1, hw1⟩ : ∃ w1, w1 = w.alloc (.cells #[.int .i64 v.1, .int .i64 v.2.1, .string v.2.2] 39) := ⟨_, rfl⟩
  obtain ⟨L, hL⟩ : ∃ L, w.heap.size = L := ⟨_, rfl⟩
  have hb1 : Below w.heap.size w w1 := by rw [hw1]; exact below_box w _
  have HR1 : Hid (w1.heap[L]? = some (.cells #[.int .i64 v.1, .int .i64 v.2.1, .string v.2.2] 39 (0, 0))) := by show _ = _; rw [hw1, ← hL]; exact boxed w _
  have HB1 : Hid (Below L w w1) := by show Below L w w1; rw [← hL]; exact hb1
  have HLB : Hid (L ≤ w1.heap.size) := by show L ≤ _; have := blk_lt HR1.out; omega
  have HRT : Hid (Calls Try.prog 33 #[.agg #[.int .i64 v.1, .int .i64 v.2.1, .string v.2.2]] w1 fun e w' => e = .returned (.int .i64 v.err) ∧ Below w1.heap.size w1 w') := refRight_any v.1 v.2.1 v.2.2 w1 hs
  have HRU := hide (fun ww => refRunes_any v.2.2 ww hs)
  have HRC : Hid (v.err = 0 → countOf (runes (bl v.2.2)) = (rcn v.2.2 : Int)) := fun q => rcn_text q
  have HZ : Hid (v.err = 0 → v.1 ≠ 2 → rcn v.2.2 = 0) := fun q r => rcn_zero q r
  have HE : Hid (smallB v = (decide (v.err = 0) && decide (rcn v.2.2 ≤ 8))) := rfl
  have HW1 := hide hw1
  rw [hL]
  clear hb1 hw1 hs
  generalize v.err = ve at *
  generalize rcn v.2.2 = rn at *
  go_enter Try.func42, Try.ntmps42
  go_upto_region 1 with fail
  rw [← HW1.out]
  try simp only [hL]
  have y0 : w1.cell? ⟨L, 0, none⟩ = some (.int .i64 v.1) := cell_blk HR1.out
  have y1 : w1.cell? ⟨L, 1, none⟩ = some (.int .i64 v.2.1) := cell_blk HR1.out
  have y2 : w1.cell? ⟨L, 2, none⟩ = some (.string v.2.2) := cell_blk HR1.out
  go_wp2_with fail
  refine HRT.out.mono ?_
  rintro e w2 ⟨rfl, hb2⟩
  have HB2 : Hid (Below L w w2) := HB1.out.trans (hb2.mono HLB.out)
  have HR2 := hide ((hb2.block L (blk_lt HR1.out)).trans HR1.out)
  have z0 : w2.cell? ⟨L, 0, none⟩ = some (.int .i64 v.1) := cell_blk HR2.out
  have z2 : w2.cell? ⟨L, 2, none⟩ = some (.string v.2.2) := cell_blk HR2.out
  have HLC : Hid (L ≤ w2.heap.size) := Nat.le_trans HLB.out hb2.size
  clear hb2 HRT y0 y1 y2
  by_cases h0 : ve = 0
  · subst h0
    by_cases hk : v.1 = 2
    · have kf : (v.1 != 2) = false := by simp [hk]
      have HRU2 := hide (HRU.out w2)
      rw [HRC.out rfl] at HRU2
      clear hk
      go_wp2_with fail
      refine HRU2.out.mono ?_
      rintro e w3 ⟨rfl, hb3⟩
      have HB3 : Hid (Below L w w3) := HB2.out.trans (hb3.mono HLC.out)
      have e8 : decide ((rn : Int) ≤ 8) = decide (rn ≤ 8) := decide_eq_decide.2 (by omega)
      clear hb3 HRU HRU2
      go_wp2
      go_ret
      exact ⟨by rw [HE.out]; simp, HB3.out⟩
    · have kf : (v.1 != 2) = true := by simp [hk]
      have HR0 := hide (HZ.out rfl hk)
      clear hk
      go_wp2
      go_ret
      exact ⟨by rw [HE.out, HR0.out]; rfl, HB2.out⟩
  · have kf : (ve == 0) = false := by simp [h0]
    have HF : Hid (smallB v = false) := by show _ = _; rw [HE.out, decide_eq_false h0]; rfl
    clear h0
    go_wp2
    go_ret
    exact ⟨by rw [HF.out]; rfl, HB2.out⟩
theorem small_all (l : List Val) : l.all smallB = true ↔ keyErr l = 0 ∧ l.any (fun x => decide (8 < rcn x.2.2)) = false := by
  induction l with
  | nil => simp [keyErr]
  | cons x l ih =>
    rw [List.all_cons, Bool.and_eq_true, ih, List.any_cons, Bool.or_eq_false_iff]
    rw [show keyErr (x :: l) = if x.err = 0 then keyErr l else x.err from rfl]
    unfold smallB
    simp only [Bool.and_eq_true, decide_eq_true_eq, decide_eq_false_iff_not]
    constructor
    · rintro ⟨⟨a, b⟩, c, d⟩
      exact ⟨by rw [if_pos a]; exact c, by omega, d⟩
    · rintro ⟨a, b, c⟩
      split at a
      · rename_i q; exact ⟨⟨q, by omega⟩, a, c⟩
      · rename_i q; exact absurd a q
theorem rowE_small (l : List Val) : rowE l = if 3 < l.length then 2 else if l.all smallB = true then 0 else 62 := by
  unfold rowE
  split
  · rfl
  · have h1 := small_all l
    by_cases hk : keyErr l = 0
    · rw [if_neg (by simpa using hk)]
      by_cases ha : l.any (fun x => decide (8 < rcn x.2.2)) = true
      · rw [if_pos ha, if_neg (by rw [h1]; rintro ⟨_, q⟩; rw [ha] at q; cases q)]
      · rw [if_neg ha, if_pos (h1.2 ⟨hk, by simpa using ha⟩)]
    · rw [if_pos hk, if_neg (by rw [h1]; rintro ⟨q, _⟩; exact hk q)]
set_option maxRecDepth 100000 in
set_option maxHeartbeats 4000000 in
theorem rowright_any {w : World} {a : Option Addr} {n c : Nat} {l : List Val} (h : SV fV 3 w a n c l) (hs : ∀ x ∈ l, x.2.2.size ≤ 1048576) :
    Calls Try.prog 21 #[.slice a n c] w fun e w' => e = .returned (.int .i64 (rowE l)) ∧ Below w.heap.size w w' := by
  have H := hide h
  have HL := hide h.hl
  have HS := hide hs
  have HE0 : Hid (rowE l = if 3 < n then 2 else if l.all smallB = true then 0 else 62) := by show _ = _; rw [rowE_small, h.hl]
  clear h hs
  by_cases h3 : 3 < n
  · have x3 : 3 < (n : Int) := by omega
    have HE : Hid (rowE l = 2) := by show _ = _; rw [HE0.out, if_pos h3]
    clear h3
    go_enter Try.func21, Try.ntmps21
    go_wp2
    go_ret
    exact ⟨by rw [HE.out]; rfl, Below.refl _ _⟩
  have x3 : ¬ 3 < (n : Int) := by omega
  rw [if_neg h3] at HE0
  go_enter Try.func21, Try.ntmps21
  go_wp2_with fail
  go_loopg [3] n (fun gh s3 wx => ∃ j : Nat, j + gh = n ∧ s3 = .int .i64 (j : Int) ∧ (l.take j).all smallB = true ∧ Below w.heap.size w wx)
  case atStart => exact ⟨0, by omega, rfl, by simp, Below.refl _ _⟩
  case round =>
    obtain ⟨j, hj, rfl, hno, hbr⟩ := hrel
    have HNO := hide hno
    have HBR := hide hbr
    clear hno hbr
    by_cases hjn : j < n
    · have xj : (j : Int) < (n : Int) := by omega
      obtain ⟨x, hxj⟩ : ∃ x, l[j]? = some x := ⟨_, List.getElem?_eq_getElem (by rw [HL.out]; exact hjn)⟩
      obtain ⟨b, o, e0, hb, hcs⟩ := H.out.pl (by omega)
      subst e0
      have y0 : wr.cell? ⟨b, o + j * 3, none⟩ = some (.int .i64 x.1) := (HBR.out.cell hb).trans (hcs j x hxj 0 (by omega))
      have y1 : wr.cell? ⟨b, o + j * 3 + 1, none⟩ = some (.int .i64 x.2.1) := (HBR.out.cell hb).trans (hcs j x hxj 1 (by omega))
      have y2 : wr.cell? ⟨b, o + j * 3 + 2, none⟩ = some (.string x.2.2) := (HBR.out.cell hb).trans (hcs j x hxj 2 (by omega))
      have HSM := hide (small_any x (HS.out x (List.mem_of_getElem? hxj)) wr)
      have HTK : Hid ((l.take (j + 1)).all smallB = smallB x) := by
        show _ = _
        rw [List.take_add_one, hxj, List.all_append, HNO.out]
        simp
      have HBAD : Hid (smallB x = false → rowE l = 62) := fun q => by
        rw [HE0.out, if_neg]
        intro h9
        rw [List.all_eq_true.1 h9 x (List.mem_of_getElem? hxj)] at q
        cases q
      clear hcs hxj
      go_wp2_with fail
      refine HSM.out.mono ?_
      rintro e w2 ⟨rfl, hb2⟩
      have HB2 : Hid (Below w.heap.size w w2) := HBR.out.trans (hb2.mono HBR.out.size)
      clear hb2 HSM y0 y1 y2
      cases hq : smallB x with
      | true =>
        rw [hq] at HTK
        go_wp2
        go_roundg (gk - 1)
        case measure => omega
        case rel => exact ⟨j + 1, by omega, rfl, HTK.out, HB2.out⟩
      | false =>
        have HE := hide (HBAD.out hq)
        go_wp2
        go_ret
        exact ⟨by rw [HE.out]; rfl, HB2.out⟩
    · have xj : ¬ (j : Int) < (n : Int) := by omega
      have HE : Hid (rowE l = 0) := by
        have h9 := HNO.out
        rw [List.take_of_length_le (by rw [HL.out]; omega)] at h9
        show _ = _
        rw [HE0.out, if_pos h9]
      go_wp2
      go_ret
      exact ⟨by rw [HE.out]; rfl, HBR.out⟩
end Go.Proofs.Ytcophbkgighepaa
