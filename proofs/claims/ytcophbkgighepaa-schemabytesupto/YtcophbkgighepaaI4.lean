/- EncodeRow of longer texts; DecodeRow of any bytes. -/
import Derived.Test.YtcophbkgighepaaHP
import Derived.Test.YtcophbkgighepaaK1
import Derived.Test.YtcophbkgighepaaR4
set_option linter.unusedVariables false
namespace Go.Proofs.Ytcophbkgighepaa
open Go.RowKit

set_option maxRecDepth 100000 in
theorem val_clo4 {w : World} (x : Val) (h : x.err = 0 ∧ x.2.2.size ≤ 4194304) : Calls Try.prog 41 #[.agg #[.int .i64 x.1, .int .i64 x.2.1, .string x.2.2]] w fun e w' => e = .returned (.bool (decide (8 < rcn x.2.2))) ∧ Below w.heap.size w w' := islong_ok x w (by have := h.2; omega) h.1
set_option maxRecDepth 100000 in
set_option maxHeartbeats 2000000 in
theorem val_idx4 {w : World} {a : Option Addr} {len cap : Nat} {l : List Val} (h : SV fV 3 w a len cap l) (hlen : len ≤ 1000) (hr : ∀ x ∈ l, x.err = 0 ∧ x.2.2.size ≤ 4194304) :
    Calls Try.prog 66 #[.slice a len cap, .func (Fn.func 41) #[] #[]] w fun e w' => ∃ i : Int, e = .returned (.int .i64 i) ∧ (decide (0 ≤ i) = l.any (fun x => decide (8 < rcn x.2.2))) ∧ Below w.heap.size w w' := by
  have H := hide h
  have hx := h.hl
  have HL := hide hx
  clear h hx
  have HR := hide hr
  clear hr
  go_enter Try.func66, Try.ntmps66
  go_wp2_with fail
  go_loopg [8] len (fun gh s8 wx => ∃ j : Nat, j + gh = len ∧ s8 = .int .i64 (j : Int) ∧ (l.take j).any (fun x => decide (8 < rcn x.2.2)) = false ∧ Below w.heap.size w wx)
  case atStart => exact ⟨0, by omega, rfl, by simp, Below.refl _ _⟩
  case round =>
    obtain ⟨j, hj, rfl, hno, hbr⟩ := hrel
    have HNO := hide hno
    have HBR := hide hbr
    clear hno hbr
    by_cases hjn : j < len
    · have xj : (j : Int) < (len : Int) := by omega
      obtain ⟨x, hxj⟩ : ∃ x, l[j]? = some x := ⟨_, List.getElem?_eq_getElem (by rw [HL.out]; exact hjn)⟩
      have HTK : Hid ((l.take (j + 1)).any (fun x => decide (8 < rcn x.2.2)) = (decide (8 < rcn x.2.2))) := by
        show _ = _
        rw [List.take_add_one, hxj, List.any_append, HNO.out]
        simp
      have HYES : Hid ((decide (8 < rcn x.2.2)) = true → l.any (fun x => decide (8 < rcn x.2.2)) = true) := fun q => List.any_eq_true.2 ⟨x, List.mem_of_getElem? hxj, q⟩
      obtain ⟨b, o, e0, hb, hcs⟩ := H.out.pl (by omega)
      have hcell := fun t (ht : t < 3) => hcs j x hxj t ht
      subst e0
      have y0 : wr.cell? ⟨b, o + j * 3, none⟩ = some (.int .i64 x.1) := (HBR.out.cell hb).trans (hcell 0 (by omega))
      have y1 : wr.cell? ⟨b, o + j * 3 + 1, none⟩ = some (.int .i64 x.2.1) := (HBR.out.cell hb).trans (hcell 1 (by omega))
      have y2 : wr.cell? ⟨b, o + j * 3 + 2, none⟩ = some (.string x.2.2) := (HBR.out.cell hb).trans (hcell 2 (by omega))
      have hrx := HR.out x (List.mem_of_getElem? hxj)
      have HCL := hide (val_clo4 (w := wr) x hrx)
      obtain ⟨pb, hpb⟩ : ∃ pb : Bool, pb = (decide (8 < rcn x.2.2)) := ⟨_, rfl⟩
      rw [← hpb] at HTK HYES HCL
      clear hcs hcell hxj hpb
      go_wp2_with fail
      refine HCL.out.mono ?_
      rintro e w1 ⟨rfl, hb1⟩
      have HB1 : Hid (Below w.heap.size w w1) := HBR.out.trans (hb1.mono HBR.out.size)
      clear hb1 HCL
      cases pb with
      | true =>
        have HY := hide (HYES.out rfl)
        go_wp2_with fail
        go_ret
        exact ⟨(j : Int), rfl, by rw [HY.out]; exact decide_eq_true (by omega), HB1.out⟩
      | false =>
        go_wp2_with fail
        go_roundg (gk - 1)
        case measure => omega
        case rel => exact ⟨j + 1, by omega, rfl, HTK.out, HB1.out⟩
    · have xj : ¬ (j : Int) < (len : Int) := by omega
      have HN : Hid (l.any (fun x => decide (8 < rcn x.2.2)) = false) := by
        have h9 := HNO.out
        rw [List.take_of_length_le (by rw [HL.out]; omega)] at h9
        exact h9
      go_wp2
      go_ret
      exact ⟨-1, rfl, by rw [HN.out]; rfl, HBR.out⟩
set_option maxRecDepth 100000 in
theorem val_has4 {w : World} {a : Option Addr} {len cap : Nat} {l : List Val} (h : SV fV 3 w a len cap l) (hlen : len ≤ 1000) (hr : ∀ x ∈ l, x.err = 0 ∧ x.2.2.size ≤ 4194304) :
    Calls Try.prog 40 #[.slice a len cap, .func (Fn.func 41) #[] #[]] w fun e w' => e = .returned (.bool (l.any (fun x => decide (8 < rcn x.2.2)))) ∧ Below w.heap.size w w' := by
  have HI := hide (val_idx4 h hlen hr)
  clear h hr
  generalize l.any (fun x => decide (8 < rcn x.2.2)) = bb at *
  go_enter Try.func40, Try.ntmps40
  go_wp2_with fail
  refine HI.out.mono ?_
  rintro e w1 ⟨i, rfl, hi, hb1⟩
  have HB1 := hide hb1
  have HE := hide hi
  clear hb1 HI hi
  go_wp2
  go_ret
  exact ⟨by rw [← HE.out]; rfl, HB1.out⟩
theorem bytes_len4 (x : Val) (hz : x.2.2.size ≤ 4194304) : x.bytes.length ≤ 12582916 := by
  unfold Val.bytes
  cases hh : holdOf x.1 x.2.1 x.2.2 with
  | text s =>
    simp only [H.bytes, List.length_cons, List.length_append, runeB_len, hiB_len]
    cases hr : runes (bl x.2.2) with
    | none => simp
    | some rs =>
      have := runes_len hr
      rw [bl_len] at this
      simp only [Option.getD_some]
      omega
  | _ => simp [H.bytes, hiB_len]
theorem kb_le4 {l : List Val} (h : ∀ x ∈ l, x.2.2.size ≤ 4194304) : (keyBytes l).length ≤ l.length * 12582916 := by
  unfold keyBytes
  induction l with
  | nil => simp
  | cons y l ih =>
    have h1 := bytes_len4 y (h y List.mem_cons_self)
    have h2 := ih fun x hx => h x (List.mem_cons_of_mem _ hx)
    rw [List.flatMap_cons, List.length_append, List.length_cons, Nat.add_mul]
    omega
set_option maxRecDepth 100000 in
set_option maxHeartbeats 2000000 in
theorem encrow_any4 {w : World} {a : Option Addr} {n c : Nat} {l : List Val} (h : SV fV 3 w a n c l) (hok : ∀ x ∈ l, x.ok) (hs : ∀ x ∈ l, x.2.2.size ≤ 4194304) :
    Calls Try.prog 20 #[.slice a n c] w fun e w' => EncR l w.heap.size e w' ∧ Below w.heap.size w w' := by
  have HL := hide h.hl
  by_cases h3 : 3 < n
  · have HE : Hid (rowE l = 2) := if_pos (by rw [h.hl]; exact h3)
    have x3 : (3 : Int) < (n : Int) := by omega
    clear h h3
    go_enter Try.func20, Try.ntmps20
    go_wp2
    go_ret2
    exact ⟨⟨_, by rw [HE.out]; rfl, fun q => absurd (HE.out.symm.trans q) (by decide), fun _ => rfl⟩, Below.refl _ _⟩
  · have hn : n ≤ 1000 := by omega
    have x3 : ¬ (3 : Int) < (n : Int) := by omega
    have HE0 : Hid (rowE l = if keyErr l ≠ 0 then 62 else if l.any (fun x => decide (8 < rcn x.2.2)) = true then 62 else 0) := if_neg (by rw [h.hl]; exact h3)
    have HKL : Hid ((keyBytes l).length ≤ 37748748) := by show _ ≤ _; have := kb_le4 hs; rw [h.hl] at this; have : n * 12582916 ≤ 3 * 12582916 := Nat.mul_le_mul_right _ (by omega); omega
    have HKY := hide (key_any a n c l w (h.vs hn hok) (by have := HKL.out; omega))
    have HV := hide h
    have HS := hide hs
    have HN3 : Hid (n ≤ 3) := by show n ≤ 3; omega
    clear h hs hok h3
    go_enter Try.func20, Try.ntmps20
    go_wp2_with fail
    refine HKY.out.mono ?_
    rintro e w1 ⟨hk, hb1⟩
    have HB1 := hide hb1
    unfold KeyR at hk
    by_cases hke : keyErr l = 0
    · rw [if_pos hke] at hk
      obtain ⟨v1, rfl, ho1⟩ := hk
      have HO1 : Hid (OB w.heap.size w1 v1 (keyBytes l)) := ho1
      have HR : Hid (∀ x ∈ l, x.err = 0 ∧ x.2.2.size ≤ 4194304) := fun x hx => ⟨keyErr_zero hke x hx, HS.out x hx⟩
      rw [if_neg (by rw [hke]; simp)] at HE0
      have HHS := hide (val_has4 (HV.out.later hb1) hn HR.out)
      clear ho1 hb1 hke HKY
      obtain ⟨bb, hbb⟩ : ∃ bb, l.any (fun x => decide (8 < rcn x.2.2)) = bb := ⟨_, rfl⟩
      rw [hbb] at HHS HE0
      clear hbb
      go_wp2_with fail
      refine HHS.out.mono ?_
      rintro e w2 ⟨rfl, hb2⟩
      have HB2 : Hid (Below w.heap.size w w2) := HB1.out.trans (hb2.mono HB1.out.size)
      have HO2 := hide (HO1.out.later hb2)
      clear hb2 HHS HO1
      cases bb with
      | true =>
        have HE : Hid (rowE l = 62) := HE0.out
        go_wp2
        go_ret2
        exact ⟨⟨_, by rw [HE.out]; rfl, fun q => absurd (HE.out.symm.trans q) (by decide), fun _ => rfl⟩, HB2.out⟩
      | false =>
        have HE : Hid (rowE l = 0) := HE0.out
        have HUI := hide (uint_owns n w2 (by omega))
        go_wp2_with fail
        refine HUI.out.mono ?_
        rintro e w3 ⟨g3, c3, rfl, ho3, hb3⟩
        have HG3 : Hid ((encW n).length = grp n ∧ grp n ≤ 9) := ⟨enc_length n (grp_spec n (by omega)).1, (grp_spec n (by omega)).2.1⟩
        have HO3 : Hid (OB w2.heap.size w3 (.slice (some ⟨g3, 0, none⟩) (grp n) c3) (encW n)) := by
          show World.ownsRow _ _ _ _ _ _ _
          rw [HG3.out.1]
          exact ho3
        have HO2' := hide (HO2.out.later hb3)
        have HB3 : Hid (Below w.heap.size w w3) := HB2.out.trans (hb3.mono HB2.out.size)
        have HZ3 : Hid (w2.heap.size ≤ w3.heap.size) := hb3.size
        have HZ2 : Hid (w.heap.size ≤ w2.heap.size) := HB2.out.size
        clear ho3 hb3 HUI HO2
        go_wp2_with (at_builtin; refine wpList_app_ob rfl (.tmp 22) (.tmp 23) rfl rfl rfl HO3.out HO2'.out HZ3.out (by have := HG3.out; have := HKL.out; omega) ?_; intro v4 w4 ho4 hb4 _; have HO4 := hide ho4; have HB4 := hide hb4; clear ho4 hb4)
        go_ret2
        refine ⟨⟨v4, by rw [HE.out]; rfl, fun _ => ?_, fun q => absurd HE.out q⟩, HB3.out.trans (HB4.out.mono HZ2.out)⟩
        have h9 := HO4.out
        unfold rowB
        rw [HL.out]
        exact own_mono h9 HZ2.out
    · rw [if_neg hke] at hk
      subst hk
      rw [if_pos hke] at HE0
      have HE : Hid (rowE l = 62) := HE0.out
      have q0 : (keyErr l != 0) = true := by simp [hke]
      clear hke hb1 HKY
      generalize keyErr l = ke at *
      go_wp2
      go_ret2
      exact ⟨⟨_, by rw [HE.out]; rfl, fun q => absurd (HE.out.symm.trans q) (by decide), fun _ => rfl⟩, HB1.out⟩
theorem rowB_len4 {l : List Val} (hl : l.length ≤ 3) (h : ∀ x ∈ l, x.2.2.size ≤ 4194304) : (rowB l).length ≤ 100000000 := by
  have h1 := kb_le4 h
  have h2 := encW_len l.length (by omega)
  unfold rowB
  rw [List.length_append]
  have : l.length * 12582916 ≤ 3 * 12582916 := Nat.mul_le_mul_right _ hl
  omega
theorem encrow54 {w : World} {a : Option Addr} {n c : Nat} {l : List Val} (h : SV fV 3 w a n c l) (hok : ∀ x ∈ l, x.ok) (hs : ∀ x ∈ l, x.2.2.size ≤ 4194304) :
    Calls Try.prog 20 #[.slice a n c] w fun e w' => ∃ ax nx cx, e = .returned (.tuple #[.slice ax nx cx, .int .i64 (rowE l)]) ∧ (rowE l = 0 → BS w' ax nx cx (rowB l)) ∧ Below w.heap.size w w' := by
  refine (encrow_any4 h hok hs).mono ?_
  rintro e w' ⟨⟨v, he, h0, h1⟩, hb⟩
  by_cases hz : rowE l = 0
  · have ho := h0 hz
    obtain ⟨a, c, e1⟩ := OB.form ho
    subst e1
    exact ⟨a, _, c, he, fun _ => OB.bs ho (rowB_lt l) (rowB_len4 (rowE_zero hz).1 hs), hb⟩
  · have e1 := h1 hz
    subst e1
    exact ⟨none, 0, 0, he, fun q => absurd q hz, hb⟩
/-- Values that were read of few bytes have no long texts. -/
theorem val_small {x : Val} {m : Nat} (he : x.err = 0) (hl : x.bytes.length ≤ m) : x.2.2.size ≤ 4 * m := by
  obtain ⟨k, n, s⟩ := x
  have h1 : rightOf k n s = 0 := he
  dsimp only
  have key : s.toList.isEmpty = true → s.size ≤ 4 * m := fun q => by
    have := nil_of_empty q
    subst this
    exact Nat.zero_le _
  by_cases k0 : k = 0
  · subst k0
    rw [r0] at h1
    split at h1
    · rename_i q; exact key q.2
    · cases h1
  by_cases k1 : k = 1
  · subst k1
    rw [r1] at h1
    split at h1
    · rename_i q; exact key q
    · cases h1
  by_cases k3 : k = 3
  · subst k3
    rw [r3] at h1
    split at h1
    · rename_i q; exact key q.1
    · cases h1
  by_cases k2 : k = 2
  · subst k2
    obtain ⟨rs, hr⟩ := right_runes h1
    have hb : (Val.bytes (2, n, s)) = (H.text s).bytes rs := by
      unfold Val.bytes
      rw [hr]
      simp [holdOf]
    rw [hb] at hl
    simp only [H.bytes, List.length_cons, List.length_append, runeB_len, hiB_len] at hl
    have e1 : bl s = encs rs := ((runes_iff (bl s) rs).1 hr).1
    have e2 := encs_le rs
    rw [← e1, bl_len] at e2
    omega
  · rw [r4 n s k0 k1 k2 k3] at h1
    cases h1
theorem kb_mem {l : List Val} {x : Val} (hx : x ∈ l) : x.bytes.length ≤ (keyBytes l).length := by
  unfold keyBytes
  induction l with
  | nil => cases hx
  | cons y l ih =>
    rw [List.flatMap_cons, List.length_append]
    rcases List.mem_cons.1 hx with rfl | h
    · omega
    · have := ih h
      omega
/-- The row that bytes are. -/
def drow (xs : List Nat) : Option (List Val) := if ruE xs 0 = 0 then (match rd (xs.drop (ruP xs 0)) with | none => none | some l => if rowE l = 0 ∧ rowB l = xs then some l else none) else none
theorem drow_some {xs : List Nat} {l : List Val} (h : drow xs = some l) : rowE l = 0 ∧ rowB l = xs := by
  unfold drow at h
  split at h
  · split at h
    · cases h
    · split at h
      · rename_i q
        cases h
        exact q
      · cases h
  · cases h
theorem rdFW_le : ∀ (k i : Nat) (l : List Nat) (n : Nat), (rdFW k i l n).2.2 = 0 → (rdFW k i l n).2.1 ≤ i + l.length
  | 0, _, _, _, h => by cases h
  | _ + 1, _, [], _, h => by cases h
  | k + 1, i, c :: r, n, h => by
    rw [rdF_cons] at h ⊢
    rw [List.length_cons]
    split at h
    · cases h
    · rename_i h1
      rw [if_neg h1]
      split at h
      · rename_i h2
        rw [if_pos h2]
        dsimp only
        omega
      · rename_i h2
        rw [if_neg h2]
        have := rdFW_le k (i + 1) r _ h
        omega
theorem ruP_0 {xs : List Nat} (h : ruE xs 0 = 0) : ruP xs 0 ≤ xs.length := by
  unfold ruE at h
  unfold ruP
  rw [if_pos ⟨by omega, by omega⟩] at h ⊢
  have e : (0 : Int).toNat = 0 := rfl
  rw [e] at h ⊢
  unfold rdNext
  rw [if_pos h]
  unfold rdN at h ⊢
  have := rdFW_le 9 0 (xs.drop 0) 0 h
  simpa using this
theorem BS.none' {w : World} {a : Option Addr} : BS w a 0 0 [] := ⟨rfl, by omega, by omega, by omega, by simp, fun _ => rfl, fun x hx i hi => by omega⟩
/-- What DecodeRow tells of bytes. -/
def DrR (o : Option (List Val)) (e : Ending) (w' : World) : Prop := match o with
  | none => e = .returned (.tuple #[.slice none 0 0, .int .i64 11])
  | some l => (∀ x ∈ l, x.ok ∧ x.2.2.size ≤ 4194304) ∧ ∃ a' c', e = .returned (.tuple #[.slice a' l.length c', .int .i64 0]) ∧ SV fV 3 w' a' l.length c' l
set_option maxRecDepth 100000 in
set_option maxHeartbeats 8000000 in
theorem decoderow_any {n c : Nat} {a : Option Addr} {xs : List Nat} {w : World} (hb : BS w a n c xs) (hn : n ≤ 1048576) :
    Calls Try.prog 23 #[.slice a n c] w fun e w' => DrR (drow xs) e w' ∧ Below w.heap.size w w' := by
  have HB := hide hb
  have hlen := hb.hlen
  have HLN := hide hlen
  have HU := hide (readUint_any a n c xs 0 w hb)
  obtain ⟨z, hz⟩ : ∃ z, ruE xs 0 = z := ⟨_, rfl⟩
  obtain ⟨v, hv⟩ : ∃ v, ruN xs 0 = v := ⟨_, rfl⟩
  obtain ⟨p, hp⟩ : ∃ p, ruP xs 0 = p := ⟨_, rfl⟩
  rw [hz, hv, hp] at HU
  by_cases h0 : z = 0
  · have hpn : p ≤ n := by rw [← hlen, ← hp]; exact ruP_0 (by rw [hz]; exact h0)
    have HD : Hid (drow xs = match rd (xs.drop p) with | none => none | some l => if rowE l = 0 ∧ rowB l = xs then some l else none) := by
      show _ = _
      unfold drow
      rw [hz, if_pos h0, hp]
    have hpos : 0 < n := by
      rw [← hlen]
      rcases Nat.eq_zero_or_pos xs.length with q | q
      · have e : xs = [] := List.eq_nil_of_length_eq_zero q
        subst e
        rw [h0] at hz
        cases hz
      · exact q
    obtain ⟨b, o, e1, hbl, _⟩ := hb.place hpos
    subst e1
    subst h0
    have hcap := hb.hcap
    have hmax := hb.hmax
    have HDR := hide (bs_some_drop hb p hpn)
    clear hz hv hp hlen hb
    have k0 : (0 : Int) ≤ (p : Int) := by omega
    have k1 : (p : Int) ≤ (n : Int) := by omega
    have k2 : (n : Int) ≤ (c : Int) := by omega
    have k3 : (c : Int) ≤ 9223372036854775807 := by omega
    by_cases hpc : p < c
    · have k4 : (p : Int) < (c : Int) := by omega
      have HBD : Hid (BS w (some ⟨b, o + p, none⟩) (n - p) (c - p) (xs.drop p)) := HDR.out
      clear HDR
      go_enter Try.func23, Try.ntmps23
      go_wp2_with fail
      refine HU.out.mono ?_
      rintro e w1 ⟨rfl, hw⟩
      have hw := hw.symm
      subst hw
      clear HU hw
      have HRA := hide (read_any _ _ _ (xs.drop p) w HBD.out (by omega))
      go_wp2_with fail
      refine HRA.out.mono ?_
      rintro e w2 ⟨hr, hb2⟩
      have HB2 := hide hb2
      clear hb2 HRA
      cases hq : rd (xs.drop p) with
      | none =>
        rw [hq] at hr HD
        have hr' : e = .returned (.tuple #[.slice none 0 0, .int .i64 11]) := hr
        subst hr'
        clear hr hq
        go_wp2
        go_ret2
        exact ⟨by unfold DrR; rw [HD.out]; exact rfl, HB2.out⟩
      | some l =>
        have hbk := rd_back _ _ l (Nat.le_refl _) (by rw [List.length_drop, HLN.out]; omega) (fun c hc => HB.out.hbyte c (List.mem_of_mem_drop hc)) hq
        rw [hq] at hr HD
        obtain ⟨v7, e7, ho7⟩ : ∃ v, e = .returned (.tuple #[v, .int .i64 0]) ∧ w2.ownsRow w.heap.size 39 3 v l.length (l.flatMap fV) := hr
        subst e7
        obtain ⟨a7, c7, e8, hsv⟩ := own_sv fV_len ho7 rfl
        subst e8
        have HSV := hide hsv
        have HOKL : Hid (∀ x ∈ l, x.ok) := hbk.2.2.1
        have HSM : Hid (∀ x ∈ l, x.2.2.size ≤ 4194304) := by
          intro x hx
          have h1 := kb_mem hx
          rw [hbk.2.1, List.length_drop, HLN.out] at h1
          have := val_small (m := 1048576) (keyErr_zero hbk.1 x hx) (by omega)
          omega
        have HEN := hide (encrow54 HSV.out HOKL.out HSM.out)
        clear hbk ho7 hsv hq
        go_wp2_with fail
        refine HEN.out.mono ?_
        rintro e w3 ⟨ax, nx, cx, rfl, hx, hb3⟩
        have HX3 := hide hx
        have HB3 : Hid (Below w.heap.size w w3) := HB2.out.trans (hb3.mono HB2.out.size)
        have HSV3 := hide (HSV.out.later hb3)
        clear hx hb3 HEN HSV
        by_cases hz : rowE l = 0
        · have HEQ := hide (bequal_any ax _ nx cx n c (rowB l) xs w3 (HX3.out hz) (HB.out.later HB3.out (Nat.le_refl _)))
          have HZ := hide hz
          rw [hz]
          clear hz
          go_wp2_with fail
          refine HEQ.out.mono ?_
          rintro e w9 ⟨rfl, hw⟩
          have hw := hw.symm
          subst hw
          clear hw HEQ
          by_cases hq : rowB l = xs
          · have HN : Hid (drow xs = some l) := by show _ = _; rw [HD.out]; exact if_pos ⟨HZ.out, hq⟩
            rw [decide_eq_true hq]
            clear hq
            go_wp2
            go_ret2
            exact ⟨by unfold DrR; rw [HN.out]; exact ⟨fun x hx => ⟨HOKL.out x hx, HSM.out x hx⟩, a7, c7, rfl, HSV3.out⟩, HB3.out⟩
          · have HN : Hid (drow xs = none) := by show _ = _; rw [HD.out]; exact if_neg fun q => hq q.2
            rw [decide_eq_false hq]
            clear hq
            go_wp2
            go_ret2
            exact ⟨by unfold DrR; rw [HN.out]; exact rfl, HB3.out⟩
        · have HN : Hid (drow xs = none) := by show _ = _; rw [HD.out]; exact if_neg fun q => hz q.1
          have dz : (rowE l != 0) = true := by simp [hz]
          clear hz
          go_wp2
          go_ret2
          exact ⟨by unfold DrR; rw [HN.out]; exact rfl, HB3.out⟩
    · have e1 : n = c := by omega
      have e2 : p = c := by omega
      subst e1 e2
      have HBD : Hid (BS w (some ⟨b, o, none⟩) 0 0 (xs.drop p)) := by
        show BS _ _ _ _ _
        rw [List.drop_of_length_le (by rw [HLN.out]; omega)]
        exact BS.none'
      clear HDR
      go_enter Try.func23, Try.ntmps23
      go_wp2_with fail
      refine HU.out.mono ?_
      rintro e w1 ⟨rfl, hw⟩
      have hw := hw.symm
      subst hw
      clear HU hw
      have HRA := hide (read_any _ _ _ (xs.drop p) w HBD.out (by omega))
      go_wp2_with fail
      refine HRA.out.mono ?_
      rintro e w2 ⟨hr, hb2⟩
      have HB2 := hide hb2
      clear hb2 HRA
      cases hq : rd (xs.drop p) with
      | none =>
        rw [hq] at hr HD
        have hr' : e = .returned (.tuple #[.slice none 0 0, .int .i64 11]) := hr
        subst hr'
        clear hr hq
        go_wp2
        go_ret2
        exact ⟨by unfold DrR; rw [HD.out]; exact rfl, HB2.out⟩
      | some l =>
        have hbk := rd_back _ _ l (Nat.le_refl _) (by rw [List.length_drop, HLN.out]; omega) (fun c hc => HB.out.hbyte c (List.mem_of_mem_drop hc)) hq
        rw [hq] at hr HD
        obtain ⟨v7, e7, ho7⟩ : ∃ v, e = .returned (.tuple #[v, .int .i64 0]) ∧ w2.ownsRow w.heap.size 39 3 v l.length (l.flatMap fV) := hr
        subst e7
        obtain ⟨a7, c7, e8, hsv⟩ := own_sv fV_len ho7 rfl
        subst e8
        have HSV := hide hsv
        have HOKL : Hid (∀ x ∈ l, x.ok) := hbk.2.2.1
        have HSM : Hid (∀ x ∈ l, x.2.2.size ≤ 4194304) := by
          intro x hx
          have h1 := kb_mem hx
          rw [hbk.2.1, List.length_drop, HLN.out] at h1
          have := val_small (m := 1048576) (keyErr_zero hbk.1 x hx) (by omega)
          omega
        have HEN := hide (encrow54 HSV.out HOKL.out HSM.out)
        clear hbk ho7 hsv hq
        go_wp2_with fail
        refine HEN.out.mono ?_
        rintro e w3 ⟨ax, nx, cx, rfl, hx, hb3⟩
        have HX3 := hide hx
        have HB3 : Hid (Below w.heap.size w w3) := HB2.out.trans (hb3.mono HB2.out.size)
        have HSV3 := hide (HSV.out.later hb3)
        clear hx hb3 HEN HSV
        by_cases hz : rowE l = 0
        · have HEQ := hide (bequal_any ax _ nx cx p p (rowB l) xs w3 (HX3.out hz) (HB.out.later HB3.out (Nat.le_refl _)))
          have HZ := hide hz
          rw [hz]
          clear hz
          go_wp2_with fail
          refine HEQ.out.mono ?_
          rintro e w9 ⟨rfl, hw⟩
          have hw := hw.symm
          subst hw
          clear hw HEQ
          by_cases hq : rowB l = xs
          · have HN : Hid (drow xs = some l) := by show _ = _; rw [HD.out]; exact if_pos ⟨HZ.out, hq⟩
            rw [decide_eq_true hq]
            clear hq
            go_wp2
            go_ret2
            exact ⟨by unfold DrR; rw [HN.out]; exact ⟨fun x hx => ⟨HOKL.out x hx, HSM.out x hx⟩, a7, c7, rfl, HSV3.out⟩, HB3.out⟩
          · have HN : Hid (drow xs = none) := by show _ = _; rw [HD.out]; exact if_neg fun q => hq q.2
            rw [decide_eq_false hq]
            clear hq
            go_wp2
            go_ret2
            exact ⟨by unfold DrR; rw [HN.out]; exact rfl, HB3.out⟩
        · have HN : Hid (drow xs = none) := by show _ = _; rw [HD.out]; exact if_neg fun q => hz q.1
          have dz : (rowE l != 0) = true := by simp [hz]
          clear hz
          go_wp2
          go_ret2
          exact ⟨by unfold DrR; rw [HN.out]; exact rfl, HB3.out⟩
  · have HD : Hid (drow xs = none) := by
      show _ = _
      unfold drow
      rw [hz, if_neg h0]
    have hz0 : ((z : Int) != 0) = true := by simp; omega
    clear hz hv hp hlen h0 hb
    go_enter Try.func23, Try.ntmps23
    go_wp2_with fail
    refine HU.out.mono ?_
    rintro e w1 ⟨rfl, hw⟩
    have hw := hw.symm
    subst hw
    clear HU hw
    go_wp2
    go_ret2
    exact ⟨by unfold DrR; rw [HD.out]; exact rfl, Below.refl _ _⟩
end Go.Proofs.Ytcophbkgighepaa
set_option linter.unusedVariables false
namespace Go.Proofs.Ytcophbkgighepaa
open Go.RowKit

theorem encW_one {n : Nat} (h : n < 128) : (encW n).length = 1 := by
  have h1 := grp_spec n (by omega)
  rw [enc_length n h1.1]
  rcases Nat.eq_zero_or_pos n with q | q
  · exact h1.2.2.2.2 q
  · have h2 := h1.2.2.2.1 (by omega)
    rcases Nat.lt_or_ge 1 (grp n) with h3 | h3
    · have h4 : 128 ^ 1 ≤ 128 ^ (grp n - 1) := Nat.pow_le_pow_right (by omega) (by omega)
      omega
    · omega
theorem wb_nine {s : ByteArray} (h : s.size ≤ 8) : (wb s).length ≤ 9 := by
  unfold wb
  rw [List.length_append, encW_one (by omega)]
  have : (sl s).length = s.size := by simp [sl]
  omega
theorem flat_max {α : Type} {f : α → List Nat} {m : Nat} : ∀ {l : List α}, (∀ x ∈ l, (f x).length ≤ m) → (l.flatMap f).length ≤ l.length * m
  | [], _ => by simp
  | x :: l, h => by
    rw [List.flatMap_cons, List.length_append, List.length_cons, Nat.add_mul]
    have h1 := h x List.mem_cons_self
    have h2 := flat_max (l := l) (fun y hy => h y (List.mem_cons_of_mem _ hy))
    omega
theorem encS_80 {s : Sch} (h : s.ok = true) : (encS s).length ≤ 80 := by
  obtain ⟨h1, h2, h3, h4, h5⟩ := Sch.parts h
  have a1 := wb_nine h1
  have a2 : (encW s.cs.length).length = 1 := encW_one (by omega)
  have a3 : (encW s.xs.length).length = 1 := encW_one (by omega)
  have a4 : (s.cs.flatMap encC).length ≤ s.cs.length * 11 := flat_max fun c hc => by
    obtain ⟨j, hj⟩ := List.getElem?_of_mem hc
    have hk := h4 j c hj
    unfold encC
    have b1 := wb_nine hk.nm
    have b2 : (encW c.2.1.toNat).length = 1 := encW_one (by have := hk.k1; omega)
    have b3 : (encW c.2.2.toNat).length = 1 := encW_one (by have := hk.m1; omega)
    simp only [List.length_append]
    omega
  have a5 : (s.xs.flatMap encX).length ≤ s.xs.length * 2 := flat_max fun c hc => by
    obtain ⟨j, hj⟩ := List.getElem?_of_mem hc
    have hk := h5 j c hj
    unfold encX
    have b1 : (encW c.1.toNat).length = 1 := encW_one (by omega)
    have b2 : (encW (if c.2 then 1 else 0)).length = 1 := encW_one (by split <;> omega)
    simp only [List.length_append]
    omega
  have m1 : s.cs.length * 11 ≤ 3 * 11 := Nat.mul_le_mul_right _ h2
  have m2 : s.xs.length * 2 ≤ 3 * 2 := Nat.mul_le_mul_right _ h3
  unfold encS
  simp only [List.length_append]
  omega
theorem val_28 {x : Val} (he : x.err = 0) (hr : rcn x.2.2 ≤ 8) : x.bytes.length ≤ 28 := by
  unfold Val.bytes
  cases hh : holdOf x.1 x.2.1 x.2.2 with
  | text s =>
    simp only [H.bytes, List.length_cons, List.length_append, runeB_len, hiB_len]
    have : ((runes (bl x.2.2)).getD []).length ≤ 8 := hr
    omega
  | number n => simp [H.bytes, hiB_len]
  | truth b => simp [H.bytes]
  | nothing => simp [H.bytes]
  | none => simp [H.bytes]
theorem rowE_all {l : List Val} (h : rowE l = 0) : ∀ x ∈ l, x.err = 0 ∧ rcn x.2.2 ≤ 8 := by
  intro x hx
  have h1 := rowE_zero h
  refine ⟨keyErr_zero h1.2 x hx, ?_⟩
  unfold rowE at h
  rw [if_neg (by omega), if_neg (by rw [h1.2]; simp)] at h
  split at h
  · cases h
  · rename_i q
    by_cases c : rcn x.2.2 ≤ 8
    · exact c
    · exact absurd (List.any_eq_true.2 ⟨x, hx, by simp; omega⟩) q
theorem rowB_120 {l : List Val} (h : rowE l = 0) : (rowB l).length ≤ 120 := by
  have h1 := rowE_zero h
  have h2 : (keyBytes l).length ≤ l.length * 28 := flat_max (f := Val.bytes) fun x hx => val_28 (rowE_all h x hx).1 (rowE_all h x hx).2
  have h3 : (encW l.length).length = 1 := encW_one (by omega)
  unfold rowB
  rw [List.length_append]
  have : l.length * 28 ≤ 3 * 28 := Nat.mul_le_mul_right _ h1.1
  omega
theorem drow_rowB {l : List Val} (h : rowE l = 0) (ok : ∀ x ∈ l, x.ok) : drow (rowB l) = some l := by
  have h1 := rowE_zero h
  have h2 := rd_num (pre := []) (rest := keyBytes l) (n := l.length) (by omega)
  have e : ([] : List Nat) ++ (encW l.length ++ keyBytes l) = rowB l := rfl
  rw [e] at h2
  have e0 : ((([] : List Nat).length : Nat) : Int) = 0 := rfl
  rw [e0] at h2
  unfold drow
  rw [if_pos h2.2.2, h2.2.1]
  have e1 : (rowB l).drop (([] : List Nat).length + (encW l.length).length) = keyBytes l := by
    unfold rowB
    simp
  rw [e1, rd_fore l ok h1.2]
  exact if_pos ⟨h, rfl⟩
end Go.Proofs.Ytcophbkgighepaa
