/- The walk of the law WireForth: whatever bytes, place and numbers, it returns true and writes nothing that was there. -/
import Derived.Test.YtblgagjifaeadaaW1b
import Derived.Test.YtblgagjifaeadaaM5
import Derived.Deep.QuietTactic
import Derived.BigQuiet
namespace Go.Proofs.Ytblgagjifaeadaa
open Go.RowKit
attribute [local go_sem ↓] Go.wp_at_zero Go.wp_at_succ

theorem BS.drewN {w : World} {a : Option Addr} {len cap : Nat} {xs : List Nat} (h : BS w a len cap xs) (n : Nat) : BS (w.drewN n) a len cap xs := by
  induction n with
  | zero => exact h
  | succ n ih => exact ⟨h.hlen, h.hcap, h.hroom, h.hmax, h.hbyte, h.hnil, fun x hx i hi => ih.hcell x hx i hi⟩
theorem bs_cut {w : World} {b o len cap : Nat} {xs : List Nat} (h : BS w (some ⟨b, o, none⟩) len cap xs) (i j : Nat) (hij : i ≤ j) (hj : j ≤ len) : BS w (some ⟨b, o + i, none⟩) (j - i) (cap - i) ((xs.drop i).take (j - i)) := by
  have hl := h.hlen
  have hc := h.hcap
  have hr := h.hroom
  have hm := h.hmax
  refine BS.of (by rw [List.length_take, List.length_drop]; omega) (by omega) (by omega) (by omega) (fun n hn => h.hbyte n (List.mem_of_mem_drop (List.mem_of_mem_take hn))) (fun k hk => ?_)
  have := h.hcell _ rfl (i + k) (by omega)
  rw [add_plain] at this
  rw [Nat.add_assoc, this]
  congr 3
  simp only [List.getD_eq_getElem?_getD, List.getElem?_take_of_lt hk, List.getElem?_drop]

set_option maxRecDepth 100000 in
set_option maxHeartbeats 4000000 in
theorem wireForth_no (a0 : Option Addr) (len0 cap0 : Nat) (xs : List Nat) (p n m : Int) (w : World) (h : BS w a0 len0 cap0 xs) (he : ruE xs p ≠ 0) :
    Calls Try.prog 7 #[.slice a0 len0 cap0, .int .i64 p, .int .i64 n, .int .i64 m] w fun e w' => e = .returned (.bool true) ∧ Below w.heap.size w w' := by
  go_enter Try.func7, Try.ntmps7
  go_wp2_with fail
  refine (readUint_any a0 len0 cap0 xs p _ h).mono ?_
  rintro e w2 ⟨rfl, hw⟩
  have hw := hw.symm
  subst hw
  clear h
  have he' : ((ruE xs p : Int) == 0) = false := by simp; omega
  generalize ruE xs p = E at *
  generalize ruN xs p = N at *
  generalize ruP xs p = P at *
  go_wp2_with fail
  go_quiet (fail)
  have HS5 := hid_of (below_drewN (Below.refl w.heap.size w) nq)
  obtain ⟨kn, hkn, hmn⟩ := mask63 n
  obtain ⟨km, hkm, hmm⟩ := mask63 m
  have HU := hid_of hkn
  have HV := hid_of hkm
  go_wp2_with fail
  refine (uint_any kn _ hkn).mono ?_
  rintro e w6 ⟨gu, rfl, hrow6⟩
  have HB6 := hid_of (hrow6.bs (grp kn) (enc_length kn (grp_spec kn hkn).1) (by have := (grp_spec kn hkn).2.1; omega) (enc_byte kn))
  have HS6 := hid_of (HS5.out.trans (hrow6.below.mono HS5.out.size))
  clear hrow6
  go_wp2_with fail
  refine (uint_any km _ hkm).mono ?_
  rintro e w7 ⟨gv, rfl, hrow7⟩
  have HB7 := hid_of (HB6.out.later hrow7.below (Nat.le_refl _))
  have HC7 := hid_of (hrow7.bs (grp km) (enc_length km (grp_spec km hkm).1) (by have := (grp_spec km hkm).2.1; omega) (enc_byte km))
  have HS7 := hid_of (HS6.out.trans (hrow7.below.mono HS6.out.size))
  clear hrow7
  obtain ⟨g1, g2, -, -, -⟩ := grp_spec kn hkn
  obtain ⟨k1, k2, -, -, -⟩ := grp_spec km hkm
  have HLESS := hid_of (enc_less kn km hkn hkm)
  have HMORE := hid_of (grp_more kn km hkn hkm)
  have HMORE' := hid_of (grp_more km kn hkm hkn)
  have HPRE := hid_of (enc_prefix kn km hkn hkm)
  have HLV := hid_of (enc_length km k1)
  have HBY := hid_of (enc_byte kn)
  have HBZ := hid_of (enc_byte km)
  have qu : ∀ nq, (convert 22 9 (.slice (some ⟨gu, 0, none⟩) (grp kn) (grp kn))).run Try.prog (w7.drewN nq) = .ok (.string (str (enc kn))) (w7.drewN nq) := fun nq => run_text (HB7.out.drewN nq)
  have qv : ∀ nq, (convert 22 9 (.slice (some ⟨gv, 0, none⟩) (grp km) (grp km))).run Try.prog (w7.drewN nq) = .ok (.string (str (enc km))) (w7.drewN nq) := fun nq => run_text (HC7.out.drewN nq)
  have tu : ((grp kn : Int) == 0) = false := by simp; omega
  have tv : ((grp km : Int) == 0) = false := by simp; omega
  generalize hgn : grp kn = gn at *
  generalize hgm : grp km = gm at *
  have HGN := hid_of hgn
  have HGM := hid_of hgm
  clear hgn hgm hkn hkm
  have fin : ∀ wz : World, Below w7.heap.size w7 wz → Below w.heap.size w wz := fun wz hz => HS7.out.trans (hz.mono HS7.out.size)
  by_cases hkk : kn = km
  · subst hkk
    have hgg : gn = gm := by rw [← HGN.out, ← HGM.out]
    subst hgg
    have hls : Op.bytesLess (str (enc kn)).toList (str (enc kn)).toList = false := by
      have := HLESS.out rfl
      simpa using this
    go_wp2_with fail
    go_quiet (fail)
    go_wp2_with (go_at_call 12; refine (told_any _).mono ?_; rintro e w8 ⟨rfl, hb8⟩; have cu := run_text ((HB7.out.drewN nq).later hb8 (Nat.le_refl _)); have cv := run_text ((HC7.out.drewN nq).later hb8 (Nat.le_refl _)))
    go_ret
    exact ⟨rfl, fin _ ((below_drewN (Below.refl w7.heap.size w7) nq).trans hb8)⟩
  have tne : ((kn : Int) != (km : Int)) = true := by rw [bne_iff_ne]; omega
  have qw : gn ≤ gm → ∀ nq, (convert 22 9 (.slice (some ⟨gv, 0, none⟩) gn gm)).run Try.prog (w7.drewN nq) = .ok (.string (str ((enc km).take gn))) (w7.drewN nq) := fun hle nq => by
    have h0 := HC7.out
    rw [← List.take_append_drop gn (enc km)] at h0
    have hlv := HLV.out
    exact run_text ((h0.front gn (by rw [List.length_take]; omega)).drewN nq)
  have heq : gn ≤ gm → ((str ((enc km).take gn)).toList == (str (enc kn)).toList) = false := fun hle => by
    rw [str_beq _ _ (fun x hx => HBZ.out x (List.mem_of_mem_take hx)) HBY.out]
    refine decide_eq_false fun h => hkk (HPRE.out ((enc km).drop gn) ?_)
    rw [← h, List.take_append_drop]
  by_cases hgg : gn = gm
  · subst hgg
    have qw := qw (Nat.le_refl _)
    have heq := heq (Nat.le_refl _)
    have htk : (enc km).take gn = enc km := List.take_of_length_le (by rw [HLV.out]; exact Nat.le_refl _)
    rw [htk] at heq
    clear qw htk
    have hls := HLESS.out rfl
    by_cases hlt : kn < km
    · rw [decide_eq_true hlt] at hls
      go_wp2_with fail
      go_quiet (fail)
      go_wp2_with (go_at_call 12; refine (told_any _).mono ?_; rintro e w8 ⟨rfl, hb8⟩; have cu := run_text ((HB7.out.drewN nq).later hb8 (Nat.le_refl _)); have cv := run_text ((HC7.out.drewN nq).later hb8 (Nat.le_refl _)))
      go_ret
      exact ⟨rfl, fin _ ((below_drewN (Below.refl w7.heap.size w7) nq).trans hb8)⟩
    have hlt' : ¬ (kn : Int) < (km : Int) := by omega
    rw [decide_eq_false hlt] at hls
    go_wp2_with fail
    go_quiet (fail)
    go_wp2_with (go_at_call 12; refine (told_any _).mono ?_; rintro e w8 ⟨rfl, hb8⟩; have cu := run_text ((HB7.out.drewN nq).later hb8 (Nat.le_refl _)); have cv := run_text ((HC7.out.drewN nq).later hb8 (Nat.le_refl _)))
    go_ret
    exact ⟨rfl, fin _ ((below_drewN (Below.refl w7.heap.size w7) nq).trans hb8)⟩
  by_cases hgl : gn < gm
  · have qw := qw (by omega)
    have heq := heq (by omega)
    have hlt : kn < km := HMORE'.out hgl
    have b0 : (0 : Int) ≤ (gn : Int) := by omega
    have b1 : (gn : Int) ≤ (gm : Int) := by omega
    have b2 : gn ≤ gm := by omega
    have tg : ((gn : Int) != (gm : Int)) = true := by rw [bne_iff_ne]; omega
    go_wp2_with fail
    go_quiet (fail)
    go_wp2_with (go_at_call 12; refine (told_any _).mono ?_; rintro e w8 ⟨rfl, hb8⟩; have cu := run_text ((HB7.out.drewN nq).later hb8 (Nat.le_refl _)); have cv := run_text ((HC7.out.drewN nq).later hb8 (Nat.le_refl _)))
    go_ret
    exact ⟨rfl, fin _ ((below_drewN (Below.refl w7.heap.size w7) nq).trans hb8)⟩
  have hlt : km < kn := HMORE.out (by omega)
  have tg : ((gn : Int) != (gm : Int)) = true := by rw [bne_iff_ne]; omega
  have tl : ¬ gn ≤ gm := by omega
  clear qw heq
  go_wp2_with fail
  go_quiet (fail)
  go_wp2_with (go_at_call 12; refine (told_any _).mono ?_; rintro e w8 ⟨rfl, hb8⟩; have cu := run_text ((HB7.out.drewN nq).later hb8 (Nat.le_refl _)); have cv := run_text ((HC7.out.drewN nq).later hb8 (Nat.le_refl _)))
  go_ret
  exact ⟨rfl, fin _ ((below_drewN (Below.refl w7.heap.size w7) nq).trans hb8)⟩

set_option maxRecDepth 100000 in
set_option maxHeartbeats 4000000 in
theorem wireForth_ok (b o len0 cap0 : Nat) (xs : List Nat) (pn : Nat) (n m : Int) (w : World) (h : BS w (some ⟨b, o, none⟩) len0 cap0 xs) (he : ruE xs (pn : Int) = 0) :
    Calls Try.prog 7 #[.slice (some ⟨b, o, none⟩) len0 cap0, .int .i64 (pn : Int), .int .i64 n, .int .i64 m] w fun e w' => e = .returned (.bool true) ∧ Below w.heap.size w w' := by
  have hpp := ruP_le he
  have hen := ru_enc xs pn h.hbyte he
  have hl := h.hlen
  have hcp := h.hcap
  have hmx := h.hmax
  go_enter Try.func7, Try.ntmps7
  go_wp2_with fail
  refine (readUint_any _ len0 cap0 xs pn _ h).mono ?_
  rintro e w2 ⟨rfl, hw⟩
  have hw := hw.symm
  subst hw
  have HE := hid_of he
  have he' : ((ruE xs pn : Int) == 0) = true := by simp; omega
  have HN := hid_of hen.2
  have hPl : ruP xs pn ≤ len0 := by omega
  have hpP : pn < ruP xs pn := by omega
  have HB : Hid (BS w (some ⟨b, o + pn, none⟩) (ruP xs pn - pn) (cap0 - pn) (enc (ruN xs pn))) := by
    have := bs_cut h pn (ruP xs pn) (by omega) hPl
    rw [← hen.1, Int.toNat_natCast]; exact this
  clear h hen hpp he hl
  generalize ruE xs pn = E at *
  generalize ruN xs pn = N at *
  generalize ruP xs pn = P at *
  have d1 : decide ((pn : Int) < 0) = false := by simp
  have d2 : decide (len0 < P) = false := by simp; omega
  have d3 : decide ((len0 : Int) < (P : Int)) = false := by simp; omega
  have d4 : decide ((P : Int) ≤ (pn : Int)) = false := by simp; omega
  have d5 : decide (P ≤ pn) = false := by simp; omega
  have d6 : decide ((N : Int) < 0) = false := by simp
  have b1 : (0 : Int) ≤ (pn : Int) := by omega
  have b2 : (pn : Int) ≤ (P : Int) := by omega
  have b3 : (P : Int) ≤ (cap0 : Int) := by omega
  have b4 : ¬ pn = cap0 := by omega
  have b5 : ¬ cap0 = pn := by omega
  go_wp2_with fail
  refine wp_region_noPanic ?_
  refine wp_region_held_drew (S := fun wx => (convert 22 9 (.slice (some ⟨b, o + pn, none⟩) (P - pn) (cap0 - pn))).run Try.prog wx = .ok (.string (str (enc N))) wx) (by kernel_rfl) (run_text HB.out.drew) (fun hHeld => ?_)
  refine wpAnyH_takeAt (i := 0) (d := 21) (v := ?v0) (by kernel_rfl) (by kernel_rfl) (by kernel_rfl) (by kernel_rfl) (fun _ _ _ h => h) ?hy0 (by assumption) ?rest0
  case hy0 =>
    intro oi ho
    simp only [List.getElem?_toArray, List.getElem?_cons_zero, Option.some.injEq] at ho
    subst ho
    refine Or.inl ⟨by rfl, ?_⟩
    intro wx hSw
    try dsimp only at hSw
    go_simp
    try rfl
  try simp only [Act.put, List.setIfInBounds_toArray, List.set_cons_zero, List.set_cons_succ]
  refine wpAnyH_takeAt (i := 1) (d := 22) (v := ?v1) (by kernel_rfl) (by kernel_rfl) (by kernel_rfl) (by kernel_rfl) (fun _ _ _ h => h) ?hy1 (by assumption) ?rest1
  case hy1 =>
    intro oi ho
    simp only [List.getElem?_toArray, List.getElem?_cons_succ, List.getElem?_cons_zero, Option.some.injEq] at ho
    subst ho
    refine Or.inl ⟨by rfl, ?_⟩
    intro wx hSw
    try dsimp only at hSw
    go_simp
    try rfl
  try simp only [Act.put, List.setIfInBounds_toArray, List.set_cons_zero, List.set_cons_succ]
  refine wpAnyH_takeAt (i := 2) (d := 23) (v := ?v2) (by kernel_rfl) (by kernel_rfl) (by kernel_rfl) (by kernel_rfl) (fun _ _ _ h => h) ?hy2 (by assumption) ?rest2
  case hy2 =>
    intro oi ho
    simp only [List.getElem?_toArray, List.getElem?_cons_succ, List.getElem?_cons_zero, Option.some.injEq] at ho
    subst ho
    refine Or.inl ⟨by rfl, ?_⟩
    intro wx hSw
    try dsimp only at hSw
    go_simp
    try rfl
  try simp only [Act.put, List.setIfInBounds_toArray, List.set_cons_zero, List.set_cons_succ]
  refine wpAnyH_takeAt (i := 3) (d := 24) (v := ?v3) (by kernel_rfl) (by kernel_rfl) (by kernel_rfl) (by kernel_rfl) (fun _ _ _ h => h) ?hy3 (by assumption) ?rest3
  case hy3 =>
    intro oi ho
    simp only [List.getElem?_toArray, List.getElem?_cons_succ, List.getElem?_cons_zero, Option.some.injEq] at ho
    subst ho
    refine Or.inl ⟨by rfl, ?_⟩
    intro wx hSw
    try dsimp only at hSw
    go_simp
    try rfl
  try simp only [Act.put, List.setIfInBounds_toArray, List.set_cons_zero, List.set_cons_succ]
  refine wpAnyH_takeAt (i := 4) (d := 25) (v := ?v4) (by kernel_rfl) (by kernel_rfl) (by kernel_rfl) (by kernel_rfl) (fun _ _ _ h => h) ?hy4 (by assumption) ?rest4
  case hy4 =>
    intro oi ho
    simp only [List.getElem?_toArray, List.getElem?_cons_succ, List.getElem?_cons_zero, Option.some.injEq] at ho
    subst ho
    refine Or.inl ⟨by rfl, ?_⟩
    intro wx hSw
    try dsimp only at hSw
    go_simp
    try rfl
  try simp only [Act.put, List.setIfInBounds_toArray, List.set_cons_zero, List.set_cons_succ]
  refine wpAnyH_takeAt (i := 5) (d := 26) (v := ?v5) (by kernel_rfl) (by kernel_rfl) (by kernel_rfl) (by kernel_rfl) (fun _ _ _ h => h) ?hy5 (by assumption) ?rest5
  case hy5 =>
    intro oi ho
    simp only [List.getElem?_toArray, List.getElem?_cons_succ, List.getElem?_cons_zero, Option.some.injEq] at ho
    subst ho
    refine Or.inl ⟨by rfl, ?_⟩
    intro wx hSw
    try dsimp only at hSw
    go_simp
    try rfl
  try simp only [Act.put, List.setIfInBounds_toArray, List.set_cons_zero, List.set_cons_succ]
  refine wpAnyH_takeAt (i := 6) (d := 27) (v := ?v6) (by kernel_rfl) (by kernel_rfl) (by kernel_rfl) (by kernel_rfl) (fun _ _ _ h => h) ?hy6 (by assumption) ?rest6
  case hy6 =>
    intro oi ho
    simp only [List.getElem?_toArray, List.getElem?_cons_succ, List.getElem?_cons_zero, Option.some.injEq] at ho
    subst ho
    refine Or.inl ⟨by rfl, ?_⟩
    intro wx hSw
    try dsimp only at hSw
    go_simp
    try rfl
  try simp only [Act.put, List.setIfInBounds_toArray, List.set_cons_zero, List.set_cons_succ]
  refine wpAnyH_takeAt (i := 7) (d := 28) (v := ?v7) (by kernel_rfl) (by kernel_rfl) (by kernel_rfl) (by kernel_rfl) (fun _ _ _ h => h) ?hy7 (by assumption) ?rest7
  case hy7 =>
    intro oi ho
    simp only [List.getElem?_toArray, List.getElem?_cons_succ, List.getElem?_cons_zero, Option.some.injEq] at ho
    subst ho
    refine Or.inl ⟨by rfl, ?_⟩
    intro wx hSw
    try dsimp only at hSw
    go_simp
    try rfl
  try simp only [Act.put, List.setIfInBounds_toArray, List.set_cons_zero, List.set_cons_succ]
  refine wpAnyH_takeAt (i := 8) (d := 29) (v := ?v8) (by kernel_rfl) (by kernel_rfl) (by kernel_rfl) (by kernel_rfl) (fun _ _ _ h => h) ?hy8 (by assumption) ?rest8
  case hy8 =>
    intro oi ho
    simp only [List.getElem?_toArray, List.getElem?_cons_succ, List.getElem?_cons_zero, Option.some.injEq] at ho
    subst ho
    refine Or.inl ⟨by rfl, ?_⟩
    intro wx hSw
    try dsimp only at hSw
    go_simp
    try rfl
  try simp only [Act.put, List.setIfInBounds_toArray, List.set_cons_zero, List.set_cons_succ]
  refine wpAnyH_takeAt (i := 9) (d := 30) (v := ?v9) (by kernel_rfl) (by kernel_rfl) (by kernel_rfl) (by kernel_rfl) (fun _ _ _ h => h) ?hy9 (by assumption) ?rest9
  case hy9 =>
    intro oi ho
    simp only [List.getElem?_toArray, List.getElem?_cons_succ, List.getElem?_cons_zero, Option.some.injEq] at ho
    subst ho
    refine Or.inl ⟨by rfl, ?_⟩
    intro wx hSw
    try dsimp only at hSw
    go_simp
    try rfl
  try simp only [Act.put, List.setIfInBounds_toArray, List.set_cons_zero, List.set_cons_succ]
  refine wpAnyH_takeAt (i := 10) (d := 31) (v := ?v10) (by kernel_rfl) (by kernel_rfl) (by kernel_rfl) (by kernel_rfl) (fun _ _ _ h => h) ?hy10 (by assumption) ?rest10
  case hy10 =>
    intro oi ho
    simp only [List.getElem?_toArray, List.getElem?_cons_succ, List.getElem?_cons_zero, Option.some.injEq] at ho
    subst ho
    refine Or.inl ⟨by rfl, ?_⟩
    intro wx hSw
    try dsimp only at hSw
    go_simp
    try rfl
  try simp only [Act.put, List.setIfInBounds_toArray, List.set_cons_zero, List.set_cons_succ]
  refine wpAnyH_takeAt (i := 11) (d := 32) (v := ?v11) (by kernel_rfl) (by kernel_rfl) (by kernel_rfl) (by kernel_rfl) (fun _ _ _ h => h) ?hy11 (by assumption) ?rest11
  case hy11 =>
    intro oi ho
    simp only [List.getElem?_toArray, List.getElem?_cons_succ, List.getElem?_cons_zero, Option.some.injEq] at ho
    subst ho
    refine Or.inl ⟨by rfl, ?_⟩
    intro wx hSw
    try dsimp only at hSw
    go_simp
    try rfl
  try simp only [Act.put, List.setIfInBounds_toArray, List.set_cons_zero, List.set_cons_succ]
  refine wpAnyH_takeAt (i := 12) (d := 33) (v := ?v12) (by kernel_rfl) (by kernel_rfl) (by kernel_rfl) (by kernel_rfl) (fun _ _ _ h => h) ?hy12 (by assumption) ?rest12
  case hy12 =>
    intro oi ho
    simp only [List.getElem?_toArray, List.getElem?_cons_succ, List.getElem?_cons_zero, Option.some.injEq] at ho
    subst ho
    refine Or.inl ⟨by rfl, ?_⟩
    intro wx hSw
    try dsimp only at hSw
    go_simp
    try rfl
  try simp only [Act.put, List.setIfInBounds_toArray, List.set_cons_zero, List.set_cons_succ]
  refine wpAnyH_takeAt (i := 13) (d := 34) (v := ?v13) (by kernel_rfl) (by kernel_rfl) (by kernel_rfl) (by kernel_rfl) (fun _ _ _ h => h) ?hy13 (by assumption) ?rest13
  case hy13 =>
    intro oi ho
    simp only [List.getElem?_toArray, List.getElem?_cons_succ, List.getElem?_cons_zero, Option.some.injEq] at ho
    subst ho
    refine Or.inl ⟨by rfl, ?_⟩
    intro wx hSw
    try dsimp only at hSw
    go_simp
    try rfl
  try simp only [Act.put, List.setIfInBounds_toArray, List.set_cons_zero, List.set_cons_succ]
  refine wpAnyH_takeAt (i := 14) (d := 35) (v := ?v14) (by kernel_rfl) (by kernel_rfl) (by kernel_rfl) (by kernel_rfl) (fun _ _ _ h => h) ?hy14 (by assumption) ?rest14
  case hy14 =>
    intro oi ho
    simp only [List.getElem?_toArray, List.getElem?_cons_succ, List.getElem?_cons_zero, Option.some.injEq] at ho
    subst ho
    refine Or.inl ⟨by rfl, ?_⟩
    intro wx hSw
    try dsimp only at hSw
    go_simp
    try rfl
  try simp only [Act.put, List.setIfInBounds_toArray, List.set_cons_zero, List.set_cons_succ]
  refine wpAnyH_takeAt (i := 15) (d := 36) (v := ?v15) (by kernel_rfl) (by kernel_rfl) (by kernel_rfl) (by kernel_rfl) (fun _ _ _ h => h) ?hy15 (by assumption) ?rest15
  case hy15 =>
    intro oi ho
    simp only [List.getElem?_toArray, List.getElem?_cons_succ, List.getElem?_cons_zero, Option.some.injEq] at ho
    subst ho
    refine Or.inl ⟨by rfl, ?_⟩
    intro wx hSw
    try dsimp only at hSw
    go_simp
    try rfl
  try simp only [Act.put, List.setIfInBounds_toArray, List.set_cons_zero, List.set_cons_succ]
  refine wpAnyH_takeAt (i := 16) (d := 37) (v := ?v16) (by kernel_rfl) (by kernel_rfl) (by kernel_rfl) (by kernel_rfl) (fun _ _ _ h => h) ?hy16 (by assumption) ?rest16
  case hy16 =>
    intro oi ho
    simp only [List.getElem?_toArray, List.getElem?_cons_succ, List.getElem?_cons_zero, Option.some.injEq] at ho
    subst ho
    refine Or.inl ⟨by rfl, ?_⟩
    intro wx hSw
    try dsimp only at hSw
    go_simp
    try rfl
  try simp only [Act.put, List.setIfInBounds_toArray, List.set_cons_zero, List.set_cons_succ]
  refine wpAnyH_takeAt (i := 17) (d := 38) (v := ?v17) (by kernel_rfl) (by kernel_rfl) (by kernel_rfl) (by kernel_rfl) (fun _ _ _ h => h) ?hy17 (by assumption) ?rest17
  case hy17 =>
    intro oi ho
    simp only [List.getElem?_toArray, List.getElem?_cons_succ, List.getElem?_cons_zero, Option.some.injEq] at ho
    subst ho
    refine Or.inl ⟨by rfl, ?_⟩
    intro wx hSw
    try dsimp only at hSw
    go_simp
    try rfl
  try simp only [Act.put, List.setIfInBounds_toArray, List.set_cons_zero, List.set_cons_succ]
  refine wpAnyH_takeAt (i := 18) (d := 39) (v := ?v18) (by kernel_rfl) (by kernel_rfl) (by kernel_rfl) (by kernel_rfl) (fun _ _ _ h => h) ?hy18 (by assumption) ?rest18
  case hy18 =>
    intro oi ho
    simp only [List.getElem?_toArray, List.getElem?_cons_succ, List.getElem?_cons_zero, Option.some.injEq] at ho
    subst ho
    refine Or.inl ⟨by rfl, ?_⟩
    intro wx hSw
    try dsimp only at hSw
    go_simp
    try rfl
  try simp only [Act.put, List.setIfInBounds_toArray, List.set_cons_zero, List.set_cons_succ]
  refine wpAnyH_takeAt (i := 19) (d := 40) (v := ?v19) (by kernel_rfl) (by kernel_rfl) (by kernel_rfl) (by kernel_rfl) (fun _ _ _ h => h) ?hy19 (by assumption) ?rest19
  case hy19 =>
    intro oi ho
    simp only [List.getElem?_toArray, List.getElem?_cons_succ, List.getElem?_cons_zero, Option.some.injEq] at ho
    subst ho
    refine Or.inl ⟨by rfl, ?_⟩
    intro wx hSw
    try dsimp only at hSw
    go_simp
    try rfl
  try simp only [Act.put, List.setIfInBounds_toArray, List.set_cons_zero, List.set_cons_succ]
  refine wpAnyH_takeAt (i := 20) (d := 41) (v := ?v20) (by kernel_rfl) (by kernel_rfl) (by kernel_rfl) (by kernel_rfl) (fun _ _ _ h => h) ?hy20 (by assumption) ?rest20
  case hy20 =>
    intro oi ho
    simp only [List.getElem?_toArray, List.getElem?_cons_succ, List.getElem?_cons_zero, Option.some.injEq] at ho
    subst ho
    refine Or.inl ⟨by rfl, ?_⟩
    intro wx hSw
    try dsimp only at hSw
    go_simp
    try rfl
  try simp only [Act.put, List.setIfInBounds_toArray, List.set_cons_zero, List.set_cons_succ]
  refine wpAnyH_takeAt (i := 21) (d := 42) (v := ?v21) (by kernel_rfl) (by kernel_rfl) (by kernel_rfl) (by kernel_rfl) (fun _ _ _ h => h) ?hy21 (by assumption) ?rest21
  case hy21 =>
    intro oi ho
    simp only [List.getElem?_toArray, List.getElem?_cons_succ, List.getElem?_cons_zero, Option.some.injEq] at ho
    subst ho
    refine Or.inl ⟨by rfl, ?_⟩
    intro wx hSw
    try dsimp only at hSw
    go_simp
    try rfl
  try simp only [Act.put, List.setIfInBounds_toArray, List.set_cons_zero, List.set_cons_succ]
  refine wpAnyH_takeAt (i := 24) (d := 45) (v := ?v24) (by kernel_rfl) (by kernel_rfl) (by kernel_rfl) (by kernel_rfl) (fun _ _ _ h => h) ?hy24 (by assumption) ?rest24
  case hy24 =>
    intro oi ho
    simp only [List.getElem?_toArray, List.getElem?_cons_succ, List.getElem?_cons_zero, Option.some.injEq] at ho
    subst ho
    refine Or.inl ⟨by rfl, ?_⟩
    intro wx hSw
    try dsimp only at hSw
    go_simp
    try rfl
  try simp only [Act.put, List.setIfInBounds_toArray, List.set_cons_zero, List.set_cons_succ]
  refine wpAnyH_takeAt (i := 25) (d := 46) (v := ?v25) (by kernel_rfl) (by kernel_rfl) (by kernel_rfl) (by kernel_rfl) (fun _ _ _ h => h) ?hy25 (by assumption) ?rest25
  case hy25 =>
    intro oi ho
    simp only [List.getElem?_toArray, List.getElem?_cons_succ, List.getElem?_cons_zero, Option.some.injEq] at ho
    subst ho
    refine Or.inl ⟨by rfl, ?_⟩
    intro wx hSw
    try dsimp only at hSw
    go_simp
    try rfl
  try simp only [Act.put, List.setIfInBounds_toArray, List.set_cons_zero, List.set_cons_succ]
  refine wpAnyH_takeAt (i := 26) (d := 47) (v := ?v26) (by kernel_rfl) (by kernel_rfl) (by kernel_rfl) (by kernel_rfl) (fun _ _ _ h => h) ?hy26 (by assumption) ?rest26
  case hy26 =>
    intro oi ho
    simp only [List.getElem?_toArray, List.getElem?_cons_succ, List.getElem?_cons_zero, Option.some.injEq] at ho
    subst ho
    refine Or.inl ⟨by rfl, ?_⟩
    intro wx hSw
    try dsimp only at hSw
    go_simp
    try rfl
  try simp only [Act.put, List.setIfInBounds_toArray, List.set_cons_zero, List.set_cons_succ]
  refine wpAnyH_takeAt (i := 27) (d := 48) (v := ?v27) (by kernel_rfl) (by kernel_rfl) (by kernel_rfl) (by kernel_rfl) (fun _ _ _ h => h) ?hy27 (by assumption) ?rest27
  case hy27 =>
    intro oi ho
    simp only [List.getElem?_toArray, List.getElem?_cons_succ, List.getElem?_cons_zero, Option.some.injEq] at ho
    subst ho
    refine Or.inl ⟨by rfl, ?_⟩
    intro wx hSw
    try dsimp only at hSw
    go_simp
    try rfl
  try simp only [Act.put, List.setIfInBounds_toArray, List.set_cons_zero, List.set_cons_succ]
  refine wpAnyH_takeAt (i := 28) (d := 49) (v := ?v28) (by kernel_rfl) (by kernel_rfl) (by kernel_rfl) (by kernel_rfl) (fun _ _ _ h => h) ?hy28 (by assumption) ?rest28
  case hy28 =>
    intro oi ho
    simp only [List.getElem?_toArray, List.getElem?_cons_succ, List.getElem?_cons_zero, Option.some.injEq] at ho
    subst ho
    refine Or.inl ⟨by rfl, ?_⟩
    intro wx hSw
    try dsimp only at hSw
    go_simp
    try rfl
  try simp only [Act.put, List.setIfInBounds_toArray, List.set_cons_zero, List.set_cons_succ]
  refine wpAnyH_comesAt (i := 22) (by kernel_rfl) (by kernel_rfl) ?_
  intro o ho K hK
  simp only [List.getElem?_toArray, List.getElem?_cons_succ, List.getElem?_cons_zero, Option.some.injEq] at ho
  subst ho
  go_simp
  refine (uint_any N _ HN.out).mono ?_
  rintro e w3 ⟨g3, rfl, hrow⟩
  have HB3 := hid_of (HB.out.drew.later hrow.below (Nat.le_refl _))
  have HC3 := hid_of (hrow.bs (grp N) (enc_length N (grp_spec N HN.out).1) (by have := (grp_spec N HN.out).2.1; omega) (enc_byte N))
  have HS5 := hid_of ((Below.refl w.heap.size w).drew.trans hrow.below)
  clear hrow hHeld
  refine hK.out _ _ (run_text HB3.out) (fun hHeld => ?_)
  clear hK K
  try simp only [Act.put, List.setIfInBounds_toArray, List.set_cons_zero, List.set_cons_succ]
  refine wpAnyH_switch (S' := fun wx => (convert 22 9 (.slice (some ⟨b, o + pn, none⟩) (P - pn) (cap0 - pn))).run Try.prog wx = .ok (.string (str (enc N))) wx ∧ (convert 22 9 (.slice (some ⟨g3, 0, none⟩) (grp N) (grp N))).run Try.prog wx = .ok (.string (str (enc N))) wx) (fun w h => h.1) _ _ _ _ ?_
  have hHeld : (fun wx => (convert 22 9 (.slice (some ⟨b, o + pn, none⟩) (P - pn) (cap0 - pn))).run Try.prog wx = .ok (.string (str (enc N))) wx ∧ (convert 22 9 (.slice (some ⟨g3, 0, none⟩) (grp N) (grp N))).run Try.prog wx = .ok (.string (str (enc N))) wx) w3 := ⟨run_text HB3.out, run_text HC3.out⟩
  refine wpAnyH_takeAt (i := 23) (d := 44) (v := ?v23) (by kernel_rfl) (by kernel_rfl) (by kernel_rfl) (by kernel_rfl) (fun _ _ _ h => h) ?hy23 (by assumption) ?rest23
  case hy23 =>
    intro oi ho
    simp only [List.getElem?_toArray, List.getElem?_cons_succ, List.getElem?_cons_zero, Option.some.injEq] at ho
    subst ho
    refine Or.inl ⟨by rfl, ?_⟩
    intro wx hSw
    try dsimp only at hSw
    go_simp
    try rfl
  try simp only [Act.put, List.setIfInBounds_toArray, List.set_cons_zero, List.set_cons_succ]
  refine wpAnyH_takeAt (i := 29) (d := 50) (v := ?v29) (by kernel_rfl) (by kernel_rfl) (by kernel_rfl) (by kernel_rfl) (fun _ _ _ h => h) ?hy29 (by assumption) ?rest29
  case hy29 =>
    intro oi ho
    simp only [List.getElem?_toArray, List.getElem?_cons_succ, List.getElem?_cons_zero, Option.some.injEq] at ho
    subst ho
    refine Or.inl ⟨by rfl, ?_⟩
    intro wx hSw
    try dsimp only at hSw
    go_simp
    try rfl
  try simp only [Act.put, List.setIfInBounds_toArray, List.set_cons_zero, List.set_cons_succ]
  refine wpAnyH_takeAt (i := 30) (d := 51) (v := ?v30) (by kernel_rfl) (by kernel_rfl) (by kernel_rfl) (by kernel_rfl) (fun _ _ _ h => h) ?hy30 (by assumption) ?rest30
  case hy30 =>
    intro oi ho
    simp only [List.getElem?_toArray, List.getElem?_cons_succ, List.getElem?_cons_zero, Option.some.injEq] at ho
    subst ho
    refine Or.inl ⟨by rfl, ?_⟩
    intro wx hSw
    try dsimp only at hSw
    go_simp
    try rfl
  try simp only [Act.put, List.setIfInBounds_toArray, List.set_cons_zero, List.set_cons_succ]
  refine wpAnyH_takeAt (i := 31) (d := 52) (v := ?v31) (by kernel_rfl) (by kernel_rfl) (by kernel_rfl) (by kernel_rfl) (fun _ _ _ h => h) ?hy31 (by assumption) ?rest31
  case hy31 =>
    intro oi ho
    simp only [List.getElem?_toArray, List.getElem?_cons_succ, List.getElem?_cons_zero, Option.some.injEq] at ho
    subst ho
    refine Or.inl ⟨by rfl, ?_⟩
    intro wx hSw
    try dsimp only at hSw
    go_simp
    try rfl
  try simp only [Act.put, List.setIfInBounds_toArray, List.set_cons_zero, List.set_cons_succ]
  refine wpAnyH_done (by kernel_rfl) ?_ _
  refine NoPanic.normal ?_
  clear hHeld HB HB3 HC3
  obtain ⟨kn, hkn, hmn⟩ := mask63 n
  obtain ⟨km, hkm, hmm⟩ := mask63 m
  have HU := hid_of hkn
  have HV := hid_of hkm
  go_wp2_with fail
  refine (uint_any kn _ hkn).mono ?_
  rintro e w6 ⟨gu, rfl, hrow6⟩
  have HB6 := hid_of (hrow6.bs (grp kn) (enc_length kn (grp_spec kn hkn).1) (by have := (grp_spec kn hkn).2.1; omega) (enc_byte kn))
  have HS6 := hid_of (HS5.out.trans (hrow6.below.mono HS5.out.size))
  clear hrow6
  go_wp2_with fail
  refine (uint_any km _ hkm).mono ?_
  rintro e w7 ⟨gv, rfl, hrow7⟩
  have HB7 := hid_of (HB6.out.later hrow7.below (Nat.le_refl _))
  have HC7 := hid_of (hrow7.bs (grp km) (enc_length km (grp_spec km hkm).1) (by have := (grp_spec km hkm).2.1; omega) (enc_byte km))
  have HS7 := hid_of (HS6.out.trans (hrow7.below.mono HS6.out.size))
  clear hrow7
  obtain ⟨g1, g2, -, -, -⟩ := grp_spec kn hkn
  obtain ⟨k1, k2, -, -, -⟩ := grp_spec km hkm
  have HLESS := hid_of (enc_less kn km hkn hkm)
  have HMORE := hid_of (grp_more kn km hkn hkm)
  have HMORE' := hid_of (grp_more km kn hkm hkn)
  have HPRE := hid_of (enc_prefix kn km hkn hkm)
  have HLV := hid_of (enc_length km k1)
  have HBY := hid_of (enc_byte kn)
  have HBZ := hid_of (enc_byte km)
  have qu : ∀ nq, (convert 22 9 (.slice (some ⟨gu, 0, none⟩) (grp kn) (grp kn))).run Try.prog (w7.drewN nq) = .ok (.string (str (enc kn))) (w7.drewN nq) := fun nq => run_text (HB7.out.drewN nq)
  have qv : ∀ nq, (convert 22 9 (.slice (some ⟨gv, 0, none⟩) (grp km) (grp km))).run Try.prog (w7.drewN nq) = .ok (.string (str (enc km))) (w7.drewN nq) := fun nq => run_text (HC7.out.drewN nq)
  have tu : ((grp kn : Int) == 0) = false := by simp; omega
  have tv : ((grp km : Int) == 0) = false := by simp; omega
  generalize hgn : grp kn = gn at *
  generalize hgm : grp km = gm at *
  have HGN := hid_of hgn
  have HGM := hid_of hgm
  clear hgn hgm hkn hkm
  have fin : ∀ wz : World, Below w7.heap.size w7 wz → Below w.heap.size w wz := fun wz hz => HS7.out.trans (hz.mono HS7.out.size)
  by_cases hkk : kn = km
  · subst hkk
    have hgg : gn = gm := by rw [← HGN.out, ← HGM.out]
    subst hgg
    have hls : Op.bytesLess (str (enc kn)).toList (str (enc kn)).toList = false := by
      have := HLESS.out rfl
      simpa using this
    go_wp2_with fail
    go_quiet (fail)
    go_wp2_with (go_at_call 12; refine (told_any _).mono ?_; rintro e w8 ⟨rfl, hb8⟩; have cu := run_text ((HB7.out.drewN nq).later hb8 (Nat.le_refl _)); have cv := run_text ((HC7.out.drewN nq).later hb8 (Nat.le_refl _)))
    go_ret
    exact ⟨rfl, fin _ ((below_drewN (Below.refl w7.heap.size w7) nq).trans hb8)⟩
  have tne : ((kn : Int) != (km : Int)) = true := by rw [bne_iff_ne]; omega
  have qw : gn ≤ gm → ∀ nq, (convert 22 9 (.slice (some ⟨gv, 0, none⟩) gn gm)).run Try.prog (w7.drewN nq) = .ok (.string (str ((enc km).take gn))) (w7.drewN nq) := fun hle nq => by
    have h0 := HC7.out
    rw [← List.take_append_drop gn (enc km)] at h0
    have hlv := HLV.out
    exact run_text ((h0.front gn (by rw [List.length_take]; omega)).drewN nq)
  have heq : gn ≤ gm → ((str ((enc km).take gn)).toList == (str (enc kn)).toList) = false := fun hle => by
    rw [str_beq _ _ (fun x hx => HBZ.out x (List.mem_of_mem_take hx)) HBY.out]
    refine decide_eq_false fun h => hkk (HPRE.out ((enc km).drop gn) ?_)
    rw [← h, List.take_append_drop]
  by_cases hgg : gn = gm
  · subst hgg
    have qw := qw (Nat.le_refl _)
    have heq := heq (Nat.le_refl _)
    have htk : (enc km).take gn = enc km := List.take_of_length_le (by rw [HLV.out]; exact Nat.le_refl _)
    rw [htk] at heq
    clear qw htk
    have hls := HLESS.out rfl
    by_cases hlt : kn < km
    · rw [decide_eq_true hlt] at hls
      go_wp2_with fail
      go_quiet (fail)
      go_wp2_with (go_at_call 12; refine (told_any _).mono ?_; rintro e w8 ⟨rfl, hb8⟩; have cu := run_text ((HB7.out.drewN nq).later hb8 (Nat.le_refl _)); have cv := run_text ((HC7.out.drewN nq).later hb8 (Nat.le_refl _)))
      go_ret
      exact ⟨rfl, fin _ ((below_drewN (Below.refl w7.heap.size w7) nq).trans hb8)⟩
    have hlt' : ¬ (kn : Int) < (km : Int) := by omega
    rw [decide_eq_false hlt] at hls
    go_wp2_with fail
    go_quiet (fail)
    go_wp2_with (go_at_call 12; refine (told_any _).mono ?_; rintro e w8 ⟨rfl, hb8⟩; have cu := run_text ((HB7.out.drewN nq).later hb8 (Nat.le_refl _)); have cv := run_text ((HC7.out.drewN nq).later hb8 (Nat.le_refl _)))
    go_ret
    exact ⟨rfl, fin _ ((below_drewN (Below.refl w7.heap.size w7) nq).trans hb8)⟩
  by_cases hgl : gn < gm
  · have qw := qw (by omega)
    have heq := heq (by omega)
    have hlt : kn < km := HMORE'.out hgl
    have b0 : (0 : Int) ≤ (gn : Int) := by omega
    have b1 : (gn : Int) ≤ (gm : Int) := by omega
    have b2 : gn ≤ gm := by omega
    have tg : ((gn : Int) != (gm : Int)) = true := by rw [bne_iff_ne]; omega
    go_wp2_with fail
    go_quiet (fail)
    go_wp2_with (go_at_call 12; refine (told_any _).mono ?_; rintro e w8 ⟨rfl, hb8⟩; have cu := run_text ((HB7.out.drewN nq).later hb8 (Nat.le_refl _)); have cv := run_text ((HC7.out.drewN nq).later hb8 (Nat.le_refl _)))
    go_ret
    exact ⟨rfl, fin _ ((below_drewN (Below.refl w7.heap.size w7) nq).trans hb8)⟩
  have hlt : km < kn := HMORE.out (by omega)
  have tg : ((gn : Int) != (gm : Int)) = true := by rw [bne_iff_ne]; omega
  have tl : ¬ gn ≤ gm := by omega
  clear qw heq
  go_wp2_with fail
  go_quiet (fail)
  go_wp2_with (go_at_call 12; refine (told_any _).mono ?_; rintro e w8 ⟨rfl, hb8⟩; have cu := run_text ((HB7.out.drewN nq).later hb8 (Nat.le_refl _)); have cv := run_text ((HC7.out.drewN nq).later hb8 (Nat.le_refl _)))
  go_ret
  exact ⟨rfl, fin _ ((below_drewN (Below.refl w7.heap.size w7) nq).trans hb8)⟩

theorem wireForth_walk (a0 : Option Addr) (len0 cap0 : Nat) (xs : List Nat) (p n m : Int) (w : World) (h : BS w a0 len0 cap0 xs) (_hr : len0 ≤ 140737488351232) (_hp : (Lit.int .i64 p).wf = true) (_hn : (Lit.int .i64 n).wf = true) (_hm : (Lit.int .i64 m).wf = true) :
    Calls Try.prog 7 #[.slice a0 len0 cap0, .int .i64 p, .int .i64 n, .int .i64 m] w fun e w' => e = .returned (.bool true) ∧ Below w.heap.size w w' := by
  by_cases he : ruE xs p = 0
  · have hpp := ruP_le he
    have hl := h.hlen
    obtain ⟨pn, rfl⟩ := Int.eq_ofNat_of_zero_le hpp.2.2
    obtain ⟨b, o, rfl, _, _⟩ := h.place (by omega)
    exact wireForth_ok b o len0 cap0 xs pn n m w h he
  · exact wireForth_no a0 len0 cap0 xs p n m w h he
end Go.Proofs.Ytblgagjifaeadaa
