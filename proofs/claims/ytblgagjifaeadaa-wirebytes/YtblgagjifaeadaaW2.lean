/- The walk of the law WireBytes: whatever bytes, place and bound, it returns true and writes nothing that was there. -/
import Derived.Test.YtblgagjifaeadaaW1b
import Derived.Test.YtblgagjifaeadaaC5
namespace Go.Proofs.Ytblgagjifaeadaa
open Go.RowKit
attribute [local go_sem ↓] Go.wp_at_zero Go.wp_at_succ

theorem isSome_setCell (w : World) (a b : Addr) (v : Value) (h : (w.cell? b).isSome = true) : ((w.setCell a v).cell? b).isSome = true := by
  by_cases e : a = b
  · subst e
    rw [World.cell?_setCell_same' w a v h]; rfl
  · rw [World.cell?_setCell_other (w := w) (h := e)]; exact h
theorem enc_bytes (n : Nat) (xs : List Nat) (h : ∀ x ∈ xs, x < 256) : ∀ x ∈ enc n ++ xs, x < 256 := fun x hx => by
  rcases List.mem_append.1 hx with z | z
  · exact enc_byte n x z
  · exact h x z
/-- The world while the law writes over the bytes that it was told: what was there ahead of the call stays. -/
structure Over (w2 : World) (gx nx : Nat) (wr : World) : Prop where
  bel : Below w2.heap.size w2 wr
  new : w2.heap.size ≤ gx
  frozen : ∀ j, j < nx → wr.frozen? ⟨gx, j, none⟩ = false
  there : ∀ j, j < nx → (wr.cell? ⟨gx, j, none⟩).isSome = true
theorem Over.set {w2 wr : World} {gx nx : Nat} (h : Over w2 gx nx wr) (k : Nat) (v : Value) : Over w2 gx nx (wr.setCell ⟨gx, k, none⟩ v) :=
  ⟨h.bel.setCell h.new v, h.new, fun j hj => by rw [World.frozen?_setCell]; exact h.frozen j hj, fun j hj => isSome_setCell _ _ _ _ (h.there j hj)⟩

set_option maxRecDepth 100000 in
set_option maxHeartbeats 4000000 in
theorem wireBytes_ok (a0 : Option Addr) (len0 cap0 : Nat) (xs : List Nat) (a1 : Option Addr) (len1 cap1 : Nat) (ys : List Nat) (p most : Int) (w : World)
    (h : BS w a0 len0 cap0 xs) (hr : len0 ≤ 140737488351232) (h1 : BS w a1 len1 cap1 ys) (hr1 : len1 ≤ 140737488351232) (he : rbE ys p most = 0) :
    Calls Try.prog 4 #[.slice a0 len0 cap0, .slice a1 len1 cap1, .int .i64 p, .int .i64 most] w fun e w' => e = .returned (.bool true) ∧ Below w.heap.size w w' := by
  have hl := h.hlen
  have hl1 := h1.hlen
  have hbx := hid_of h.hbyte
  go_enter Try.func4, Try.ntmps4
  go_wp2_with fail
  refine (roomy_any a0 len0 cap0 xs _ h hr).mono ?_
  rintro e w1 ⟨g, c, rfl, hg, hbs1, hb1⟩
  have hcap := hbs1.hcap
  have hmax := hbs1.hmax
  have HK := (Kept.mk (h.later hb1 (Nat.le_refl _)) hbs1 hb1).hid
  have HB1 := hid_of (h1.later hb1 (Nat.le_refl _))
  clear hbs1
  go_wp2_with fail
  refine (roomy_any a1 len1 cap1 ys _ HB1.out hr1).mono ?_
  rintro e w2 ⟨g', c', rfl, hg', hbs2, hb2⟩
  have hcap' := hbs2.hcap
  have hmax' := hbs2.hmax
  have HK2 := (HK.out.later hb2).hid
  have HJ2 := (Kept.mk (HB1.out.later hb2 (Nat.le_refl _)) hbs2 (hb1.trans (hb2.mono hb1.size))).hid
  have hl2 : (0 : Int) ≤ (len0 : Int) + 2 := by omega
  have hl3 : (len0 : Int) + 2 ≤ (c : Int) := by omega
  have hwr : IntKind.i64.wrap ((len0 : Int) + 2) = (len0 : Int) + 2 := by rw [IntKind.wrap_i64]; omega
  have htn : ((len0 : Int) + 2).toNat = len0 + 2 := by omega
  have hadd := str_mn xs (by omega)
  have hm2 : (0 : Int) ≤ (len1 : Int) + 2 := by omega
  have hm3 : (len1 : Int) + 2 ≤ (c' : Int) := by omega
  have hmwr : IntKind.i64.wrap ((len1 : Int) + 2) = (len1 : Int) + 2 := by rw [IntKind.wrap_i64]; omega
  have hmtn : ((len1 : Int) + 2).toNat = len1 + 2 := by omega
  have hmadd := str_mn ys (by omega)
  obtain ⟨q1, q2, -, -, -⟩ := grp_spec len0 (by omega)
  have HLX := hid_of hl
  clear hbs2 h h1 hb1 hb2 hl hl1 HK HB1
  have hnil := run_nil
  go_wp2_with fail
  refine (readBytes_ok _ _ _ ys p most _ HJ2.out.front he).mono ?_
  rintro e w3 ⟨gx, nx, rfl, hgx, hbx3, hfr3, hb3⟩
  have hnx := hbx3.hroom
  have HK3 := (HK2.out.later hb3).hid
  have HJ3 := (HJ2.out.later hb3).hid
  have HX3 := hid_of hbx3
  have HOV3 : Hid (Over w2 gx nx w3) := ⟨hb3, hgx, fun j _ => hfr3 j, fun j hj => by have := hbx3.hcell _ rfl j hj; rw [add_plain, Nat.zero_add] at this; rw [this]; rfl⟩
  clear hbx3 hfr3 hb3
  go_wp2_with fail
  refine (refReadBytes_ok _ _ _ ys p most _ HJ3.out.old he).mono ?_
  rintro e w4 ⟨ay, ny, cy, rfl, hby4, hb4⟩
  have HK4 := (HK3.out.later hb4).hid
  have HX4 := hid_of (HX3.out.later hb4 (Nat.le_refl _))
  have HY4 := hid_of hby4
  have HS4 : Hid (Below w3.heap.size w3 w4) := hb4
  have hgx3 : Hid (gx < w3.heap.size ∨ nx = 0) := by
    rcases Nat.eq_zero_or_pos nx with z | z
    · exact Or.inr z
    · have := HOV3.out.there 0 z
      obtain ⟨v, hv⟩ := Option.isSome_iff_exists.1 this
      exact Or.inl (cell_lt hv)
  clear hb4 hby4
  generalize rbS ys p most = zs at *
  generalize rbP ys p most = PP at *
  go_wp2_with fail
  refine wp_region_noPanic ?_
  refine wp_region_held_drew (S := fun wx => (convert 22 9 (.slice (some ⟨g, 0, none⟩) (len0 + 2) c)).run Try.prog wx = .ok (.string (str (xs ++ [77, 78]))) wx ∧ (convert 22 9 (.slice a0 len0 cap0)).run Try.prog wx = .ok (.string (str xs)) wx ∧ (convert 22 9 (.slice (some ⟨gx, 0, none⟩) nx nx)).run Try.prog wx = .ok (.string (str zs)) wx ∧ (convert 22 9 (.slice ay ny cy)).run Try.prog wx = .ok (.string (str zs)) wx) (by kernel_rfl) ⟨run_text HK4.out.drew.new, run_text HK4.out.drew.old, run_text HX4.out.drew, run_text HY4.out.drew⟩ (fun hHeld => ?_)
  refine wpAnyH_comesAt (i := 0) (by kernel_rfl) (by kernel_rfl) ?_
  intro o ho K hK
  simp only [List.getElem?_toArray, List.getElem?_cons_zero, Option.some.injEq] at ho
  subst ho
  go_simp
  refine (told_any _).mono ?_
  rintro e w5 ⟨rfl, hb5⟩
  have HK5 := (HK4.out.drew.later hb5).hid
  have HX5 := hid_of (HX4.out.drew.later hb5 (Nat.le_refl _))
  have HY5 := hid_of (HY4.out.drew.later hb5 (Nat.le_refl _))
  have HS5 := hid_of (HS4.out.drew.trans (hb5.mono HS4.out.size))
  clear hb5 hHeld
  refine hK.out _ _ ⟨run_text HK5.out.new, run_text HK5.out.old, run_text HX5.out, run_text HY5.out⟩ (fun hHeld => ?_)
  clear hK K
  try simp only [Act.put, List.setIfInBounds_toArray, List.set_cons_zero, List.set_cons_succ]
  refine wpAnyH_takeAt (i := 1) (d := 40) (v := ?v1) (by kernel_rfl) (by kernel_rfl) (by kernel_rfl) (by kernel_rfl) (fun _ _ _ h => h) ?hy1 (by assumption) ?rest1
  case hy1 =>
    intro oi ho
    simp only [List.getElem?_toArray, List.getElem?_cons_succ, List.getElem?_cons_zero, Option.some.injEq] at ho
    subst ho
    refine Or.inl ⟨by rfl, ?_⟩
    intro wx hSw
    try dsimp only at hSw
    go_simp
    try rfl
  try simp only [Act.put, List.setIfInBounds_toArray, List.set_cons_zero, List.set_cons_succ]
  refine wpAnyH_takeAt (i := 2) (d := 41) (v := ?v2) (by kernel_rfl) (by kernel_rfl) (by kernel_rfl) (by kernel_rfl) (fun _ _ _ h => h) ?hy2 (by assumption) ?rest2
  case hy2 =>
    intro oi ho
    simp only [List.getElem?_toArray, List.getElem?_cons_succ, List.getElem?_cons_zero, Option.some.injEq] at ho
    subst ho
    refine Or.inl ⟨by rfl, ?_⟩
    intro wx hSw
    try dsimp only at hSw
    go_simp
    try rfl
  try simp only [Act.put, List.setIfInBounds_toArray, List.set_cons_zero, List.set_cons_succ]
  refine wpAnyH_takeAt (i := 5) (d := 44) (v := ?v5) (by kernel_rfl) (by kernel_rfl) (by kernel_rfl) (by kernel_rfl) (fun _ _ _ h => h) ?hy5 (by assumption) ?rest5
  case hy5 =>
    intro oi ho
    simp only [List.getElem?_toArray, List.getElem?_cons_succ, List.getElem?_cons_zero, Option.some.injEq] at ho
    subst ho
    refine Or.inl ⟨by rfl, ?_⟩
    intro wx hSw
    try dsimp only at hSw
    go_simp
    try rfl
  try simp only [Act.put, List.setIfInBounds_toArray, List.set_cons_zero, List.set_cons_succ]
  refine wpAnyH_comesAt (i := 3) (by kernel_rfl) (by kernel_rfl) ?_
  intro o ho K hK
  simp only [List.getElem?_toArray, List.getElem?_cons_succ, List.getElem?_cons_zero, Option.some.injEq] at ho
  subst ho
  go_simp
  refine (bytes_any _ _ _ xs _ HK5.out.front hr).mono ?_
  rintro e w6 ⟨g3, c3, rfl, hown6, hb6⟩
  have HK6 := (HK5.out.later hb6).hid
  have HB6 := hid_of (BS.ofOwns hown6 (by omega) (enc_bytes len0 xs hbx.out))
  have HX6 := hid_of (HX5.out.later hb6 (Nat.le_refl _))
  have HY6 := hid_of (HY5.out.later hb6 (Nat.le_refl _))
  have HS6 := hid_of (HS5.out.trans (hb6.mono HS5.out.size))
  clear hb6 hown6 hHeld
  refine hK.out _ _ ⟨run_text HK6.out.new, run_text HK6.out.old, run_text HX6.out, run_text HY6.out⟩ (fun hHeld => ?_)
  clear hK K
  try simp only [Act.put, List.setIfInBounds_toArray, List.set_cons_zero, List.set_cons_succ]
  refine wpAnyH_switch (S' := fun wx => (convert 22 9 (.slice (some ⟨g, 0, none⟩) (len0 + 2) c)).run Try.prog wx = .ok (.string (str (xs ++ [77, 78]))) wx ∧ (convert 22 9 (.slice a0 len0 cap0)).run Try.prog wx = .ok (.string (str xs)) wx ∧ (convert 22 9 (.slice (some ⟨gx, 0, none⟩) nx nx)).run Try.prog wx = .ok (.string (str zs)) wx ∧ (convert 22 9 (.slice ay ny cy)).run Try.prog wx = .ok (.string (str zs)) wx ∧ (convert 22 9 (.slice (some ⟨g3, 0, none⟩) (grp len0 + len0) c3)).run Try.prog wx = .ok (.string (str (enc len0 ++ xs))) wx) (fun w h => ⟨h.1, h.2.1, h.2.2.1, h.2.2.2.1⟩) _ _ _ _ ?_
  have hHeld : (fun wx => (convert 22 9 (.slice (some ⟨g, 0, none⟩) (len0 + 2) c)).run Try.prog wx = .ok (.string (str (xs ++ [77, 78]))) wx ∧ (convert 22 9 (.slice a0 len0 cap0)).run Try.prog wx = .ok (.string (str xs)) wx ∧ (convert 22 9 (.slice (some ⟨gx, 0, none⟩) nx nx)).run Try.prog wx = .ok (.string (str zs)) wx ∧ (convert 22 9 (.slice ay ny cy)).run Try.prog wx = .ok (.string (str zs)) wx ∧ (convert 22 9 (.slice (some ⟨g3, 0, none⟩) (grp len0 + len0) c3)).run Try.prog wx = .ok (.string (str (enc len0 ++ xs))) wx) w6 := ⟨run_text HK6.out.new, run_text HK6.out.old, run_text HX6.out, run_text HY6.out, run_text HB6.out⟩
  refine wpAnyH_takeAt (i := 4) (d := 43) (v := ?v4) (by kernel_rfl) (by kernel_rfl) (by kernel_rfl) (by kernel_rfl) (fun _ _ _ h => h) ?hy4 (by assumption) ?rest4
  case hy4 =>
    intro oi ho
    simp only [List.getElem?_toArray, List.getElem?_cons_succ, List.getElem?_cons_zero, Option.some.injEq] at ho
    subst ho
    refine Or.inl ⟨by rfl, ?_⟩
    intro wx hSw
    try dsimp only at hSw
    go_simp
    try rfl
  try simp only [Act.put, List.setIfInBounds_toArray, List.set_cons_zero, List.set_cons_succ]
  refine wpAnyH_comesAt (i := 6) (by kernel_rfl) (by kernel_rfl) ?_
  intro o ho K hK
  simp only [List.getElem?_toArray, List.getElem?_cons_succ, List.getElem?_cons_zero, Option.some.injEq] at ho
  subst ho
  go_simp
  refine (refBytes_any _ _ _ xs _ HK6.out.old hr).mono ?_
  rintro e w7 ⟨g4, c4, rfl, hown7, hb7⟩
  have HK7 := (HK6.out.later hb7).hid
  have HB7 := hid_of (HB6.out.later hb7 (Nat.le_refl _))
  have HC7 := hid_of (BS.ofOwns hown7 (by omega) (enc_bytes len0 xs hbx.out))
  have HX7 := hid_of (HX6.out.later hb7 (Nat.le_refl _))
  have HY7 := hid_of (HY6.out.later hb7 (Nat.le_refl _))
  have HS7 := hid_of (HS6.out.trans (hb7.mono HS6.out.size))
  clear hb7 hown7 hHeld
  refine hK.out _ _ ⟨run_text HK7.out.new, run_text HK7.out.old, run_text HX7.out, run_text HY7.out, run_text HB7.out⟩ (fun hHeld => ?_)
  clear hK K
  try simp only [Act.put, List.setIfInBounds_toArray, List.set_cons_zero, List.set_cons_succ]
  refine wpAnyH_switch (S' := fun wx => (convert 22 9 (.slice (some ⟨g, 0, none⟩) (len0 + 2) c)).run Try.prog wx = .ok (.string (str (xs ++ [77, 78]))) wx ∧ (convert 22 9 (.slice a0 len0 cap0)).run Try.prog wx = .ok (.string (str xs)) wx ∧ (convert 22 9 (.slice (some ⟨gx, 0, none⟩) nx nx)).run Try.prog wx = .ok (.string (str zs)) wx ∧ (convert 22 9 (.slice ay ny cy)).run Try.prog wx = .ok (.string (str zs)) wx ∧ (convert 22 9 (.slice (some ⟨g3, 0, none⟩) (grp len0 + len0) c3)).run Try.prog wx = .ok (.string (str (enc len0 ++ xs))) wx ∧ (convert 22 9 (.slice (some ⟨g4, 0, none⟩) (grp len0 + len0) c4)).run Try.prog wx = .ok (.string (str (enc len0 ++ xs))) wx) (fun w h => ⟨h.1, h.2.1, h.2.2.1, h.2.2.2.1, h.2.2.2.2.1⟩) _ _ _ _ ?_
  have hHeld : (fun wx => (convert 22 9 (.slice (some ⟨g, 0, none⟩) (len0 + 2) c)).run Try.prog wx = .ok (.string (str (xs ++ [77, 78]))) wx ∧ (convert 22 9 (.slice a0 len0 cap0)).run Try.prog wx = .ok (.string (str xs)) wx ∧ (convert 22 9 (.slice (some ⟨gx, 0, none⟩) nx nx)).run Try.prog wx = .ok (.string (str zs)) wx ∧ (convert 22 9 (.slice ay ny cy)).run Try.prog wx = .ok (.string (str zs)) wx ∧ (convert 22 9 (.slice (some ⟨g3, 0, none⟩) (grp len0 + len0) c3)).run Try.prog wx = .ok (.string (str (enc len0 ++ xs))) wx ∧ (convert 22 9 (.slice (some ⟨g4, 0, none⟩) (grp len0 + len0) c4)).run Try.prog wx = .ok (.string (str (enc len0 ++ xs))) wx) w7 := ⟨run_text HK7.out.new, run_text HK7.out.old, run_text HX7.out, run_text HY7.out, run_text HB7.out, run_text HC7.out⟩
  refine wpAnyH_takeAt (i := 7) (d := 46) (v := ?v7) (by kernel_rfl) (by kernel_rfl) (by kernel_rfl) (by kernel_rfl) (fun _ _ _ h => h) ?hy7 (by assumption) ?rest7
  case hy7 =>
    intro oi ho
    simp only [List.getElem?_toArray, List.getElem?_cons_succ, List.getElem?_cons_zero, Option.some.injEq] at ho
    subst ho
    refine Or.inl ⟨by rfl, ?_⟩
    intro wx hSw
    try dsimp only at hSw
    go_simp
    try rfl
  try simp only [Act.put, List.setIfInBounds_toArray, List.set_cons_zero, List.set_cons_succ]
  refine wpAnyH_takeAt (i := 8) (d := 47) (v := ?v8) (by kernel_rfl) (by kernel_rfl) (by kernel_rfl) (by kernel_rfl) (fun _ _ _ h => h) ?hy8 (by assumption) ?rest8
  case hy8 =>
    intro oi ho
    simp only [List.getElem?_toArray, List.getElem?_cons_succ, List.getElem?_cons_zero, Option.some.injEq] at ho
    subst ho
    refine Or.inl ⟨by rfl, ?_⟩
    intro wx hSw
    try dsimp only at hSw
    go_simp
    try rfl
  try simp only [Act.put, List.setIfInBounds_toArray, List.set_cons_zero, List.set_cons_succ]
  refine wpAnyH_takeAt (i := 9) (d := 48) (v := ?v9) (by kernel_rfl) (by kernel_rfl) (by kernel_rfl) (by kernel_rfl) (fun _ _ _ h => h) ?hy9 (by assumption) ?rest9
  case hy9 =>
    intro oi ho
    simp only [List.getElem?_toArray, List.getElem?_cons_succ, List.getElem?_cons_zero, Option.some.injEq] at ho
    subst ho
    refine Or.inl ⟨by rfl, ?_⟩
    intro wx hSw
    try dsimp only at hSw
    go_simp
    try rfl
  try simp only [Act.put, List.setIfInBounds_toArray, List.set_cons_zero, List.set_cons_succ]
  refine wpAnyH_takeAt (i := 10) (d := 49) (v := ?v10) (by kernel_rfl) (by kernel_rfl) (by kernel_rfl) (by kernel_rfl) (fun _ _ _ h => h) ?hy10 (by assumption) ?rest10
  case hy10 =>
    intro oi ho
    simp only [List.getElem?_toArray, List.getElem?_cons_succ, List.getElem?_cons_zero, Option.some.injEq] at ho
    subst ho
    refine Or.inl ⟨by rfl, ?_⟩
    intro wx hSw
    try dsimp only at hSw
    go_simp
    try rfl
  try simp only [Act.put, List.setIfInBounds_toArray, List.set_cons_zero, List.set_cons_succ]
  refine wpAnyH_takeAt (i := 11) (d := 50) (v := ?v11) (by kernel_rfl) (by kernel_rfl) (by kernel_rfl) (by kernel_rfl) (fun _ _ _ h => h) ?hy11 (by assumption) ?rest11
  case hy11 =>
    intro oi ho
    simp only [List.getElem?_toArray, List.getElem?_cons_succ, List.getElem?_cons_zero, Option.some.injEq] at ho
    subst ho
    refine Or.inl ⟨by rfl, ?_⟩
    intro wx hSw
    try dsimp only at hSw
    go_simp
    try rfl
  try simp only [Act.put, List.setIfInBounds_toArray, List.set_cons_zero, List.set_cons_succ]
  refine wpAnyH_takeAt (i := 12) (d := 51) (v := ?v12) (by kernel_rfl) (by kernel_rfl) (by kernel_rfl) (by kernel_rfl) (fun _ _ _ h => h) ?hy12 (by assumption) ?rest12
  case hy12 =>
    intro oi ho
    simp only [List.getElem?_toArray, List.getElem?_cons_succ, List.getElem?_cons_zero, Option.some.injEq] at ho
    subst ho
    refine Or.inl ⟨by rfl, ?_⟩
    intro wx hSw
    try dsimp only at hSw
    go_simp
    try rfl
  try simp only [Act.put, List.setIfInBounds_toArray, List.set_cons_zero, List.set_cons_succ]
  refine wpAnyH_takeAt (i := 13) (d := 52) (v := ?v13) (by kernel_rfl) (by kernel_rfl) (by kernel_rfl) (by kernel_rfl) (fun _ _ _ h => h) ?hy13 (by assumption) ?rest13
  case hy13 =>
    intro oi ho
    simp only [List.getElem?_toArray, List.getElem?_cons_succ, List.getElem?_cons_zero, Option.some.injEq] at ho
    subst ho
    refine Or.inl ⟨by rfl, ?_⟩
    intro wx hSw
    try dsimp only at hSw
    go_simp
    try rfl
  try simp only [Act.put, List.setIfInBounds_toArray, List.set_cons_zero, List.set_cons_succ]
  refine wpAnyH_takeAt (i := 14) (d := 53) (v := ?v14) (by kernel_rfl) (by kernel_rfl) (by kernel_rfl) (by kernel_rfl) (fun _ _ _ h => h) ?hy14 (by assumption) ?rest14
  case hy14 =>
    intro oi ho
    simp only [List.getElem?_toArray, List.getElem?_cons_succ, List.getElem?_cons_zero, Option.some.injEq] at ho
    subst ho
    refine Or.inl ⟨by rfl, ?_⟩
    intro wx hSw
    try dsimp only at hSw
    go_simp
    try rfl
  try simp only [Act.put, List.setIfInBounds_toArray, List.set_cons_zero, List.set_cons_succ]
  refine wpAnyH_takeAt (i := 15) (d := 54) (v := ?v15) (by kernel_rfl) (by kernel_rfl) (by kernel_rfl) (by kernel_rfl) (fun _ _ _ h => h) ?hy15 (by assumption) ?rest15
  case hy15 =>
    intro oi ho
    simp only [List.getElem?_toArray, List.getElem?_cons_succ, List.getElem?_cons_zero, Option.some.injEq] at ho
    subst ho
    refine Or.inl ⟨by rfl, ?_⟩
    intro wx hSw
    try dsimp only at hSw
    go_simp
    try rfl
  try simp only [Act.put, List.setIfInBounds_toArray, List.set_cons_zero, List.set_cons_succ]
  refine wpAnyH_takeAt (i := 16) (d := 55) (v := ?v16) (by kernel_rfl) (by kernel_rfl) (by kernel_rfl) (by kernel_rfl) (fun _ _ _ h => h) ?hy16 (by assumption) ?rest16
  case hy16 =>
    intro oi ho
    simp only [List.getElem?_toArray, List.getElem?_cons_succ, List.getElem?_cons_zero, Option.some.injEq] at ho
    subst ho
    refine Or.inl ⟨by rfl, ?_⟩
    intro wx hSw
    try dsimp only at hSw
    go_simp
    try rfl
  try simp only [Act.put, List.setIfInBounds_toArray, List.set_cons_zero, List.set_cons_succ]
  refine wpAnyH_takeAt (i := 17) (d := 56) (v := ?v17) (by kernel_rfl) (by kernel_rfl) (by kernel_rfl) (by kernel_rfl) (fun _ _ _ h => h) ?hy17 (by assumption) ?rest17
  case hy17 =>
    intro oi ho
    simp only [List.getElem?_toArray, List.getElem?_cons_succ, List.getElem?_cons_zero, Option.some.injEq] at ho
    subst ho
    refine Or.inl ⟨by rfl, ?_⟩
    intro wx hSw
    try dsimp only at hSw
    go_simp
    try rfl
  try simp only [Act.put, List.setIfInBounds_toArray, List.set_cons_zero, List.set_cons_succ]
  refine wpAnyH_takeAt (i := 18) (d := 57) (v := ?v18) (by kernel_rfl) (by kernel_rfl) (by kernel_rfl) (by kernel_rfl) (fun _ _ _ h => h) ?hy18 (by assumption) ?rest18
  case hy18 =>
    intro oi ho
    simp only [List.getElem?_toArray, List.getElem?_cons_succ, List.getElem?_cons_zero, Option.some.injEq] at ho
    subst ho
    refine Or.inl ⟨by rfl, ?_⟩
    intro wx hSw
    try dsimp only at hSw
    go_simp
    try rfl
  try simp only [Act.put, List.setIfInBounds_toArray, List.set_cons_zero, List.set_cons_succ]
  refine wpAnyH_takeAt (i := 19) (d := 58) (v := ?v19) (by kernel_rfl) (by kernel_rfl) (by kernel_rfl) (by kernel_rfl) (fun _ _ _ h => h) ?hy19 (by assumption) ?rest19
  case hy19 =>
    intro oi ho
    simp only [List.getElem?_toArray, List.getElem?_cons_succ, List.getElem?_cons_zero, Option.some.injEq] at ho
    subst ho
    refine Or.inl ⟨by rfl, ?_⟩
    intro wx hSw
    try dsimp only at hSw
    go_simp
    try rfl
  try simp only [Act.put, List.setIfInBounds_toArray, List.set_cons_zero, List.set_cons_succ]
  refine wpAnyH_takeAt (i := 20) (d := 59) (v := ?v20) (by kernel_rfl) (by kernel_rfl) (by kernel_rfl) (by kernel_rfl) (fun _ _ _ h => h) ?hy20 (by assumption) ?rest20
  case hy20 =>
    intro oi ho
    simp only [List.getElem?_toArray, List.getElem?_cons_succ, List.getElem?_cons_zero, Option.some.injEq] at ho
    subst ho
    refine Or.inl ⟨by rfl, ?_⟩
    intro wx hSw
    try dsimp only at hSw
    go_simp
    try rfl
  try simp only [Act.put, List.setIfInBounds_toArray, List.set_cons_zero, List.set_cons_succ]
  refine wpAnyH_takeAt (i := 21) (d := 60) (v := ?v21) (by kernel_rfl) (by kernel_rfl) (by kernel_rfl) (by kernel_rfl) (fun _ _ _ h => h) ?hy21 (by assumption) ?rest21
  case hy21 =>
    intro oi ho
    simp only [List.getElem?_toArray, List.getElem?_cons_succ, List.getElem?_cons_zero, Option.some.injEq] at ho
    subst ho
    refine Or.inl ⟨by rfl, ?_⟩
    intro wx hSw
    try dsimp only at hSw
    go_simp
    try rfl
  try simp only [Act.put, List.setIfInBounds_toArray, List.set_cons_zero, List.set_cons_succ]
  refine wpAnyH_takeAt (i := 22) (d := 61) (v := ?v22) (by kernel_rfl) (by kernel_rfl) (by kernel_rfl) (by kernel_rfl) (fun _ _ _ h => h) ?hy22 (by assumption) ?rest22
  case hy22 =>
    intro oi ho
    simp only [List.getElem?_toArray, List.getElem?_cons_succ, List.getElem?_cons_zero, Option.some.injEq] at ho
    subst ho
    refine Or.inl ⟨by rfl, ?_⟩
    intro wx hSw
    try dsimp only at hSw
    go_simp
    try rfl
  try simp only [Act.put, List.setIfInBounds_toArray, List.set_cons_zero, List.set_cons_succ]
  refine wpAnyH_takeAt (i := 23) (d := 62) (v := ?v23) (by kernel_rfl) (by kernel_rfl) (by kernel_rfl) (by kernel_rfl) (fun _ _ _ h => h) ?hy23 (by assumption) ?rest23
  case hy23 =>
    intro oi ho
    simp only [List.getElem?_toArray, List.getElem?_cons_succ, List.getElem?_cons_zero, Option.some.injEq] at ho
    subst ho
    refine Or.inl ⟨by rfl, ?_⟩
    intro wx hSw
    try dsimp only at hSw
    go_simp
    try rfl
  try simp only [Act.put, List.setIfInBounds_toArray, List.set_cons_zero, List.set_cons_succ]
  refine wpAnyH_takeAt (i := 24) (d := 63) (v := ?v24) (by kernel_rfl) (by kernel_rfl) (by kernel_rfl) (by kernel_rfl) (fun _ _ _ h => h) ?hy24 (by assumption) ?rest24
  case hy24 =>
    intro oi ho
    simp only [List.getElem?_toArray, List.getElem?_cons_succ, List.getElem?_cons_zero, Option.some.injEq] at ho
    subst ho
    refine Or.inl ⟨by rfl, ?_⟩
    intro wx hSw
    try dsimp only at hSw
    go_simp
    try rfl
  try simp only [Act.put, List.setIfInBounds_toArray, List.set_cons_zero, List.set_cons_succ]
  refine wpAnyH_takeAt (i := 25) (d := 64) (v := ?v25) (by kernel_rfl) (by kernel_rfl) (by kernel_rfl) (by kernel_rfl) (fun _ _ _ h => h) ?hy25 (by assumption) ?rest25
  case hy25 =>
    intro oi ho
    simp only [List.getElem?_toArray, List.getElem?_cons_succ, List.getElem?_cons_zero, Option.some.injEq] at ho
    subst ho
    refine Or.inl ⟨by rfl, ?_⟩
    intro wx hSw
    try dsimp only at hSw
    go_simp
    try rfl
  try simp only [Act.put, List.setIfInBounds_toArray, List.set_cons_zero, List.set_cons_succ]
  refine wpAnyH_takeAt (i := 26) (d := 65) (v := ?v26) (by kernel_rfl) (by kernel_rfl) (by kernel_rfl) (by kernel_rfl) (fun _ _ _ h => h) ?hy26 (by assumption) ?rest26
  case hy26 =>
    intro oi ho
    simp only [List.getElem?_toArray, List.getElem?_cons_succ, List.getElem?_cons_zero, Option.some.injEq] at ho
    subst ho
    refine Or.inl ⟨by rfl, ?_⟩
    intro wx hSw
    try dsimp only at hSw
    go_simp
    try rfl
  try simp only [Act.put, List.setIfInBounds_toArray, List.set_cons_zero, List.set_cons_succ]
  refine wpAnyH_takeAt (i := 27) (d := 66) (v := ?v27) (by kernel_rfl) (by kernel_rfl) (by kernel_rfl) (by kernel_rfl) (fun _ _ _ h => h) ?hy27 (by assumption) ?rest27
  case hy27 =>
    intro oi ho
    simp only [List.getElem?_toArray, List.getElem?_cons_succ, List.getElem?_cons_zero, Option.some.injEq] at ho
    subst ho
    refine Or.inl ⟨by rfl, ?_⟩
    intro wx hSw
    try dsimp only at hSw
    go_simp
    try rfl
  try simp only [Act.put, List.setIfInBounds_toArray, List.set_cons_zero, List.set_cons_succ]
  refine wpAnyH_takeAt (i := 28) (d := 67) (v := ?v28) (by kernel_rfl) (by kernel_rfl) (by kernel_rfl) (by kernel_rfl) (fun _ _ _ h => h) ?hy28 (by assumption) ?rest28
  case hy28 =>
    intro oi ho
    simp only [List.getElem?_toArray, List.getElem?_cons_succ, List.getElem?_cons_zero, Option.some.injEq] at ho
    subst ho
    refine Or.inl ⟨by rfl, ?_⟩
    intro wx hSw
    try dsimp only at hSw
    go_simp
    try rfl
  try simp only [Act.put, List.setIfInBounds_toArray, List.set_cons_zero, List.set_cons_succ]
  refine wpAnyH_takeAt (i := 29) (d := 68) (v := ?v29) (by kernel_rfl) (by kernel_rfl) (by kernel_rfl) (by kernel_rfl) (fun _ _ _ h => h) ?hy29 (by assumption) ?rest29
  case hy29 =>
    intro oi ho
    simp only [List.getElem?_toArray, List.getElem?_cons_succ, List.getElem?_cons_zero, Option.some.injEq] at ho
    subst ho
    refine Or.inl ⟨by rfl, ?_⟩
    intro wx hSw
    try dsimp only at hSw
    go_simp
    try rfl
  try simp only [Act.put, List.setIfInBounds_toArray, List.set_cons_zero, List.set_cons_succ]
  refine wpAnyH_takeAt (i := 30) (d := 69) (v := ?v30) (by kernel_rfl) (by kernel_rfl) (by kernel_rfl) (by kernel_rfl) (fun _ _ _ h => h) ?hy30 (by assumption) ?rest30
  case hy30 =>
    intro oi ho
    simp only [List.getElem?_toArray, List.getElem?_cons_succ, List.getElem?_cons_zero, Option.some.injEq] at ho
    subst ho
    refine Or.inl ⟨by rfl, ?_⟩
    intro wx hSw
    try dsimp only at hSw
    go_simp
    try rfl
  try simp only [Act.put, List.setIfInBounds_toArray, List.set_cons_zero, List.set_cons_succ]
  refine wpAnyH_takeAt (i := 31) (d := 70) (v := ?v31) (by kernel_rfl) (by kernel_rfl) (by kernel_rfl) (by kernel_rfl) (fun _ _ _ h => h) ?hy31 (by assumption) ?rest31
  case hy31 =>
    intro oi ho
    simp only [List.getElem?_toArray, List.getElem?_cons_succ, List.getElem?_cons_zero, Option.some.injEq] at ho
    subst ho
    refine Or.inl ⟨by rfl, ?_⟩
    intro wx hSw
    try dsimp only at hSw
    go_simp
    try rfl
  try simp only [Act.put, List.setIfInBounds_toArray, List.set_cons_zero, List.set_cons_succ]
  refine wpAnyH_takeAt (i := 32) (d := 71) (v := ?v32) (by kernel_rfl) (by kernel_rfl) (by kernel_rfl) (by kernel_rfl) (fun _ _ _ h => h) ?hy32 (by assumption) ?rest32
  case hy32 =>
    intro oi ho
    simp only [List.getElem?_toArray, List.getElem?_cons_succ, List.getElem?_cons_zero, Option.some.injEq] at ho
    subst ho
    refine Or.inl ⟨by rfl, ?_⟩
    intro wx hSw
    try dsimp only at hSw
    go_simp
    try rfl
  try simp only [Act.put, List.setIfInBounds_toArray, List.set_cons_zero, List.set_cons_succ]
  refine wpAnyH_takeAt (i := 33) (d := 72) (v := ?v33) (by kernel_rfl) (by kernel_rfl) (by kernel_rfl) (by kernel_rfl) (fun _ _ _ h => h) ?hy33 (by assumption) ?rest33
  case hy33 =>
    intro oi ho
    simp only [List.getElem?_toArray, List.getElem?_cons_succ, List.getElem?_cons_zero, Option.some.injEq] at ho
    subst ho
    refine Or.inl ⟨by rfl, ?_⟩
    intro wx hSw
    try dsimp only at hSw
    go_simp
    try rfl
  try simp only [Act.put, List.setIfInBounds_toArray, List.set_cons_zero, List.set_cons_succ]
  refine wpAnyH_takeAt (i := 34) (d := 73) (v := ?v34) (by kernel_rfl) (by kernel_rfl) (by kernel_rfl) (by kernel_rfl) (fun _ _ _ h => h) ?hy34 (by assumption) ?rest34
  case hy34 =>
    intro oi ho
    simp only [List.getElem?_toArray, List.getElem?_cons_succ, List.getElem?_cons_zero, Option.some.injEq] at ho
    subst ho
    refine Or.inl ⟨by rfl, ?_⟩
    intro wx hSw
    try dsimp only at hSw
    go_simp
    try rfl
  try simp only [Act.put, List.setIfInBounds_toArray, List.set_cons_zero, List.set_cons_succ]
  refine wpAnyH_takeAt (i := 35) (d := 74) (v := ?v35) (by kernel_rfl) (by kernel_rfl) (by kernel_rfl) (by kernel_rfl) (fun _ _ _ h => h) ?hy35 (by assumption) ?rest35
  case hy35 =>
    intro oi ho
    simp only [List.getElem?_toArray, List.getElem?_cons_succ, List.getElem?_cons_zero, Option.some.injEq] at ho
    subst ho
    refine Or.inl ⟨by rfl, ?_⟩
    intro wx hSw
    try dsimp only at hSw
    go_simp
    try rfl
  try simp only [Act.put, List.setIfInBounds_toArray, List.set_cons_zero, List.set_cons_succ]
  refine wpAnyH_takeAt (i := 36) (d := 75) (v := ?v36) (by kernel_rfl) (by kernel_rfl) (by kernel_rfl) (by kernel_rfl) (fun _ _ _ h => h) ?hy36 (by assumption) ?rest36
  case hy36 =>
    intro oi ho
    simp only [List.getElem?_toArray, List.getElem?_cons_succ, List.getElem?_cons_zero, Option.some.injEq] at ho
    subst ho
    refine Or.inl ⟨by rfl, ?_⟩
    intro wx hSw
    try dsimp only at hSw
    go_simp
    try rfl
  try simp only [Act.put, List.setIfInBounds_toArray, List.set_cons_zero, List.set_cons_succ]
  refine wpAnyH_takeAt (i := 37) (d := 76) (v := ?v37) (by kernel_rfl) (by kernel_rfl) (by kernel_rfl) (by kernel_rfl) (fun _ _ _ h => h) ?hy37 (by assumption) ?rest37
  case hy37 =>
    intro oi ho
    simp only [List.getElem?_toArray, List.getElem?_cons_succ, List.getElem?_cons_zero, Option.some.injEq] at ho
    subst ho
    refine Or.inl ⟨by rfl, ?_⟩
    intro wx hSw
    try dsimp only at hSw
    go_simp
    try rfl
  try simp only [Act.put, List.setIfInBounds_toArray, List.set_cons_zero, List.set_cons_succ]
  refine wpAnyH_takeAt (i := 38) (d := 77) (v := ?v38) (by kernel_rfl) (by kernel_rfl) (by kernel_rfl) (by kernel_rfl) (fun _ _ _ h => h) ?hy38 (by assumption) ?rest38
  case hy38 =>
    intro oi ho
    simp only [List.getElem?_toArray, List.getElem?_cons_succ, List.getElem?_cons_zero, Option.some.injEq] at ho
    subst ho
    refine Or.inl ⟨by rfl, ?_⟩
    intro wx hSw
    try dsimp only at hSw
    go_simp
    try rfl
  try simp only [Act.put, List.setIfInBounds_toArray, List.set_cons_zero, List.set_cons_succ]
  refine wpAnyH_takeAt (i := 39) (d := 17) (v := ?v39) (by kernel_rfl) (by kernel_rfl) (by kernel_rfl) (by kernel_rfl) (fun _ _ _ h => h) ?hy39 (by assumption) ?rest39
  case hy39 =>
    intro oi ho
    simp only [List.getElem?_toArray, List.getElem?_cons_succ, List.getElem?_cons_zero, Option.some.injEq] at ho
    subst ho
    refine Or.inl ⟨by rfl, ?_⟩
    intro wx hSw
    try dsimp only at hSw
    go_simp
    try rfl
  try simp only [Act.put, List.setIfInBounds_toArray, List.set_cons_zero, List.set_cons_succ]
  refine wpAnyH_done (by kernel_rfl) ?_ _
  refine NoPanic.normal ?_
  have HOV7 : Hid (Over w2 gx nx w7) := by
    have hlt := hgx3.out
    refine ⟨HOV3.out.bel.trans (HS7.out.mono HOV3.out.bel.size), HOV3.out.new, fun j hj => ?_, fun j hj => ?_⟩
    · have hlt : gx < w3.heap.size := by rcases hlt with z | z; exact z; omega
      rw [HS7.out.frozen hlt]; exact HOV3.out.frozen j hj
    · have hlt : gx < w3.heap.size := by rcases hlt with z | z; exact z; omega
      rw [HS7.out.cell hlt]; exact HOV3.out.there j hj
  clear hHeld HX3 HX4 HY4 HX5 HY5 HX6 HY6 HX7 HY7 HB6 HB7 HC7 HS4 HS5 HS6 HS7 HK3 HK4 HK5 HK6
  go_wp2_with fail
  go_loopw [18] (fun i wr => ∃ k : Nat, k ≤ nx ∧ i = .int .i64 k ∧ Over w2 gx nx wr) (fun i _ => nx - (intOf i).toNat)
  case atStart => exact ⟨0, by omega, rfl, HOV7.out⟩
  case round =>
  clear HOV7
  obtain ⟨k, hk, rfl, hov⟩ := hrel
  have HO := hid_of hov
  clear hov
  by_cases hlt : k < nx
  · obtain ⟨v, hv⟩ := Option.isSome_iff_exists.1 (HO.out.there k hlt)
    have hff := HO.out.frozen k hlt
    have HO2 := hid_of (HO.out.set k (.int .u8 9))
    go_wp2
    go_roundw
    case rel => exact ⟨k + 1, by omega, by go_num, HO2.out⟩
    case measure => simp [intOf]; omega
  have HJ := (HJ2.out.later HO.out.bel).hid
  go_wp2_with fail
  refine wp_region_noPanic ?_
  refine wp_region_held_drew (S := fun wx => (convert 22 9 (.slice (some ⟨g', 0, none⟩) (len1 + 2) c')).run Try.prog wx = .ok (.string (str (ys ++ [77, 78]))) wx ∧ (convert 22 9 (.slice a1 len1 cap1)).run Try.prog wx = .ok (.string (str ys)) wx) (by kernel_rfl) ⟨run_text HJ.out.drew.new, run_text HJ.out.drew.old⟩ (fun hHeld => ?_)
  refine wpAnyH_takeAt (i := 0) (d := 87) (v := ?vB0) (by kernel_rfl) (by kernel_rfl) (by kernel_rfl) (by kernel_rfl) (fun _ _ _ h => h) ?hyB0 (by assumption) ?restB0
  case hyB0 =>
    intro oi ho
    simp only [List.getElem?_toArray, List.getElem?_cons_zero, Option.some.injEq] at ho
    subst ho
    refine Or.inl ⟨by rfl, ?_⟩
    intro wx hSw
    try dsimp only at hSw
    go_simp
    try rfl
  try simp only [Act.put, List.setIfInBounds_toArray, List.set_cons_zero, List.set_cons_succ]
  refine wpAnyH_takeAt (i := 1) (d := 88) (v := ?vB1) (by kernel_rfl) (by kernel_rfl) (by kernel_rfl) (by kernel_rfl) (fun _ _ _ h => h) ?hyB1 (by assumption) ?restB1
  case hyB1 =>
    intro oi ho
    simp only [List.getElem?_toArray, List.getElem?_cons_succ, List.getElem?_cons_zero, Option.some.injEq] at ho
    subst ho
    refine Or.inl ⟨by rfl, ?_⟩
    intro wx hSw
    try dsimp only at hSw
    go_simp
    try rfl
  try simp only [Act.put, List.setIfInBounds_toArray, List.set_cons_zero, List.set_cons_succ]
  refine wpAnyH_takeAt (i := 2) (d := 89) (v := ?vB2) (by kernel_rfl) (by kernel_rfl) (by kernel_rfl) (by kernel_rfl) (fun _ _ _ h => h) ?hyB2 (by assumption) ?restB2
  case hyB2 =>
    intro oi ho
    simp only [List.getElem?_toArray, List.getElem?_cons_succ, List.getElem?_cons_zero, Option.some.injEq] at ho
    subst ho
    refine Or.inl ⟨by rfl, ?_⟩
    intro wx hSw
    try dsimp only at hSw
    go_simp
    try rfl
  try simp only [Act.put, List.setIfInBounds_toArray, List.set_cons_zero, List.set_cons_succ]
  refine wpAnyH_takeAt (i := 3) (d := 90) (v := ?vB3) (by kernel_rfl) (by kernel_rfl) (by kernel_rfl) (by kernel_rfl) (fun _ _ _ h => h) ?hyB3 (by assumption) ?restB3
  case hyB3 =>
    intro oi ho
    simp only [List.getElem?_toArray, List.getElem?_cons_succ, List.getElem?_cons_zero, Option.some.injEq] at ho
    subst ho
    refine Or.inl ⟨by rfl, ?_⟩
    intro wx hSw
    try dsimp only at hSw
    go_simp
    try rfl
  try simp only [Act.put, List.setIfInBounds_toArray, List.set_cons_zero, List.set_cons_succ]
  refine wpAnyH_takeAt (i := 4) (d := 91) (v := ?vB4) (by kernel_rfl) (by kernel_rfl) (by kernel_rfl) (by kernel_rfl) (fun _ _ _ h => h) ?hyB4 (by assumption) ?restB4
  case hyB4 =>
    intro oi ho
    simp only [List.getElem?_toArray, List.getElem?_cons_succ, List.getElem?_cons_zero, Option.some.injEq] at ho
    subst ho
    refine Or.inl ⟨by rfl, ?_⟩
    intro wx hSw
    try dsimp only at hSw
    go_simp
    try rfl
  try simp only [Act.put, List.setIfInBounds_toArray, List.set_cons_zero, List.set_cons_succ]
  refine wpAnyH_takeAt (i := 5) (d := 92) (v := ?vB5) (by kernel_rfl) (by kernel_rfl) (by kernel_rfl) (by kernel_rfl) (fun _ _ _ h => h) ?hyB5 (by assumption) ?restB5
  case hyB5 =>
    intro oi ho
    simp only [List.getElem?_toArray, List.getElem?_cons_succ, List.getElem?_cons_zero, Option.some.injEq] at ho
    subst ho
    refine Or.inl ⟨by rfl, ?_⟩
    intro wx hSw
    try dsimp only at hSw
    go_simp
    try rfl
  try simp only [Act.put, List.setIfInBounds_toArray, List.set_cons_zero, List.set_cons_succ]
  refine wpAnyH_takeAt (i := 6) (d := 93) (v := ?vB6) (by kernel_rfl) (by kernel_rfl) (by kernel_rfl) (by kernel_rfl) (fun _ _ _ h => h) ?hyB6 (by assumption) ?restB6
  case hyB6 =>
    intro oi ho
    simp only [List.getElem?_toArray, List.getElem?_cons_succ, List.getElem?_cons_zero, Option.some.injEq] at ho
    subst ho
    refine Or.inl ⟨by rfl, ?_⟩
    intro wx hSw
    try dsimp only at hSw
    go_simp
    try rfl
  try simp only [Act.put, List.setIfInBounds_toArray, List.set_cons_zero, List.set_cons_succ]
  refine wpAnyH_takeAt (i := 7) (d := 94) (v := ?vB7) (by kernel_rfl) (by kernel_rfl) (by kernel_rfl) (by kernel_rfl) (fun _ _ _ h => h) ?hyB7 (by assumption) ?restB7
  case hyB7 =>
    intro oi ho
    simp only [List.getElem?_toArray, List.getElem?_cons_succ, List.getElem?_cons_zero, Option.some.injEq] at ho
    subst ho
    refine Or.inl ⟨by rfl, ?_⟩
    intro wx hSw
    try dsimp only at hSw
    go_simp
    try rfl
  try simp only [Act.put, List.setIfInBounds_toArray, List.set_cons_zero, List.set_cons_succ]
  refine wpAnyH_takeAt (i := 8) (d := 95) (v := ?vB8) (by kernel_rfl) (by kernel_rfl) (by kernel_rfl) (by kernel_rfl) (fun _ _ _ h => h) ?hyB8 (by assumption) ?restB8
  case hyB8 =>
    intro oi ho
    simp only [List.getElem?_toArray, List.getElem?_cons_succ, List.getElem?_cons_zero, Option.some.injEq] at ho
    subst ho
    refine Or.inl ⟨by rfl, ?_⟩
    intro wx hSw
    try dsimp only at hSw
    go_simp
    try rfl
  try simp only [Act.put, List.setIfInBounds_toArray, List.set_cons_zero, List.set_cons_succ]
  refine wpAnyH_takeAt (i := 9) (d := 96) (v := ?vB9) (by kernel_rfl) (by kernel_rfl) (by kernel_rfl) (by kernel_rfl) (fun _ _ _ h => h) ?hyB9 (by assumption) ?restB9
  case hyB9 =>
    intro oi ho
    simp only [List.getElem?_toArray, List.getElem?_cons_succ, List.getElem?_cons_zero, Option.some.injEq] at ho
    subst ho
    refine Or.inl ⟨by rfl, ?_⟩
    intro wx hSw
    try dsimp only at hSw
    go_simp
    try rfl
  try simp only [Act.put, List.setIfInBounds_toArray, List.set_cons_zero, List.set_cons_succ]
  refine wpAnyH_takeAt (i := 10) (d := 97) (v := ?vB10) (by kernel_rfl) (by kernel_rfl) (by kernel_rfl) (by kernel_rfl) (fun _ _ _ h => h) ?hyB10 (by assumption) ?restB10
  case hyB10 =>
    intro oi ho
    simp only [List.getElem?_toArray, List.getElem?_cons_succ, List.getElem?_cons_zero, Option.some.injEq] at ho
    subst ho
    refine Or.inl ⟨by rfl, ?_⟩
    intro wx hSw
    try dsimp only at hSw
    go_simp
    try rfl
  try simp only [Act.put, List.setIfInBounds_toArray, List.set_cons_zero, List.set_cons_succ]
  refine wpAnyH_takeAt (i := 11) (d := 98) (v := ?vB11) (by kernel_rfl) (by kernel_rfl) (by kernel_rfl) (by kernel_rfl) (fun _ _ _ h => h) ?hyB11 (by assumption) ?restB11
  case hyB11 =>
    intro oi ho
    simp only [List.getElem?_toArray, List.getElem?_cons_succ, List.getElem?_cons_zero, Option.some.injEq] at ho
    subst ho
    refine Or.inl ⟨by rfl, ?_⟩
    intro wx hSw
    try dsimp only at hSw
    go_simp
    try rfl
  try simp only [Act.put, List.setIfInBounds_toArray, List.set_cons_zero, List.set_cons_succ]
  refine wpAnyH_takeAt (i := 12) (d := 99) (v := ?vB12) (by kernel_rfl) (by kernel_rfl) (by kernel_rfl) (by kernel_rfl) (fun _ _ _ h => h) ?hyB12 (by assumption) ?restB12
  case hyB12 =>
    intro oi ho
    simp only [List.getElem?_toArray, List.getElem?_cons_succ, List.getElem?_cons_zero, Option.some.injEq] at ho
    subst ho
    refine Or.inl ⟨by rfl, ?_⟩
    intro wx hSw
    try dsimp only at hSw
    go_simp
    try rfl
  try simp only [Act.put, List.setIfInBounds_toArray, List.set_cons_zero, List.set_cons_succ]
  refine wpAnyH_takeAt (i := 13) (d := 8) (v := ?vB13) (by kernel_rfl) (by kernel_rfl) (by kernel_rfl) (by kernel_rfl) (fun _ _ _ h => h) ?hyB13 (by assumption) ?restB13
  case hyB13 =>
    intro oi ho
    simp only [List.getElem?_toArray, List.getElem?_cons_succ, List.getElem?_cons_zero, Option.some.injEq] at ho
    subst ho
    refine Or.inl ⟨by rfl, ?_⟩
    intro wx hSw
    try dsimp only at hSw
    go_simp
    try rfl
  try simp only [Act.put, List.setIfInBounds_toArray, List.set_cons_zero, List.set_cons_succ]
  refine wpAnyH_done (by kernel_rfl) ?_ _
  refine NoPanic.normal ?_
  go_wp2
  go_ret
  exact ⟨rfl, HJ.out.bel.drew⟩

set_option maxRecDepth 100000 in
set_option maxHeartbeats 4000000 in
theorem wireBytes_no (a0 : Option Addr) (len0 cap0 : Nat) (xs : List Nat) (a1 : Option Addr) (len1 cap1 : Nat) (ys : List Nat) (p most : Int) (w : World)
    (h : BS w a0 len0 cap0 xs) (hr : len0 ≤ 140737488351232) (h1 : BS w a1 len1 cap1 ys) (hr1 : len1 ≤ 140737488351232) (he : rbE ys p most ≠ 0) :
    Calls Try.prog 4 #[.slice a0 len0 cap0, .slice a1 len1 cap1, .int .i64 p, .int .i64 most] w fun e w' => e = .returned (.bool true) ∧ Below w.heap.size w w' := by
  have hl := h.hlen
  have hl1 := h1.hlen
  have hbx := hid_of h.hbyte
  go_enter Try.func4, Try.ntmps4
  go_wp2_with fail
  refine (roomy_any a0 len0 cap0 xs _ h hr).mono ?_
  rintro e w1 ⟨g, c, rfl, hg, hbs1, hb1⟩
  have hcap := hbs1.hcap
  have hmax := hbs1.hmax
  have HK := (Kept.mk (h.later hb1 (Nat.le_refl _)) hbs1 hb1).hid
  have HB1 := hid_of (h1.later hb1 (Nat.le_refl _))
  clear hbs1
  go_wp2_with fail
  refine (roomy_any a1 len1 cap1 ys _ HB1.out hr1).mono ?_
  rintro e w2 ⟨g', c', rfl, hg', hbs2, hb2⟩
  have hcap' := hbs2.hcap
  have hmax' := hbs2.hmax
  have HK2 := (HK.out.later hb2).hid
  have HJ2 := (Kept.mk (HB1.out.later hb2 (Nat.le_refl _)) hbs2 (hb1.trans (hb2.mono hb1.size))).hid
  have hl2 : (0 : Int) ≤ (len0 : Int) + 2 := by omega
  have hl3 : (len0 : Int) + 2 ≤ (c : Int) := by omega
  have hwr : IntKind.i64.wrap ((len0 : Int) + 2) = (len0 : Int) + 2 := by rw [IntKind.wrap_i64]; omega
  have htn : ((len0 : Int) + 2).toNat = len0 + 2 := by omega
  have hadd := str_mn xs (by omega)
  have hm2 : (0 : Int) ≤ (len1 : Int) + 2 := by omega
  have hm3 : (len1 : Int) + 2 ≤ (c' : Int) := by omega
  have hmwr : IntKind.i64.wrap ((len1 : Int) + 2) = (len1 : Int) + 2 := by rw [IntKind.wrap_i64]; omega
  have hmtn : ((len1 : Int) + 2).toNat = len1 + 2 := by omega
  have hmadd := str_mn ys (by omega)
  obtain ⟨q1, q2, -, -, -⟩ := grp_spec len0 (by omega)
  have HLX := hid_of hl
  clear hbs2 h h1 hb1 hb2 hl hl1 HK HB1
  have hnil := run_nil
  go_wp2_with fail
  refine (readBytes_no _ _ _ ys p most _ HJ2.out.front he).mono ?_
  rintro e w3 ⟨rfl, hw3⟩
  have hw3 := hw3.symm
  subst hw3
  go_wp2_with fail
  refine (refReadBytes_no _ _ _ ys p most _ HJ2.out.old he).mono ?_
  rintro e w3 ⟨rfl, hw3⟩
  have hw3 := hw3.symm
  subst hw3
  generalize rbE ys p most = PP at *
  go_wp2_with fail
  refine wp_region_noPanic ?_
  refine wp_region_held_drew (S := fun wx => (convert 22 9 (.slice (some ⟨g, 0, none⟩) (len0 + 2) c)).run Try.prog wx = .ok (.string (str (xs ++ [77, 78]))) wx ∧ (convert 22 9 (.slice a0 len0 cap0)).run Try.prog wx = .ok (.string (str xs)) wx) (by kernel_rfl) ⟨run_text HK2.out.drew.new, run_text HK2.out.drew.old⟩ (fun hHeld => ?_)
  refine wpAnyH_comesAt (i := 0) (by kernel_rfl) (by kernel_rfl) ?_
  intro o ho K hK
  simp only [List.getElem?_toArray, List.getElem?_cons_zero, Option.some.injEq] at ho
  subst ho
  go_simp
  refine (told_any _).mono ?_
  rintro e w5 ⟨rfl, hb5⟩
  have HK5 := (HK2.out.drew.later hb5).hid
  have HS5 := hid_of ((Below.refl w2.heap.size w2).drew.trans hb5)
  clear hb5 hHeld
  refine hK.out _ _ ⟨run_text HK5.out.new, run_text HK5.out.old⟩ (fun hHeld => ?_)
  clear hK K
  try simp only [Act.put, List.setIfInBounds_toArray, List.set_cons_zero, List.set_cons_succ]
  refine wpAnyH_takeAt (i := 1) (d := 40) (v := ?v1) (by kernel_rfl) (by kernel_rfl) (by kernel_rfl) (by kernel_rfl) (fun _ _ _ h => h) ?hy1 (by assumption) ?rest1
  case hy1 =>
    intro oi ho
    simp only [List.getElem?_toArray, List.getElem?_cons_succ, List.getElem?_cons_zero, Option.some.injEq] at ho
    subst ho
    refine Or.inl ⟨by rfl, ?_⟩
    intro wx hSw
    try dsimp only at hSw
    go_simp
    try rfl
  try simp only [Act.put, List.setIfInBounds_toArray, List.set_cons_zero, List.set_cons_succ]
  refine wpAnyH_takeAt (i := 2) (d := 41) (v := ?v2) (by kernel_rfl) (by kernel_rfl) (by kernel_rfl) (by kernel_rfl) (fun _ _ _ h => h) ?hy2 (by assumption) ?rest2
  case hy2 =>
    intro oi ho
    simp only [List.getElem?_toArray, List.getElem?_cons_succ, List.getElem?_cons_zero, Option.some.injEq] at ho
    subst ho
    refine Or.inl ⟨by rfl, ?_⟩
    intro wx hSw
    try dsimp only at hSw
    go_simp
    try rfl
  try simp only [Act.put, List.setIfInBounds_toArray, List.set_cons_zero, List.set_cons_succ]
  refine wpAnyH_takeAt (i := 5) (d := 44) (v := ?v5) (by kernel_rfl) (by kernel_rfl) (by kernel_rfl) (by kernel_rfl) (fun _ _ _ h => h) ?hy5 (by assumption) ?rest5
  case hy5 =>
    intro oi ho
    simp only [List.getElem?_toArray, List.getElem?_cons_succ, List.getElem?_cons_zero, Option.some.injEq] at ho
    subst ho
    refine Or.inl ⟨by rfl, ?_⟩
    intro wx hSw
    try dsimp only at hSw
    go_simp
    try rfl
  try simp only [Act.put, List.setIfInBounds_toArray, List.set_cons_zero, List.set_cons_succ]
  refine wpAnyH_comesAt (i := 3) (by kernel_rfl) (by kernel_rfl) ?_
  intro o ho K hK
  simp only [List.getElem?_toArray, List.getElem?_cons_succ, List.getElem?_cons_zero, Option.some.injEq] at ho
  subst ho
  go_simp
  refine (bytes_any _ _ _ xs _ HK5.out.front hr).mono ?_
  rintro e w6 ⟨g3, c3, rfl, hown6, hb6⟩
  have HK6 := (HK5.out.later hb6).hid
  have HB6 := hid_of (BS.ofOwns hown6 (by omega) (enc_bytes len0 xs hbx.out))
  have HS6 := hid_of (HS5.out.trans (hb6.mono HS5.out.size))
  clear hb6 hown6 hHeld
  refine hK.out _ _ ⟨run_text HK6.out.new, run_text HK6.out.old⟩ (fun hHeld => ?_)
  clear hK K
  try simp only [Act.put, List.setIfInBounds_toArray, List.set_cons_zero, List.set_cons_succ]
  refine wpAnyH_switch (S' := fun wx => (convert 22 9 (.slice (some ⟨g, 0, none⟩) (len0 + 2) c)).run Try.prog wx = .ok (.string (str (xs ++ [77, 78]))) wx ∧ (convert 22 9 (.slice a0 len0 cap0)).run Try.prog wx = .ok (.string (str xs)) wx ∧ (convert 22 9 (.slice (some ⟨g3, 0, none⟩) (grp len0 + len0) c3)).run Try.prog wx = .ok (.string (str (enc len0 ++ xs))) wx) (fun w h => ⟨h.1, h.2.1⟩) _ _ _ _ ?_
  have hHeld : (fun wx => (convert 22 9 (.slice (some ⟨g, 0, none⟩) (len0 + 2) c)).run Try.prog wx = .ok (.string (str (xs ++ [77, 78]))) wx ∧ (convert 22 9 (.slice a0 len0 cap0)).run Try.prog wx = .ok (.string (str xs)) wx ∧ (convert 22 9 (.slice (some ⟨g3, 0, none⟩) (grp len0 + len0) c3)).run Try.prog wx = .ok (.string (str (enc len0 ++ xs))) wx) w6 := ⟨run_text HK6.out.new, run_text HK6.out.old, run_text HB6.out⟩
  refine wpAnyH_takeAt (i := 4) (d := 43) (v := ?v4) (by kernel_rfl) (by kernel_rfl) (by kernel_rfl) (by kernel_rfl) (fun _ _ _ h => h) ?hy4 (by assumption) ?rest4
  case hy4 =>
    intro oi ho
    simp only [List.getElem?_toArray, List.getElem?_cons_succ, List.getElem?_cons_zero, Option.some.injEq] at ho
    subst ho
    refine Or.inl ⟨by rfl, ?_⟩
    intro wx hSw
    try dsimp only at hSw
    go_simp
    try rfl
  try simp only [Act.put, List.setIfInBounds_toArray, List.set_cons_zero, List.set_cons_succ]
  refine wpAnyH_comesAt (i := 6) (by kernel_rfl) (by kernel_rfl) ?_
  intro o ho K hK
  simp only [List.getElem?_toArray, List.getElem?_cons_succ, List.getElem?_cons_zero, Option.some.injEq] at ho
  subst ho
  go_simp
  refine (refBytes_any _ _ _ xs _ HK6.out.old hr).mono ?_
  rintro e w7 ⟨g4, c4, rfl, hown7, hb7⟩
  have HK7 := (HK6.out.later hb7).hid
  have HB7 := hid_of (HB6.out.later hb7 (Nat.le_refl _))
  have HC7 := hid_of (BS.ofOwns hown7 (by omega) (enc_bytes len0 xs hbx.out))
  have HS7 := hid_of (HS6.out.trans (hb7.mono HS6.out.size))
  clear hb7 hown7 hHeld
  refine hK.out _ _ ⟨run_text HK7.out.new, run_text HK7.out.old, run_text HB7.out⟩ (fun hHeld => ?_)
  clear hK K
  try simp only [Act.put, List.setIfInBounds_toArray, List.set_cons_zero, List.set_cons_succ]
  refine wpAnyH_switch (S' := fun wx => (convert 22 9 (.slice (some ⟨g, 0, none⟩) (len0 + 2) c)).run Try.prog wx = .ok (.string (str (xs ++ [77, 78]))) wx ∧ (convert 22 9 (.slice a0 len0 cap0)).run Try.prog wx = .ok (.string (str xs)) wx ∧ (convert 22 9 (.slice (some ⟨g3, 0, none⟩) (grp len0 + len0) c3)).run Try.prog wx = .ok (.string (str (enc len0 ++ xs))) wx ∧ (convert 22 9 (.slice (some ⟨g4, 0, none⟩) (grp len0 + len0) c4)).run Try.prog wx = .ok (.string (str (enc len0 ++ xs))) wx) (fun w h => ⟨h.1, h.2.1, h.2.2.1⟩) _ _ _ _ ?_
  have hHeld : (fun wx => (convert 22 9 (.slice (some ⟨g, 0, none⟩) (len0 + 2) c)).run Try.prog wx = .ok (.string (str (xs ++ [77, 78]))) wx ∧ (convert 22 9 (.slice a0 len0 cap0)).run Try.prog wx = .ok (.string (str xs)) wx ∧ (convert 22 9 (.slice (some ⟨g3, 0, none⟩) (grp len0 + len0) c3)).run Try.prog wx = .ok (.string (str (enc len0 ++ xs))) wx ∧ (convert 22 9 (.slice (some ⟨g4, 0, none⟩) (grp len0 + len0) c4)).run Try.prog wx = .ok (.string (str (enc len0 ++ xs))) wx) w7 := ⟨run_text HK7.out.new, run_text HK7.out.old, run_text HB7.out, run_text HC7.out⟩
  refine wpAnyH_takeAt (i := 7) (d := 46) (v := ?v7) (by kernel_rfl) (by kernel_rfl) (by kernel_rfl) (by kernel_rfl) (fun _ _ _ h => h) ?hy7 (by assumption) ?rest7
  case hy7 =>
    intro oi ho
    simp only [List.getElem?_toArray, List.getElem?_cons_succ, List.getElem?_cons_zero, Option.some.injEq] at ho
    subst ho
    refine Or.inl ⟨by rfl, ?_⟩
    intro wx hSw
    try dsimp only at hSw
    go_simp
    try rfl
  try simp only [Act.put, List.setIfInBounds_toArray, List.set_cons_zero, List.set_cons_succ]
  refine wpAnyH_takeAt (i := 8) (d := 47) (v := ?v8) (by kernel_rfl) (by kernel_rfl) (by kernel_rfl) (by kernel_rfl) (fun _ _ _ h => h) ?hy8 (by assumption) ?rest8
  case hy8 =>
    intro oi ho
    simp only [List.getElem?_toArray, List.getElem?_cons_succ, List.getElem?_cons_zero, Option.some.injEq] at ho
    subst ho
    refine Or.inl ⟨by rfl, ?_⟩
    intro wx hSw
    try dsimp only at hSw
    go_simp
    try rfl
  try simp only [Act.put, List.setIfInBounds_toArray, List.set_cons_zero, List.set_cons_succ]
  refine wpAnyH_takeAt (i := 9) (d := 48) (v := ?v9) (by kernel_rfl) (by kernel_rfl) (by kernel_rfl) (by kernel_rfl) (fun _ _ _ h => h) ?hy9 (by assumption) ?rest9
  case hy9 =>
    intro oi ho
    simp only [List.getElem?_toArray, List.getElem?_cons_succ, List.getElem?_cons_zero, Option.some.injEq] at ho
    subst ho
    refine Or.inl ⟨by rfl, ?_⟩
    intro wx hSw
    try dsimp only at hSw
    go_simp
    try rfl
  try simp only [Act.put, List.setIfInBounds_toArray, List.set_cons_zero, List.set_cons_succ]
  refine wpAnyH_takeAt (i := 10) (d := 49) (v := ?v10) (by kernel_rfl) (by kernel_rfl) (by kernel_rfl) (by kernel_rfl) (fun _ _ _ h => h) ?hy10 (by assumption) ?rest10
  case hy10 =>
    intro oi ho
    simp only [List.getElem?_toArray, List.getElem?_cons_succ, List.getElem?_cons_zero, Option.some.injEq] at ho
    subst ho
    refine Or.inl ⟨by rfl, ?_⟩
    intro wx hSw
    try dsimp only at hSw
    go_simp
    try rfl
  try simp only [Act.put, List.setIfInBounds_toArray, List.set_cons_zero, List.set_cons_succ]
  refine wpAnyH_takeAt (i := 11) (d := 50) (v := ?v11) (by kernel_rfl) (by kernel_rfl) (by kernel_rfl) (by kernel_rfl) (fun _ _ _ h => h) ?hy11 (by assumption) ?rest11
  case hy11 =>
    intro oi ho
    simp only [List.getElem?_toArray, List.getElem?_cons_succ, List.getElem?_cons_zero, Option.some.injEq] at ho
    subst ho
    refine Or.inl ⟨by rfl, ?_⟩
    intro wx hSw
    try dsimp only at hSw
    go_simp
    try rfl
  try simp only [Act.put, List.setIfInBounds_toArray, List.set_cons_zero, List.set_cons_succ]
  refine wpAnyH_takeAt (i := 12) (d := 51) (v := ?v12) (by kernel_rfl) (by kernel_rfl) (by kernel_rfl) (by kernel_rfl) (fun _ _ _ h => h) ?hy12 (by assumption) ?rest12
  case hy12 =>
    intro oi ho
    simp only [List.getElem?_toArray, List.getElem?_cons_succ, List.getElem?_cons_zero, Option.some.injEq] at ho
    subst ho
    refine Or.inl ⟨by rfl, ?_⟩
    intro wx hSw
    try dsimp only at hSw
    go_simp
    try rfl
  try simp only [Act.put, List.setIfInBounds_toArray, List.set_cons_zero, List.set_cons_succ]
  refine wpAnyH_takeAt (i := 13) (d := 52) (v := ?v13) (by kernel_rfl) (by kernel_rfl) (by kernel_rfl) (by kernel_rfl) (fun _ _ _ h => h) ?hy13 (by assumption) ?rest13
  case hy13 =>
    intro oi ho
    simp only [List.getElem?_toArray, List.getElem?_cons_succ, List.getElem?_cons_zero, Option.some.injEq] at ho
    subst ho
    refine Or.inl ⟨by rfl, ?_⟩
    intro wx hSw
    try dsimp only at hSw
    go_simp
    try rfl
  try simp only [Act.put, List.setIfInBounds_toArray, List.set_cons_zero, List.set_cons_succ]
  refine wpAnyH_takeAt (i := 14) (d := 53) (v := ?v14) (by kernel_rfl) (by kernel_rfl) (by kernel_rfl) (by kernel_rfl) (fun _ _ _ h => h) ?hy14 (by assumption) ?rest14
  case hy14 =>
    intro oi ho
    simp only [List.getElem?_toArray, List.getElem?_cons_succ, List.getElem?_cons_zero, Option.some.injEq] at ho
    subst ho
    refine Or.inl ⟨by rfl, ?_⟩
    intro wx hSw
    try dsimp only at hSw
    go_simp
    try rfl
  try simp only [Act.put, List.setIfInBounds_toArray, List.set_cons_zero, List.set_cons_succ]
  refine wpAnyH_takeAt (i := 15) (d := 54) (v := ?v15) (by kernel_rfl) (by kernel_rfl) (by kernel_rfl) (by kernel_rfl) (fun _ _ _ h => h) ?hy15 (by assumption) ?rest15
  case hy15 =>
    intro oi ho
    simp only [List.getElem?_toArray, List.getElem?_cons_succ, List.getElem?_cons_zero, Option.some.injEq] at ho
    subst ho
    refine Or.inl ⟨by rfl, ?_⟩
    intro wx hSw
    try dsimp only at hSw
    go_simp
    try rfl
  try simp only [Act.put, List.setIfInBounds_toArray, List.set_cons_zero, List.set_cons_succ]
  refine wpAnyH_takeAt (i := 16) (d := 55) (v := ?v16) (by kernel_rfl) (by kernel_rfl) (by kernel_rfl) (by kernel_rfl) (fun _ _ _ h => h) ?hy16 (by assumption) ?rest16
  case hy16 =>
    intro oi ho
    simp only [List.getElem?_toArray, List.getElem?_cons_succ, List.getElem?_cons_zero, Option.some.injEq] at ho
    subst ho
    refine Or.inl ⟨by rfl, ?_⟩
    intro wx hSw
    try dsimp only at hSw
    go_simp
    try rfl
  try simp only [Act.put, List.setIfInBounds_toArray, List.set_cons_zero, List.set_cons_succ]
  refine wpAnyH_takeAt (i := 17) (d := 56) (v := ?v17) (by kernel_rfl) (by kernel_rfl) (by kernel_rfl) (by kernel_rfl) (fun _ _ _ h => h) ?hy17 (by assumption) ?rest17
  case hy17 =>
    intro oi ho
    simp only [List.getElem?_toArray, List.getElem?_cons_succ, List.getElem?_cons_zero, Option.some.injEq] at ho
    subst ho
    refine Or.inl ⟨by rfl, ?_⟩
    intro wx hSw
    try dsimp only at hSw
    go_simp
    try rfl
  try simp only [Act.put, List.setIfInBounds_toArray, List.set_cons_zero, List.set_cons_succ]
  refine wpAnyH_takeAt (i := 18) (d := 57) (v := ?v18) (by kernel_rfl) (by kernel_rfl) (by kernel_rfl) (by kernel_rfl) (fun _ _ _ h => h) ?hy18 (by assumption) ?rest18
  case hy18 =>
    intro oi ho
    simp only [List.getElem?_toArray, List.getElem?_cons_succ, List.getElem?_cons_zero, Option.some.injEq] at ho
    subst ho
    refine Or.inl ⟨by rfl, ?_⟩
    intro wx hSw
    try dsimp only at hSw
    go_simp
    try rfl
  try simp only [Act.put, List.setIfInBounds_toArray, List.set_cons_zero, List.set_cons_succ]
  refine wpAnyH_takeAt (i := 19) (d := 58) (v := ?v19) (by kernel_rfl) (by kernel_rfl) (by kernel_rfl) (by kernel_rfl) (fun _ _ _ h => h) ?hy19 (by assumption) ?rest19
  case hy19 =>
    intro oi ho
    simp only [List.getElem?_toArray, List.getElem?_cons_succ, List.getElem?_cons_zero, Option.some.injEq] at ho
    subst ho
    refine Or.inl ⟨by rfl, ?_⟩
    intro wx hSw
    try dsimp only at hSw
    go_simp
    try rfl
  try simp only [Act.put, List.setIfInBounds_toArray, List.set_cons_zero, List.set_cons_succ]
  refine wpAnyH_takeAt (i := 20) (d := 59) (v := ?v20) (by kernel_rfl) (by kernel_rfl) (by kernel_rfl) (by kernel_rfl) (fun _ _ _ h => h) ?hy20 (by assumption) ?rest20
  case hy20 =>
    intro oi ho
    simp only [List.getElem?_toArray, List.getElem?_cons_succ, List.getElem?_cons_zero, Option.some.injEq] at ho
    subst ho
    refine Or.inl ⟨by rfl, ?_⟩
    intro wx hSw
    try dsimp only at hSw
    go_simp
    try rfl
  try simp only [Act.put, List.setIfInBounds_toArray, List.set_cons_zero, List.set_cons_succ]
  refine wpAnyH_takeAt (i := 21) (d := 60) (v := ?v21) (by kernel_rfl) (by kernel_rfl) (by kernel_rfl) (by kernel_rfl) (fun _ _ _ h => h) ?hy21 (by assumption) ?rest21
  case hy21 =>
    intro oi ho
    simp only [List.getElem?_toArray, List.getElem?_cons_succ, List.getElem?_cons_zero, Option.some.injEq] at ho
    subst ho
    refine Or.inl ⟨by rfl, ?_⟩
    intro wx hSw
    try dsimp only at hSw
    go_simp
    try rfl
  try simp only [Act.put, List.setIfInBounds_toArray, List.set_cons_zero, List.set_cons_succ]
  refine wpAnyH_takeAt (i := 22) (d := 61) (v := ?v22) (by kernel_rfl) (by kernel_rfl) (by kernel_rfl) (by kernel_rfl) (fun _ _ _ h => h) ?hy22 (by assumption) ?rest22
  case hy22 =>
    intro oi ho
    simp only [List.getElem?_toArray, List.getElem?_cons_succ, List.getElem?_cons_zero, Option.some.injEq] at ho
    subst ho
    refine Or.inl ⟨by rfl, ?_⟩
    intro wx hSw
    try dsimp only at hSw
    go_simp
    try rfl
  try simp only [Act.put, List.setIfInBounds_toArray, List.set_cons_zero, List.set_cons_succ]
  refine wpAnyH_takeAt (i := 23) (d := 62) (v := ?v23) (by kernel_rfl) (by kernel_rfl) (by kernel_rfl) (by kernel_rfl) (fun _ _ _ h => h) ?hy23 (by assumption) ?rest23
  case hy23 =>
    intro oi ho
    simp only [List.getElem?_toArray, List.getElem?_cons_succ, List.getElem?_cons_zero, Option.some.injEq] at ho
    subst ho
    refine Or.inl ⟨by rfl, ?_⟩
    intro wx hSw
    try dsimp only at hSw
    go_simp
    try rfl
  try simp only [Act.put, List.setIfInBounds_toArray, List.set_cons_zero, List.set_cons_succ]
  refine wpAnyH_takeAt (i := 24) (d := 63) (v := ?v24) (by kernel_rfl) (by kernel_rfl) (by kernel_rfl) (by kernel_rfl) (fun _ _ _ h => h) ?hy24 (by assumption) ?rest24
  case hy24 =>
    intro oi ho
    simp only [List.getElem?_toArray, List.getElem?_cons_succ, List.getElem?_cons_zero, Option.some.injEq] at ho
    subst ho
    refine Or.inl ⟨by rfl, ?_⟩
    intro wx hSw
    try dsimp only at hSw
    go_simp
    try rfl
  try simp only [Act.put, List.setIfInBounds_toArray, List.set_cons_zero, List.set_cons_succ]
  refine wpAnyH_takeAt (i := 25) (d := 64) (v := ?v25) (by kernel_rfl) (by kernel_rfl) (by kernel_rfl) (by kernel_rfl) (fun _ _ _ h => h) ?hy25 (by assumption) ?rest25
  case hy25 =>
    intro oi ho
    simp only [List.getElem?_toArray, List.getElem?_cons_succ, List.getElem?_cons_zero, Option.some.injEq] at ho
    subst ho
    refine Or.inl ⟨by rfl, ?_⟩
    intro wx hSw
    try dsimp only at hSw
    go_simp
    try rfl
  try simp only [Act.put, List.setIfInBounds_toArray, List.set_cons_zero, List.set_cons_succ]
  refine wpAnyH_takeAt (i := 26) (d := 65) (v := ?v26) (by kernel_rfl) (by kernel_rfl) (by kernel_rfl) (by kernel_rfl) (fun _ _ _ h => h) ?hy26 (by assumption) ?rest26
  case hy26 =>
    intro oi ho
    simp only [List.getElem?_toArray, List.getElem?_cons_succ, List.getElem?_cons_zero, Option.some.injEq] at ho
    subst ho
    refine Or.inl ⟨by rfl, ?_⟩
    intro wx hSw
    try dsimp only at hSw
    go_simp
    try rfl
  try simp only [Act.put, List.setIfInBounds_toArray, List.set_cons_zero, List.set_cons_succ]
  refine wpAnyH_takeAt (i := 27) (d := 66) (v := ?v27) (by kernel_rfl) (by kernel_rfl) (by kernel_rfl) (by kernel_rfl) (fun _ _ _ h => h) ?hy27 (by assumption) ?rest27
  case hy27 =>
    intro oi ho
    simp only [List.getElem?_toArray, List.getElem?_cons_succ, List.getElem?_cons_zero, Option.some.injEq] at ho
    subst ho
    refine Or.inl ⟨by rfl, ?_⟩
    intro wx hSw
    try dsimp only at hSw
    go_simp
    try rfl
  try simp only [Act.put, List.setIfInBounds_toArray, List.set_cons_zero, List.set_cons_succ]
  refine wpAnyH_takeAt (i := 28) (d := 67) (v := ?v28) (by kernel_rfl) (by kernel_rfl) (by kernel_rfl) (by kernel_rfl) (fun _ _ _ h => h) ?hy28 (by assumption) ?rest28
  case hy28 =>
    intro oi ho
    simp only [List.getElem?_toArray, List.getElem?_cons_succ, List.getElem?_cons_zero, Option.some.injEq] at ho
    subst ho
    refine Or.inl ⟨by rfl, ?_⟩
    intro wx hSw
    try dsimp only at hSw
    go_simp
    try rfl
  try simp only [Act.put, List.setIfInBounds_toArray, List.set_cons_zero, List.set_cons_succ]
  refine wpAnyH_takeAt (i := 29) (d := 68) (v := ?v29) (by kernel_rfl) (by kernel_rfl) (by kernel_rfl) (by kernel_rfl) (fun _ _ _ h => h) ?hy29 (by assumption) ?rest29
  case hy29 =>
    intro oi ho
    simp only [List.getElem?_toArray, List.getElem?_cons_succ, List.getElem?_cons_zero, Option.some.injEq] at ho
    subst ho
    refine Or.inl ⟨by rfl, ?_⟩
    intro wx hSw
    try dsimp only at hSw
    go_simp
    try rfl
  try simp only [Act.put, List.setIfInBounds_toArray, List.set_cons_zero, List.set_cons_succ]
  refine wpAnyH_takeAt (i := 30) (d := 69) (v := ?v30) (by kernel_rfl) (by kernel_rfl) (by kernel_rfl) (by kernel_rfl) (fun _ _ _ h => h) ?hy30 (by assumption) ?rest30
  case hy30 =>
    intro oi ho
    simp only [List.getElem?_toArray, List.getElem?_cons_succ, List.getElem?_cons_zero, Option.some.injEq] at ho
    subst ho
    refine Or.inl ⟨by rfl, ?_⟩
    intro wx hSw
    try dsimp only at hSw
    go_simp
    try rfl
  try simp only [Act.put, List.setIfInBounds_toArray, List.set_cons_zero, List.set_cons_succ]
  refine wpAnyH_takeAt (i := 31) (d := 70) (v := ?v31) (by kernel_rfl) (by kernel_rfl) (by kernel_rfl) (by kernel_rfl) (fun _ _ _ h => h) ?hy31 (by assumption) ?rest31
  case hy31 =>
    intro oi ho
    simp only [List.getElem?_toArray, List.getElem?_cons_succ, List.getElem?_cons_zero, Option.some.injEq] at ho
    subst ho
    refine Or.inl ⟨by rfl, ?_⟩
    intro wx hSw
    try dsimp only at hSw
    go_simp
    try rfl
  try simp only [Act.put, List.setIfInBounds_toArray, List.set_cons_zero, List.set_cons_succ]
  refine wpAnyH_takeAt (i := 32) (d := 71) (v := ?v32) (by kernel_rfl) (by kernel_rfl) (by kernel_rfl) (by kernel_rfl) (fun _ _ _ h => h) ?hy32 (by assumption) ?rest32
  case hy32 =>
    intro oi ho
    simp only [List.getElem?_toArray, List.getElem?_cons_succ, List.getElem?_cons_zero, Option.some.injEq] at ho
    subst ho
    refine Or.inl ⟨by rfl, ?_⟩
    intro wx hSw
    try dsimp only at hSw
    go_simp
    try rfl
  try simp only [Act.put, List.setIfInBounds_toArray, List.set_cons_zero, List.set_cons_succ]
  refine wpAnyH_takeAt (i := 33) (d := 72) (v := ?v33) (by kernel_rfl) (by kernel_rfl) (by kernel_rfl) (by kernel_rfl) (fun _ _ _ h => h) ?hy33 (by assumption) ?rest33
  case hy33 =>
    intro oi ho
    simp only [List.getElem?_toArray, List.getElem?_cons_succ, List.getElem?_cons_zero, Option.some.injEq] at ho
    subst ho
    refine Or.inl ⟨by rfl, ?_⟩
    intro wx hSw
    try dsimp only at hSw
    go_simp
    try rfl
  try simp only [Act.put, List.setIfInBounds_toArray, List.set_cons_zero, List.set_cons_succ]
  refine wpAnyH_takeAt (i := 34) (d := 73) (v := ?v34) (by kernel_rfl) (by kernel_rfl) (by kernel_rfl) (by kernel_rfl) (fun _ _ _ h => h) ?hy34 (by assumption) ?rest34
  case hy34 =>
    intro oi ho
    simp only [List.getElem?_toArray, List.getElem?_cons_succ, List.getElem?_cons_zero, Option.some.injEq] at ho
    subst ho
    refine Or.inl ⟨by rfl, ?_⟩
    intro wx hSw
    try dsimp only at hSw
    go_simp
    try rfl
  try simp only [Act.put, List.setIfInBounds_toArray, List.set_cons_zero, List.set_cons_succ]
  refine wpAnyH_takeAt (i := 35) (d := 74) (v := ?v35) (by kernel_rfl) (by kernel_rfl) (by kernel_rfl) (by kernel_rfl) (fun _ _ _ h => h) ?hy35 (by assumption) ?rest35
  case hy35 =>
    intro oi ho
    simp only [List.getElem?_toArray, List.getElem?_cons_succ, List.getElem?_cons_zero, Option.some.injEq] at ho
    subst ho
    refine Or.inl ⟨by rfl, ?_⟩
    intro wx hSw
    try dsimp only at hSw
    go_simp
    try rfl
  try simp only [Act.put, List.setIfInBounds_toArray, List.set_cons_zero, List.set_cons_succ]
  refine wpAnyH_takeAt (i := 36) (d := 75) (v := ?v36) (by kernel_rfl) (by kernel_rfl) (by kernel_rfl) (by kernel_rfl) (fun _ _ _ h => h) ?hy36 (by assumption) ?rest36
  case hy36 =>
    intro oi ho
    simp only [List.getElem?_toArray, List.getElem?_cons_succ, List.getElem?_cons_zero, Option.some.injEq] at ho
    subst ho
    refine Or.inl ⟨by rfl, ?_⟩
    intro wx hSw
    try dsimp only at hSw
    go_simp
    try rfl
  try simp only [Act.put, List.setIfInBounds_toArray, List.set_cons_zero, List.set_cons_succ]
  refine wpAnyH_takeAt (i := 37) (d := 76) (v := ?v37) (by kernel_rfl) (by kernel_rfl) (by kernel_rfl) (by kernel_rfl) (fun _ _ _ h => h) ?hy37 (by assumption) ?rest37
  case hy37 =>
    intro oi ho
    simp only [List.getElem?_toArray, List.getElem?_cons_succ, List.getElem?_cons_zero, Option.some.injEq] at ho
    subst ho
    refine Or.inl ⟨by rfl, ?_⟩
    intro wx hSw
    try dsimp only at hSw
    go_simp
    try rfl
  try simp only [Act.put, List.setIfInBounds_toArray, List.set_cons_zero, List.set_cons_succ]
  refine wpAnyH_takeAt (i := 38) (d := 77) (v := ?v38) (by kernel_rfl) (by kernel_rfl) (by kernel_rfl) (by kernel_rfl) (fun _ _ _ h => h) ?hy38 (by assumption) ?rest38
  case hy38 =>
    intro oi ho
    simp only [List.getElem?_toArray, List.getElem?_cons_succ, List.getElem?_cons_zero, Option.some.injEq] at ho
    subst ho
    refine Or.inl ⟨by rfl, ?_⟩
    intro wx hSw
    try dsimp only at hSw
    go_simp
    try rfl
  try simp only [Act.put, List.setIfInBounds_toArray, List.set_cons_zero, List.set_cons_succ]
  refine wpAnyH_takeAt (i := 39) (d := 17) (v := ?v39) (by kernel_rfl) (by kernel_rfl) (by kernel_rfl) (by kernel_rfl) (fun _ _ _ h => h) ?hy39 (by assumption) ?rest39
  case hy39 =>
    intro oi ho
    simp only [List.getElem?_toArray, List.getElem?_cons_succ, List.getElem?_cons_zero, Option.some.injEq] at ho
    subst ho
    refine Or.inl ⟨by rfl, ?_⟩
    intro wx hSw
    try dsimp only at hSw
    go_simp
    try rfl
  try simp only [Act.put, List.setIfInBounds_toArray, List.set_cons_zero, List.set_cons_succ]
  refine wpAnyH_done (by kernel_rfl) ?_ _
  refine NoPanic.normal ?_
  have HJ := (HJ2.out.later HS7.out).hid
  clear hHeld HB6 HB7 HC7 HS5 HS6 HS7 HK5 HK6
  go_wp2_with fail
  go_loopw [18] (fun i wr => i = .int .i64 0 ∧ w7 = wr) (fun _ _ => 0)
  case atStart => exact ⟨rfl, rfl⟩
  case round =>
  obtain ⟨rfl, rfl⟩ := hrel
  go_wp2_with fail
  refine wp_region_noPanic ?_
  refine wp_region_held_drew (S := fun wx => (convert 22 9 (.slice (some ⟨g', 0, none⟩) (len1 + 2) c')).run Try.prog wx = .ok (.string (str (ys ++ [77, 78]))) wx ∧ (convert 22 9 (.slice a1 len1 cap1)).run Try.prog wx = .ok (.string (str ys)) wx) (by kernel_rfl) ⟨run_text HJ.out.drew.new, run_text HJ.out.drew.old⟩ (fun hHeld => ?_)
  refine wpAnyH_takeAt (i := 0) (d := 87) (v := ?vB0) (by kernel_rfl) (by kernel_rfl) (by kernel_rfl) (by kernel_rfl) (fun _ _ _ h => h) ?hyB0 (by assumption) ?restB0
  case hyB0 =>
    intro oi ho
    simp only [List.getElem?_toArray, List.getElem?_cons_zero, Option.some.injEq] at ho
    subst ho
    refine Or.inl ⟨by rfl, ?_⟩
    intro wx hSw
    try dsimp only at hSw
    go_simp
    try rfl
  try simp only [Act.put, List.setIfInBounds_toArray, List.set_cons_zero, List.set_cons_succ]
  refine wpAnyH_takeAt (i := 1) (d := 88) (v := ?vB1) (by kernel_rfl) (by kernel_rfl) (by kernel_rfl) (by kernel_rfl) (fun _ _ _ h => h) ?hyB1 (by assumption) ?restB1
  case hyB1 =>
    intro oi ho
    simp only [List.getElem?_toArray, List.getElem?_cons_succ, List.getElem?_cons_zero, Option.some.injEq] at ho
    subst ho
    refine Or.inl ⟨by rfl, ?_⟩
    intro wx hSw
    try dsimp only at hSw
    go_simp
    try rfl
  try simp only [Act.put, List.setIfInBounds_toArray, List.set_cons_zero, List.set_cons_succ]
  refine wpAnyH_takeAt (i := 2) (d := 89) (v := ?vB2) (by kernel_rfl) (by kernel_rfl) (by kernel_rfl) (by kernel_rfl) (fun _ _ _ h => h) ?hyB2 (by assumption) ?restB2
  case hyB2 =>
    intro oi ho
    simp only [List.getElem?_toArray, List.getElem?_cons_succ, List.getElem?_cons_zero, Option.some.injEq] at ho
    subst ho
    refine Or.inl ⟨by rfl, ?_⟩
    intro wx hSw
    try dsimp only at hSw
    go_simp
    try rfl
  try simp only [Act.put, List.setIfInBounds_toArray, List.set_cons_zero, List.set_cons_succ]
  refine wpAnyH_takeAt (i := 3) (d := 90) (v := ?vB3) (by kernel_rfl) (by kernel_rfl) (by kernel_rfl) (by kernel_rfl) (fun _ _ _ h => h) ?hyB3 (by assumption) ?restB3
  case hyB3 =>
    intro oi ho
    simp only [List.getElem?_toArray, List.getElem?_cons_succ, List.getElem?_cons_zero, Option.some.injEq] at ho
    subst ho
    refine Or.inl ⟨by rfl, ?_⟩
    intro wx hSw
    try dsimp only at hSw
    go_simp
    try rfl
  try simp only [Act.put, List.setIfInBounds_toArray, List.set_cons_zero, List.set_cons_succ]
  refine wpAnyH_takeAt (i := 4) (d := 91) (v := ?vB4) (by kernel_rfl) (by kernel_rfl) (by kernel_rfl) (by kernel_rfl) (fun _ _ _ h => h) ?hyB4 (by assumption) ?restB4
  case hyB4 =>
    intro oi ho
    simp only [List.getElem?_toArray, List.getElem?_cons_succ, List.getElem?_cons_zero, Option.some.injEq] at ho
    subst ho
    refine Or.inl ⟨by rfl, ?_⟩
    intro wx hSw
    try dsimp only at hSw
    go_simp
    try rfl
  try simp only [Act.put, List.setIfInBounds_toArray, List.set_cons_zero, List.set_cons_succ]
  refine wpAnyH_takeAt (i := 5) (d := 92) (v := ?vB5) (by kernel_rfl) (by kernel_rfl) (by kernel_rfl) (by kernel_rfl) (fun _ _ _ h => h) ?hyB5 (by assumption) ?restB5
  case hyB5 =>
    intro oi ho
    simp only [List.getElem?_toArray, List.getElem?_cons_succ, List.getElem?_cons_zero, Option.some.injEq] at ho
    subst ho
    refine Or.inl ⟨by rfl, ?_⟩
    intro wx hSw
    try dsimp only at hSw
    go_simp
    try rfl
  try simp only [Act.put, List.setIfInBounds_toArray, List.set_cons_zero, List.set_cons_succ]
  refine wpAnyH_takeAt (i := 6) (d := 93) (v := ?vB6) (by kernel_rfl) (by kernel_rfl) (by kernel_rfl) (by kernel_rfl) (fun _ _ _ h => h) ?hyB6 (by assumption) ?restB6
  case hyB6 =>
    intro oi ho
    simp only [List.getElem?_toArray, List.getElem?_cons_succ, List.getElem?_cons_zero, Option.some.injEq] at ho
    subst ho
    refine Or.inl ⟨by rfl, ?_⟩
    intro wx hSw
    try dsimp only at hSw
    go_simp
    try rfl
  try simp only [Act.put, List.setIfInBounds_toArray, List.set_cons_zero, List.set_cons_succ]
  refine wpAnyH_takeAt (i := 7) (d := 94) (v := ?vB7) (by kernel_rfl) (by kernel_rfl) (by kernel_rfl) (by kernel_rfl) (fun _ _ _ h => h) ?hyB7 (by assumption) ?restB7
  case hyB7 =>
    intro oi ho
    simp only [List.getElem?_toArray, List.getElem?_cons_succ, List.getElem?_cons_zero, Option.some.injEq] at ho
    subst ho
    refine Or.inl ⟨by rfl, ?_⟩
    intro wx hSw
    try dsimp only at hSw
    go_simp
    try rfl
  try simp only [Act.put, List.setIfInBounds_toArray, List.set_cons_zero, List.set_cons_succ]
  refine wpAnyH_takeAt (i := 8) (d := 95) (v := ?vB8) (by kernel_rfl) (by kernel_rfl) (by kernel_rfl) (by kernel_rfl) (fun _ _ _ h => h) ?hyB8 (by assumption) ?restB8
  case hyB8 =>
    intro oi ho
    simp only [List.getElem?_toArray, List.getElem?_cons_succ, List.getElem?_cons_zero, Option.some.injEq] at ho
    subst ho
    refine Or.inl ⟨by rfl, ?_⟩
    intro wx hSw
    try dsimp only at hSw
    go_simp
    try rfl
  try simp only [Act.put, List.setIfInBounds_toArray, List.set_cons_zero, List.set_cons_succ]
  refine wpAnyH_takeAt (i := 9) (d := 96) (v := ?vB9) (by kernel_rfl) (by kernel_rfl) (by kernel_rfl) (by kernel_rfl) (fun _ _ _ h => h) ?hyB9 (by assumption) ?restB9
  case hyB9 =>
    intro oi ho
    simp only [List.getElem?_toArray, List.getElem?_cons_succ, List.getElem?_cons_zero, Option.some.injEq] at ho
    subst ho
    refine Or.inl ⟨by rfl, ?_⟩
    intro wx hSw
    try dsimp only at hSw
    go_simp
    try rfl
  try simp only [Act.put, List.setIfInBounds_toArray, List.set_cons_zero, List.set_cons_succ]
  refine wpAnyH_takeAt (i := 10) (d := 97) (v := ?vB10) (by kernel_rfl) (by kernel_rfl) (by kernel_rfl) (by kernel_rfl) (fun _ _ _ h => h) ?hyB10 (by assumption) ?restB10
  case hyB10 =>
    intro oi ho
    simp only [List.getElem?_toArray, List.getElem?_cons_succ, List.getElem?_cons_zero, Option.some.injEq] at ho
    subst ho
    refine Or.inl ⟨by rfl, ?_⟩
    intro wx hSw
    try dsimp only at hSw
    go_simp
    try rfl
  try simp only [Act.put, List.setIfInBounds_toArray, List.set_cons_zero, List.set_cons_succ]
  refine wpAnyH_takeAt (i := 11) (d := 98) (v := ?vB11) (by kernel_rfl) (by kernel_rfl) (by kernel_rfl) (by kernel_rfl) (fun _ _ _ h => h) ?hyB11 (by assumption) ?restB11
  case hyB11 =>
    intro oi ho
    simp only [List.getElem?_toArray, List.getElem?_cons_succ, List.getElem?_cons_zero, Option.some.injEq] at ho
    subst ho
    refine Or.inl ⟨by rfl, ?_⟩
    intro wx hSw
    try dsimp only at hSw
    go_simp
    try rfl
  try simp only [Act.put, List.setIfInBounds_toArray, List.set_cons_zero, List.set_cons_succ]
  refine wpAnyH_takeAt (i := 12) (d := 99) (v := ?vB12) (by kernel_rfl) (by kernel_rfl) (by kernel_rfl) (by kernel_rfl) (fun _ _ _ h => h) ?hyB12 (by assumption) ?restB12
  case hyB12 =>
    intro oi ho
    simp only [List.getElem?_toArray, List.getElem?_cons_succ, List.getElem?_cons_zero, Option.some.injEq] at ho
    subst ho
    refine Or.inl ⟨by rfl, ?_⟩
    intro wx hSw
    try dsimp only at hSw
    go_simp
    try rfl
  try simp only [Act.put, List.setIfInBounds_toArray, List.set_cons_zero, List.set_cons_succ]
  refine wpAnyH_takeAt (i := 13) (d := 8) (v := ?vB13) (by kernel_rfl) (by kernel_rfl) (by kernel_rfl) (by kernel_rfl) (fun _ _ _ h => h) ?hyB13 (by assumption) ?restB13
  case hyB13 =>
    intro oi ho
    simp only [List.getElem?_toArray, List.getElem?_cons_succ, List.getElem?_cons_zero, Option.some.injEq] at ho
    subst ho
    refine Or.inl ⟨by rfl, ?_⟩
    intro wx hSw
    try dsimp only at hSw
    go_simp
    try rfl
  try simp only [Act.put, List.setIfInBounds_toArray, List.set_cons_zero, List.set_cons_succ]
  refine wpAnyH_done (by kernel_rfl) ?_ _
  refine NoPanic.normal ?_
  go_wp2
  go_ret
  exact ⟨rfl, HJ.out.bel.drew⟩

theorem wireBytes_walk (a0 : Option Addr) (len0 cap0 : Nat) (xs : List Nat) (a1 : Option Addr) (len1 cap1 : Nat) (ys : List Nat) (p most : Int) (w : World)
    (h : BS w a0 len0 cap0 xs) (hr : len0 ≤ 140737488351232) (h1 : BS w a1 len1 cap1 ys) (hr1 : len1 ≤ 140737488351232) (_hp : (Lit.int .i64 p).wf = true) (_hm : (Lit.int .i64 most).wf = true) :
    Calls Try.prog 4 #[.slice a0 len0 cap0, .slice a1 len1 cap1, .int .i64 p, .int .i64 most] w fun e w' => e = .returned (.bool true) ∧ Below w.heap.size w w' := by
  by_cases he : rbE ys p most = 0
  · exact wireBytes_ok a0 len0 cap0 xs a1 len1 cap1 ys p most w h hr h1 hr1 he
  · exact wireBytes_no a0 len0 cap0 xs a1 len1 cap1 ys p most w h hr h1 hr1 he
end Go.Proofs.Ytblgagjifaeadaa
