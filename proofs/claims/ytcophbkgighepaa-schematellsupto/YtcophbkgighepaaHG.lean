/- A reader of bytes: number, count, name. -/
import Derived.Test.YtcophbkgighepaaHE
import Derived.Test.YtcophbkgighepaaXE
set_option linter.unusedVariables false
namespace Go.Proofs.Ytcophbkgighepaa
open Go.RowKit

/-- A reader in memory: its bytes, and where it stands. -/
abbrev RDR (rb : Nat) (a : Option Addr) (n c : Nat) (p : Int) (w : World) : Prop := w.heap[rb]? = some (.cells #[.slice a n c, .int .i64 p] 73 (0, 0))
/-- Nothing but the reader is written. -/
structure RdF (rb : Nat) (w w' : World) : Prop where
  bel : Below rb w w'
  oth : ∀ i, i < w.heap.size → i ≠ rb → w'.heap[i]? = w.heap[i]?
theorem RdF.trans {rb : Nat} {w w' w2 : World} (h : RdF rb w w') (k : RdF rb w' w2) : RdF rb w w2 := ⟨h.bel.trans k.bel, fun i hi hn => (k.oth i (Nat.lt_of_lt_of_le hi h.bel.size) hn).trans (h.oth i hi hn)⟩
theorem RdF.of {rb : Nat} {w w' : World} (h : Below w.heap.size w w') (hr : rb ≤ w.heap.size) : RdF rb w w' := ⟨h.mono hr, fun i hi _ => h.block i hi⟩
theorem RdF.set {rb : Nat} {w w' : World} (h : RdF rb w w') (i : Nat) (u : Value) : RdF rb w (w'.setCell ⟨rb, i, none⟩ u) := ⟨h.bel.setCell (p := ⟨rb, i, none⟩) (Nat.le_refl _) u, fun j hj hn => (heap_setCell_other _ _ _ _ (show j ≠ rb from hn)).trans (h.oth j hj hn)⟩
theorem bs_rd {rb n c : Nat} {a : Option Addr} {xs : List Nat} {w w' : World} (h : BS w a n c xs) (f : RdF rb w w') (ha : ∀ b o, a = some ⟨b, o, none⟩ → b ≠ rb) : BS w' a n c xs := by
  refine ⟨h.hlen, h.hcap, h.hroom, h.hmax, h.hbyte, h.hnil, fun x hx i hi => ?_⟩
  rw [← h.hcell x hx i hi]
  refine World.cell?_of_block ?_
  have hl : (x.add i).block < w.heap.size := cell_lt (h.hcell x hx i hi)
  have e : (x.add i).block = x.block := by unfold Addr.add; split <;> rfl
  rw [e] at hl ⊢
  refine f.oth _ hl fun q => ?_
  obtain ⟨b, o, sp⟩ := x
  have hsp : sp = none := by
    have := World.cell?_spot (h.hcell _ hx 0 (by omega))
    simpa [Addr.add] using this
  subst hsp
  exact ha b o hx q
set_option maxRecDepth 100000 in
set_option maxHeartbeats 4000000 in
theorem rnum_any {rb n c : Nat} {a : Option Addr} {p : Int} {xs : List Nat} {w : World} (h : RDR rb a n c p w) (hb : BS w a n c xs) :
    Calls Try.prog 69 #[.pointer (some ⟨rb, 0, none⟩)] w fun e w' => e = .returned (.int .i64 (ruN xs p)) ∧ RDR rb a n c (ruP xs p) w' ∧ RdF rb w w' := by
  have HR := hide h
  have HC := hide (readUint_any a n c xs p w.drew (hb.later (Below.refl _ _).drew (Nat.le_refl _)))
  have HX : Hid ((fun wx => wx.cell? ⟨rb, 0, none⟩ = some (.slice a n c) ∧ wx.cell? ⟨rb, 1, none⟩ = some (.int .i64 p)) w.drew) := ⟨cell_blk (show w.drew.heap[rb]? = _ from h), cell_blk (show w.drew.heap[rb]? = _ from h)⟩
  obtain ⟨rn, hrn⟩ : ∃ r : Nat, ruN xs p = r := ⟨_, rfl⟩
  obtain ⟨rp, hrp⟩ : ∃ r : Nat, ruP xs p = r := ⟨_, rfl⟩
  rw [hrn, hrp] at HC ⊢
  clear h hb hrn hrp
  go_enter Try.func69, Try.ntmps69
  go_upto_region 1 with fail
  refine wp_region_noPanic ?_
  refine wp_region_held_drew (S := fun wx => wx.cell? ⟨rb, 0, none⟩ = some (.slice a n c) ∧ wx.cell? ⟨rb, 1, none⟩ = some (.int .i64 p)) (by kernel_rfl) HX.out (fun hHeld => ?_)
  refine wpAnyH_takeAt (i := 0) (d := 7) (v := ?va0) (by kernel_rfl) (by kernel_rfl) (by kernel_rfl) (by kernel_rfl) (fun _ _ _ h => h) ?hya0 (by assumption) ?resta0
  case hya0 =>
    intro oi ho
    simp only [List.getElem?_toArray, List.getElem?_cons_zero, Option.some.injEq] at ho
    subst ho
    refine Or.inl ⟨by rfl, ?_⟩
    intro wx hSw
    try dsimp only at hSw
    obtain ⟨hs1, hs2⟩ := hSw
    go_simp
    try rfl
  try simp only [Act.put, List.setIfInBounds_toArray, List.set_cons_zero, List.set_cons_succ]
  refine wpAnyH_takeAt (i := 1) (d := 8) (v := ?va1) (by kernel_rfl) (by kernel_rfl) (by kernel_rfl) (by kernel_rfl) (fun _ _ _ h => h) ?hya1 (by assumption) ?resta1
  case hya1 =>
    intro oi ho
    simp only [List.getElem?_toArray, List.getElem?_cons_succ, List.getElem?_cons_zero, Option.some.injEq] at ho
    subst ho
    refine Or.inl ⟨by rfl, ?_⟩
    intro wx hSw
    try dsimp only at hSw
    obtain ⟨hs1, hs2⟩ := hSw
    go_simp
    try rfl
  try simp only [Act.put, List.setIfInBounds_toArray, List.set_cons_zero, List.set_cons_succ]
  refine wpAnyH_takeAt (i := 2) (d := 9) (v := ?va2) (by kernel_rfl) (by kernel_rfl) (by kernel_rfl) (by kernel_rfl) (fun _ _ _ h => h) ?hya2 (by assumption) ?resta2
  case hya2 =>
    intro oi ho
    simp only [List.getElem?_toArray, List.getElem?_cons_succ, List.getElem?_cons_zero, Option.some.injEq] at ho
    subst ho
    refine Or.inl ⟨by rfl, ?_⟩
    intro wx hSw
    try dsimp only at hSw
    obtain ⟨hs1, hs2⟩ := hSw
    go_simp
    try rfl
  try simp only [Act.put, List.setIfInBounds_toArray, List.set_cons_zero, List.set_cons_succ]
  refine wpAnyH_takeAt (i := 3) (d := 10) (v := ?va3) (by kernel_rfl) (by kernel_rfl) (by kernel_rfl) (by kernel_rfl) (fun _ _ _ h => h) ?hya3 (by assumption) ?resta3
  case hya3 =>
    intro oi ho
    simp only [List.getElem?_toArray, List.getElem?_cons_succ, List.getElem?_cons_zero, Option.some.injEq] at ho
    subst ho
    refine Or.inl ⟨by rfl, ?_⟩
    intro wx hSw
    try dsimp only at hSw
    obtain ⟨hs1, hs2⟩ := hSw
    go_simp
    try rfl
  try simp only [Act.put, List.setIfInBounds_toArray, List.set_cons_zero, List.set_cons_succ]
  refine wpAnyH_takeAt (i := 4) (d := 11) (v := ?va4) (by kernel_rfl) (by kernel_rfl) (by kernel_rfl) (by kernel_rfl) (fun _ _ _ h => h) ?hya4 (by assumption) ?resta4
  case hya4 =>
    intro oi ho
    simp only [List.getElem?_toArray, List.getElem?_cons_succ, List.getElem?_cons_zero, Option.some.injEq] at ho
    subst ho
    refine Or.inl ⟨by rfl, ?_⟩
    intro wx hSw
    try dsimp only at hSw
    obtain ⟨hs1, hs2⟩ := hSw
    go_simp
    try rfl
  try simp only [Act.put, List.setIfInBounds_toArray, List.set_cons_zero, List.set_cons_succ]
  refine wpAnyH_takeAt (i := 5) (d := 12) (v := ?va5) (by kernel_rfl) (by kernel_rfl) (by kernel_rfl) (by kernel_rfl) (fun _ _ _ h => h) ?hya5 (by assumption) ?resta5
  case hya5 =>
    intro oi ho
    simp only [List.getElem?_toArray, List.getElem?_cons_succ, List.getElem?_cons_zero, Option.some.injEq] at ho
    subst ho
    refine Or.inl ⟨by rfl, ?_⟩
    intro wx hSw
    try dsimp only at hSw
    obtain ⟨hs1, hs2⟩ := hSw
    go_simp
    try rfl
  try simp only [Act.put, List.setIfInBounds_toArray, List.set_cons_zero, List.set_cons_succ]
  refine wpAnyH_takeAt (i := 6) (d := 13) (v := ?va6) (by kernel_rfl) (by kernel_rfl) (by kernel_rfl) (by kernel_rfl) (fun _ _ _ h => h) ?hya6 (by assumption) ?resta6
  case hya6 =>
    intro oi ho
    simp only [List.getElem?_toArray, List.getElem?_cons_succ, List.getElem?_cons_zero, Option.some.injEq] at ho
    subst ho
    refine Or.inl ⟨by rfl, ?_⟩
    intro wx hSw
    try dsimp only at hSw
    obtain ⟨hs1, hs2⟩ := hSw
    go_simp
    try rfl
  try simp only [Act.put, List.setIfInBounds_toArray, List.set_cons_zero, List.set_cons_succ]
  refine wpAnyH_takeAt (i := 7) (d := 14) (v := ?va7) (by kernel_rfl) (by kernel_rfl) (by kernel_rfl) (by kernel_rfl) (fun _ _ _ h => h) ?hya7 (by assumption) ?resta7
  case hya7 =>
    intro oi ho
    simp only [List.getElem?_toArray, List.getElem?_cons_succ, List.getElem?_cons_zero, Option.some.injEq] at ho
    subst ho
    refine Or.inl ⟨by rfl, ?_⟩
    intro wx hSw
    try dsimp only at hSw
    obtain ⟨hs1, hs2⟩ := hSw
    go_simp
    try rfl
  try simp only [Act.put, List.setIfInBounds_toArray, List.set_cons_zero, List.set_cons_succ]
  refine wpAnyH_comesAt (i := 8) (by kernel_rfl) (by kernel_rfl) ?_
  intro o ho K hK
  simp only [List.getElem?_toArray, List.getElem?_cons_succ, List.getElem?_cons_zero, Option.some.injEq] at ho
  subst ho
  go_simp
  refine HC.out.mono ?_
  rintro e w2 ⟨rfl, hw2⟩
  subst hw2
  refine hK.out _ _ HX.out (fun hHeld => ?_)
  clear hK K
  try simp only [Act.put, List.setIfInBounds_toArray, List.set_cons_zero, List.set_cons_succ]
  refine wpAnyH_takeAt (i := 9) (d := 6) (v := ?vb9) (by kernel_rfl) (by kernel_rfl) (by kernel_rfl) (by kernel_rfl) (fun _ _ _ h => h) ?hyb9 (by assumption) ?restb9
  case hyb9 =>
    intro oi ho
    simp only [List.getElem?_toArray, List.getElem?_cons_succ, List.getElem?_cons_zero, Option.some.injEq] at ho
    subst ho
    refine Or.inl ⟨by rfl, ?_⟩
    intro wx hSw
    try dsimp only at hSw
    obtain ⟨hs1, hs2⟩ := hSw
    go_simp
    try rfl
  try simp only [Act.put, List.setIfInBounds_toArray, List.set_cons_zero, List.set_cons_succ]
  refine wpAnyH_takeAt (i := 10) (d := 16) (v := ?vb10) (by kernel_rfl) (by kernel_rfl) (by kernel_rfl) (by kernel_rfl) (fun _ _ _ h => h) ?hyb10 (by assumption) ?restb10
  case hyb10 =>
    intro oi ho
    simp only [List.getElem?_toArray, List.getElem?_cons_succ, List.getElem?_cons_zero, Option.some.injEq] at ho
    subst ho
    refine Or.inl ⟨by rfl, ?_⟩
    intro wx hSw
    try dsimp only at hSw
    obtain ⟨hs1, hs2⟩ := hSw
    go_simp
    try rfl
  try simp only [Act.put, List.setIfInBounds_toArray, List.set_cons_zero, List.set_cons_succ]
  refine wpAnyH_takeAt (i := 11) (d := 17) (v := ?vb11) (by kernel_rfl) (by kernel_rfl) (by kernel_rfl) (by kernel_rfl) (fun _ _ _ h => h) ?hyb11 (by assumption) ?restb11
  case hyb11 =>
    intro oi ho
    simp only [List.getElem?_toArray, List.getElem?_cons_succ, List.getElem?_cons_zero, Option.some.injEq] at ho
    subst ho
    refine Or.inl ⟨by rfl, ?_⟩
    intro wx hSw
    try dsimp only at hSw
    obtain ⟨hs1, hs2⟩ := hSw
    go_simp
    try rfl
  try simp only [Act.put, List.setIfInBounds_toArray, List.set_cons_zero, List.set_cons_succ]
  refine wpAnyH_takeAt (i := 12) (d := 18) (v := ?vb12) (by kernel_rfl) (by kernel_rfl) (by kernel_rfl) (by kernel_rfl) (fun _ _ _ h => h) ?hyb12 (by assumption) ?restb12
  case hyb12 =>
    intro oi ho
    simp only [List.getElem?_toArray, List.getElem?_cons_succ, List.getElem?_cons_zero, Option.some.injEq] at ho
    subst ho
    refine Or.inl ⟨by rfl, ?_⟩
    intro wx hSw
    try dsimp only at hSw
    obtain ⟨hs1, hs2⟩ := hSw
    go_simp
    try rfl
  try simp only [Act.put, List.setIfInBounds_toArray, List.set_cons_zero, List.set_cons_succ]
  refine wpAnyH_takeAt (i := 13) (d := 3) (v := ?vb13) (by kernel_rfl) (by kernel_rfl) (by kernel_rfl) (by kernel_rfl) (fun _ _ _ h => h) ?hyb13 (by assumption) ?restb13
  case hyb13 =>
    intro oi ho
    simp only [List.getElem?_toArray, List.getElem?_cons_succ, List.getElem?_cons_zero, Option.some.injEq] at ho
    subst ho
    refine Or.inl ⟨by rfl, ?_⟩
    intro wx hSw
    try dsimp only at hSw
    obtain ⟨hs1, hs2⟩ := hSw
    go_simp
    try rfl
  try simp only [Act.put, List.setIfInBounds_toArray, List.set_cons_zero, List.set_cons_succ]
  refine wpAnyH_takeAt (i := 14) (d := 4) (v := ?vb14) (by kernel_rfl) (by kernel_rfl) (by kernel_rfl) (by kernel_rfl) (fun _ _ _ h => h) ?hyb14 (by assumption) ?restb14
  case hyb14 =>
    intro oi ho
    simp only [List.getElem?_toArray, List.getElem?_cons_succ, List.getElem?_cons_zero, Option.some.injEq] at ho
    subst ho
    refine Or.inl ⟨by rfl, ?_⟩
    intro wx hSw
    try dsimp only at hSw
    obtain ⟨hs1, hs2⟩ := hSw
    go_simp
    try rfl
  try simp only [Act.put, List.setIfInBounds_toArray, List.set_cons_zero, List.set_cons_succ]
  refine wpAnyH_takeAt (i := 15) (d := 5) (v := ?vb15) (by kernel_rfl) (by kernel_rfl) (by kernel_rfl) (by kernel_rfl) (fun _ _ _ h => h) ?hyb15 (by assumption) ?restb15
  case hyb15 =>
    intro oi ho
    simp only [List.getElem?_toArray, List.getElem?_cons_succ, List.getElem?_cons_zero, Option.some.injEq] at ho
    subst ho
    refine Or.inl ⟨by rfl, ?_⟩
    intro wx hSw
    try dsimp only at hSw
    obtain ⟨hs1, hs2⟩ := hSw
    go_simp
    try rfl
  try simp only [Act.put, List.setIfInBounds_toArray, List.set_cons_zero, List.set_cons_succ]
  refine wpAnyH_done (by kernel_rfl) ?_ _
  refine NoPanic.normal ?_
  have y1 : w.drew.cell? ⟨rb, 1, none⟩ = some (.int .i64 p) := HX.out.2
  have yf : w.drew.frozen? ⟨rb, 1, none⟩ = false := frz_blk (show w.drew.heap[rb]? = _ from HR.out)
  have y1' : w.cell? ⟨rb, 1, none⟩ = some (.int .i64 p) := cell_blk HR.out
  have yf' : w.frozen? ⟨rb, 1, none⟩ = false := frz_blk HR.out
  clear hHeld
  go_wp2
  go_ret
  refine ⟨rfl, heap_setCell_same _ _ _ _ _ _ (show _ from HR.out), ?_⟩
  exact (RdF.of (Below.refl _ _).drew (by have := blk_lt HR.out; omega)).set 1 _
set_option maxRecDepth 100000 in
theorem rcount_any {rb n c : Nat} {a : Option Addr} {p : Int} {xs : List Nat} {w : World} (h : RDR rb a n c p w) (hb : BS w a n c xs) :
    Calls Try.prog 68 #[.pointer (some ⟨rb, 0, none⟩), .int .i64 3] w fun e w' => e = .returned (.int .i64 ((min (ruN xs p) 3 : Nat) : Int)) ∧ RDR rb a n c (ruP xs p) w' ∧ RdF rb w w' := by
  have HC := hide (rnum_any h hb)
  obtain ⟨rn, hrn⟩ : ∃ r : Nat, ruN xs p = r := ⟨_, rfl⟩
  obtain ⟨rp, hrp⟩ : ∃ r : Nat, ruP xs p = r := ⟨_, rfl⟩
  rw [hrn, hrp] at HC ⊢
  obtain ⟨m, hm⟩ : ∃ m, m = min rn 3 := ⟨_, rfl⟩
  rw [← hm]
  have em : min (rn : Int) 3 = (m : Int) := by omega
  have em' : (if (3 : Int) < (rn : Int) then (3 : Int) else (rn : Int)) = (m : Int) := by split <;> omega
  clear h hb hrn hrp hm
  go_enter Try.func68, Try.ntmps68
  go_wp2_with fail
  refine HC.out.mono ?_
  rintro e w1 ⟨rfl, h1, h2⟩
  have H1 := hide h1
  have H2 := hide h2
  clear h1 h2 HC
  go_wp2
  go_ret
  exact ⟨rfl, H1.out, H2.out⟩
theorem readB {a : Option Addr} {n c : Nat} {xs : List Nat} {p : Int} {w : World} (h : BS w a n c xs) :
    Calls Try.prog 84 #[.slice a n c, .int .i64 p, .int .i64 8] w fun e w' => ∃ va vn vc e2, e = .returned (.tuple #[.slice va vn vc, .int .i64 (rbP xs p 8), .int .i64 e2]) ∧ BS w' va vn vc (rbS xs p 8) ∧ (∀ b o, va = some ⟨b, o, none⟩ → w.heap.size ≤ b) ∧ Below w.heap.size w w' := by
  by_cases he : rbE xs p 8 = 0
  · refine (readBytes_ok a n c xs p 8 w h he).mono ?_
    rintro e w' ⟨g, m, rfl, h1, h2, _, h4⟩
    refine ⟨_, _, _, _, rfl, h2, fun b o q => ?_, h4⟩
    simp only [Option.some.injEq, Addr.mk.injEq] at q
    omega
  · refine (readBytes_no a n c xs p 8 w h he).mono ?_
    rintro e w' ⟨rfl, hw⟩
    subst hw
    refine ⟨none, 0, 0, _, by unfold rbP; rw [if_neg he]; rfl, ?_, (fun b o q => by cases q), Below.refl _ _⟩
    unfold rbS
    rw [if_neg he]
    exact BS.none _ _ _ (by omega) (fun _ => rfl)
set_option maxRecDepth 100000 in
set_option maxHeartbeats 4000000 in
theorem rname_any {rb n c : Nat} {a : Option Addr} {p : Int} {xs : List Nat} {w : World} (h : RDR rb a n c p w) (hb : BS w a n c xs) :
    Calls Try.prog 67 #[.pointer (some ⟨rb, 0, none⟩)] w fun e w' => e = .returned (.string (str (rbS xs p 8))) ∧ RDR rb a n c (rbP xs p 8) w' ∧ RdF rb w w' := by
  have HR := hide h
  have HC := hide (readB (p := p) (hb.later (w' := w.drew) (Below.refl _ _).drew (Nat.le_refl _)))
  have HX : Hid ((fun wx => wx.cell? ⟨rb, 0, none⟩ = some (.slice a n c) ∧ wx.cell? ⟨rb, 1, none⟩ = some (.int .i64 p)) w.drew) := ⟨cell_blk (show w.drew.heap[rb]? = _ from h), cell_blk (show w.drew.heap[rb]? = _ from h)⟩
  obtain ⟨rp, hrp⟩ : ∃ r : Nat, rbP xs p 8 = r := ⟨_, rfl⟩
  obtain ⟨rs, hrs⟩ : ∃ r, rbS xs p 8 = r := ⟨_, rfl⟩
  rw [hrp, hrs] at HC ⊢
  clear h hb hrp hrs
  go_enter Try.func67, Try.ntmps67
  go_upto_region 1 with fail
  refine wp_region_noPanic ?_
  refine wp_region_held_drew (S := fun wx => wx.cell? ⟨rb, 0, none⟩ = some (.slice a n c) ∧ wx.cell? ⟨rb, 1, none⟩ = some (.int .i64 p)) (by kernel_rfl) HX.out (fun hHeld => ?_)
  refine wpAnyH_takeAt (i := 0) (d := 7) (v := ?va0) (by kernel_rfl) (by kernel_rfl) (by kernel_rfl) (by kernel_rfl) (fun _ _ _ h => h) ?hya0 (by assumption) ?resta0
  case hya0 =>
    intro oi ho
    simp only [List.getElem?_toArray, List.getElem?_cons_zero, Option.some.injEq] at ho
    subst ho
    refine Or.inl ⟨by rfl, ?_⟩
    intro wx hSw
    try dsimp only at hSw
    obtain ⟨hs1, hs2⟩ := hSw
    go_simp
    try rfl
  try simp only [Act.put, List.setIfInBounds_toArray, List.set_cons_zero, List.set_cons_succ]
  refine wpAnyH_takeAt (i := 1) (d := 8) (v := ?va1) (by kernel_rfl) (by kernel_rfl) (by kernel_rfl) (by kernel_rfl) (fun _ _ _ h => h) ?hya1 (by assumption) ?resta1
  case hya1 =>
    intro oi ho
    simp only [List.getElem?_toArray, List.getElem?_cons_succ, List.getElem?_cons_zero, Option.some.injEq] at ho
    subst ho
    refine Or.inl ⟨by rfl, ?_⟩
    intro wx hSw
    try dsimp only at hSw
    obtain ⟨hs1, hs2⟩ := hSw
    go_simp
    try rfl
  try simp only [Act.put, List.setIfInBounds_toArray, List.set_cons_zero, List.set_cons_succ]
  refine wpAnyH_takeAt (i := 2) (d := 9) (v := ?va2) (by kernel_rfl) (by kernel_rfl) (by kernel_rfl) (by kernel_rfl) (fun _ _ _ h => h) ?hya2 (by assumption) ?resta2
  case hya2 =>
    intro oi ho
    simp only [List.getElem?_toArray, List.getElem?_cons_succ, List.getElem?_cons_zero, Option.some.injEq] at ho
    subst ho
    refine Or.inl ⟨by rfl, ?_⟩
    intro wx hSw
    try dsimp only at hSw
    obtain ⟨hs1, hs2⟩ := hSw
    go_simp
    try rfl
  try simp only [Act.put, List.setIfInBounds_toArray, List.set_cons_zero, List.set_cons_succ]
  refine wpAnyH_takeAt (i := 3) (d := 10) (v := ?va3) (by kernel_rfl) (by kernel_rfl) (by kernel_rfl) (by kernel_rfl) (fun _ _ _ h => h) ?hya3 (by assumption) ?resta3
  case hya3 =>
    intro oi ho
    simp only [List.getElem?_toArray, List.getElem?_cons_succ, List.getElem?_cons_zero, Option.some.injEq] at ho
    subst ho
    refine Or.inl ⟨by rfl, ?_⟩
    intro wx hSw
    try dsimp only at hSw
    obtain ⟨hs1, hs2⟩ := hSw
    go_simp
    try rfl
  try simp only [Act.put, List.setIfInBounds_toArray, List.set_cons_zero, List.set_cons_succ]
  refine wpAnyH_takeAt (i := 4) (d := 11) (v := ?va4) (by kernel_rfl) (by kernel_rfl) (by kernel_rfl) (by kernel_rfl) (fun _ _ _ h => h) ?hya4 (by assumption) ?resta4
  case hya4 =>
    intro oi ho
    simp only [List.getElem?_toArray, List.getElem?_cons_succ, List.getElem?_cons_zero, Option.some.injEq] at ho
    subst ho
    refine Or.inl ⟨by rfl, ?_⟩
    intro wx hSw
    try dsimp only at hSw
    obtain ⟨hs1, hs2⟩ := hSw
    go_simp
    try rfl
  try simp only [Act.put, List.setIfInBounds_toArray, List.set_cons_zero, List.set_cons_succ]
  refine wpAnyH_takeAt (i := 5) (d := 12) (v := ?va5) (by kernel_rfl) (by kernel_rfl) (by kernel_rfl) (by kernel_rfl) (fun _ _ _ h => h) ?hya5 (by assumption) ?resta5
  case hya5 =>
    intro oi ho
    simp only [List.getElem?_toArray, List.getElem?_cons_succ, List.getElem?_cons_zero, Option.some.injEq] at ho
    subst ho
    refine Or.inl ⟨by rfl, ?_⟩
    intro wx hSw
    try dsimp only at hSw
    obtain ⟨hs1, hs2⟩ := hSw
    go_simp
    try rfl
  try simp only [Act.put, List.setIfInBounds_toArray, List.set_cons_zero, List.set_cons_succ]
  refine wpAnyH_takeAt (i := 6) (d := 13) (v := ?va6) (by kernel_rfl) (by kernel_rfl) (by kernel_rfl) (by kernel_rfl) (fun _ _ _ h => h) ?hya6 (by assumption) ?resta6
  case hya6 =>
    intro oi ho
    simp only [List.getElem?_toArray, List.getElem?_cons_succ, List.getElem?_cons_zero, Option.some.injEq] at ho
    subst ho
    refine Or.inl ⟨by rfl, ?_⟩
    intro wx hSw
    try dsimp only at hSw
    obtain ⟨hs1, hs2⟩ := hSw
    go_simp
    try rfl
  try simp only [Act.put, List.setIfInBounds_toArray, List.set_cons_zero, List.set_cons_succ]
  refine wpAnyH_takeAt (i := 7) (d := 14) (v := ?va7) (by kernel_rfl) (by kernel_rfl) (by kernel_rfl) (by kernel_rfl) (fun _ _ _ h => h) ?hya7 (by assumption) ?resta7
  case hya7 =>
    intro oi ho
    simp only [List.getElem?_toArray, List.getElem?_cons_succ, List.getElem?_cons_zero, Option.some.injEq] at ho
    subst ho
    refine Or.inl ⟨by rfl, ?_⟩
    intro wx hSw
    try dsimp only at hSw
    obtain ⟨hs1, hs2⟩ := hSw
    go_simp
    try rfl
  try simp only [Act.put, List.setIfInBounds_toArray, List.set_cons_zero, List.set_cons_succ]
  refine wpAnyH_comesAt (i := 8) (by kernel_rfl) (by kernel_rfl) ?_
  intro o ho K hK
  simp only [List.getElem?_toArray, List.getElem?_cons_succ, List.getElem?_cons_zero, Option.some.injEq] at ho
  subst ho
  go_simp
  refine HC.out.mono ?_
  rintro e w2 ⟨va, vn, vc, e2, rfl, hbs2, hge2, hb2⟩
  have HGE := hide hge2
  have hb2 : Below w.heap.size w w2 := ⟨hb2.os, hb2.tape, hb2.output, hb2.size, hb2.block⟩
  have HBS := hide hbs2
  have HB2 := hide hb2
  have hX2 : w2.cell? ⟨rb, 0, none⟩ = some (.slice a n c) ∧ w2.cell? ⟨rb, 1, none⟩ = some (.int .i64 p) := ⟨(hb2.cell (blk_lt HR.out)).trans (cell_blk HR.out), (hb2.cell (blk_lt HR.out)).trans (cell_blk HR.out)⟩
  clear hbs2 hb2 hHeld hge2
  refine hK.out _ _ hX2 (fun hHeld => ?_)
  clear hX2
  clear hK K
  try simp only [Act.put, List.setIfInBounds_toArray, List.set_cons_zero, List.set_cons_succ]
  refine wpAnyH_takeAt (i := 9) (d := 6) (v := ?vb9) (by kernel_rfl) (by kernel_rfl) (by kernel_rfl) (by kernel_rfl) (fun _ _ _ h => h) ?hyb9 (by assumption) ?restb9
  case hyb9 =>
    intro oi ho
    simp only [List.getElem?_toArray, List.getElem?_cons_succ, List.getElem?_cons_zero, Option.some.injEq] at ho
    subst ho
    refine Or.inl ⟨by rfl, ?_⟩
    intro wx hSw
    try dsimp only at hSw
    obtain ⟨hs1, hs2⟩ := hSw
    go_simp
    try rfl
  try simp only [Act.put, List.setIfInBounds_toArray, List.set_cons_zero, List.set_cons_succ]
  refine wpAnyH_takeAt (i := 10) (d := 16) (v := ?vb10) (by kernel_rfl) (by kernel_rfl) (by kernel_rfl) (by kernel_rfl) (fun _ _ _ h => h) ?hyb10 (by assumption) ?restb10
  case hyb10 =>
    intro oi ho
    simp only [List.getElem?_toArray, List.getElem?_cons_succ, List.getElem?_cons_zero, Option.some.injEq] at ho
    subst ho
    refine Or.inl ⟨by rfl, ?_⟩
    intro wx hSw
    try dsimp only at hSw
    obtain ⟨hs1, hs2⟩ := hSw
    go_simp
    try rfl
  try simp only [Act.put, List.setIfInBounds_toArray, List.set_cons_zero, List.set_cons_succ]
  refine wpAnyH_takeAt (i := 11) (d := 17) (v := ?vb11) (by kernel_rfl) (by kernel_rfl) (by kernel_rfl) (by kernel_rfl) (fun _ _ _ h => h) ?hyb11 (by assumption) ?restb11
  case hyb11 =>
    intro oi ho
    simp only [List.getElem?_toArray, List.getElem?_cons_succ, List.getElem?_cons_zero, Option.some.injEq] at ho
    subst ho
    refine Or.inl ⟨by rfl, ?_⟩
    intro wx hSw
    try dsimp only at hSw
    obtain ⟨hs1, hs2⟩ := hSw
    go_simp
    try rfl
  try simp only [Act.put, List.setIfInBounds_toArray, List.set_cons_zero, List.set_cons_succ]
  refine wpAnyH_takeAt (i := 12) (d := 18) (v := ?vb12) (by kernel_rfl) (by kernel_rfl) (by kernel_rfl) (by kernel_rfl) (fun _ _ _ h => h) ?hyb12 (by assumption) ?restb12
  case hyb12 =>
    intro oi ho
    simp only [List.getElem?_toArray, List.getElem?_cons_succ, List.getElem?_cons_zero, Option.some.injEq] at ho
    subst ho
    refine Or.inl ⟨by rfl, ?_⟩
    intro wx hSw
    try dsimp only at hSw
    obtain ⟨hs1, hs2⟩ := hSw
    go_simp
    try rfl
  try simp only [Act.put, List.setIfInBounds_toArray, List.set_cons_zero, List.set_cons_succ]
  refine wpAnyH_takeAt (i := 13) (d := 3) (v := ?vb13) (by kernel_rfl) (by kernel_rfl) (by kernel_rfl) (by kernel_rfl) (fun _ _ _ h => h) ?hyb13 (by assumption) ?restb13
  case hyb13 =>
    intro oi ho
    simp only [List.getElem?_toArray, List.getElem?_cons_succ, List.getElem?_cons_zero, Option.some.injEq] at ho
    subst ho
    refine Or.inl ⟨by rfl, ?_⟩
    intro wx hSw
    try dsimp only at hSw
    obtain ⟨hs1, hs2⟩ := hSw
    go_simp
    try rfl
  try simp only [Act.put, List.setIfInBounds_toArray, List.set_cons_zero, List.set_cons_succ]
  refine wpAnyH_takeAt (i := 14) (d := 4) (v := ?vb14) (by kernel_rfl) (by kernel_rfl) (by kernel_rfl) (by kernel_rfl) (fun _ _ _ h => h) ?hyb14 (by assumption) ?restb14
  case hyb14 =>
    intro oi ho
    simp only [List.getElem?_toArray, List.getElem?_cons_succ, List.getElem?_cons_zero, Option.some.injEq] at ho
    subst ho
    refine Or.inl ⟨by rfl, ?_⟩
    intro wx hSw
    try dsimp only at hSw
    obtain ⟨hs1, hs2⟩ := hSw
    go_simp
    try rfl
  try simp only [Act.put, List.setIfInBounds_toArray, List.set_cons_zero, List.set_cons_succ]
  refine wpAnyH_takeAt (i := 15) (d := 5) (v := ?vb15) (by kernel_rfl) (by kernel_rfl) (by kernel_rfl) (by kernel_rfl) (fun _ _ _ h => h) ?hyb15 (by assumption) ?restb15
  case hyb15 =>
    intro oi ho
    simp only [List.getElem?_toArray, List.getElem?_cons_succ, List.getElem?_cons_zero, Option.some.injEq] at ho
    subst ho
    refine Or.inl ⟨by rfl, ?_⟩
    intro wx hSw
    try dsimp only at hSw
    obtain ⟨hs1, hs2⟩ := hSw
    go_simp
    try rfl
  try simp only [Act.put, List.setIfInBounds_toArray, List.set_cons_zero, List.set_cons_succ]
  refine wpAnyH_done (by kernel_rfl) ?_ _
  refine NoPanic.normal ?_
  have HR2 := hide ((HB2.out.block rb (blk_lt HR.out)).trans HR.out)
  have y1 : w2.cell? ⟨rb, 1, none⟩ = some (.int .i64 p) := cell_blk HR2.out
  have yf : w2.frozen? ⟨rb, 1, none⟩ = false := frz_blk HR2.out
  have HF2 : Hid (RdF rb w2 (w2.setCell ⟨rb, 1, none⟩ (.int .i64 (rp : Int)))) := (RdF.of (Below.refl _ _) (by have := blk_lt HR2.out; omega)).set 1 _
  have hcv : (convert 42 9 (.slice va vn vc)).run Try.prog (w2.setCell ⟨rb, 1, none⟩ (.int .i64 (rp : Int))) = .ok (.string (str rs)) (w2.setCell ⟨rb, 1, none⟩ (.int .i64 (rp : Int))) := run_text (bs_rd HBS.out HF2.out fun b o q => by have h8 : w.heap.size ≤ b := HGE.out b o q; have := blk_lt HR.out; omega)
  have HR3 : Hid (RDR rb a n c (rp : Int) (w2.setCell ⟨rb, 1, none⟩ (.int .i64 (rp : Int)))) := heap_setCell_same _ _ _ _ _ _ HR2.out
  clear hHeld
  go_wp2
  go_ret
  exact ⟨rfl, HR3.out, (RdF.of HB2.out (by have := blk_lt HR.out; omega)).trans HF2.out⟩
end Go.Proofs.Ytcophbkgighepaa
set_option linter.unusedVariables false
namespace Go.Proofs.Ytcophbkgighepaa
open Go.RowKit

theorem rd_num {pre rest : List Nat} {n : Nat} (hn : n < 9223372036854775808) : ruN (pre ++ (encW n ++ rest)) (pre.length : Int) = n ∧ ruP (pre ++ (encW n ++ rest)) (pre.length : Int) = pre.length + (encW n).length ∧ ruE (pre ++ (encW n ++ rest)) (pre.length : Int) = 0 := by
  have h := rd_enc n hn pre rest
  have hc : (0 : Int) ≤ (pre.length : Int) ∧ (pre.length : Int) ≤ ((pre ++ (encW n ++ rest)).length : Int) := by
    constructor
    · omega
    · rw [List.length_append]; omega
  have ht : ((pre.length : Nat) : Int).toNat = pre.length := rfl
  refine ⟨?_, ?_, ?_⟩
  · unfold ruN
    rw [if_pos hc, ht, h]
  · unfold ruP
    rw [if_pos hc, ht]
    unfold rdNext
    rw [h, if_pos rfl, enc_length n (grp_spec n hn).1]
  · unfold ruE
    rw [if_pos hc, ht, h]
theorem rd_name {pre rest : List Nat} {s : ByteArray} (hs : s.size ≤ 8) : rbS (pre ++ (wb s ++ rest)) (pre.length : Int) 8 = sl s ∧ rbP (pre ++ (wb s ++ rest)) (pre.length : Int) 8 = pre.length + (wb s).length := by
  have e : pre ++ (wb s ++ rest) = pre ++ (encW s.size ++ (sl s ++ rest)) := by unfold wb; simp only [List.append_assoc]
  obtain ⟨h1, h2, h3⟩ := rd_num (pre := pre) (rest := sl s ++ rest) (n := s.size) (by omega)
  rw [← e] at h1 h2 h3
  have hl : (pre ++ (wb s ++ rest)).length = pre.length + (encW s.size).length + s.size + rest.length := by
    rw [e]
    simp only [List.length_append, sl_len]
    omega
  have he : rbE (pre ++ (wb s ++ rest)) (pre.length : Int) 8 = 0 := by
    unfold rbE
    rw [if_neg (by rw [h3]; simp), if_neg (by decide), if_neg (by rw [h1]; omega), if_neg (by rw [h1, h2, hl]; omega)]
  constructor
  · unfold rbS
    rw [if_pos he, h1, h2, e]
    rw [show pre ++ (encW s.size ++ (sl s ++ rest)) = (pre ++ encW s.size) ++ (sl s ++ rest) from by simp only [List.append_assoc], ← List.length_append, List.drop_left, ← sl_len s, List.take_left]
  · unfold rbP
    rw [if_pos he, h1, h2]
    unfold wb
    rw [List.length_append, sl_len]
    omega
end Go.Proofs.Ytcophbkgighepaa
set_option linter.unusedVariables false
namespace Go.Proofs.Ytcophbkgighepaa
open Go.RowKit

def z1 : Col := (⟨#[]⟩, 0, 0)
def zx : Idx := (0, false)
theorem mcol0 : (madeCells (Value.agg #[.string ⟨#[]⟩, .int .i64 0, .int .i64 0]).cells (0 * 3)).toList = (List.replicate 0 z1).flatMap fC := by kernel_rfl
theorem mcol1 : (madeCells (Value.agg #[.string ⟨#[]⟩, .int .i64 0, .int .i64 0]).cells (1 * 3)).toList = (List.replicate 1 z1).flatMap fC := by kernel_rfl
theorem mcol2 : (madeCells (Value.agg #[.string ⟨#[]⟩, .int .i64 0, .int .i64 0]).cells (2 * 3)).toList = (List.replicate 2 z1).flatMap fC := by kernel_rfl
theorem mcol3 : (madeCells (Value.agg #[.string ⟨#[]⟩, .int .i64 0, .int .i64 0]).cells (3 * 3)).toList = (List.replicate 3 z1).flatMap fC := by kernel_rfl
theorem mix0 : (madeCells (Value.agg #[.int .i64 0, .bool false]).cells (0 * 2)).toList = (List.replicate 0 zx).flatMap fX := by kernel_rfl
theorem mix1 : (madeCells (Value.agg #[.int .i64 0, .bool false]).cells (1 * 2)).toList = (List.replicate 1 zx).flatMap fX := by kernel_rfl
theorem mix2 : (madeCells (Value.agg #[.int .i64 0, .bool false]).cells (2 * 2)).toList = (List.replicate 2 zx).flatMap fX := by kernel_rfl
theorem mix3 : (madeCells (Value.agg #[.int .i64 0, .bool false]).cells (3 * 2)).toList = (List.replicate 3 zx).flatMap fX := by kernel_rfl
theorem made_col {n : Nat} (h : n ≤ 3) : (madeCells (Value.agg #[.string ⟨#[]⟩, .int .i64 0, .int .i64 0]).cells (n * 3)).toList = (List.replicate n z1).flatMap fC := by
  have : n = 0 ∨ n = 1 ∨ n = 2 ∨ n = 3 := by omega
  rcases this with rfl | rfl | rfl | rfl
  · exact mcol0
  · exact mcol1
  · exact mcol2
  · exact mcol3
theorem made_ix {n : Nat} (h : n ≤ 3) : (madeCells (Value.agg #[.int .i64 0, .bool false]).cells (n * 2)).toList = (List.replicate n zx).flatMap fX := by
  have : n = 0 ∨ n = 1 ∨ n = 2 ∨ n = 3 := by omega
  rcases this with rfl | rfl | rfl | rfl
  · exact mix0
  · exact mix1
  · exact mix2
  · exact mix3
theorem own_rd {rb B te k n g c : Nat} {w w' : World} {xs : List Value} (h : w.ownsRow B te k (.slice (some ⟨g, 0, none⟩) n c) n xs) (f : RdF rb w w') (hg : g ≠ rb) : w'.ownsRow B te k (.slice (some ⟨g, 0, none⟩) n c) n xs := by
  refine ⟨h.1, ?_⟩
  rcases h.2 with ⟨e, _⟩ | ⟨g', cap', cur, e, h5, h6, h7⟩
  · cases e
  · simp only [Value.slice.injEq, Option.some.injEq, Addr.mk.injEq] at e
    obtain ⟨⟨rfl, _, _⟩, _, rfl⟩ := e
    exact Or.inr ⟨g, c, cur, rfl, h5, (f.oth g (blk_lt h6) hg).trans h6, h7⟩
theorem own_cells {α : Type} {f : α → List Value} {k : Nat} (hk : ∀ x, (f x).length = k) {B te n g c i : Nat} {w : World} {l : List α} {x : α} (h : w.ownsRow B te k (.slice (some ⟨g, 0, none⟩) n c) n (l.flatMap f)) (hi : l[i]? = some x) : ∃ cur, w.heap[g]? = some (.cells cur te (0, 0)) ∧ ∀ t, t < k → w.cell? ⟨g, i * k + t, none⟩ = (f x)[t]? := by
  rcases h.2 with ⟨e, _⟩ | ⟨g', cap', cur, e, h5, h6, h7, h8, h9, h10⟩
  · cases e
  · simp only [Value.slice.injEq, Option.some.injEq, Addr.mk.injEq] at e
    obtain ⟨⟨rfl, _, _⟩, _, rfl⟩ := e
    refine ⟨cur, h6, fun t ht => ?_⟩
    have hg := fl_get hk hi t ht
    obtain ⟨u, hu⟩ : ∃ u, (f x)[t]? = some u := ⟨_, List.getElem?_eq_getElem (by rw [hk]; exact ht)⟩
    rw [hu] at hg ⊢
    rw [cell_blk h6, ← Array.getElem?_toList]
    rw [← h10, List.getElem?_take] at hg
    split at hg
    · exact hg
    · cases hg
/-- What is read, and what is still to be read. -/
def rowJ {α : Type} (z : α) (l : List α) (j : Nat) : List α := l.take j ++ List.replicate (l.length - j) z
theorem rowJ_at {α : Type} {z : α} {l : List α} {j : Nat} (h : j < l.length) : (rowJ z l j)[j]? = some z := by
  unfold rowJ
  rw [List.getElem?_append_right (by rw [List.length_take]; omega), List.length_take, Nat.min_eq_left (by omega), Nat.sub_self, List.getElem?_replicate, if_pos (by omega)]
theorem rowJ_next {α : Type} {z : α} {l : List α} {j : Nat} {x : α} (h : l[j]? = some x) : (rowJ z l j).set j x = rowJ z l (j + 1) := by
  have hl : j < l.length := (List.getElem?_eq_some_iff.1 h).1
  unfold rowJ
  rw [List.set_append_right _ _ (by rw [List.length_take]; omega), List.length_take, Nat.min_eq_left (by omega), Nat.sub_self, show l.length - j = (l.length - (j + 1)) + 1 by omega, List.replicate_succ, List.set_cons_zero, List.take_add_one, h]
  simp
theorem rowJ_len {α : Type} (z : α) (l : List α) {j : Nat} (h : j ≤ l.length) : (rowJ z l j).length = l.length := by
  unfold rowJ
  rw [List.length_append, List.length_take, List.length_replicate]
  omega
theorem rowJ_zero {α : Type} (z : α) (l : List α) : rowJ z l 0 = List.replicate l.length z := by unfold rowJ; simp
theorem rowJ_all {α : Type} (z : α) (l : List α) : rowJ z l l.length = l := by unfold rowJ; simp
end Go.Proofs.Ytcophbkgighepaa
set_option linter.unusedVariables false
namespace Go.Proofs.Ytcophbkgighepaa
open Go.RowKit

theorem set_oth3 {w : World} {g i j k b : Nat} {u v x : Value} (h : b ≠ g) : (((w.setCell ⟨g, i, none⟩ u).setCell ⟨g, j, none⟩ v).setCell ⟨g, k, none⟩ x).heap[b]? = w.heap[b]? := by
  rw [heap_setCell_other _ _ _ _ (show b ≠ g from h), heap_setCell_other _ _ _ _ (show b ≠ g from h), heap_setCell_other _ _ _ _ (show b ≠ g from h)]
theorem set_row3 {B te n g c j : Nat} {w : World} {l : List Col} {x x' : Col} (h : w.ownsRow B te 3 (.slice (some ⟨g, 0, none⟩) n c) n (l.flatMap fC)) (hx : l[j]? = some x) (hj : j < n) : (((w.setCell ⟨g, j * 3, none⟩ (.string x'.1)).setCell ⟨g, j * 3 + 1, none⟩ (.int .i64 x'.2.1)).setCell ⟨g, j * 3 + 2, none⟩ (.int .i64 x'.2.2)).ownsRow B te 3 (.slice (some ⟨g, 0, none⟩) n c) n ((l.set j x').flatMap fC) := by
  have h1 := own_set (u := .string x'.1) (i := j * 3) h (by omega)
  rw [show (l.flatMap fC).set (j * 3) (.string x'.1) = (l.set j (x'.1, x.2.1, x.2.2)).flatMap fC from fl_set (j := 0) fC_len (by omega) hx rfl] at h1
  have hl := (List.getElem?_eq_some_iff.1 hx).1
  have h2 := own_set (u := .int .i64 x'.2.1) (i := j * 3 + 1) h1 (by omega)
  rw [show ((l.set j (x'.1, x.2.1, x.2.2)).flatMap fC).set (j * 3 + 1) (.int .i64 x'.2.1) = ((l.set j (x'.1, x.2.1, x.2.2)).set j (x'.1, x'.2.1, x.2.2)).flatMap fC from fl_set (j := 1) fC_len (by omega) (List.getElem?_set_self hl) rfl, List.set_set] at h2
  have h3 := own_set (u := .int .i64 x'.2.2) (i := j * 3 + 2) h2 (by omega)
  rw [show ((l.set j (x'.1, x'.2.1, x.2.2)).flatMap fC).set (j * 3 + 2) (.int .i64 x'.2.2) = ((l.set j (x'.1, x'.2.1, x.2.2)).set j x').flatMap fC from fl_set (j := 2) fC_len (by omega) (List.getElem?_set_self hl) rfl, List.set_set] at h3
  exact h3
/-- Where the reader stands behind so many columns. -/
def preC (s : Sch) (j : Nat) : List Nat := wb s.nm ++ encW s.cs.length ++ (s.cs.take j).flatMap encC
def preX (s : Sch) (j : Nat) : List Nat := preC s s.cs.length ++ encW s.xs.length ++ (s.xs.take j).flatMap encX
theorem preC_eq {s : Sch} {j : Nat} {c : Col} (h : s.cs[j]? = some c) : ∃ rest, encS s = preC s j ++ (wb c.1 ++ (encW c.2.1.toNat ++ (encW c.2.2.toNat ++ rest))) := by
  refine ⟨(s.cs.drop (j + 1)).flatMap encC ++ (encW s.xs.length ++ s.xs.flatMap encX), ?_⟩
  have e : s.cs = s.cs.take j ++ c :: s.cs.drop (j + 1) := by
    rw [← (List.getElem?_eq_some_iff.1 h).2, ← List.drop_eq_getElem_cons (List.getElem?_eq_some_iff.1 h).1, List.take_append_drop]
  have e2 : s.cs.flatMap encC = (s.cs.take j).flatMap encC ++ (encC c ++ (s.cs.drop (j + 1)).flatMap encC) := by
    conv => lhs; rw [e]
    rw [List.flatMap_append, List.flatMap_cons]
  unfold encS preC
  rw [e2]
  unfold encC
  simp only [List.append_assoc]
theorem preC_next {s : Sch} {j : Nat} {c : Col} (h : s.cs[j]? = some c) : (preC s (j + 1)).length = (preC s j).length + (wb c.1).length + (encW c.2.1.toNat).length + (encW c.2.2.toNat).length := by
  unfold preC
  rw [flat_next h]
  unfold encC
  simp only [List.length_append]
  omega
theorem set_oth2 {w : World} {g i j b : Nat} {u v : Value} (h : b ≠ g) : ((w.setCell ⟨g, i, none⟩ u).setCell ⟨g, j, none⟩ v).heap[b]? = w.heap[b]? := by
  rw [heap_setCell_other _ _ _ _ (show b ≠ g from h), heap_setCell_other _ _ _ _ (show b ≠ g from h)]
theorem set_row2 {B te n g c j : Nat} {w : World} {l : List Idx} {x x' : Idx} (h : w.ownsRow B te 2 (.slice (some ⟨g, 0, none⟩) n c) n (l.flatMap fX)) (hx : l[j]? = some x) (hj : j < n) : ((w.setCell ⟨g, j * 2, none⟩ (.int .i64 x'.1)).setCell ⟨g, j * 2 + 1, none⟩ (.bool x'.2)).ownsRow B te 2 (.slice (some ⟨g, 0, none⟩) n c) n ((l.set j x').flatMap fX) := by
  have h1 := own_set (u := .int .i64 x'.1) (i := j * 2) h (by omega)
  rw [show (l.flatMap fX).set (j * 2) (.int .i64 x'.1) = (l.set j (x'.1, x.2)).flatMap fX from fl_set (j := 0) fX_len (by omega) hx rfl] at h1
  have hl := (List.getElem?_eq_some_iff.1 hx).1
  have h2 := own_set (u := .bool x'.2) (i := j * 2 + 1) h1 (by omega)
  rw [show ((l.set j (x'.1, x.2)).flatMap fX).set (j * 2 + 1) (.bool x'.2) = ((l.set j (x'.1, x.2)).set j x').flatMap fX from fl_set (j := 1) fX_len (by omega) (List.getElem?_set_self hl) rfl, List.set_set] at h2
  exact h2
theorem preX_eq {s : Sch} {j : Nat} {x : Idx} (h : s.xs[j]? = some x) : ∃ rest, encS s = preX s j ++ (encW x.1.toNat ++ (encW (if x.2 then 1 else 0) ++ rest)) := by
  refine ⟨(s.xs.drop (j + 1)).flatMap encX, ?_⟩
  have e : s.xs = s.xs.take j ++ x :: s.xs.drop (j + 1) := by
    rw [← (List.getElem?_eq_some_iff.1 h).2, ← List.drop_eq_getElem_cons (List.getElem?_eq_some_iff.1 h).1, List.take_append_drop]
  have e2 : s.xs.flatMap encX = (s.xs.take j).flatMap encX ++ (encX x ++ (s.xs.drop (j + 1)).flatMap encX) := by
    conv => lhs; rw [e]
    rw [List.flatMap_append, List.flatMap_cons]
  unfold encS preX preC
  rw [e2, List.take_length]
  unfold encX
  simp only [List.append_assoc]
theorem preX_next {s : Sch} {j : Nat} {x : Idx} (h : s.xs[j]? = some x) : (preX s (j + 1)).length = (preX s j).length + (encW x.1.toNat).length + (encW (if x.2 then 1 else 0)).length := by
  unfold preX
  rw [flat_next h]
  unfold encX
  simp only [List.length_append]
  omega
theorem RdF.put {rb b : Nat} {w w' : World} (h : RdF rb w w') (hb : w.heap.size ≤ b) (hr : rb ≤ b) (i : Nat) (u : Value) : RdF rb w (w'.setCell ⟨b, i, none⟩ u) := ⟨h.bel.setCell (p := ⟨b, i, none⟩) hr u, fun j hj hn => (heap_setCell_other _ _ _ _ (show j ≠ b by omega)).trans (h.oth j hj hn)⟩
theorem bs_put {b i n c : Nat} {a : Option Addr} {xs : List Nat} {u : Value} {w : World} (h : BS w a n c xs) (ha : ∀ b' o, a = some ⟨b', o, none⟩ → b' ≠ b) : BS (w.setCell ⟨b, i, none⟩ u) a n c xs := bs_rd (rb := b) h ⟨(Below.refl _ _).setCell (p := ⟨b, i, none⟩) (Nat.le_refl _) u, fun j _ hn => heap_setCell_other _ _ _ _ (show j ≠ b from hn)⟩ ha
/-- What the first loop of schema keeps. -/
structure IC (rb N S0 g cl n c : Nat) (a : Option Addr) (s : Sch) (w : World) (j : Nat) (wx : World) : Prop where
  rd : RDR rb a n c ((preC s j).length : Int) wx
  sb : wx.heap[S0]? = some (.cells #[.string s.nm, .slice (some ⟨g, 0, none⟩) cl cl, .slice none 0 0] 25 (0, 0))
  zb : wx.heap[N]? = some (.cells #[.string ⟨#[]⟩, .slice none 0 0, .slice none 0 0] 25 (0, 0))
  ow : wx.ownsRow g 59 3 (.slice (some ⟨g, 0, none⟩) cl cl) cl ((rowJ z1 s.cs j).flatMap fC)
  fr : RdF rb w wx
  bs : BS wx a n c (encS s)
theorem IC.drew {rb N S0 g cl n c : Nat} {a : Option Addr} {s : Sch} {w : World} {j : Nat} {wx : World} (h : IC rb N S0 g cl n c a s w j wx) : IC rb N S0 g cl n c a s w j wx.drew := ⟨h.rd, h.sb, h.zb, ownsRow_later h.ow (Below.refl _ _).drew, ⟨⟨h.fr.bel.os, h.fr.bel.tape, h.fr.bel.output, h.fr.bel.size, h.fr.bel.block⟩, h.fr.oth⟩, h.bs.later (Below.refl _ _).drew (Nat.le_refl _)⟩
/-- What the second loop of schema keeps. -/
structure IX (rb N S0 g g2 cl xl n c : Nat) (a : Option Addr) (s : Sch) (w : World) (j : Nat) (wx : World) : Prop where
  rd : RDR rb a n c ((preX s j).length : Int) wx
  sb : wx.heap[S0]? = some (.cells #[.string s.nm, .slice (some ⟨g, 0, none⟩) cl cl, .slice (some ⟨g2, 0, none⟩) xl xl] 25 (0, 0))
  zb : wx.heap[N]? = some (.cells #[.string ⟨#[]⟩, .slice none 0 0, .slice none 0 0] 25 (0, 0))
  oc : wx.ownsRow g 59 3 (.slice (some ⟨g, 0, none⟩) cl cl) cl (s.cs.flatMap fC)
  ow : wx.ownsRow g2 61 2 (.slice (some ⟨g2, 0, none⟩) xl xl) xl ((rowJ zx s.xs j).flatMap fX)
  fr : RdF rb w wx
  bs : BS wx a n c (encS s)
theorem IX.drew {rb N S0 g g2 cl xl n c : Nat} {a : Option Addr} {s : Sch} {w : World} {j : Nat} {wx : World} (h : IX rb N S0 g g2 cl xl n c a s w j wx) : IX rb N S0 g g2 cl xl n c a s w j wx.drew := ⟨h.rd, h.sb, h.zb, ownsRow_later h.oc (Below.refl _ _).drew, ownsRow_later h.ow (Below.refl _ _).drew, ⟨⟨h.fr.bel.os, h.fr.bel.tape, h.fr.bel.output, h.fr.bel.size, h.fr.bel.block⟩, h.fr.oth⟩, h.bs.later (Below.refl _ _).drew (Nat.le_refl _)⟩
set_option maxRecDepth 100000 in
set_option maxHeartbeats 8000000 in
theorem rschema_ok {rb n c : Nat} {a : Option Addr} {s : Sch} {w : World} (h : RDR rb a n c 0 w) (hb : BS w a n c (encS s)) (hok : s.ok = true) (har : ∀ b o, a = some ⟨b, o, none⟩ → b ≠ rb) :
    Calls Try.prog 43 #[.pointer (some ⟨rb, 0, none⟩)] w fun e w' => ∃ ca cc xa xc, e = .returned (.agg #[.string s.nm, .slice ca s.cs.length cc, .slice xa s.xs.length xc]) ∧ SC w' ca s.cs.length cc xa s.xs.length xc s ∧ RdF rb w w' ∧ (∀ b o, ca = some ⟨b, o, none⟩ → w.heap.size ≤ b) ∧ ∀ b o, xa = some ⟨b, o, none⟩ → w.heap.size ≤ b := by
  have HPA := hide (Sch.parts hok)
  have HBY := hide hb
  have HAR := hide har
  have HAN : Hid (∀ b o, a = some ⟨b, o, none⟩ → b < w.heap.size) := by
    intro b o q
    have hpos : 0 < n := by
      rw [← hb.hlen]
      unfold encS wb
      have := enc_length s.nm.size (grp_spec s.nm.size (by have := HPA.out.1; omega)).1
      have := (grp_spec s.nm.size (by have := HPA.out.1; omega)).1
      simp only [List.length_append]
      omega
    have := cell_lt (hb.hcell _ q 0 hpos)
    simpa [Addr.add] using this
  obtain ⟨cl, hcl⟩ : ∃ k, s.cs.length = k := ⟨_, rfl⟩
  obtain ⟨xl, hxl⟩ : ∃ k, s.xs.length = k := ⟨_, rfl⟩
  have HCL := hide hcl
  have HXL := hide hxl
  have hcl3 : cl ≤ 3 := by rw [← hcl]; exact HPA.out.2.1
  have hxl3 : xl ≤ 3 := by rw [← hxl]; exact HPA.out.2.2.1
  have HRB : Hid (rb < w.heap.size) := blk_lt h
  have hbz := below_box w (.cells #[.string ⟨#[]⟩, .slice none 0 0, .slice none 0 0] 25)
  have HZ1 : Hid ((w.alloc (.cells #[.string ⟨#[]⟩, .slice none 0 0, .slice none 0 0] 25)).heap[w.heap.size]? = some (.cells #[.string ⟨#[]⟩, .slice none 0 0, .slice none 0 0] 25 (0, 0))) := boxed w _
  have HR1 : Hid (RDR rb a n c 0 (w.alloc (.cells #[.string ⟨#[]⟩, .slice none 0 0, .slice none 0 0] 25))) := (hbz.block rb (blk_lt h)).trans h
  have HB1 := hide (hb.later hbz (Nat.le_refl _))
  have HF1 : Hid (RdF rb w (w.alloc (.cells #[.string ⟨#[]⟩, .slice none 0 0, .slice none 0 0] 25))) := RdF.of hbz (by have := HRB.out; omega)
  have HNM0 : Hid (rbS (encS s) 0 8 = sl s.nm ∧ rbP (encS s) 0 8 = (wb s.nm).length) := by
    have := rd_name (pre := []) (rest := encW s.cs.length ++ (s.cs.flatMap encC ++ (encW s.xs.length ++ s.xs.flatMap encX))) (s := s.nm) HPA.out.1
    have e : encS s = [] ++ (wb s.nm ++ (encW s.cs.length ++ (s.cs.flatMap encC ++ (encW s.xs.length ++ s.xs.flatMap encX)))) := by unfold encS; simp only [List.append_assoc, List.nil_append]
    rw [← e] at this
    have h9 : rbS (encS s) 0 8 = sl s.nm ∧ rbP (encS s) 0 8 = (wb s.nm).length := by simpa using this
    exact h9
  have HCN0 : Hid (ruN (encS s) ((wb s.nm).length : Int) = cl ∧ ruP (encS s) ((wb s.nm).length : Int) = (preC s 0).length) := by
    have := rd_num (pre := wb s.nm) (rest := s.cs.flatMap encC ++ (encW s.xs.length ++ s.xs.flatMap encX)) (n := s.cs.length) (by omega)
    have e : encS s = wb s.nm ++ (encW s.cs.length ++ (s.cs.flatMap encC ++ (encW s.xs.length ++ s.xs.flatMap encX))) := by unfold encS; simp only [List.append_assoc]
    rw [← e] at this
    refine ⟨this.1.trans hcl, this.2.1.trans ?_⟩
    unfold preC
    simp
  rw [hcl, hxl]
  clear h hb hok har hbz hcl hxl
  go_enter Try.func43, Try.ntmps43
  go_upto_region 1 with fail
  generalize w.alloc (.cells #[.string ⟨#[]⟩, .slice none 0 0, .slice none 0 0] 25) = w1 at *
  generalize hN : w.heap.size = N at *
  have HC1 := hide (rname_any HR1.out HB1.out)
  rw [HNM0.out.1, str_sl, HNM0.out.2] at HC1
  go_wp2_with fail
  refine HC1.out.mono ?_
  rintro e w2 ⟨rfl, hr2, hf2⟩
  have HF2 := hide (HF1.out.trans hf2)
  have HR2 := hide hr2
  have HB2 := hide (bs_rd HB1.out hf2 HAR.out)
  have HZ2 := hide ((hf2.oth N (blk_lt HZ1.out) (by have := HRB.out; omega)).trans HZ1.out)
  clear hr2 hf2 HC1 HR1 HB1 HZ1
  have hb3 := below_box w2 (.cells #[.string s.nm, .slice none 0 0, .slice none 0 0] 25)
  have HS3 : Hid ((w2.alloc (.cells #[.string s.nm, .slice none 0 0, .slice none 0 0] 25)).heap[w2.heap.size]? = some (.cells #[.string s.nm, .slice none 0 0, .slice none 0 0] 25 (0, 0))) := boxed w2 _
  have HR3 : Hid (RDR rb a n c ((wb s.nm).length : Int) (w2.alloc (.cells #[.string s.nm, .slice none 0 0, .slice none 0 0] 25))) := (hb3.block rb (blk_lt HR2.out)).trans HR2.out
  have HZ3 := hide ((hb3.block N (blk_lt HZ2.out)).trans HZ2.out)
  have HB3 := hide (HB2.out.later hb3 (Nat.le_refl _))
  have HF3 := hide (HF2.out.trans (RdF.of hb3 (by have := blk_lt HR2.out; omega)))
  have HNS : Hid (N < w2.heap.size ∧ rb < w2.heap.size) := ⟨blk_lt HZ2.out, blk_lt HR2.out⟩
  clear hb3 HR2 HB2 HZ2
  go_upto_region 2 with fail
  generalize w2.alloc (.cells #[.string s.nm, .slice none 0 0, .slice none 0 0] 25) = w3 at *
  generalize w2.heap.size = S0 at *
  have HC3 := hide (rcount_any HR3.out HB3.out)
  rw [HCN0.out.1, HCN0.out.2, Nat.min_eq_left hcl3] at HC3
  go_wp2_with fail
  refine HC3.out.mono ?_
  rintro e w4 ⟨rfl, hr4, hf4⟩
  have HF4 := hide (HF3.out.trans hf4)
  have HR4 := hide hr4
  have HB4 := hide (bs_rd HB3.out hf4 HAR.out)
  have HS4 := hide ((hf4.oth S0 (blk_lt HS3.out) (by have := HNS.out; omega)).trans HS3.out)
  have HZ4 := hide ((hf4.oth N (blk_lt HZ3.out) (by have := HRB.out; omega)).trans HZ3.out)
  clear hr4 hf4 HC3 HR3 HB3 HS3 HZ3
  obtain ⟨i0, hi, hz0, hz1', hz2⟩ := info_parts info_col
  go_upto_region 3 with (refine wpList_make_full w4 rfl _ _ 22 rfl w4.heap.size 59 i0 (.agg #[.string ⟨#[]⟩, .int .i64 0, .int .i64 0]) 3 Try.underlying22 hi hz0 hz1' .i64 .i64 (cl : Int) (cl : Int) cl rfl rfl rfl rfl (by rw [hz2]; omega) (by unfold maxLen; omega) (Nat.le_refl _) ?_; intro w5 ho5 hg5; rw [made_col hcl3] at ho5; have HO5 := hide ho5; have HG5 := hide ((Below.refl w4.heap.size w4).grown hg5 (Nat.le_refl _) (fun k hk => by cases hk)); clear ho5 hg5; have x1 : w5.cell? ⟨S0, 1, none⟩ = some (.slice none 0 0) := cell_blk ((HG5.out.block S0 (blk_lt HS4.out)).trans HS4.out); have xf1 : w5.frozen? ⟨S0, 1, none⟩ = false := frz_blk ((HG5.out.block S0 (blk_lt HS4.out)).trans HS4.out))
  clear x1 xf1
  have hgs : S0 < w4.heap.size := blk_lt HS4.out
  have hgr : rb < w4.heap.size := blk_lt HR4.out
  have hgn : N < w4.heap.size := blk_lt HZ4.out
  have HIC : Hid (IC rb N S0 w4.heap.size cl n c a s w 0 (w5.setCell ⟨S0, 1, none⟩ (.slice (some ⟨w4.heap.size, 0, none⟩) cl cl))) := by
    have hg5 := HG5.out
    have hns := HNS.out
    refine ⟨?_, heap_setCell_same _ _ _ _ _ _ ((hg5.block S0 hgs).trans HS4.out), ?_, ?_, ?_, ?_⟩
    · exact (heap_setCell_other _ _ _ _ (show rb ≠ S0 by omega)).trans ((hg5.block rb hgr).trans HR4.out)
    · exact (heap_setCell_other _ _ _ _ (show N ≠ S0 by omega)).trans ((hg5.block N hgn).trans HZ4.out)
    · have h9 := HO5.out
      rw [rowJ_zero, HCL.out]
      exact ownsRow_setCell_other h9 (by show some w4.heap.size ≠ some S0; simp; omega) _
    · exact (HF4.out.trans (RdF.of hg5 (by omega))).put (by rw [hN]; omega) (by omega) 1 _
    · refine bs_put (HB4.out.later hg5 (Nat.le_refl _)) fun b' o q => ?_
      have h8 := HAN.out b' o q
      first | omega | (rw [hN] at h8; omega)
  clear HO5 HG5 HR4 HS4 HZ4 HB4 HF4 hi hz0 hz1' hz2
  generalize (w5.setCell ⟨S0, 1, none⟩ (.slice (some ⟨w4.heap.size, 0, none⟩) cl cl)) = w6 at *
  generalize w4.heap.size = g at *
  have HSG : Hid (S0 ≠ g) := by show S0 ≠ g; omega
  have HSR : Hid (S0 ≠ rb) := by show S0 ≠ rb; have := HNS.out; omega
  have HGR : Hid (rb < g ∧ N < g ∧ N ≤ S0) := ⟨hgr, hgn, by have := HNS.out; omega⟩
  have x1 : w6.cell? ⟨S0, 1, none⟩ = some (.slice (some ⟨g, 0, none⟩) cl cl) := cell_blk HIC.out.sb
  go_wp2_with fail
  clear x1
  go_loopg [16] cl (fun gh s16 wx => ∃ j : Nat, j + gh = cl ∧ s16 = .int .i64 (j : Int) ∧ IC rb N S0 g cl n c a s w j wx)
  case atStart => exact ⟨0, by omega, rfl, HIC.out⟩
  case round =>
    obtain ⟨j, hj, rfl, hic⟩ := hrel
    have HI := hide hic
    clear hic
    by_cases hjn : j < cl
    · have xj : (j : Int) < (cl : Int) := by omega
      have xj4 : (j : Int) < 4 := by omega
      obtain ⟨cj, hcj⟩ : ∃ c, s.cs[j]? = some c := ⟨_, List.getElem?_eq_getElem (by rw [HCL.out]; exact hjn)⟩
      have hco := HPA.out.2.2.2.1 j cj hcj
      obtain ⟨rest, hxs⟩ := preC_eq hcj
      have hnx := preC_next hcj
      have HNX := hide (rowJ_next (z := z1) hcj)
      have HATZ : Hid ((rowJ z1 s.cs j)[j]? = some z1) := rowJ_at (by rw [HCL.out]; exact hjn)
      obtain ⟨cn, ck, cm⟩ := cj
      obtain ⟨kk, hkk⟩ : ∃ kk : Nat, ck = (kk : Int) := ⟨ck.toNat, by have := hco.k0; dsimp only at this; omega⟩
      obtain ⟨mm, hmm⟩ : ∃ mm : Nat, cm = (mm : Int) := ⟨cm.toNat, by have := hco.m0; dsimp only at this; omega⟩
      subst hkk hmm
      have hk8 : kk ≤ 8 := by have := hco.k1; dsimp only at this; omega
      have hm8 : mm ≤ 8 := by have := hco.m1; dsimp only at this; omega
      have hn8 : cn.size ≤ 8 := hco.nm
      simp only [Int.toNat_natCast] at hxs hnx
      have HNM : Hid (rbS (encS s) ((preC s j).length : Int) 8 = sl cn ∧ rbP (encS s) ((preC s j).length : Int) 8 = (preC s j ++ wb cn).length) := by
        have := rd_name (pre := preC s j) (rest := encW kk ++ (encW mm ++ rest)) hn8
        rw [← hxs] at this
        exact ⟨this.1, by rw [this.2, List.length_append]⟩
      have HKN : Hid (ruN (encS s) ((preC s j ++ wb cn).length : Int) = kk ∧ ruP (encS s) ((preC s j ++ wb cn).length : Int) = (preC s j ++ wb cn ++ encW kk).length) := by
        have := rd_num (pre := preC s j ++ wb cn) (rest := encW mm ++ rest) (n := kk) (by omega)
        rw [show preC s j ++ wb cn ++ (encW kk ++ (encW mm ++ rest)) = encS s from by rw [hxs]; simp only [List.append_assoc]] at this
        exact ⟨this.1, by rw [this.2.1, List.length_append (bs := encW kk)]⟩
      have HMN : Hid (ruN (encS s) ((preC s j ++ wb cn ++ encW kk).length : Int) = mm ∧ ruP (encS s) ((preC s j ++ wb cn ++ encW kk).length : Int) = (preC s (j + 1)).length) := by
        have := rd_num (pre := preC s j ++ wb cn ++ encW kk) (rest := rest) (n := mm) (by omega)
        rw [show preC s j ++ wb cn ++ encW kk ++ (encW mm ++ rest) = encS s from by rw [hxs]; simp only [List.append_assoc]] at this
        exact ⟨this.1, by rw [this.2.1, hnx]; simp only [List.length_append]; try omega⟩
      have HRD := hide HI.out.drew.rd
      have HBD := hide HI.out.drew.bs
      have HSD := hide HI.out.drew.sb
      have HOD := hide HI.out.drew.ow
      have HX : Hid ((fun wx => wx.cell? ⟨S0, 1, none⟩ = some (.slice (some ⟨g, 0, none⟩) cl cl)) wr.drew) := cell_blk HSD.out
      clear hco hxs hnx hcj
      go_upto_region 6 with fail
      refine wp_region_noPanic ?_
      refine wp_region_held_drew (S := fun wx => wx.cell? ⟨S0, 1, none⟩ = some (.slice (some ⟨g, 0, none⟩) cl cl)) (by kernel_rfl) HX.out (fun hHeld => ?_)
      refine wpAnyH_takeAt (i := 0) (d := 19) (v := ?va0) (by kernel_rfl) (by kernel_rfl) (by kernel_rfl) (by kernel_rfl) (fun _ _ _ h => h) ?hya0 (by assumption) ?resta0
      case hya0 =>
        intro oi ho
        simp only [List.getElem?_toArray, List.getElem?_cons_zero, Option.some.injEq] at ho
        subst ho
        refine Or.inl ⟨by rfl, ?_⟩
        intro wx hSw
        try dsimp only at hSw
        go_simp
        try rfl
      try simp only [Act.put, List.setIfInBounds_toArray, List.set_cons_zero, List.set_cons_succ]
      refine wpAnyH_takeAt (i := 1) (d := 20) (v := ?va1) (by kernel_rfl) (by kernel_rfl) (by kernel_rfl) (by kernel_rfl) (fun _ _ _ h => h) ?hya1 (by assumption) ?resta1
      case hya1 =>
        intro oi ho
        simp only [List.getElem?_toArray, List.getElem?_cons_succ, List.getElem?_cons_zero, Option.some.injEq] at ho
        subst ho
        refine Or.inl ⟨by rfl, ?_⟩
        intro wx hSw
        try dsimp only at hSw
        go_simp
        try rfl
      try simp only [Act.put, List.setIfInBounds_toArray, List.set_cons_zero, List.set_cons_succ]
      refine wpAnyH_takeAt (i := 2) (d := 21) (v := ?va2) (by kernel_rfl) (by kernel_rfl) (by kernel_rfl) (by kernel_rfl) (fun _ _ _ h => h) ?hya2 (by assumption) ?resta2
      case hya2 =>
        intro oi ho
        simp only [List.getElem?_toArray, List.getElem?_cons_succ, List.getElem?_cons_zero, Option.some.injEq] at ho
        subst ho
        refine Or.inl ⟨by rfl, ?_⟩
        intro wx hSw
        try dsimp only at hSw
        go_simp
        try rfl
      try simp only [Act.put, List.setIfInBounds_toArray, List.set_cons_zero, List.set_cons_succ]
      refine wpAnyH_takeAt (i := 3) (d := 22) (v := ?va3) (by kernel_rfl) (by kernel_rfl) (by kernel_rfl) (by kernel_rfl) (fun _ _ _ h => h) ?hya3 (by assumption) ?resta3
      case hya3 =>
        intro oi ho
        simp only [List.getElem?_toArray, List.getElem?_cons_succ, List.getElem?_cons_zero, Option.some.injEq] at ho
        subst ho
        refine Or.inl ⟨by rfl, ?_⟩
        intro wx hSw
        try dsimp only at hSw
        go_simp
        try rfl
      try simp only [Act.put, List.setIfInBounds_toArray, List.set_cons_zero, List.set_cons_succ]
      refine wpAnyH_takeAt (i := 5) (d := 24) (v := ?va5) (by kernel_rfl) (by kernel_rfl) (by kernel_rfl) (by kernel_rfl) (fun _ _ _ h => h) ?hya5 (by assumption) ?resta5
      case hya5 =>
        intro oi ho
        simp only [List.getElem?_toArray, List.getElem?_cons_succ, List.getElem?_cons_zero, Option.some.injEq] at ho
        subst ho
        refine Or.inl ⟨by rfl, ?_⟩
        intro wx hSw
        try dsimp only at hSw
        go_simp
        try rfl
      try simp only [Act.put, List.setIfInBounds_toArray, List.set_cons_zero, List.set_cons_succ]
      refine wpAnyH_takeAt (i := 7) (d := 26) (v := ?va7) (by kernel_rfl) (by kernel_rfl) (by kernel_rfl) (by kernel_rfl) (fun _ _ _ h => h) ?hya7 (by assumption) ?resta7
      case hya7 =>
        intro oi ho
        simp only [List.getElem?_toArray, List.getElem?_cons_succ, List.getElem?_cons_zero, Option.some.injEq] at ho
        subst ho
        refine Or.inl ⟨by rfl, ?_⟩
        intro wx hSw
        try dsimp only at hSw
        go_simp
        try rfl
      try simp only [Act.put, List.setIfInBounds_toArray, List.set_cons_zero, List.set_cons_succ]
      refine wpAnyH_comesAt (i := 4) (by kernel_rfl) (by kernel_rfl) ?_
      intro o ho K hK
      simp only [List.getElem?_toArray, List.getElem?_cons_succ, List.getElem?_cons_zero, Option.some.injEq] at ho
      subst ho
      go_simp
      refine (rname_any HRD.out HBD.out).mono ?_
      rintro e w1 ⟨rfl, hr1, hf1⟩
      rw [HNM.out.1, str_sl]
      rw [HNM.out.2] at hr1
      have HR1 := hide hr1
      have HF1 := hide hf1
      have HS1 := hide ((hf1.oth S0 (blk_lt HSD.out) HSR.out).trans HSD.out)
      have HB1 := hide (bs_rd HBD.out hf1 HAR.out)
      have HO1 := hide (own_rd HOD.out hf1 (by have := HGR.out; omega))
      clear hr1 hf1 hHeld
      refine hK.out _ _ (cell_blk HS1.out) (fun hHeld => ?_)
      clear hK K
      try simp only [Act.put, List.setIfInBounds_toArray, List.set_cons_zero, List.set_cons_succ]
      refine wpAnyH_comesAt (i := 6) (by kernel_rfl) (by kernel_rfl) ?_
      intro o ho K hK
      simp only [List.getElem?_toArray, List.getElem?_cons_succ, List.getElem?_cons_zero, Option.some.injEq] at ho
      subst ho
      go_simp
      refine (rnum_any HR1.out HB1.out).mono ?_
      rintro e w2 ⟨rfl, hr2, hf2⟩
      rw [HKN.out.1]
      rw [HKN.out.2] at hr2
      have HR2 := hide hr2
      have HF2 := hide (HF1.out.trans hf2)
      have HS2 := hide ((hf2.oth S0 (blk_lt HS1.out) HSR.out).trans HS1.out)
      have HB2 := hide (bs_rd HB1.out hf2 HAR.out)
      have HO2 := hide (own_rd HO1.out hf2 (by have := HGR.out; omega))
      clear hr2 hf2 hHeld
      refine hK.out _ _ (cell_blk HS2.out) (fun hHeld => ?_)
      clear hK K
      try simp only [Act.put, List.setIfInBounds_toArray, List.set_cons_zero, List.set_cons_succ]
      refine wpAnyH_comesAt (i := 8) (by kernel_rfl) (by kernel_rfl) ?_
      intro o ho K hK
      simp only [List.getElem?_toArray, List.getElem?_cons_succ, List.getElem?_cons_zero, Option.some.injEq] at ho
      subst ho
      go_simp
      refine (rnum_any HR2.out HB2.out).mono ?_
      rintro e w3 ⟨rfl, hr3, hf3⟩
      rw [HMN.out.1]
      rw [HMN.out.2] at hr3
      have HR3 := hide hr3
      have HF3 := hide (HF2.out.trans hf3)
      have HS3 := hide ((hf3.oth S0 (blk_lt HS2.out) HSR.out).trans HS2.out)
      have HO3 := hide (own_rd HO2.out hf3 (by have := HGR.out; omega))
      have HB3 := hide (bs_rd HB2.out hf3 HAR.out)
      clear hr3 hf3 hHeld
      refine hK.out _ _ (cell_blk HS3.out) (fun hHeld => ?_)
      clear hK K
      try simp only [Act.put, List.setIfInBounds_toArray, List.set_cons_zero, List.set_cons_succ]
      refine wpAnyH_takeAt (i := 9) (d := 28) (v := ?vb9) (by kernel_rfl) (by kernel_rfl) (by kernel_rfl) (by kernel_rfl) (fun _ _ _ h => h) ?hyb9 (by assumption) ?restb9
      case hyb9 =>
        intro oi ho
        simp only [List.getElem?_toArray, List.getElem?_cons_succ, List.getElem?_cons_zero, Option.some.injEq] at ho
        subst ho
        refine Or.inl ⟨by rfl, ?_⟩
        intro wx hSw
        try dsimp only at hSw
        go_simp
        try rfl
      try simp only [Act.put, List.setIfInBounds_toArray, List.set_cons_zero, List.set_cons_succ]
      refine wpAnyH_takeAt (i := 10) (d := 29) (v := ?vb10) (by kernel_rfl) (by kernel_rfl) (by kernel_rfl) (by kernel_rfl) (fun _ _ _ h => h) ?hyb10 (by assumption) ?restb10
      case hyb10 =>
        intro oi ho
        simp only [List.getElem?_toArray, List.getElem?_cons_succ, List.getElem?_cons_zero, Option.some.injEq] at ho
        subst ho
        refine Or.inl ⟨by rfl, ?_⟩
        intro wx hSw
        try dsimp only at hSw
        go_simp
        try rfl
      try simp only [Act.put, List.setIfInBounds_toArray, List.set_cons_zero, List.set_cons_succ]
      obtain ⟨cur, hcur, hold⟩ := own_cells fC_len HO3.out HATZ.out
      have q0 : w3.cell? ⟨g, j * 3, none⟩ = some (.string ⟨#[]⟩) := hold 0 (by omega)
      have q1 : w3.cell? ⟨g, j * 3 + 1, none⟩ = some (.int .i64 0) := hold 1 (by omega)
      have q2 : w3.cell? ⟨g, j * 3 + 2, none⟩ = some (.int .i64 0) := hold 2 (by omega)
      clear hold
      have f0 : w3.frozen? ⟨g, j * 3, none⟩ = false := frz_blk hcur
      have f1 : w3.frozen? ⟨g, j * 3 + 1, none⟩ = false := frz_blk hcur
      have f2 : w3.frozen? ⟨g, j * 3 + 2, none⟩ = false := frz_blk hcur
      refine wpAnyH_comesAt (i := 11) (by kernel_rfl) (by kernel_rfl) ?_
      intro o ho K hK
      simp only [List.getElem?_toArray, List.getElem?_cons_succ, List.getElem?_cons_zero, Option.some.injEq] at ho
      subst ho
      go_simp
      clear hHeld hcur
      refine hK.out _ _ ?_ (fun hHeld => ?_)
      · exact cell_blk ((set_oth3 (show S0 ≠ g from HSG.out)).trans HS3.out)
      clear q0 q1 q2 f0 f1 f2
      clear hK K
      try simp only [Act.put, List.setIfInBounds_toArray, List.set_cons_zero, List.set_cons_succ]
      refine wpAnyH_done (by kernel_rfl) ?_ _
      refine NoPanic.normal ?_
      have HIN : Hid (IC rb N S0 g cl n c a s w (j + 1) (((w3.setCell ⟨g, j * 3, none⟩ (.string cn)).setCell ⟨g, j * 3 + 1, none⟩ (.int .i64 (kk : Int))).setCell ⟨g, j * 3 + 2, none⟩ (.int .i64 (mm : Int)))) := by
        have hgr := HGR.out
        have hfr : RdF rb w w3 := HI.out.drew.fr.trans HF3.out
        have hab : ∀ b' o, a = some ⟨b', o, none⟩ → b' ≠ g := fun b' o q => by
          have h8 := HAN.out b' o q
          first | omega | (rw [hN] at h8; omega)
        refine ⟨(set_oth3 (show rb ≠ g by omega)).trans HR3.out, (set_oth3 HSG.out).trans HS3.out, (set_oth3 (show N ≠ g by omega)).trans ?_, ?_, ?_, bs_put (bs_put (bs_put HB3.out hab) hab) hab⟩
        · have h7 := HF3.out.oth N (blk_lt HI.out.drew.zb) (by have := HRB.out; omega)
          exact h7.trans HI.out.drew.zb
        · have h9 := set_row3 (x' := (cn, (kk : Int), (mm : Int))) HO3.out HATZ.out hjn
          rw [HNX.out] at h9
          exact h9
        · exact ((hfr.put (by rw [hN]; omega) (by omega) _ _).put (by rw [hN]; omega) (by omega) _ _).put (by rw [hN]; omega) (by omega) _ _
      clear HR3 HS3 HF3 HO3 HB3 HRD HBD HSD HOD HX hHeld
      go_wp2
      go_roundg (gk - 1)
      case measure => omega
      case rel => exact ⟨j + 1, by omega, rfl, HIN.out⟩
    · have xj : ¬ (j : Int) < (cl : Int) := by omega
      have ej : j = cl := by omega
      subst ej
      have HCX : Hid (ruN (encS s) ((preC s j).length : Int) = xl ∧ ruP (encS s) ((preC s j).length : Int) = (preX s 0).length) := by
        have := rd_num (pre := preC s j) (rest := s.xs.flatMap encX) (n := s.xs.length) (by rw [HXL.out]; omega)
        have e : encS s = preC s j ++ (encW s.xs.length ++ s.xs.flatMap encX) := by
          unfold encS preC
          rw [← HCL.out, List.take_length]
          simp only [List.append_assoc]
        rw [← e] at this
        refine ⟨this.1.trans HXL.out, this.2.1.trans ?_⟩
        unfold preX
        rw [← HCL.out]
        simp
      have HOC : Hid (wr.ownsRow g 59 3 (.slice (some ⟨g, 0, none⟩) j j) j (s.cs.flatMap fC)) := by
        have h9 := HI.out.ow
        rw [show rowJ z1 s.cs j = s.cs from by rw [← HCL.out]; exact rowJ_all _ _] at h9
        exact h9
      have HC8 := hide (rcount_any HI.out.rd HI.out.bs)
      rw [HCX.out.1, HCX.out.2, Nat.min_eq_left hxl3] at HC8
      go_wp2_with fail
      refine HC8.out.mono ?_
      rintro e w8 ⟨rfl, hr8, hf8⟩
      have HF8 := hide (HI.out.fr.trans hf8)
      have HR8 := hide hr8
      have HB8 := hide (bs_rd HI.out.bs hf8 HAR.out)
      have HS8 := hide ((hf8.oth S0 (blk_lt HI.out.sb) HSR.out).trans HI.out.sb)
      have HZ8 := hide ((hf8.oth N (blk_lt HI.out.zb) (by have := HRB.out; omega)).trans HI.out.zb)
      have HO8 := hide (own_rd HOC.out hf8 (by have := HGR.out; omega))
      clear hr8 hf8 HC8 HOC
      obtain ⟨i0, hi, hz0, hz1', hz2⟩ := info_parts info_ix
      go_upto_region 9 with (refine wpList_make_full w8 rfl _ _ 23 rfl w8.heap.size 61 i0 (.agg #[.int .i64 0, .bool false]) 2 Try.underlying23 hi hz0 hz1' .i64 .i64 (xl : Int) (xl : Int) xl rfl rfl rfl rfl (by rw [hz2]; omega) (by unfold maxLen; omega) (Nat.le_refl _) ?_; intro w9 ho9 hg9; rw [made_ix hxl3] at ho9; have HO9 := hide ho9; have HG9 := hide ((Below.refl w8.heap.size w8).grown hg9 (Nat.le_refl _) (fun k hk => by cases hk)); clear ho9 hg9; have x1 : w9.cell? ⟨S0, 2, none⟩ = some (.slice none 0 0) := cell_blk ((HG9.out.block S0 (blk_lt HS8.out)).trans HS8.out); have xf1 : w9.frozen? ⟨S0, 2, none⟩ = false := frz_blk ((HG9.out.block S0 (blk_lt HS8.out)).trans HS8.out))
      clear x1 xf1
      have hgs2 : S0 < w8.heap.size := blk_lt HS8.out
      have hgr2 : rb < w8.heap.size := blk_lt HR8.out
      have hgn2 : N < w8.heap.size := blk_lt HZ8.out
      obtain ⟨hgg, hggx⟩ : g < w8.heap.size ∧ True := by
        rcases HO8.out.2 with ⟨e, _⟩ | ⟨g', cap', cur, e, _, h6, _⟩
        · cases e
        · simp only [Value.slice.injEq, Option.some.injEq, Addr.mk.injEq] at e
          rw [e.1.1]
          exact ⟨blk_lt h6, trivial⟩
      have HIX : Hid (IX rb N S0 g w8.heap.size j xl n c a s w 0 (w9.setCell ⟨S0, 2, none⟩ (.slice (some ⟨w8.heap.size, 0, none⟩) xl xl))) := by
        have hg9 := HG9.out
        have hns := HNS.out
        have hsg := HSG.out
        refine ⟨?_, heap_setCell_same _ _ _ _ _ _ ((hg9.block S0 hgs2).trans HS8.out), ?_, ?_, ?_, ?_, ?_⟩
        · exact (heap_setCell_other _ _ _ _ (show rb ≠ S0 by omega)).trans ((hg9.block rb hgr2).trans HR8.out)
        · exact (heap_setCell_other _ _ _ _ (show N ≠ S0 by omega)).trans ((hg9.block N hgn2).trans HZ8.out)
        · exact ownsRow_setCell_other (ownsRow_later HO8.out hg9) (by show some g ≠ some S0; simp; omega) _
        · have h9 := HO9.out
          rw [rowJ_zero, HXL.out]
          exact ownsRow_setCell_other h9 (by show some w8.heap.size ≠ some S0; simp; omega) _
        · exact (HF8.out.trans (RdF.of hg9 (by omega))).put (by rw [hN]; omega) (by omega) 2 _
        · refine bs_put (HB8.out.later hg9 (Nat.le_refl _)) fun b' o q => ?_
          have h8 := HAN.out b' o q
          first | omega | (rw [hN] at h8; omega)
      clear HO9 HG9 HR8 HS8 HZ8 HB8 HF8 HO8 hi hz0 hz1' hz2 HI hggx
      generalize (w9.setCell ⟨S0, 2, none⟩ (.slice (some ⟨w8.heap.size, 0, none⟩) xl xl)) = w10 at *
      generalize w8.heap.size = g2 at *
      have HSG2 : Hid (S0 ≠ g2) := by show S0 ≠ g2; omega
      have HGR2 : Hid (rb < g2 ∧ N < g2 ∧ g < g2) := ⟨hgr2, hgn2, hgg⟩
      have x1 : w10.cell? ⟨S0, 2, none⟩ = some (.slice (some ⟨g2, 0, none⟩) xl xl) := cell_blk HIX.out.sb
      have HCJ := HCL
      generalize hjc : j = cl at *
      go_wp2_with fail
      clear x1
      go_loopg [38] xl (fun gh s38 wx => ∃ j : Nat, j + gh = xl ∧ s38 = .int .i64 (j : Int) ∧ IX rb N S0 g g2 cl xl n c a s w j wx)
      case atStart => exact ⟨0, by omega, rfl, HIX.out⟩
      case round =>
        obtain ⟨j, hj, rfl, hix⟩ := hrel
        have HI := hide hix
        clear hix
        by_cases hjn : j < xl
        · have xj : (j : Int) < (xl : Int) := by omega
          have xj4 : (j : Int) < 4 := by omega
          obtain ⟨cj, hcj⟩ : ∃ c, s.xs[j]? = some c := ⟨_, List.getElem?_eq_getElem (by rw [HXL.out]; exact hjn)⟩
          have hco := HPA.out.2.2.2.2 j cj hcj
          obtain ⟨rest, hxs⟩ := preX_eq hcj
          have hnx := preX_next hcj
          have HNX := hide (rowJ_next (z := zx) hcj)
          have HATZ : Hid ((rowJ zx s.xs j)[j]? = some zx) := rowJ_at (by rw [HXL.out]; exact hjn)
          obtain ⟨ck, ub⟩ := cj
          obtain ⟨kk, hkk⟩ : ∃ kk : Nat, ck = (kk : Int) := ⟨ck.toNat, by have := hco.1; dsimp only at this; omega⟩
          subst hkk
          have hk8 : kk ≤ 8 := by have := hco.2; dsimp only at this; omega
          obtain ⟨mm, hmm⟩ : ∃ mm : Nat, mm = (if ub then 1 else 0) := ⟨_, rfl⟩
          have hm8 : mm ≤ 8 := by rw [hmm]; split <;> omega
          have hbe : ((mm : Int) == 1) = ub := by rw [hmm]; cases ub <;> rfl
          simp only [Int.toNat_natCast] at hxs hnx
          rw [← hmm] at hxs hnx
          have HKN : Hid (ruN (encS s) ((preX s j).length : Int) = kk ∧ ruP (encS s) ((preX s j).length : Int) = (preX s j ++ encW kk).length) := by
            have := rd_num (pre := preX s j) (rest := encW mm ++ rest) (n := kk) (by omega)
            rw [← hxs] at this
            exact ⟨this.1, by rw [this.2.1, List.length_append]⟩
          have HMN : Hid (ruN (encS s) ((preX s j ++ encW kk).length : Int) = mm ∧ ruP (encS s) ((preX s j ++ encW kk).length : Int) = (preX s (j + 1)).length) := by
            have := rd_num (pre := preX s j ++ encW kk) (rest := rest) (n := mm) (by omega)
            rw [show preX s j ++ encW kk ++ (encW mm ++ rest) = encS s from by rw [hxs]; simp only [List.append_assoc]] at this
            exact ⟨this.1, by rw [this.2.1, hnx]; simp only [List.length_append]; try omega⟩
          have HRD := hide HI.out.drew.rd
          have HBD := hide HI.out.drew.bs
          have HSD := hide HI.out.drew.sb
          have HOD := hide HI.out.drew.ow
          have HCD := hide HI.out.drew.oc
          have HX : Hid ((fun wx => wx.cell? ⟨S0, 2, none⟩ = some (.slice (some ⟨g2, 0, none⟩) xl xl)) wr.drew) := cell_blk HSD.out
          clear hco hxs hnx hcj hmm
          go_upto_region 12 with fail
          refine wp_region_noPanic ?_
          refine wp_region_held_drew (S := fun wx => wx.cell? ⟨S0, 2, none⟩ = some (.slice (some ⟨g2, 0, none⟩) xl xl)) (by kernel_rfl) HX.out (fun hHeld => ?_)
          refine wpAnyH_takeAt (i := 0) (d := 41) (v := ?vc0) (by kernel_rfl) (by kernel_rfl) (by kernel_rfl) (by kernel_rfl) (fun _ _ _ h => h) ?hyc0 (by assumption) ?restc0
          case hyc0 =>
            intro oi ho
            simp only [List.getElem?_toArray, List.getElem?_cons_zero, Option.some.injEq] at ho
            subst ho
            refine Or.inl ⟨by rfl, ?_⟩
            intro wx hSw
            try dsimp only at hSw
            go_simp
            try rfl
          try simp only [Act.put, List.setIfInBounds_toArray, List.set_cons_zero, List.set_cons_succ]
          refine wpAnyH_takeAt (i := 1) (d := 42) (v := ?vc1) (by kernel_rfl) (by kernel_rfl) (by kernel_rfl) (by kernel_rfl) (fun _ _ _ h => h) ?hyc1 (by assumption) ?restc1
          case hyc1 =>
            intro oi ho
            simp only [List.getElem?_toArray, List.getElem?_cons_succ, List.getElem?_cons_zero, Option.some.injEq] at ho
            subst ho
            refine Or.inl ⟨by rfl, ?_⟩
            intro wx hSw
            try dsimp only at hSw
            go_simp
            try rfl
          try simp only [Act.put, List.setIfInBounds_toArray, List.set_cons_zero, List.set_cons_succ]
          refine wpAnyH_takeAt (i := 2) (d := 43) (v := ?vc2) (by kernel_rfl) (by kernel_rfl) (by kernel_rfl) (by kernel_rfl) (fun _ _ _ h => h) ?hyc2 (by assumption) ?restc2
          case hyc2 =>
            intro oi ho
            simp only [List.getElem?_toArray, List.getElem?_cons_succ, List.getElem?_cons_zero, Option.some.injEq] at ho
            subst ho
            refine Or.inl ⟨by rfl, ?_⟩
            intro wx hSw
            try dsimp only at hSw
            go_simp
            try rfl
          try simp only [Act.put, List.setIfInBounds_toArray, List.set_cons_zero, List.set_cons_succ]
          refine wpAnyH_takeAt (i := 3) (d := 44) (v := ?vc3) (by kernel_rfl) (by kernel_rfl) (by kernel_rfl) (by kernel_rfl) (fun _ _ _ h => h) ?hyc3 (by assumption) ?restc3
          case hyc3 =>
            intro oi ho
            simp only [List.getElem?_toArray, List.getElem?_cons_succ, List.getElem?_cons_zero, Option.some.injEq] at ho
            subst ho
            refine Or.inl ⟨by rfl, ?_⟩
            intro wx hSw
            try dsimp only at hSw
            go_simp
            try rfl
          try simp only [Act.put, List.setIfInBounds_toArray, List.set_cons_zero, List.set_cons_succ]
          refine wpAnyH_takeAt (i := 5) (d := 46) (v := ?vc5) (by kernel_rfl) (by kernel_rfl) (by kernel_rfl) (by kernel_rfl) (fun _ _ _ h => h) ?hyc5 (by assumption) ?restc5
          case hyc5 =>
            intro oi ho
            simp only [List.getElem?_toArray, List.getElem?_cons_succ, List.getElem?_cons_zero, Option.some.injEq] at ho
            subst ho
            refine Or.inl ⟨by rfl, ?_⟩
            intro wx hSw
            try dsimp only at hSw
            go_simp
            try rfl
          try simp only [Act.put, List.setIfInBounds_toArray, List.set_cons_zero, List.set_cons_succ]
          refine wpAnyH_comesAt (i := 4) (by kernel_rfl) (by kernel_rfl) ?_
          intro o ho K hK
          simp only [List.getElem?_toArray, List.getElem?_cons_succ, List.getElem?_cons_zero, Option.some.injEq] at ho
          subst ho
          go_simp
          refine (rnum_any HRD.out HBD.out).mono ?_
          rintro e w1 ⟨rfl, hr1, hf1⟩
          rw [HKN.out.1]
          rw [HKN.out.2] at hr1
          have HR1 := hide hr1
          have HF1 := hide hf1
          have HS1 := hide ((hf1.oth S0 (blk_lt HSD.out) HSR.out).trans HSD.out)
          have HB1 := hide (bs_rd HBD.out hf1 HAR.out)
          have HO1 := hide (own_rd HOD.out hf1 (by have := HGR2.out; omega))
          have HC1 := hide (own_rd HCD.out hf1 (by have := HGR.out; omega))
          clear hr1 hf1 hHeld
          refine hK.out _ _ (cell_blk HS1.out) (fun hHeld => ?_)
          clear hK K
          try simp only [Act.put, List.setIfInBounds_toArray, List.set_cons_zero, List.set_cons_succ]
          refine wpAnyH_comesAt (i := 6) (by kernel_rfl) (by kernel_rfl) ?_
          intro o ho K hK
          simp only [List.getElem?_toArray, List.getElem?_cons_succ, List.getElem?_cons_zero, Option.some.injEq] at ho
          subst ho
          go_simp
          refine (rnum_any HR1.out HB1.out).mono ?_
          rintro e w2 ⟨rfl, hr2, hf2⟩
          rw [HMN.out.1]
          rw [HMN.out.2] at hr2
          have HR3 := hide hr2
          have HF3 := hide (HF1.out.trans hf2)
          have HS3 := hide ((hf2.oth S0 (blk_lt HS1.out) HSR.out).trans HS1.out)
          have HB3 := hide (bs_rd HB1.out hf2 HAR.out)
          have HO3 := hide (own_rd HO1.out hf2 (by have := HGR2.out; omega))
          have HC3 := hide (own_rd HC1.out hf2 (by have := HGR.out; omega))
          clear hr2 hf2 hHeld
          refine hK.out _ _ (cell_blk HS3.out) (fun hHeld => ?_)
          clear hK K
          try simp only [Act.put, List.setIfInBounds_toArray, List.set_cons_zero, List.set_cons_succ]
          refine wpAnyH_comesAt (i := 7) (by kernel_rfl) (by kernel_rfl) ?_
          intro o ho K hK
          simp only [List.getElem?_toArray, List.getElem?_cons_succ, List.getElem?_cons_zero, Option.some.injEq] at ho
          subst ho
          go_simp
          refine (bit_any true w2).mono ?_
          rintro e w3 ⟨rfl, hw3⟩
          have hw3 := hw3.symm
          subst hw3
          clear hw3
          refine hK.out _ _ (cell_blk HS3.out) (fun hHeld => ?_)
          clear hK K
          refine wpAnyH_takeAt (i := 8) (d := 49) (v := ?vd8) (by kernel_rfl) (by kernel_rfl) (by kernel_rfl) (by kernel_rfl) (fun _ _ _ h => h) ?hyd8 (by assumption) ?restd8
          case hyd8 =>
            intro oi ho
            simp only [List.getElem?_toArray, List.getElem?_cons_succ, List.getElem?_cons_zero, Option.some.injEq] at ho
            subst ho
            refine Or.inl ⟨by rfl, ?_⟩
            intro wx hSw
            try dsimp only at hSw
            go_simp
            try rfl
          try simp only [Act.put, List.setIfInBounds_toArray, List.set_cons_zero, List.set_cons_succ]
          refine wpAnyH_takeAt (i := 9) (d := 50) (v := ?vd9) (by kernel_rfl) (by kernel_rfl) (by kernel_rfl) (by kernel_rfl) (fun _ _ _ h => h) ?hyd9 (by assumption) ?restd9
          case hyd9 =>
            intro oi ho
            simp only [List.getElem?_toArray, List.getElem?_cons_succ, List.getElem?_cons_zero, Option.some.injEq] at ho
            subst ho
            refine Or.inl ⟨by rfl, ?_⟩
            intro wx hSw
            try dsimp only at hSw
            go_simp
            try rfl
          try simp only [Act.put, List.setIfInBounds_toArray, List.set_cons_zero, List.set_cons_succ]
          refine wpAnyH_takeAt (i := 10) (d := 51) (v := ?vd10) (by kernel_rfl) (by kernel_rfl) (by kernel_rfl) (by kernel_rfl) (fun _ _ _ h => h) ?hyd10 (by assumption) ?restd10
          case hyd10 =>
            intro oi ho
            simp only [List.getElem?_toArray, List.getElem?_cons_succ, List.getElem?_cons_zero, Option.some.injEq] at ho
            subst ho
            refine Or.inl ⟨by rfl, ?_⟩
            intro wx hSw
            try dsimp only at hSw
            go_simp
            try rfl
          try simp only [Act.put, List.setIfInBounds_toArray, List.set_cons_zero, List.set_cons_succ]
          obtain ⟨cur, hcur, hold⟩ := own_cells fX_len HO3.out HATZ.out
          have q0 : w2.cell? ⟨g2, j * 2, none⟩ = some (.int .i64 0) := hold 0 (by omega)
          have q1 : w2.cell? ⟨g2, j * 2 + 1, none⟩ = some (.bool false) := hold 1 (by omega)
          clear hold
          have f0 : w2.frozen? ⟨g2, j * 2, none⟩ = false := frz_blk hcur
          have f1 : w2.frozen? ⟨g2, j * 2 + 1, none⟩ = false := frz_blk hcur
          refine wpAnyH_comesAt (i := 11) (by kernel_rfl) (by kernel_rfl) ?_
          intro o ho K hK
          simp only [List.getElem?_toArray, List.getElem?_cons_succ, List.getElem?_cons_zero, Option.some.injEq] at ho
          subst ho
          go_simp
          clear hHeld hcur
          refine hK.out _ _ ?_ (fun hHeld => ?_)
          · exact cell_blk ((set_oth2 (show S0 ≠ g2 from HSG2.out)).trans HS3.out)
          clear q0 q1 f0 f1
          clear hK K
          try simp only [Act.put, List.setIfInBounds_toArray, List.set_cons_zero, List.set_cons_succ]
          refine wpAnyH_done (by kernel_rfl) ?_ _
          refine NoPanic.normal ?_
          have HIN : Hid (IX rb N S0 g g2 cl xl n c a s w (j + 1) ((w2.setCell ⟨g2, j * 2, none⟩ (.int .i64 (kk : Int))).setCell ⟨g2, j * 2 + 1, none⟩ (.bool ub))) := by
            have hgr := HGR2.out
            have hfr : RdF rb w w2 := HI.out.drew.fr.trans HF3.out
            have hab : ∀ b' o, a = some ⟨b', o, none⟩ → b' ≠ g2 := fun b' o q => by
              have h8 := HAN.out b' o q
              first | omega | (rw [hN] at h8; omega)
            refine ⟨(set_oth2 (show rb ≠ g2 by omega)).trans HR3.out, (set_oth2 HSG2.out).trans HS3.out, (set_oth2 (show N ≠ g2 by omega)).trans ?_, ?_, ?_, ?_, bs_put (bs_put HB3.out hab) hab⟩
            · have h7 := HF3.out.oth N (blk_lt HI.out.drew.zb) (by have := HRB.out; omega)
              exact h7.trans HI.out.drew.zb
            · exact ownsRow_setCell_other (ownsRow_setCell_other HC3.out (by show some g ≠ some g2; simp; omega) _) (by show some g ≠ some g2; simp; omega) _
            · have h9 := set_row2 (x' := ((kk : Int), ub)) HO3.out HATZ.out hjn
              rw [HNX.out] at h9
              exact h9
            · exact (hfr.put (by rw [hN]; omega) (by omega) _ _).put (by rw [hN]; omega) (by omega) _ _
          clear HR3 HS3 HF3 HO3 HB3 HC3 HRD HBD HSD HOD HCD HX hHeld
          go_wp2
          go_roundg (gk - 1)
          case measure => omega
          case rel => exact ⟨j + 1, by omega, rfl, HIN.out⟩
        · have xj : ¬ (j : Int) < (xl : Int) := by omega
          have ex : j = xl := by omega
          have HRX : Hid (rowJ zx s.xs j = s.xs) := by show _ = _; rw [ex, ← HXL.out]; exact rowJ_all _ _
          have HZB := hide HI.out.zb
          have y0 : wr.cell? ⟨S0, 0, none⟩ = some (.string s.nm) := cell_blk HI.out.sb
          have y1 : wr.cell? ⟨S0, 1, none⟩ = some (.slice (some ⟨g, 0, none⟩) cl cl) := cell_blk HI.out.sb
          have y2 : wr.cell? ⟨S0, 2, none⟩ = some (.slice (some ⟨g2, 0, none⟩) xl xl) := cell_blk HI.out.sb
          have t0 : wr.cell? ⟨N, 0, none⟩ = some (.string ⟨#[]⟩) := cell_blk HZB.out
          have tf0 : wr.frozen? ⟨N, 0, none⟩ = false := frz_blk HZB.out
          have t1 : wr.cell? ⟨N, 1, none⟩ = some (.slice none 0 0) := cell_blk HZB.out
          have tf1 : wr.frozen? ⟨N, 1, none⟩ = false := frz_blk HZB.out
          have t2 : wr.cell? ⟨N, 2, none⟩ = some (.slice none 0 0) := cell_blk HZB.out
          have tf2 : wr.frozen? ⟨N, 2, none⟩ = false := frz_blk HZB.out
          clear ex
          go_wp2
          (try simp only [Exit.inBlock, Exit.then])
          refine bodyPost_ret (results_cell_row Try.results43 _ _ N _ _ _ _ rfl (set3 HZB.out) Try.underlying25 rfl info_sch) rfl ?_
          have hgr := HGR.out
          have hgr2 := HGR2.out
          have hrb := HRB.out
          obtain ⟨ga, gc, ge, hsv⟩ := own_sv fC_len HI.out.oc HCL.out
          have h9 := HI.out.ow
          rw [HRX.out] at h9
          obtain ⟨xa, xc, xe, hsx⟩ := own_sv fX_len h9 HXL.out
          simp only [Value.slice.injEq] at ge xe
          obtain ⟨rfl, _, rfl⟩ := ge
          obtain ⟨rfl, _, rfl⟩ := xe
          have hfr := ((HI.out.fr.put (b := N) (by omega) (by omega) 0 (.string s.nm)).put (b := N) (by omega) (by omega) 1 (.slice (some ⟨g, 0, none⟩) cl cl)).put (b := N) (by omega) (by omega) 2 (.slice (some ⟨g2, 0, none⟩) xl xl)
          have hsz : wr.heap.size ≤ (((wr.setCell ⟨N, 0, none⟩ (.string s.nm)).setCell ⟨N, 1, none⟩ (.slice (some ⟨g, 0, none⟩) cl cl)).setCell ⟨N, 2, none⟩ (.slice (some ⟨g2, 0, none⟩) xl xl)).heap.size := ((((Below.refl 0 wr).setCell (p := ⟨N, 0, none⟩) (Nat.zero_le _) _).setCell (p := ⟨N, 1, none⟩) (Nat.zero_le _) _).setCell (p := ⟨N, 2, none⟩) (Nat.zero_le _) _).size
          refine ⟨some ⟨g, 0, none⟩, cl, some ⟨g2, 0, none⟩, xl, rfl, ⟨hsv.blk hsz fun b o e => set_oth3 ?_, hsx.blk hsz fun b o e => set_oth3 ?_⟩, hfr, fun b o e => ?_, fun b o e => ?_⟩
          · simp only [Option.some.injEq, Addr.mk.injEq] at e
            omega
          · simp only [Option.some.injEq, Addr.mk.injEq] at e
            omega
          · simp only [Option.some.injEq, Addr.mk.injEq] at e
            omega
          · simp only [Option.some.injEq, Addr.mk.injEq] at e
            omega
end Go.Proofs.Ytcophbkgighepaa
