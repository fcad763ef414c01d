/- A reader of bytes: number, count, name. -/
import Derived.Test.YtcophbkgighepaaHE
import Derived.Test.YtcophbkgighepaaXE
set_option linter.unusedVariables false
namespace Go.Proofs.Ytcophbkgighepaa
open Go.RowKit

/-- A reader in memory: its bytes, and where it stands. -/
abbrev RDR (rb : Nat) (a : Option Addr) (n c : Nat) (p : Int) (w : World) : Prop := w.heap[rb]? = some (.cells #[.slice a n c, .int .i64 p] 73 (0, 0))
/-- Nothing but the reader is written. -/
structure RdF (rb : Nat) (w w' : World) : Prop where
  bel : Below rb w w'
  oth : ∀ i, i < w.heap.size → i ≠ rb → w'.heap[i]? = w.heap[i]?
theorem RdF.trans {rb : Nat} {w w' w2 : World} (h : RdF rb w w') (k : RdF rb w' w2) : RdF rb w w2 := ⟨h.bel.trans k.bel, fun i hi hn => (k.oth i (Nat.lt_of_lt_of_le hi h.bel.size) hn).trans (h.oth i hi hn)⟩
theorem RdF.of {rb : Nat} {w w' : World} (h : Below w.heap.size w w') (hr : rb ≤ w.heap.size) : RdF rb w w' := ⟨h.mono hr, fun i hi _ => h.block i hi⟩
theorem RdF.set {rb : Nat} {w w' : World} (h : RdF rb w w') (i : Nat) (u : Value) : RdF rb w (w'.setCell ⟨rb, i, none⟩ u) := ⟨h.bel.setCell (p := ⟨rb, i, none⟩) (Nat.le_refl _) u, fun j hj hn => (heap_setCell_other _ _ _ _ (show j ≠ rb from hn)).trans (h.oth j hj hn)⟩
theorem bs_rd {rb n c : Nat} {a : Option Addr} {xs : List Nat} {w w' : World} (h : BS w a n c xs) (f : RdF rb w w') (ha : ∀ b o, a = some ⟨b, o, none⟩ → b ≠ rb) : BS w' a n c xs := by
  refine ⟨h.hlen, h.hcap, h.hroom, h.hmax, h.hbyte, h.hnil, fun x hx i hi => ?_⟩
  rw [← h.hcell x hx i hi]
  refine World.cell?_of_block ?_
  have hl : (x.add i).block < w.heap.size := cell_lt (h.hcell x hx i hi)
  have e : (x.add i).block = x.block := by unfold Addr.add; split <;> rfl
  rw [e] at hl ⊢
  refine f.oth _ hl fun q => ?_
  obtain ⟨b, o, sp⟩ := x
  have hsp : sp = none := by
    have := World.cell?_spot (h.hcell _ hx 0 (by omega))
    simpa [Addr.add] using this
  subst hsp
  exact ha b o hx q
set_option maxRecDepth 100000 in
set_option maxHeartbeats 4000000 in
theorem rnum_any {rb n c : Nat} {a : Option Addr} {p : Int} {xs : List Nat} {w : World} (h : RDR rb a n c p w) (hb : BS w a n c xs) :
    Calls Try.prog 69 #[.pointer (some ⟨rb, 0, none⟩)] w fun e w' => e = .returned (.int .i64 (ruN xs p)) ∧ RDR rb a n c (ruP xs p) w' ∧ RdF rb w w' := by
  have HR := hide h
  have HC := hide (readUint_any a n c xs p w.drew (hb.later (Below.refl _ _).drew (Nat.le_refl _)))
  have HX : Hid ((fun wx => wx.cell? ⟨rb, 0, none⟩ = some (.slice a n c) ∧ wx.cell? ⟨rb, 1, none⟩ = some (.int .i64 p)) w.drew) := ⟨cell_blk (show w.drew.heap[rb]? = _ from h), cell_blk (show w.drew.heap[rb]? = _ from h)⟩
  obtain ⟨rn, hrn⟩ : ∃ r : Nat, ruN xs p = r := ⟨_, rfl⟩
  obtain ⟨rp, hrp⟩ : ∃ r : Nat, ruP xs p = r := ⟨_, rfl⟩
  rw [hrn, hrp] at HC ⊢
  clear h hb hrn hrp
  go_enter Try.func69, Try.ntmps69
  go_upto_region 1 with fail
  refine wp_region_noPanic ?_
  refine wp_region_held_drew (S := fun wx => wx.cell? ⟨rb, 0, none⟩ = some (.slice a n c) ∧ wx.cell? ⟨rb, 1, none⟩ = some (.int .i64 p)) (by kernel_rfl) HX.out (fun hHeld => ?_)
  refine wpAnyH_takeAt (i := 0) (d := 7) (v := ?va0) (by kernel_rfl) (by kernel_rfl) (by kernel_rfl) (by kernel_rfl) (fun _ _ _ h => h) ?hya0 (by assumption) ?resta0
  case hya0 =>
    intro oi ho
    simp only [List.getElem?_toArray, List.getElem?_cons_zero, Option.some.injEq] at ho
    subst ho
    refine Or.inl ⟨by rfl, ?_⟩
    intro wx hSw
    try dsimp only at hSw
    obtain ⟨hs1, hs2⟩ := hSw
    go_simp
    try rfl
  try simp only [Act.put, List.setIfInBounds_toArray, List.set_cons_zero, List.set_cons_succ]
  refine wpAnyH_takeAt (i := 1) (d := 8) (v := ?va1) (by kernel_rfl) (by kernel_rfl) (by kernel_rfl) (by kernel_rfl) (fun _ _ _ h => h) ?hya1 (by assumption) ?resta1
  case hya1 =>
    intro oi ho
    simp only [List.getElem?_toArray, List.getElem?_cons_succ, List.getElem?_cons_zero, Option.some.injEq] at ho
    subst ho
    refine Or.inl ⟨by rfl, ?_⟩
    intro wx hSw
    try dsimp only at hSw
    obtain ⟨hs1, hs2⟩ := hSw
    go_simp
    try rfl
  try simp only [Act.put, List.setIfInBounds_toArray, List.set_cons_zero, List.set_cons_succ]
  refine wpAnyH_takeAt (i := 2) (d := 9) (v := ?va2) (by kernel_rfl) (by kernel_rfl) (by kernel_rfl) (by kernel_rfl) (fun _ _ _ h => h) ?hya2 (by assumption) ?resta2
  case hya2 =>
    intro oi ho
    simp only [List.getElem?_toArray, List.getElem?_cons_succ, List.getElem?_cons_zero, Option.some.injEq] at ho
    subst ho
    refine Or.inl ⟨by rfl, ?_⟩
    intro wx hSw
    try dsimp only at hSw
    obtain ⟨hs1, hs2⟩ := hSw
    go_simp
    try rfl
  try simp only [Act.put, List.setIfInBounds_toArray, List.set_cons_zero, List.set_cons_succ]
  refine wpAnyH_takeAt (i := 3) (d := 10) (v := ?va3) (by kernel_rfl) (by kernel_rfl) (by kernel_rfl) (by kernel_rfl) (fun _ _ _ h => h) ?hya3 (by assumption) ?resta3
  case hya3 =>
    intro oi ho
    simp only [List.getElem?_toArray, List.getElem?_cons_succ, List.getElem?_cons_zero, Option.some.injEq] at ho
    subst ho
    refine Or.inl ⟨by rfl, ?_⟩
    intro wx hSw
    try dsimp only at hSw
    obtain ⟨hs1, hs2⟩ := hSw
    go_simp
    try rfl
  try simp only [Act.put, List.setIfInBounds_toArray, List.set_cons_zero, List.set_cons_succ]
  refine wpAnyH_takeAt (i := 4) (d := 11) (v := ?va4) (by kernel_rfl) (by kernel_rfl) (by kernel_rfl) (by kernel_rfl) (fun _ _ _ h => h) ?hya4 (by assumption) ?resta4
  case hya4 =>
    intro oi ho
    simp only [List.getElem?_toArray, List.getElem?_cons_succ, List.getElem?_cons_zero, Option.some.injEq] at ho
    subst ho
    refine Or.inl ⟨by rfl, ?_⟩
    intro wx hSw
    try dsimp only at hSw
    obtain ⟨hs1, hs2⟩ := hSw
    go_simp
    try rfl
  try simp only [Act.put, List.setIfInBounds_toArray, List.set_cons_zero, List.set_cons_succ]
  refine wpAnyH_takeAt (i := 5) (d := 12) (v := ?va5) (by kernel_rfl) (by kernel_rfl) (by kernel_rfl) (by kernel_rfl) (fun _ _ _ h => h) ?hya5 (by assumption) ?resta5
  case hya5 =>
    intro oi ho
    simp only [List.getElem?_toArray, List.getElem?_cons_succ, List.getElem?_cons_zero, Option.some.injEq] at ho
    subst ho
    refine Or.inl ⟨by rfl, ?_⟩
    intro wx hSw
    try dsimp only at hSw
    obtain ⟨hs1, hs2⟩ := hSw
    go_simp
    try rfl
  try simp only [Act.put, List.setIfInBounds_toArray, List.set_cons_zero, List.set_cons_succ]
  refine wpAnyH_takeAt (i := 6) (d := 13) (v := ?va6) (by kernel_rfl) (by kernel_rfl) (by kernel_rfl) (by kernel_rfl) (fun _ _ _ h => h) ?hya6 (by assumption) ?resta6
  case hya6 =>
    intro oi ho
    simp only [List.getElem?_toArray, List.getElem?_cons_succ, List.getElem?_cons_zero, Option.some.injEq] at ho
    subst ho
    refine Or.inl ⟨by rfl, ?_⟩
    intro wx hSw
    try dsimp only at hSw
    obtain ⟨hs1, hs2⟩ := hSw
    go_simp
    try rfl
  try simp only [Act.put, List.setIfInBounds_toArray, List.set_cons_zero, List.set_cons_succ]
  refine wpAnyH_takeAt (i := 7) (d := 14) (v := ?va7) (by kernel_rfl) (by kernel_rfl) (by kernel_rfl) (by kernel_rfl) (fun _ _ _ h => h) ?hya7 (by assumption) ?resta7
  case hya7 =>
    intro oi ho
    simp only [List.getElem?_toArray, List.getElem?_cons_succ, List.getElem?_cons_zero, Option.some.injEq] at ho
    subst ho
    refine Or.inl ⟨by rfl, ?_⟩
    intro wx hSw
    try dsimp only at hSw
    obtain ⟨hs1, hs2⟩ := hSw
    go_simp
    try rfl
  try simp only [Act.put, List.setIfInBounds_toArray, List.set_cons_zero, List.set_cons_succ]
  refine wpAnyH_comesAt (i := 8) (by kernel_rfl) (by kernel_rfl) ?_
  intro o ho K hK
  simp only [List.getElem?_toArray, List.getElem?_cons_succ, List.getElem?_cons_zero, Option.some.injEq] at ho
  subst ho
  go_simp
  refine HC.out.mono ?_
  rintro e w2 ⟨rfl, hw2⟩
  subst hw2
  refine hK.out _ _ HX.out (fun hHeld => ?_)
  clear hK K
  try simp only [Act.put, List.setIfInBounds_toArray, List.set_cons_zero, List.set_cons_succ]
  refine wpAnyH_takeAt (i := 9) (d := 6) (v := ?vb9) (by kernel_rfl) (by kernel_rfl) (by kernel_rfl) (by kernel_rfl) (fun _ _ _ h => h) ?hyb9 (by assumption) ?restb9
  case hyb9 =>
    intro oi ho
    simp only [List.getElem?_toArray, List.getElem?_cons_succ, List.getElem?_cons_zero, Option.some.injEq] at ho
    subst ho
    refine Or.inl ⟨by rfl, ?_⟩
    intro wx hSw
    try dsimp only at hSw
    obtain ⟨hs1, hs2⟩ := hSw
    go_simp
    try rfl
  try simp only [Act.put, List.setIfInBounds_toArray, List.set_cons_zero, List.set_cons_succ]
  refine wpAnyH_takeAt (i := 10) (d := 16) (v := ?vb10) (by kernel_rfl) (by kernel_rfl) (by kernel_rfl) (by kernel_rfl) (fun _ _ _ h => h) ?hyb10 (by assumption) ?restb10
  case hyb10 =>
    intro oi ho
    simp only [List.getElem?_toArray, List.getElem?_cons_succ, List.getElem?_cons_zero, Option.some.injEq] at ho
    subst ho
    refine Or.inl ⟨by rfl, ?_⟩
    intro wx hSw
    try dsimp only at hSw
    obtain ⟨hs1, hs2⟩ := hSw
    go_simp
    try rfl
  try simp only [Act.put, List.setIfInBounds_toArray, List.set_cons_zero, List.set_cons_succ]
  refine wpAnyH_takeAt (i := 11) (d := 17) (v := ?vb11) (by kernel_rfl) (by kernel_rfl) (by kernel_rfl) (by kernel_rfl) (fun _ _ _ h => h) ?hyb11 (by assumption) ?restb11
  case hyb11 =>
    intro oi ho
    simp only [List.getElem?_toArray, List.getElem?_cons_succ, List.getElem?_cons_zero, Option.some.injEq] at ho
    subst ho
    refine Or.inl ⟨by rfl, ?_⟩
    intro wx hSw
    try dsimp only at hSw
    obtain ⟨hs1, hs2⟩ := hSw
    go_simp
    try rfl
  try simp only [Act.put, List.setIfInBounds_toArray, List.set_cons_zero, List.set_cons_succ]
  refine wpAnyH_takeAt (i := 12) (d := 18) (v := ?vb12) (by kernel_rfl) (by kernel_rfl) (by kernel_rfl) (by kernel_rfl) (fun _ _ _ h => h) ?hyb12 (by assumption) ?restb12
  case hyb12 =>
    intro oi ho
    simp only [List.getElem?_toArray, List.getElem?_cons_succ, List.getElem?_cons_zero, Option.some.injEq] at ho
    subst ho
    refine Or.inl ⟨by rfl, ?_⟩
    intro wx hSw
    try dsimp only at hSw
    obtain ⟨hs1, hs2⟩ := hSw
    go_simp
    try rfl
  try simp only [Act.put, List.setIfInBounds_toArray, List.set_cons_zero, List.set_cons_succ]
  refine wpAnyH_takeAt (i := 13) (d := 3) (v := ?vb13) (by kernel_rfl) (by kernel_rfl) (by kernel_rfl) (by kernel_rfl) (fun _ _ _ h => h) ?hyb13 (by assumption) ?restb13
  case hyb13 =>
    intro oi ho
    simp only [List.getElem?_toArray, List.getElem?_cons_succ, List.getElem?_cons_zero, Option.some.injEq] at ho
    subst ho
    refine Or.inl ⟨by rfl, ?_⟩
    intro wx hSw
    try dsimp only at hSw
    obtain ⟨hs1, hs2⟩ := hSw
    go_simp
    try rfl
  try simp only [Act.put, List.setIfInBounds_toArray, List.set_cons_zero, List.set_cons_succ]
  refine wpAnyH_takeAt (i := 14) (d := 4) (v := ?vb14) (by kernel_rfl) (by kernel_rfl) (by kernel_rfl) (by kernel_rfl) (fun _ _ _ h => h) ?hyb14 (by assumption) ?restb14
  case hyb14 =>
    intro oi ho
    simp only [List.getElem?_toArray, List.getElem?_cons_succ, List.getElem?_cons_zero, Option.some.injEq] at ho
    subst ho
    refine Or.inl ⟨by rfl, ?_⟩
    intro wx hSw
    try dsimp only at hSw
    obtain ⟨hs1, hs2⟩ := hSw
    go_simp
    try rfl
  try simp only [Act.put, List.setIfInBounds_toArray, List.set_cons_zero, List.set_cons_succ]
  refine wpAnyH_takeAt (i := 15) (d := 5) (v := ?vb15) (by kernel_rfl) (by kernel_rfl) (by kernel_rfl) (by kernel_rfl) (fun _ _ _ h => h) ?hyb15 (by assumption) ?restb15
  case hyb15 =>
    intro oi ho
    simp only [List.getElem?_toArray, List.getElem?_cons_succ, List.getElem?_cons_zero, Option.some.injEq] at ho
    subst ho
    refine Or.inl ⟨by rfl, ?_⟩
    intro wx hSw
    try dsimp only at hSw
    obtain ⟨hs1, hs2⟩ := hSw
    go_simp
    try rfl
  try simp only [Act.put, List.setIfInBounds_toArray, List.set_cons_zero, List.set_cons_succ]
  refine wpAnyH_done (by kernel_rfl) ?_ _
  refine NoPanic.normal ?_
  have y1 : w.drew.cell? ⟨rb, 1, none⟩ = some (.int .i64 p) := HX.out.2
  have yf : w.drew.frozen? ⟨rb, 1, none⟩ = false := frz_blk (show w.drew.heap[rb]? = _ from HR.out)
  have y1' : w.cell? ⟨rb, 1, none⟩ = some (.int .i64 p) := cell_blk HR.out
  have yf' : w.frozen? ⟨rb, 1, none⟩ = false := frz_blk HR.out
  clear hHeld
  go_wp2
  go_ret
  refine ⟨rfl, heap_setCell_same _ _ _ _ _ _ (show _ from HR.out), ?_⟩
  exact (RdF.of (Below.refl _ _).drew (by have := blk_lt HR.out; omega)).set 1 _
set_option maxRecDepth 100000 in
theorem rcount_any {rb n c : Nat} {a : Option Addr} {p : Int} {xs : List Nat} {w : World} (h : RDR rb a n c p w) (hb : BS w a n c xs) :
    Calls Try.prog 68 #[.pointer (some ⟨rb, 0, none⟩), .int .i64 3] w fun e w' => e = .returned (.int .i64 ((min (ruN xs p) 3 : Nat) : Int)) ∧ RDR rb a n c (ruP xs p) w' ∧ RdF rb w w' := by
  have HC := hide (rnum_any h hb)
  obtain ⟨rn, hrn⟩ : ∃ r : Nat, ruN xs p = r := ⟨_, rfl⟩
  obtain ⟨rp, hrp⟩ : ∃ r : Nat, ruP xs p = r := ⟨_, rfl⟩
  rw [hrn, hrp] at HC ⊢
  obtain ⟨m, hm⟩ : ∃ m, m = min rn 3 := ⟨_, rfl⟩
  rw [← hm]
  have em : min (rn : Int) 3 = (m : Int) := by omega
  have em' : (if (3 : Int) < (rn : Int) then (3 : Int) else (rn : Int)) = (m : Int) := by split <;> omega
  clear h hb hrn hrp hm
  go_enter Try.func68, Try.ntmps68
  go_wp2_with fail
  refine HC.out.mono ?_
  rintro e w1 ⟨rfl, h1, h2⟩
  have H1 := hide h1
  have H2 := hide h2
  clear h1 h2 HC
  go_wp2
  go_ret
  exact ⟨rfl, H1.out, H2.out⟩
theorem readB {a : Option Addr} {n c : Nat} {xs : List Nat} {p : Int} {w : World} (h : BS w a n c xs) :
    Calls Try.prog 84 #[.slice a n c, .int .i64 p, .int .i64 8] w fun e w' => ∃ va vn vc e2, e = .returned (.tuple #[.slice va vn vc, .int .i64 (rbP xs p 8), .int .i64 e2]) ∧ BS w' va vn vc (rbS xs p 8) ∧ (∀ b o, va = some ⟨b, o, none⟩ → w.heap.size ≤ b) ∧ Below w.heap.size w w' := by
  by_cases he : rbE xs p 8 = 0
  · refine (readBytes_ok a n c xs p 8 w h he).mono ?_
    rintro e w' ⟨g, m, rfl, h1, h2, _, h4⟩
    refine ⟨_, _, _, _, rfl, h2, fun b o q => ?_, h4⟩
    simp only [Option.some.injEq, Addr.mk.injEq] at q
    omega
  · refine (readBytes_no a n c xs p 8 w h he).mono ?_
    rintro e w' ⟨rfl, hw⟩
    subst hw
    refine ⟨none, 0, 0, _, by unfold rbP; rw [if_neg he]; rfl, ?_, (fun b o q => by cases q), Below.refl _ _⟩
    unfold rbS
    rw [if_neg he]
    exact BS.none _ _ _ (by omega) (fun _ => rfl)
set_option maxRecDepth 100000 in
set_option maxHeartbeats 4000000 in
theorem rname_any {rb n c : Nat} {a : Option Addr} {p : Int} {xs : List Nat} {w : World} (h : RDR rb a n c p w) (hb : BS w a n c xs) :
    Calls Try.prog 67 #[.pointer (some ⟨rb, 0, none⟩)] w fun e w' => e = .returned (.string (str (rbS xs p 8))) ∧ RDR rb a n c (rbP xs p 8) w' ∧ RdF rb w w' := by
  have HR := hide h
  have HC := hide (readB (p := p) (hb.later (w' := w.drew) (Below.refl _ _).drew (Nat.le_refl _)))
  have HX : Hid ((fun wx => wx.cell? ⟨rb, 0, none⟩ = some (.slice a n c) ∧ wx.cell? ⟨rb, 1, none⟩ = some (.int .i64 p)) w.drew) := ⟨cell_blk (show w.drew.heap[rb]? = _ from h), cell_blk (show w.drew.heap[rb]? = _ from h)⟩
  obtain ⟨rp, hrp⟩ : ∃ r : Nat, rbP xs p 8 = r := ⟨_, rfl⟩
  obtain ⟨rs, hrs⟩ : ∃ r, rbS xs p 8 = r := ⟨_, rfl⟩
  rw [hrp, hrs] at HC ⊢
  clear h hb hrp hrs
  go_enter Try.func67, Try.ntmps67
  go_upto_region 1 with fail
  refine wp_region_noPanic ?_
  refine wp_region_held_drew (S := fun wx => wx.cell? ⟨rb, 0, none⟩ = some (.slice a n c) ∧ wx.cell? ⟨rb, 1, none⟩ = some (.int .i64 p)) (by kernel_rfl) HX.out (fun hHeld => ?_)
  refine wpAnyH_takeAt (i := 0) (d := 7) (v := ?va0) (by kernel_rfl) (by kernel_rfl) (by kernel_rfl) (by kernel_rfl) (fun _ _ _ h => h) ?hya0 (by assumption) ?resta0
  case hya0 =>
    intro oi ho
    simp only [List.getElem?_toArray, List.getElem?_cons_zero, Option.some.injEq] at ho
    subst ho
    refine Or.inl ⟨by rfl, ?_⟩
    intro wx hSw
    try dsimp only at hSw
    obtain ⟨hs1, hs2⟩ := hSw
    go_simp
    try rfl
  try simp only [Act.put, List.setIfInBounds_toArray, List.set_cons_zero, List.set_cons_succ]
  refine wpAnyH_takeAt (i := 1) (d := 8) (v := ?va1) (by kernel_rfl) (by kernel_rfl) (by kernel_rfl) (by kernel_rfl) (fun _ _ _ h => h) ?hya1 (by assumption) ?resta1
  case hya1 =>
    intro oi ho
    simp only [List.getElem?_toArray, List.getElem?_cons_succ, List.getElem?_cons_zero, Option.some.injEq] at ho
    subst ho
    refine Or.inl ⟨by rfl, ?_⟩
    intro wx hSw
    try dsimp only at hSw
    obtain ⟨hs1, hs2⟩ := hSw
    go_simp
    try rfl
  try simp only [Act.put, List.setIfInBounds_toArray, List.set_cons_zero, List.set_cons_succ]
  refine wpAnyH_takeAt (i := 2) (d := 9) (v := ?va2) (by kernel_rfl) (by kernel_rfl) (by kernel_rfl) (by kernel_rfl) (fun _ _ _ h => h) ?hya2 (by assumption) ?resta2
  case hya2 =>
    intro oi ho
    simp only [List.getElem?_toArray, List.getElem?_cons_succ, List.getElem?_cons_zero, Option.some.injEq] at ho
    subst ho
    refine Or.inl ⟨by rfl, ?_⟩
    intro wx hSw
    try dsimp only at hSw
    obtain ⟨hs1, hs2⟩ := hSw
    go_simp
    try rfl
  try simp only [Act.put, List.setIfInBounds_toArray, List.set_cons_zero, List.set_cons_succ]
  refine wpAnyH_takeAt (i := 3) (d := 10) (v := ?va3) (by kernel_rfl) (by kernel_rfl) (by kernel_rfl) (by kernel_rfl) (fun _ _ _ h => h) ?hya3 (by assumption) ?resta3
  case hya3 =>
    intro oi ho
    simp only [List.getElem?_toArray, List.getElem?_cons_succ, List.getElem?_cons_zero, Option.some.injEq] at ho
    subst ho
    refine Or.inl ⟨by rfl, ?_⟩
    intro wx hSw
    try dsimp only at hSw
    obtain ⟨hs1, hs2⟩ := hSw
    go_simp
    try rfl
  try simp only [Act.put, List.setIfInBounds_toArray, List.set_cons_zero, List.set_cons_succ]
  refine wpAnyH_takeAt (i := 4) (d := 11) (v := ?va4) (by kernel_rfl) (by kernel_rfl) (by kernel_rfl) (by kernel_rfl) (fun _ _ _ h => h) ?hya4 (by assumption) ?resta4
  case hya4 =>
    intro oi ho
    simp only [List.getElem?_toArray, List.getElem?_cons_succ, List.getElem?_cons_zero, Option.some.injEq] at ho
    subst ho
    refine Or.inl ⟨by rfl, ?_⟩
    intro wx hSw
    try dsimp only at hSw
    obtain ⟨hs1, hs2⟩ := hSw
    go_simp
    try rfl
  try simp only [Act.put, List.setIfInBounds_toArray, List.set_cons_zero, List.set_cons_succ]
  refine wpAnyH_takeAt (i := 5) (d := 12) (v := ?va5) (by kernel_rfl) (by kernel_rfl) (by kernel_rfl) (by kernel_rfl) (fun _ _ _ h => h) ?hya5 (by assumption) ?resta5
  case hya5 =>
    intro oi ho
    simp only [List.getElem?_toArray, List.getElem?_cons_succ, List.getElem?_cons_zero, Option.some.injEq] at ho
    subst ho
    refine Or.inl ⟨by rfl, ?_⟩
    intro wx hSw
    try dsimp only at hSw
    obtain ⟨hs1, hs2⟩ := hSw
    go_simp
    try rfl
  try simp only [Act.put, List.setIfInBounds_toArray, List.set_cons_zero, List.set_cons_succ]
  refine wpAnyH_takeAt (i := 6) (d := 13) (v := ?va6) (by kernel_rfl) (by kernel_rfl) (by kernel_rfl) (by kernel_rfl) (fun _ _ _ h => h) ?hya6 (by assumption) ?resta6
  case hya6 =>
    intro oi ho
    simp only [List.getElem?_toArray, List.getElem?_cons_succ, List.getElem?_cons_zero, Option.some.injEq] at ho
    subst ho
    refine Or.inl ⟨by rfl, ?_⟩
    intro wx hSw
    try dsimp only at hSw
    obtain ⟨hs1, hs2⟩ := hSw
    go_simp
    try rfl
  try simp only [Act.put, List.setIfInBounds_toArray, List.set_cons_zero, List.set_cons_succ]
  refine wpAnyH_takeAt (i := 7) (d := 14) (v := ?va7) (by kernel_rfl) (by kernel_rfl) (by kernel_rfl) (by kernel_rfl) (fun _ _ _ h => h) ?hya7 (by assumption) ?resta7
  case hya7 =>
    intro oi ho
    simp only [List.getElem?_toArray, List.getElem?_cons_succ, List.getElem?_cons_zero, Option.some.injEq] at ho
    subst ho
    refine Or.inl ⟨by rfl, ?_⟩
    intro wx hSw
    try dsimp only at hSw
    obtain ⟨hs1, hs2⟩ := hSw
    go_simp
    try rfl
  try simp only [Act.put, List.setIfInBounds_toArray, List.set_cons_zero, List.set_cons_succ]
  refine wpAnyH_comesAt (i := 8) (by kernel_rfl) (by kernel_rfl) ?_
  intro o ho K hK
  simp only [List.getElem?_toArray, List.getElem?_cons_succ, List.getElem?_cons_zero, Option.some.injEq] at ho
  subst ho
  go_simp
  refine HC.out.mono ?_
  rintro e w2 ⟨va, vn, vc, e2, rfl, hbs2, hge2, hb2⟩
  have HGE := hide hge2
  have hb2 : Below w.heap.size w w2 := ⟨hb2.os, hb2.tape, hb2.output, hb2.size, hb2.block⟩
  have HBS := hide hbs2
  have HB2 := hide hb2
  have hX2 : w2.cell? ⟨rb, 0, none⟩ = some (.slice a n c) ∧ w2.cell? ⟨rb, 1, none⟩ = some (.int .i64 p) := ⟨(hb2.cell (blk_lt HR.out)).trans (cell_blk HR.out), (hb2.cell (blk_lt HR.out)).trans (cell_blk HR.out)⟩
  clear hbs2 hb2 hHeld hge2
  refine hK.out _ _ hX2 (fun hHeld => ?_)
  clear hX2
  clear hK K
  try simp only [Act.put, List.setIfInBounds_toArray, List.set_cons_zero, List.set_cons_succ]
  refine wpAnyH_takeAt (i := 9) (d := 6) (v := ?vb9) (by kernel_rfl) (by kernel_rfl) (by kernel_rfl) (by kernel_rfl) (fun _ _ _ h => h) ?hyb9 (by assumption) ?restb9
  case hyb9 =>
    intro oi ho
    simp only [List.getElem?_toArray, List.getElem?_cons_succ, List.getElem?_cons_zero, Option.some.injEq] at ho
    subst ho
    refine Or.inl ⟨by rfl, ?_⟩
    intro wx hSw
    try dsimp only at hSw
    obtain ⟨hs1, hs2⟩ := hSw
    go_simp
    try rfl
  try simp only [Act.put, List.setIfInBounds_toArray, List.set_cons_zero, List.set_cons_succ]
  refine wpAnyH_takeAt (i := 10) (d := 16) (v := ?vb10) (by kernel_rfl) (by kernel_rfl) (by kernel_rfl) (by kernel_rfl) (fun _ _ _ h => h) ?hyb10 (by assumption) ?restb10
  case hyb10 =>
    intro oi ho
    simp only [List.getElem?_toArray, List.getElem?_cons_succ, List.getElem?_cons_zero, Option.some.injEq] at ho
    subst ho
    refine Or.inl ⟨by rfl, ?_⟩
    intro wx hSw
    try dsimp only at hSw
    obtain ⟨hs1, hs2⟩ := hSw
    go_simp
    try rfl
  try simp only [Act.put, List.setIfInBounds_toArray, List.set_cons_zero, List.set_cons_succ]
  refine wpAnyH_takeAt (i := 11) (d := 17) (v := ?vb11) (by kernel_rfl) (by kernel_rfl) (by kernel_rfl) (by kernel_rfl) (fun _ _ _ h => h) ?hyb11 (by assumption) ?restb11
  case hyb11 =>
    intro oi ho
    simp only [List.getElem?_toArray, List.getElem?_cons_succ, List.getElem?_cons_zero, Option.some.injEq] at ho
    subst ho
    refine Or.inl ⟨by rfl, ?_⟩
    intro wx hSw
    try dsimp only at hSw
    obtain ⟨hs1, hs2⟩ := hSw
    go_simp
    try rfl
  try simp only [Act.put, List.setIfInBounds_toArray, List.set_cons_zero, List.set_cons_succ]
  refine wpAnyH_takeAt (i := 12) (d := 18) (v := ?vb12) (by kernel_rfl) (by kernel_rfl) (by kernel_rfl) (by kernel_rfl) (fun _ _ _ h => h) ?hyb12 (by assumption) ?restb12
  case hyb12 =>
    intro oi ho
    simp only [List.getElem?_toArray, List.getElem?_cons_succ, List.getElem?_cons_zero, Option.some.injEq] at ho
    subst ho
    refine Or.inl ⟨by rfl, ?_⟩
    intro wx hSw
    try dsimp only at hSw
    obtain ⟨hs1, hs2⟩ := hSw
    go_simp
    try rfl
  try simp only [Act.put, List.setIfInBounds_toArray, List.set_cons_zero, List.set_cons_succ]
  refine wpAnyH_takeAt (i := 13) (d := 3) (v := ?vb13) (by kernel_rfl) (by kernel_rfl) (by kernel_rfl) (by kernel_rfl) (fun _ _ _ h => h) ?hyb13 (by assumption) ?restb13
  case hyb13 =>
    intro oi ho
    simp only [List.getElem?_toArray, List.getElem?_cons_succ, List.getElem?_cons_zero, Option.some.injEq] at ho
    subst ho
    refine Or.inl ⟨by rfl, ?_⟩
    intro wx hSw
    try dsimp only at hSw
    obtain ⟨hs1, hs2⟩ := hSw
    go_simp
    try rfl
  try simp only [Act.put, List.setIfInBounds_toArray, List.set_cons_zero, List.set_cons_succ]
  refine wpAnyH_takeAt (i := 14) (d := 4) (v := ?vb14) (by kernel_rfl) (by kernel_rfl) (by kernel_rfl) (by kernel_rfl) (fun _ _ _ h => h) ?hyb14 (by assumption) ?restb14
  case hyb14 =>
    intro oi ho
    simp only [List.getElem?_toArray, List.getElem?_cons_succ, List.getElem?_cons_zero, Option.some.injEq] at ho
    subst ho
    refine Or.inl ⟨by rfl, ?_⟩
    intro wx hSw
    try dsimp only at hSw
    obtain ⟨hs1, hs2⟩ := hSw
    go_simp
    try rfl
  try simp only [Act.put, List.setIfInBounds_toArray, List.set_cons_zero, List.set_cons_succ]
  refine wpAnyH_takeAt (i := 15) (d := 5) (v := ?vb15) (by kernel_rfl) (by kernel_rfl) (by kernel_rfl) (by kernel_rfl) (fun _ _ _ h => h) ?hyb15 (by assumption) ?restb15
  case hyb15 =>
    intro oi ho
    simp only [List.getElem?_toArray, List.getElem?_cons_succ, List.getElem?_cons_zero, Option.some.injEq] at ho
    subst ho
    refine Or.inl ⟨by rfl, ?_⟩
    intro wx hSw
    try dsimp only at hSw
    obtain ⟨hs1, hs2⟩ := hSw
    go_simp
    try rfl
  try simp only [Act.put, List.setIfInBounds_toArray, List.set_cons_zero, List.set_cons_succ]
  refine wpAnyH_done (by kernel_rfl) ?_ _
  refine NoPanic.normal ?_
  have HR2 := hide ((HB2.out.block rb (blk_lt HR.out)).trans HR.out)
  have y1 : w2.cell? ⟨rb, 1, none⟩ = some (.int .i64 p) := cell_blk HR2.out
  have yf : w2.frozen? ⟨rb, 1, none⟩ = false := frz_blk HR2.out
  have HF2 : Hid (RdF rb w2 (w2.setCell ⟨rb, 1, none⟩ (.int .i64 (rp : Int)))) := (RdF.of (Below.refl _ _) (by have := blk_lt HR2.out; omega)).set 1 _
  have hcv : (convert 42 9 (.slice va vn vc)).run Try.prog (w2.setCell ⟨rb, 1, none⟩ (.int .i64 (rp : Int))) = .ok (.string (str rs)) (w2.setCell ⟨rb, 1, none⟩ (.int .i64 (rp : Int))) := run_text (bs_rd HBS.out HF2.out fun b o q => by have h8 : w.heap.size ≤ b := HGE.out b o q; have := blk_lt HR.out; omega)
  have HR3 : Hid (RDR rb a n c (rp : Int) (w2.setCell ⟨rb, 1, none⟩ (.int .i64 (rp : Int)))) := heap_setCell_same _ _ _ _ _ _ HR2.out
  clear hHeld
  go_wp2
  go_ret
  exact ⟨rfl, HR3.out, (RdF.of HB2.out (by have := blk_lt HR.out; omega)).trans HF2.out⟩
end Go.Proofs.Ytcophbkgighepaa
set_option linter.unusedVariables false
namespace Go.Proofs.Ytcophbkgighepaa
open Go.RowKit

theorem rd_num {pre rest : List Nat} {n : Nat} (hn : n < 9223372036854775808) : ruN (pre ++ (encW n ++ rest)) (pre.length : Int) = n ∧ ruP (pre ++ (encW n ++ rest)) (pre.length : Int) = pre.length + (encW n).length ∧ ruE (pre ++ (encW n ++ rest)) (pre.length : Int) = 0 := by
  have h := rd_enc n hn pre rest
  have hc : (0 : Int) ≤ (pre.length : Int) ∧ (pre.length : Int) ≤ ((pre ++ (encW n ++ rest)).length : Int) := by
    constructor
    · omega
    · rw [List.length_append]; omega
  have ht : ((pre.length : Nat) : Int).toNat = pre.length := rfl
  refine ⟨?_, ?_, ?_⟩
  · unfold ruN
    rw [if_pos hc, ht, h]
  · unfold ruP
    rw [if_pos hc, ht]
    unfold rdNext
    rw [h, if_pos rfl, enc_length n (grp_spec n hn).1]
  · unfold ruE
    rw [if_pos hc, ht, h]
theorem rd_name {pre rest : List Nat} {s : ByteArray} (hs : s.size ≤ 8) : rbS (pre ++ (wb s ++ rest)) (pre.length : Int) 8 = sl s ∧ rbP (pre ++ (wb s ++ rest)) (pre.length : Int) 8 = pre.length + (wb s).length := by
  have e : pre ++ (wb s ++ rest) = pre ++ (encW s.size ++ (sl s ++ rest)) := by unfold wb; simp only [List.append_assoc]
  obtain ⟨h1, h2, h3⟩ := rd_num (pre := pre) (rest := sl s ++ rest) (n := s.size) (by omega)
  rw [← e] at h1 h2 h3
  have hl : (pre ++ (wb s ++ rest)).length = pre.length + (encW s.size).length + s.size + rest.length := by
    rw [e]
    simp only [List.length_append, sl_len]
    omega
  have he : rbE (pre ++ (wb s ++ rest)) (pre.length : Int) 8 = 0 := by
    unfold rbE
    rw [if_neg (by rw [h3]; simp), if_neg (by decide), if_neg (by rw [h1]; omega), if_neg (by rw [h1, h2, hl]; omega)]
  constructor
  · unfold rbS
    rw [if_pos he, h1, h2, e]
    rw [show pre ++ (encW s.size ++ (sl s ++ rest)) = (pre ++ encW s.size) ++ (sl s ++ rest) from by simp only [List.append_assoc], ← List.length_append, List.drop_left, ← sl_len s, List.take_left]
  · unfold rbP
    rw [if_pos he, h1, h2]
    unfold wb
    rw [List.length_append, sl_len]
    omega
end Go.Proofs.Ytcophbkgighepaa
set_option linter.unusedVariables false
namespace Go.Proofs.Ytcophbkgighepaa
open Go.RowKit

def z1 : Col := (⟨#[]⟩, 0, 0)
def zx : Idx := (0, false)
theorem mcol0 : (madeCells (Value.agg #[.string ⟨#[]⟩, .int .i64 0, .int .i64 0]).cells (0 * 3)).toList = (List.replicate 0 z1).flatMap fC := by kernel_rfl
theorem mcol1 : (madeCells (Value.agg #[.string ⟨#[]⟩, .int .i64 0, .int .i64 0]).cells (1 * 3)).toList = (List.replicate 1 z1).flatMap fC := by kernel_rfl
theorem mcol2 : (madeCells (Value.agg #[.string ⟨#[]⟩, .int .i64 0, .int .i64 0]).cells (2 * 3)).toList = (List.replicate 2 z1).flatMap fC := by kernel_rfl
theorem mcol3 : (madeCells (Value.agg #[.string ⟨#[]⟩, .int .i64 0, .int .i64 0]).cells (3 * 3)).toList = (List.replicate 3 z1).flatMap fC := by kernel_rfl
theorem mix0 : (madeCells (Value.agg #[.int .i64 0, .bool false]).cells (0 * 2)).toList = (List.replicate 0 zx).flatMap fX := by kernel_rfl
theorem mix1 : (madeCells (Value.agg #[.int .i64 0, .bool false]).cells (1 * 2)).toList = (List.replicate 1 zx).flatMap fX := by kernel_rfl
theorem mix2 : (madeCells (Value.agg #[.int .i64 0, .bool false]).cells (2 * 2)).toList = (List.replicate 2 zx).flatMap fX := by kernel_rfl
theorem mix3 : (madeCells (Value.agg #[.int .i64 0, .bool false]).cells (3 * 2)).toList = (List.replicate 3 zx).flatMap fX := by kernel_rfl
theorem made_col {n : Nat} (h : n ≤ 3) : (madeCells (Value.agg #[.string ⟨#[]⟩, .int .i64 0, .int .i64 0]).cells (n * 3)).toList = (List.replicate n z1).flatMap fC := by
  have : n = 0 ∨ n = 1 ∨ n = 2 ∨ n = 3 := by omega
  rcases this with rfl | rfl | rfl | rfl
  · exact mcol0
  · exact mcol1
  · exact mcol2
  · exact mcol3
theorem made_ix {n : Nat} (h : n ≤ 3) : (madeCells (Value.agg #[.int .i64 0, .bool false]).cells (n * 2)).toList = (List.replicate n zx).flatMap fX := by
  have : n = 0 ∨ n = 1 ∨ n = 2 ∨ n = 3 := by omega
  rcases this with rfl | rfl | rfl | rfl
  · exact mix0
  · exact mix1
  · exact mix2
  · exact mix3
theorem own_rd {rb B te k n g c : Nat} {w w' : World} {xs : List Value} (h : w.ownsRow B te k (.slice (some ⟨g, 0, none⟩) n c) n xs) (f : RdF rb w w') (hg : g ≠ rb) : w'.ownsRow B te k (.slice (some ⟨g, 0, none⟩) n c) n xs := by
  refine ⟨h.1, ?_⟩
  rcases h.2 with ⟨e, _⟩ | ⟨g', cap', cur, e, h5, h6, h7⟩
  · cases e
  · simp only [Value.slice.injEq, Option.some.injEq, Addr.mk.injEq] at e
    obtain ⟨⟨rfl, _, _⟩, _, rfl⟩ := e
    exact Or.inr ⟨g, c, cur, rfl, h5, (f.oth g (blk_lt h6) hg).trans h6, h7⟩
theorem own_cells {α : Type} {f : α → List Value} {k : Nat} (hk : ∀ x, (f x).length = k) {B te n g c i : Nat} {w : World} {l : List α} {x : α} (h : w.ownsRow B te k (.slice (some ⟨g, 0, none⟩) n c) n (l.flatMap f)) (hi : l[i]? = some x) : ∃ cur, w.heap[g]? = some (.cells cur te (0, 0)) ∧ ∀ t, t < k → w.cell? ⟨g, i * k + t, none⟩ = (f x)[t]? := by
  rcases h.2 with ⟨e, _⟩ | ⟨g', cap', cur, e, h5, h6, h7, h8, h9, h10⟩
  · cases e
  · simp only [Value.slice.injEq, Option.some.injEq, Addr.mk.injEq] at e
    obtain ⟨⟨rfl, _, _⟩, _, rfl⟩ := e
    refine ⟨cur, h6, fun t ht => ?_⟩
    have hg := fl_get hk hi t ht
    obtain ⟨u, hu⟩ : ∃ u, (f x)[t]? = some u := ⟨_, List.getElem?_eq_getElem (by rw [hk]; exact ht)⟩
    rw [hu] at hg ⊢
    rw [cell_blk h6, ← Array.getElem?_toList]
    rw [← h10, List.getElem?_take] at hg
    split at hg
    · exact hg
    · cases hg
/-- What is read, and what is still to be read. -/
def rowJ {α : Type} (z : α) (l : List α) (j : Nat) : List α := l.take j ++ List.replicate (l.length - j) z
theorem rowJ_at {α : Type} {z : α} {l : List α} {j : Nat} (h : j < l.length) : (rowJ z l j)[j]? = some z := by
  unfold rowJ
  rw [List.getElem?_append_right (by rw [List.length_take]; omega), List.length_take, Nat.min_eq_left (by omega), Nat.sub_self, List.getElem?_replicate, if_pos (by omega)]
theorem rowJ_next {α : Type} {z : α} {l : List α} {j : Nat} {x : α} (h : l[j]? = some x) : (rowJ z l j).set j x = rowJ z l (j + 1) := by
  have hl : j < l.length := (List.getElem?_eq_some_iff.1 h).1
  unfold rowJ
  rw [List.set_append_right _ _ (by rw [List.length_take]; omega), List.length_take, Nat.min_eq_left (by omega), Nat.sub_self, show l.length - j = (l.length - (j + 1)) + 1 by omega, List.replicate_succ, List.set_cons_zero, List.take_add_one, h]
  simp
theorem rowJ_len {α : Type} (z : α) (l : List α) {j : Nat} (h : j ≤ l.length) : (rowJ z l j).length = l.length := by
  unfold rowJ
  rw [List.length_append, List.length_take, List.length_replicate]
  omega
theorem rowJ_zero {α : Type} (z : α) (l : List α) : rowJ z l 0 = List.replicate l.length z := by unfold rowJ; simp
theorem rowJ_all {α : Type} (z : α) (l : List α) : rowJ z l l.length = l := by unfold rowJ; simp
end Go.Proofs.Ytcophbkgighepaa
