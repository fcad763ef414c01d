/- Contract of disk.turned: a bit of some bytes, turned. -/
import Derived.Test.YtnapapgmeghgjaaP0
import Derived.Laws.BitsAllLaws
set_option linter.unusedVariables false
namespace Go.Proofs.Ytnapapgmeghgjaa
open Go.RowKit

/-- Bytes with bytes 0 behind them up to a length. -/
def padTo (n : Nat) (xs : List Nat) : List Nat := xs ++ zs (n - xs.length)
def turnN (xs : List Nat) (bit : Nat) : Nat := max xs.length (bit / 8 + 1)
def turnL (xs : List Nat) (bit : Nat) : List Nat := (padTo (turnN xs bit) xs).set (bit / 8) ((padTo (turnN xs bit) xs).getD (bit / 8) 0 ^^^ 2 ^ (bit % 8))

theorem wrap_u8_nat (n : Nat) (h : n < 256) : IntKind.u8.wrap ((n : Nat) : Int) = ((n : Nat) : Int) := by
  rw [IntKind.wrap_u8]
  omega
set_option maxRecDepth 100000 in
set_option maxHeartbeats 1000000 in
theorem turned_any (a : Option Addr) (len cap : Nat) (xs : List Nat) (bit : Nat) (w : World) (h : BS w a len cap xs) (hl : len ≤ blk) (hb : bit < 65536) :
    Calls Try.prog 40 #[.slice a len cap, .int .i64 bit] w fun e w' => e = .returned (.slice (some ⟨w.heap.size, 0, none⟩) (turnN xs bit) (turnN xs bit)) ∧ w'.ownsRow w.heap.size 5 1 (.slice (some ⟨w.heap.size, 0, none⟩) (turnN xs bit) (turnN xs bit)) (turnN xs bit) (cellsOf (turnL xs bit)) ∧ Below w.heap.size w w' := by
  obtain ⟨i0, hi, hz0, hz1, hz2⟩ := info_parts info5
  have H := hide h
  have hlx := h.hlen
  obtain ⟨N, hN⟩ : ∃ N, N = turnN xs bit := ⟨_, rfl⟩
  have hN2 : N = max len (bit / 8 + 1) := by rw [hN, turnN, hlx]
  obtain ⟨b8, hb8⟩ : ∃ b8, b8 = bit / 8 := ⟨_, rfl⟩
  obtain ⟨r8, hr8⟩ : ∃ r8, r8 = bit % 8 := ⟨_, rfl⟩
  have r88 : r8 < 8 := by omega
  have d8 : (bit : Int) / 8 = (b8 : Int) := by omega
  have m8 : (bit : Int) % 8 = (r8 : Int) := by omega
  have mx : (if (len : Int) < (b8 : Int) + 1 then (b8 : Int) + 1 else (len : Int)) = (N : Int) := by split <;> omega
  have wb : IntKind.i64.wrap (b8 : Int) = (b8 : Int) := by rw [IntKind.wrap_i64]; omega
  have wr8 : IntKind.i64.wrap (r8 : Int) = (r8 : Int) := by rw [IntKind.wrap_i64]; omega
  have hT : Hid (turnL xs bit = (padTo N xs).set b8 ((padTo N xs).getD b8 0 ^^^ 2 ^ r8)) := by show _ = _; rw [turnL, ← hN, hb8, hr8]
  have hbN : b8 < N := by omega
  have n8 : N ≤ 8192 := by unfold blk at hl; omega
  have hle : len ≤ N := by omega
  have HM := hide (made_bytes N)
  have HL := hide hlx
  have HSP : Hid (splice (cellsOf (zs N)) 0 (cellsOf xs) = cellsOf (padTo N xs)) := by
    show _ = _
    rw [splice, List.take_zero, List.nil_append, cellsOf_length, cellsOf_drop, zs_drop, Nat.zero_add, padTo, cellsOf_append]
  have HPL : Hid ((padTo N xs).length = N) := by show _ = _; rw [padTo, List.length_append, zs_len, hlx]; omega
  have HPB : Hid (∀ c ∈ padTo N xs, c < 256) := by
    intro c hc
    simp only [padTo, List.mem_append] at hc
    exact hc.elim (H.out.hbyte c) (zs_lt _ c)
  rw [← hN, hT.out]
  clear h hN hN2 hb8 hr8
  go_enter Try.func40, Try.ntmps40
  go_wp2_with (first
    | (refine wpList_make_full w rfl _ _ 29 rfl w.heap.size 5 i0 (.int .u8 0) 1 Try.underlying29 hi hz0 hz1 .i64 .i64 (N : Int) (N : Int) N rfl rfl rfl rfl (by rw [hz2]; omega) (by unfold maxLen; omega) (Nat.le_refl _) ?_; intro w1 ho1 hg1; rw [HM.out] at ho1; have HO1 := hide ho1; have HG1 := hide ((Below.refl w.heap.size w).grown hg1 (Nat.le_refl _) (fun k hk => by cases hk)); clear ho1 hg1)
    | (refine wpList_copy_splice rfl (.tmp 13) (.tmp 14) 29 29 rfl 5 Try.underlying29 (by rw [hi]; simp [hz1]) _ _ N N len cap rfl rfl w.heap.size 0 (cellsOf (zs N)) 5 (own_whole HO1.out).1 (cellsOf xs) (by rw [cellsOf_length, HL.out]; exact (Nat.min_eq_left hle).symm) (fun h => ⟨rfl, bs_src (H.out.later HG1.out (Nat.le_refl _)) h⟩) (by rw [cellsOf_length, cellsOf_length, zs_len, HL.out]; omega) (cellsOf_one xs) w.heap.size w HG1.out (Nat.le_refl _) ?_; intro w2 HR2 hb2; rw [HSP.out] at HR2; have HB2 := hide hb2; clear hb2))
  have hp8 : b8 < (padTo N xs).length := by rw [HPL.out]; omega
  have hcv : (padTo N xs).getD b8 0 < 256 := byteAt HPB.out _
  obtain ⟨cv, hcve⟩ : ∃ cv, cv = (padTo N xs).getD b8 0 := ⟨_, rfl⟩
  rw [← hcve] at hcv
  have c1 : w2.drew.cell? ⟨w.heap.size, b8, none⟩ = some (.int .u8 (cv : Nat)) := by
    show w2.cell? _ = _
    rw [cell_blk HR2.out, hcve]
    simpa using cellsOf_get _ _ hp8
  have f1 : w2.drew.frozen? ⟨w.heap.size, b8, none⟩ = false := frz_blk (w := w2) HR2.out
  have pw : 2 ^ r8 < 256 := Nat.lt_of_lt_of_le (Nat.pow_lt_pow_right (by omega) r88) (by decide)
  have hx : bits BinOp.xor IntKind.u8 (cv : Int) ((2 ^ r8 : Nat) : Int) = ((cv ^^^ 2 ^ r8 : Nat) : Int) := u8_xor_nat _ _ hcv pw
  have q0 : (0 : Int) ≤ (b8 : Int) := by omega
  have q1 : (b8 : Int) < (N : Int) := by omega
  have q2 : (0 : Int) ≤ (r8 : Int) := by omega
  have tm : ((bit : Int).tmod 8) = (r8 : Int) := by rw [Int.tmod_eq_emod_of_nonneg (by omega)]; exact m8
  have mn : min r8 8 = r8 := by omega
  have uw : IntKind.u8.wrap ((2 : Int) ^ r8) = ((2 ^ r8 : Nat) : Int) := by
    have e : ((2 : Int) ^ r8) = ((2 ^ r8 : Nat) : Int) := by simp
    rw [e]
    exact wrap_u8_nat _ pw
  have HCV := hide hcve
  have HHX := hide hx
  clear hcve hp8 hx
  generalize hP : 2 ^ r8 = P8 at *
  have HP := hide hP
  clear hP
  have hx := HHX.out
  go_wp2_with fail
  refine wp_region_noPanic ?_
  refine wp_region_held_drew (S := fun wx => True) (by kernel_rfl) trivial (fun hHeld => ?_)
  refine wpAnyH_takeAt (i := 0) (d := 16) (v := ?vt0) (by kernel_rfl) (by kernel_rfl) (by kernel_rfl) (by kernel_rfl) (fun _ _ _ h => h) ?hyt0 (by assumption) ?restt0
  case hyt0 =>
    intro oi ho
    simp only [List.getElem?_toArray, List.getElem?_cons_zero, Option.some.injEq] at ho
    subst ho
    refine Or.inl ⟨by rfl, ?_⟩
    intro wx hSw
    try dsimp only at hSw
    go_simp
    try rfl
  try simp only [Act.put, List.setIfInBounds_toArray, List.set_cons_zero, List.set_cons_succ]
  refine wpAnyH_takeAt (i := 1) (d := 17) (v := ?vt1) (by kernel_rfl) (by kernel_rfl) (by kernel_rfl) (by kernel_rfl) (fun _ _ _ h => h) ?hyt1 (by assumption) ?restt1
  case hyt1 =>
    intro oi ho
    simp only [List.getElem?_toArray, List.getElem?_cons_succ, List.getElem?_cons_zero, Option.some.injEq] at ho
    subst ho
    refine Or.inl ⟨by rfl, ?_⟩
    intro wx hSw
    try dsimp only at hSw
    go_simp
    try rfl
  try simp only [Act.put, List.setIfInBounds_toArray, List.set_cons_zero, List.set_cons_succ]
  refine wpAnyH_takeAt (i := 2) (d := 18) (v := ?vt2) (by kernel_rfl) (by kernel_rfl) (by kernel_rfl) (by kernel_rfl) (fun _ _ _ h => h) ?hyt2 (by assumption) ?restt2
  case hyt2 =>
    intro oi ho
    simp only [List.getElem?_toArray, List.getElem?_cons_succ, List.getElem?_cons_zero, Option.some.injEq] at ho
    subst ho
    refine Or.inl ⟨by rfl, ?_⟩
    intro wx hSw
    try dsimp only at hSw
    go_simp
    try rfl
  try simp only [Act.put, List.setIfInBounds_toArray, List.set_cons_zero, List.set_cons_succ]
  refine wpAnyH_takeAt (i := 3) (d := 19) (v := ?vt3) (by kernel_rfl) (by kernel_rfl) (by kernel_rfl) (by kernel_rfl) (fun _ _ _ h => h) ?hyt3 (by assumption) ?restt3
  case hyt3 =>
    intro oi ho
    simp only [List.getElem?_toArray, List.getElem?_cons_succ, List.getElem?_cons_zero, Option.some.injEq] at ho
    subst ho
    refine Or.inl ⟨by rfl, ?_⟩
    intro wx hSw
    try dsimp only at hSw
    go_simp
    try rfl
  try simp only [Act.put, List.setIfInBounds_toArray, List.set_cons_zero, List.set_cons_succ]
  refine wpAnyH_takeAt (i := 5) (d := 21) (v := ?vt5) (by kernel_rfl) (by kernel_rfl) (by kernel_rfl) (by kernel_rfl) (fun _ _ _ h => h) ?hyt5 (by assumption) ?restt5
  case hyt5 =>
    intro oi ho
    simp only [List.getElem?_toArray, List.getElem?_cons_succ, List.getElem?_cons_zero, Option.some.injEq] at ho
    subst ho
    refine Or.inl ⟨by rfl, ?_⟩
    intro wx hSw
    try dsimp only at hSw
    go_simp
    try rfl
  try simp only [Act.put, List.setIfInBounds_toArray, List.set_cons_zero, List.set_cons_succ]
  refine wpAnyH_takeAt (i := 6) (d := 22) (v := ?vt6) (by kernel_rfl) (by kernel_rfl) (by kernel_rfl) (by kernel_rfl) (fun _ _ _ h => h) ?hyt6 (by assumption) ?restt6
  case hyt6 =>
    intro oi ho
    simp only [List.getElem?_toArray, List.getElem?_cons_succ, List.getElem?_cons_zero, Option.some.injEq] at ho
    subst ho
    refine Or.inl ⟨by rfl, ?_⟩
    intro wx hSw
    try dsimp only at hSw
    go_simp
    try rfl
  try simp only [Act.put, List.setIfInBounds_toArray, List.set_cons_zero, List.set_cons_succ]
  refine wpAnyH_takeAt (i := 7) (d := 23) (v := ?vt7) (by kernel_rfl) (by kernel_rfl) (by kernel_rfl) (by kernel_rfl) (fun _ _ _ h => h) ?hyt7 (by assumption) ?restt7
  case hyt7 =>
    intro oi ho
    simp only [List.getElem?_toArray, List.getElem?_cons_succ, List.getElem?_cons_zero, Option.some.injEq] at ho
    subst ho
    refine Or.inl ⟨by rfl, ?_⟩
    intro wx hSw
    try dsimp only at hSw
    go_simp
    try rfl
  try simp only [Act.put, List.setIfInBounds_toArray, List.set_cons_zero, List.set_cons_succ]
  refine wpAnyH_comesAt (i := 4) (by kernel_rfl) (by kernel_rfl) ?_
  intro o ho K hK
  simp only [List.getElem?_toArray, List.getElem?_cons_succ, List.getElem?_cons_zero, Option.some.injEq] at ho
  subst ho
  go_simp
  clear hHeld
  refine hK.out _ _ trivial (fun hHeld => ?_)
  clear hK K
  try simp only [Act.put, List.setIfInBounds_toArray, List.set_cons_zero, List.set_cons_succ]
  refine wpAnyH_takeAt (i := 8) (d := 24) (v := ?vt8) (by kernel_rfl) (by kernel_rfl) (by kernel_rfl) (by kernel_rfl) (fun _ _ _ h => h) ?hyt8 (by assumption) ?restt8
  case hyt8 =>
    intro oi ho
    simp only [List.getElem?_toArray, List.getElem?_cons_succ, List.getElem?_cons_zero, Option.some.injEq] at ho
    subst ho
    refine Or.inl ⟨by rfl, ?_⟩
    intro wx hSw
    try dsimp only at hSw
    go_simp
    try rfl
  try simp only [Act.put, List.setIfInBounds_toArray, List.set_cons_zero, List.set_cons_succ]
  refine wpAnyH_takeAt (i := 9) (d := 25) (v := ?vt9) (by kernel_rfl) (by kernel_rfl) (by kernel_rfl) (by kernel_rfl) (fun _ _ _ h => h) ?hyt9 (by assumption) ?restt9
  case hyt9 =>
    intro oi ho
    simp only [List.getElem?_toArray, List.getElem?_cons_succ, List.getElem?_cons_zero, Option.some.injEq] at ho
    subst ho
    refine Or.inl ⟨by rfl, ?_⟩
    intro wx hSw
    try dsimp only at hSw
    go_simp
    try rfl
  try simp only [Act.put, List.setIfInBounds_toArray, List.set_cons_zero, List.set_cons_succ]
  refine wpAnyH_comesAt (i := 10) (by kernel_rfl) (by kernel_rfl) ?_
  intro o ho K hK
  simp only [List.getElem?_toArray, List.getElem?_cons_succ, List.getElem?_cons_zero, Option.some.injEq] at ho
  subst ho
  go_simp
  clear hHeld
  refine hK.out _ _ trivial (fun hHeld => ?_)
  clear hK K
  try simp only [Act.put, List.setIfInBounds_toArray, List.set_cons_zero, List.set_cons_succ]
  refine wpAnyH_done (by kernel_rfl) ?_ _
  refine NoPanic.normal ?_
  go_wp2
  go_ret
  have hf := heap_setCell_same w2.drew w.heap.size b8 _ _ (.int .u8 ((cv ^^^ P8 : Nat) : Int)) (show w2.drew.heap[w.heap.size]? = _ from HR2.out)
  have e9 : ((cellsOf (padTo N xs)).toArray.setIfInBounds b8 (.int .u8 ((cv ^^^ P8 : Nat) : Int))) = (cellsOf ((padTo N xs).set b8 (cv ^^^ P8))).toArray := by
    apply Array.toList_inj.1
    rw [Array.toList_setIfInBounds]
    simp [cellsOf, List.map_set]
  rw [e9] at hf
  rw [← HCV.out, HP.out]
  exact ⟨rfl, whole_own hf (Nat.le_refl _) (by rw [List.length_set, HPL.out]) (by unfold maxLen; omega), HB2.out.drew.setCell (Nat.le_refl _) _⟩
end Go.Proofs.Ytnapapgmeghgjaa
