/- Contract of the document's own full: a block's bytes, with bytes 0 behind them. -/
import Derived.Test.YtnapapgmeghgjaaP0
set_option linter.unusedVariables false
namespace Go.Proofs.Ytnapapgmeghgjaa
open Go.RowKit

/-- The first i bytes are laid. -/
def fl (xs : List Nat) (N i : Nat) : List Nat := xs.take i ++ zs (N - i)
theorem fl_len {xs : List Nat} {N i : Nat} (h : i ≤ xs.length) (hN : i ≤ N) : (fl xs N i).length = N := by
  rw [fl, List.length_append, List.length_take, zs_len]
  omega
theorem fl_next {xs : List Nat} {N i : Nat} (h : i < xs.length) (hN : i < N) : (cellsOf (fl xs N i)).set i (.int .u8 (xs.getD i 0 : Nat)) = cellsOf (fl xs N (i + 1)) := by
  unfold fl
  rw [cellsOf_append, cellsOf_append, List.set_append_right _ _ (by rw [cellsOf_length, List.length_take]; omega), cellsOf_length, List.length_take, Nat.min_eq_left (by omega), Nat.sub_self]
  obtain ⟨d, hd⟩ : ∃ d, N - i = d + 1 := ⟨N - i - 1, by omega⟩
  have e1 : xs.take (i + 1) = xs.take i ++ [xs.getD i 0] := by
    rw [List.take_add_one]
    simp [List.getD, h]
  rw [e1, hd, show N - (i + 1) = d by omega, cellsOf_append, List.append_assoc]
  congr 1
theorem fl_end (xs : List Nat) : fl xs blk xs.length = pad xs := by
  unfold fl pad
  rw [List.take_length]

set_option maxRecDepth 100000 in
set_option maxHeartbeats 1000000 in
theorem full_any (a : Option Addr) (len cap : Nat) (xs : List Nat) (w : World) (h : BS w a len cap xs) (hl : len ≤ blk) :
    Calls Try.prog 36 #[.slice a len cap] w fun e w' => e = .returned (.slice (some ⟨w.heap.size, 0, none⟩) blk blk) ∧ w'.ownsRow w.heap.size 5 1 (.slice (some ⟨w.heap.size, 0, none⟩) blk blk) blk (cellsOf (pad xs)) ∧ Below w.heap.size w w' := by
  obtain ⟨i0, hi, hz0, hz1, hz2⟩ := info_parts info5
  have H := hide h
  have HL := hide h.hlen
  have HM := hide (made_bytes blk)
  have HPL := hide (pad_len (xs := xs) (by rw [h.hlen]; exact hl))
  have HFE := hide (fl_end xs)
  have hroom := h.hroom
  have hcap := h.hcap
  have HB8 : Hid (blk = 8192) := rfl
  have HB9 : Hid (((blk : Nat) : Int) = 8192) := rfl
  have hN : blk ≤ 8192 := Nat.le_refl _
  generalize blk = N at *
  clear h
  go_enter Try.func36, Try.ntmps36
  go_wp2_with (refine wpList_make_full w rfl _ _ 29 rfl w.heap.size 5 i0 (.int .u8 0) 1 Try.underlying29 hi hz0 hz1 .i64 .i64 8192 8192 N rfl rfl (HB9.out.symm) (HB9.out.symm) (by rw [hz2, HB8.out]; decide) (by rw [HB8.out]; unfold maxLen; omega) (Nat.le_refl _) ?_; intro w1 ho1 hg1; rw [HM.out] at ho1; have HO1 := hide ho1; have HG1 := hide ((Below.refl w.heap.size w).grown hg1 (Nat.le_refl _) (fun k hk => by cases hk)); clear ho1 hg1)
  go_loopw [4] (fun i wr => ∃ k : Nat, k ≤ len ∧ i = .int .i64 k ∧ wr.heap[w.heap.size]? = some (.cells (cellsOf (fl xs N k)).toArray 5 (0, 0)) ∧ Below w.heap.size w wr) (fun i _ => len - (intOf i).toNat)
  case atStart =>
    refine ⟨0, by omega, rfl, ?_, HG1.out⟩
    have := (own_whole HO1.out).1
    simpa [fl] using this
  case round =>
    obtain ⟨k, hk, rfl, hr, hbw⟩ := hrel
    have HR := hide hr
    have HB := hide hbw
    clear hr hbw
    by_cases hlt : k < len
    · have hkx : k < xs.length := by rw [HL.out]; exact hlt
      obtain ⟨b, o, rfl, hbl, hc⟩ := H.out.place (by omega)
      have ck := (HB.out.cell (p := ⟨b, o + k, none⟩) hbl).trans (hc k hlt)
      have HN := hide (fl_next (N := N) hkx (by omega))
      obtain ⟨x, HX⟩ : ∃ x, Hid (xs.getD k 0 = x) := ⟨_, rfl⟩
      rw [HX.out] at ck HN
      have hkN : (k : Int) < (N : Int) := by omega
      have k0 : (0 : Int) ≤ (k : Int) := by omega
      have FL := hide (fl_len (N := N) (Nat.le_of_lt hkx) (by omega))
      have ce : ∃ y, wr.cell? ⟨w.heap.size, k, none⟩ = some y := by
        rw [cell_blk HR.out]
        exact ⟨_, by simpa using List.getElem?_eq_getElem (by rw [cellsOf_length, FL.out]; omega)⟩
      obtain ⟨y, hy⟩ := ce
      have fz : wr.frozen? ⟨w.heap.size, k, none⟩ = false := frz_blk HR.out
      have HW2 : Hid ((wr.setCell ⟨w.heap.size, k, none⟩ (.int .u8 (x : Int))).heap[w.heap.size]? = some (.cells (cellsOf (fl xs N (k + 1))).toArray 5 (0, 0))) := by
        show _ = _
        rw [heap_setCell_same wr w.heap.size k _ _ _ HR.out, List.setIfInBounds_toArray, HN.out]
      have HB2 := hide (HB.out.setCell (p := ⟨w.heap.size, k, none⟩) (Nat.le_refl _) (.int .u8 (x : Int)))
      clear hc
      go_wp2
      go_roundw
      case rel => exact ⟨k + 1, by omega, by go_num, HW2.out, HB2.out⟩
      case measure => simp [intOf]; omega
    · have e : k = xs.length := by rw [HL.out]; omega
      have HE : Hid (fl xs N k = pad xs) := by show _ = _; rw [e]; exact HFE.out
      rw [HE.out] at HR
      clear e
      go_wp2
      go_ret
      refine ⟨rfl, whole_own HR.out (Nat.le_refl _) HPL.out (by rw [HB8.out]; unfold maxLen; omega), HB.out⟩
end Go.Proofs.Ytnapapgmeghgjaa
