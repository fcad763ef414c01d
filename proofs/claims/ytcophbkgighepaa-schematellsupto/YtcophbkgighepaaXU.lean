/- Contract of wire.Uint: a number's bytes, in new memory; nothing below 0. -/
import Derived.Test.YtcophbkgighepaaXA
import Derived.Test.YtcophbkgighepaaBS
import Derived.Deep.OwnRows
import Derived.Outline
namespace Go.Proofs.Ytcophbkgighepaa
open Go.RowKit

theorem hid_ofW {p : Prop} (h : p) : Hid p := h
/-- One byte of a number that has c groups; its bytes. -/
def dig (n c i : Nat) : Nat := n / 128 ^ (c - 1 - i) % 128 + 128
def encW (n : Nat) : List Nat := (List.range (grp n - 1)).map (dig n (grp n)) ++ [n % 128]
def updW (n c k : Nat) : List Nat := (List.range c).map fun i => if i < k then dig n c i else 0
theorem dig_lt (n c i : Nat) : dig n c i < 256 := by unfold dig; omega
theorem enc_length (n : Nat) (h : 1 ≤ grp n) : (encW n).length = grp n := by simp [encW]; omega
theorem enc_byte (n : Nat) : ∀ x ∈ encW n, x < 256 := by
  intro x hx
  simp only [encW, List.mem_append, List.mem_map] at hx
  rcases hx with ⟨i, _, rfl⟩ | hx
  · exact dig_lt _ _ _
  · simp at hx; omega
theorem updW_set (n c k : Nat) (hk : k < c) : (updW n c k).set k (dig n c k) = updW n c (k + 1) := by
  apply List.ext_getElem?
  intro i
  simp only [updW, List.getElem?_set, List.getElem?_map, List.length_map, List.length_range]
  by_cases hi : k = i
  · subst hi
    simp [hk]
  · rw [if_neg hi]
    by_cases hc : i < c
    · rw [List.getElem?_range hc]
      simp only [Option.map_some]
      congr 1
      by_cases h1 : i < k
      · rw [if_pos h1, if_pos (by omega)]
      · rw [if_neg h1, if_neg (by omega)]
    · rw [List.getElem?_eq_none (by simp; omega)]; rfl
theorem updW_last (n c : Nat) (hc : 1 ≤ c) : (updW n c c).set (c - 1) (n % 128) = (List.range (c - 1)).map (dig n c) ++ [n % 128] := by
  apply List.ext_getElem?
  intro i
  simp only [updW, List.getElem?_set, List.getElem?_map, List.length_map, List.length_range, List.getElem?_append]
  by_cases hi : c - 1 = i
  · subst hi
    simp; omega
  · rw [if_neg hi]
    by_cases h1 : i < c - 1
    · rw [if_pos h1, List.getElem?_range h1, List.getElem?_range (show i < c by omega)]
      simp; omega
    · rw [if_neg h1, List.getElem?_eq_none (by simp; omega), List.getElem?_eq_none (by simp; omega)]
      rfl

/-- A new row of bytes in block g, while it is filled. -/
structure Row (w wr : World) (g : Nat) (ys : List Nat) : Prop where
  below : Below w.heap.size w wr
  new : w.heap.size ≤ g
  blk : wr.heap[g]? = some (.cells (cellsOf ys).toArray 5 (0, 0))
theorem Row.cell {w wr : World} {g : Nat} {ys : List Nat} (h : Row w wr g ys) (j : Nat) (hj : j < ys.length) : wr.cell? ⟨g, j, none⟩ = some (.int .u8 (ys.getD j 0 : Nat)) := by
  rw [cell_of_row _ _ _ _ _ _ h.blk, List.getElem?_toArray, cellsOf_get ys j hj]
theorem Row.frozen {w wr : World} {g : Nat} {ys : List Nat} (h : Row w wr g ys) (j : Nat) : wr.frozen? ⟨g, j, none⟩ = false := frozen_of_row _ _ _ _ _ h.blk
theorem Row.set {w wr : World} {g : Nat} {ys : List Nat} (h : Row w wr g ys) (j n : Nat) : Row w (wr.setCell ⟨g, j, none⟩ (.int .u8 n)) g (ys.set j n) := by
  refine ⟨h.below.setCell h.new _, h.new, ?_⟩
  rw [heap_setCell_same _ _ _ _ _ _ h.blk]
  congr 2
  simp [cellsOf, List.map_set]
theorem Row.hid {w wr : World} {g : Nat} {ys : List Nat} (h : Row w wr g ys) : Hid (Row w wr g ys) := h
theorem Row.made (w : World) (c : Nat) (ys : List Nat) (h : ys = List.replicate c 0) : Row w (w.alloc (.cells (madeCells #[.int .u8 0] c) 5)) w.heap.size ys := by
  refine ⟨(Below.refl _ _).alloc (Nat.le_refl _) _, Nat.le_refl _, ?_⟩
  rw [heap_alloc_new]
  congr 2
  apply Array.ext'
  rw [toList_madeCells_one, h]
  simp [cellsOf]
theorem updW_zero (n c : Nat) : updW n c 0 = List.replicate c 0 := by
  apply List.ext_getElem?
  intro i
  simp only [updW, List.getElem?_map, List.getElem?_replicate]
  by_cases h : i < c
  · rw [List.getElem?_range h, if_pos h]; simp
  · rw [List.getElem?_eq_none (by simp; omega), if_neg h]; rfl
theorem updW_at (n c k : Nat) (hk : k < c) : (updW n c c).getD k 0 = dig n c k := by
  simp [updW, List.getD_eq_getElem?_getD, hk]
theorem dig_bits (n c k : Nat) (h : n < 9223372036854775808) : bits .or .i64 (bits .and .i64 ((n : Int) / 2 ^ (7 * (c - 1 - k))) 127) 128 % 256 = ((dig n c k : Nat) : Int) := by
  have e1 : (n : Int) / 2 ^ (7 * (c - 1 - k)) = ((n / 128 ^ (c - 1 - k) : Nat) : Int) := by
    rw [← pow128]; simp
  have hle : n / 128 ^ (c - 1 - k) ≤ n := Nat.div_le_self _ _
  have e2 := i64_and_nat (n / 128 ^ (c - 1 - k)) 127 (by omega) (by decide)
  rw [nat_mask7] at e2
  have e3 := i64_or_nat (n / 128 ^ (c - 1 - k) % 128) 128 (by omega) (by decide)
  have e4 : n / 128 ^ (c - 1 - k) % 128 ||| 128 = 128 + n / 128 ^ (c - 1 - k) % 128 := by
    rw [Nat.or_comm]; exact nat_join 7 128 _ (by decide) (by omega)
  rw [e1, show (127 : Int) = ((127 : Nat) : Int) from rfl, e2, show (128 : Int) = ((128 : Nat) : Int) from rfl, e3, e4]
  unfold dig
  omega
theorem dig_mask (n c : Nat) : bits .and .u8 ((dig n c (c - 1) : Nat) : Int) 127 = ((n % 128 : Nat) : Int) := by
  have e := u8_and_nat (dig n c (c - 1)) 127 (dig_lt _ _ _) (by decide)
  rw [nat_mask7] at e
  have e2 : dig n c (c - 1) % 128 = n % 128 := by
    unfold dig
    rw [Nat.sub_self, Nat.pow_zero, Nat.div_one]; omega
  rw [e2] at e
  exact e
theorem Row.bs {w wr : World} {g : Nat} {ys : List Nat} (h : Row w wr g ys) (k : Nat) (hk : ys.length = k) (hr : k ≤ 140737488355328) (hb : ∀ n ∈ ys, n < 256) : BS wr (some ⟨g, 0, none⟩) k k ys :=
  BS.of hk (Nat.le_refl _) hr (by omega) hb (fun i hi => by rw [Nat.zero_add]; exact h.cell i (by omega))

set_option maxRecDepth 100000 in
set_option maxHeartbeats 1000000 in
theorem uint_neg (n : Int) (w : World) (h : n < 0) :
    Calls Try.prog 37 #[.int .i64 n] w fun e w' => e = .returned (.slice none 0 0) ∧ w' = w := by
  go_enter Try.func37, Try.ntmps37
  go_wp2
  go_ret
  exact ⟨rfl, rfl⟩

set_option maxRecDepth 100000 in
set_option maxHeartbeats 1000000 in
theorem uint_any (n : Nat) (w : World) (h : n < 9223372036854775808) :
    Calls Try.prog 37 #[.int .i64 n] w fun e w' =>
      ∃ g, e = .returned (.slice (some ⟨g, 0, none⟩) (grp n) (grp n)) ∧ Row w w' g (encW n) := by
  obtain ⟨g1, g2, g3, g4, g5⟩ := grp_spec n h
  have HG := groups_any n w h
  have HE : Hid (encW n = (List.range (grp n - 1)).map (dig n (grp n)) ++ [n % 128]) := rfl
  generalize grp n = c at *
  have HG : Hid (Calls Try.prog 63 #[.int .i64 n] w fun e w' => e = .returned (.int .i64 c) ∧ w' = w) := HG
  have hmk := run_make_row' (P := Try.prog) 42 5 (.int .u8 0) 1 Try.underlying42 info5 rfl .i64 .i64 c (by omega) (by omega)
  clear g3 g4 g5
  have h0 : ¬ (n : Int) < 0 := by omega
  go_enter Try.func37, Try.ntmps37
  go_wp2_with fail
  refine HG.out.mono ?_
  rintro e w' ⟨rfl, hw⟩
  have hw := hw.symm
  subst hw
  go_wp2_with fail
  have hR := Row.made w c (updW n c 0) (updW_zero n c)
  generalize w.alloc (.cells (madeCells #[.int .u8 0] c) 5) = w1 at *
  generalize hgg : w.heap.size = g at *
  go_loopw [14] (fun i wr => ∃ k : Nat, k ≤ c ∧ i = .int .i64 k ∧ Row w wr g (updW n c k)) (fun i _ => c - (intOf i).toNat)
  case atStart => exact ⟨0, by omega, rfl, hR⟩
  case round =>
    clear hR
    obtain ⟨k, hk, rfl, hR⟩ := hrel
    have HR := hR.hid
    clear hR
    by_cases hlt : k < c
    · have hcc := HR.out.cell k (by simpa [updW] using hlt)
      have hff := HR.out.frozen k
      have HD := hid_ofW (dig_bits n c k h)
      have HS : Hid (Row w (wr.setCell ⟨g, k, none⟩ (.int .u8 (dig n c k : Nat))) g (updW n c (k + 1))) := by rw [← updW_set n c k hlt]; exact HR.out.set k (dig n c k)
      go_wp2
      go_roundw
      case rel => exact ⟨k + 1, by omega, by go_num, by rw [HD.out]; exact HS.out⟩
      case measure => simp [intOf]; omega
    · obtain rfl : k = c := by omega
      have hcc := HR.out.cell (k - 1) (by simp [updW]; omega)
      rw [updW_at n k (k - 1) (by omega)] at hcc
      have hff := HR.out.frozen (k - 1)
      have hm := dig_mask n k
      generalize dig n k (k - 1) = d at *
      have HS : Hid (Row w (wr.setCell ⟨g, k - 1, none⟩ (.int .u8 (n % 128 : Nat))) g (encW n)) := by rw [HE.out, ← updW_last n k g1]; exact HR.out.set (k - 1) (n % 128)
      go_wp2
      go_ret
      exact ⟨g, rfl, by have e := HS.out; rw [Int.natCast_emod] at e; exact e⟩
end Go.Proofs.Ytcophbkgighepaa
namespace Go.Proofs.Ytcophbkgighepaa

/-- The last bytes of a number: one and j more. -/
def rsf (n : Nat) : Nat → List Nat
  | 0 => [n % 128]
  | j + 1 => (n / 128 ^ (j + 1) % 128 + 128) :: rsf n j
theorem rsf_eq (n : Nat) : ∀ j, rsf n j = (List.range j).map (fun i => n / 128 ^ (j - i) % 128 + 128) ++ [n % 128]
  | 0 => by simp [rsf]
  | j + 1 => by
    rw [rsf, rsf_eq n j, List.range_succ_eq_map]
    simp only [List.map_cons, List.map_map, List.cons_append, Nat.sub_zero]
    congr 2
    apply List.map_congr_left
    intro i _
    simp [Function.comp]
theorem rsf_enc (n : Nat) : rsf n (grp n - 1) = encW n := by
  rw [rsf_eq]; rfl
theorem rsf_length (n j : Nat) : (rsf n j).length = j + 1 := by
  induction j with
  | zero => rfl
  | succ j ih => simp [rsf, ih]
theorem rsf_byte (n j : Nat) : ∀ x ∈ rsf n j, x < 256 := by
  induction j with
  | zero => intro x hx; simp [rsf] at hx; omega
  | succ j ih =>
    intro x hx
    simp only [rsf, List.mem_cons] at hx
    rcases hx with rfl | hx
    · omega
    · exact ih x hx
theorem rsf_end (n j : Nat) (h : n < 9223372036854775808) (h0 : n / 128 ^ (j + 1) = 0) (h1 : j = 0 ∨ 0 < n / 128 ^ j) : j = grp n - 1 := by
  obtain ⟨g1, g2, g3, g4, g5⟩ := grp_spec n h
  have hlt : n < 128 ^ (j + 1) := by
    rcases Nat.lt_or_ge n (128 ^ (j + 1)) with z | z
    · exact z
    · have := Nat.div_pos z (Nat.pow_pos (by decide)); omega
  rcases Nat.lt_trichotomy j (grp n - 1) with z | z | z
  · exfalso
    have hn : n ≠ 0 := fun h => by have := g5 h; omega
    have := g4 hn
    have hp : 128 ^ (j + 1) ≤ 128 ^ (grp n - 1) := Nat.pow_le_pow_right (by decide) (by omega)
    omega
  · exact z
  · exfalso
    have hj : 0 < n / 128 ^ j := by rcases h1 with z2 | z2; omega; exact z2
    have hp : 128 ^ grp n ≤ 128 ^ j := Nat.pow_le_pow_right (by decide) (by omega)
    rw [Nat.div_eq_of_lt (by omega)] at hj
    omega

end Go.Proofs.Ytcophbkgighepaa
