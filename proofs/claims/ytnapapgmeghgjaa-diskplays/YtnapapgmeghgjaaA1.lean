/- Contracts of disk.whole, disk.laid, disk.keptBytes and bytes.Clone: bytes of a block. -/
import Derived.Test.YtnapapgmeghgjaaBS
set_option linter.unusedVariables false
namespace Go.Proofs.Ytnapapgmeghgjaa
open Go.RowKit

theorem hide {p : Prop} (h : p) : Hid p := h
/-- Bytes 0; a block's bytes with bytes 0 behind them. -/
def zs (n : Nat) : List Nat := List.replicate n 0
theorem zs_len (n : Nat) : (zs n).length = n := by simp [zs]
def blk : Nat := 8192
def pad (xs : List Nat) : List Nat := xs ++ zs (blk - xs.length)
theorem pad_len {xs : List Nat} (h : xs.length ≤ blk) : (pad xs).length = blk := by rw [pad, List.length_append, zs_len]; omega
theorem zs_lt (n : Nat) : ∀ c ∈ zs n, c < 256 := by
  intro c hc
  simp only [zs, List.mem_replicate] at hc
  omega
theorem pad_lt {xs : List Nat} (h : ∀ n ∈ xs, n < 256) : ∀ n ∈ pad xs, n < 256 := by
  intro n hn
  simp only [pad, List.mem_append] at hn
  exact hn.elim (h n) (zs_lt _ n)
theorem zs_drop (n k : Nat) : (zs n).drop k = zs (n - k) := by simp [zs]
theorem pad_getD (xs : List Nat) (i : Nat) : (pad xs).getD i 0 = xs.getD i 0 := by
  simp only [pad, List.getD_eq_getElem?_getD]
  rcases Nat.lt_or_ge i xs.length with h | h
  · rw [List.getElem?_append_left h]
  · rw [List.getElem?_append_right h, List.getElem?_eq_none (l := xs) h]
    simp only [zs, List.getElem?_replicate]
    split <;> rfl
theorem made_bytes (n : Nat) : (madeCells (Value.int .u8 0).cells (n * 1)).toList = cellsOf (zs n) := by
  have : (Value.int .u8 0).cells = #[.int .u8 0] := rfl
  rw [this, Nat.mul_one, toList_madeCells_one]
  simp [cellsOf, zs]
theorem cellsOf_drop (xs : List Nat) (k : Nat) : (cellsOf xs).drop k = cellsOf (xs.drop k) := by simp [cellsOf]
theorem cellsOf_take (xs : List Nat) (k : Nat) : (cellsOf xs).take k = cellsOf (xs.take k) := by simp [cellsOf]
theorem splice_pad (xs : List Nat) : splice (cellsOf (zs blk)) 0 (cellsOf xs) = cellsOf (pad xs) := by
  rw [splice, List.take_zero, List.nil_append, cellsOf_length, cellsOf_drop, zs_drop, Nat.zero_add, pad, cellsOf_append]

/-- A row of bytes of the call's own, as a slice that is read. -/
theorem bs_row {w : World} {B : Nat} {v : Value} {xs : List Nat} (h : w.ownsRow B 5 1 v xs.length (cellsOf xs)) (hr : xs.length ≤ 140737488355328) (hb : ∀ n ∈ xs, n < 256) : ∃ a cap, v = .slice a xs.length cap ∧ BS w a xs.length cap xs := by
  rcases h.2 with ⟨rfl, h0⟩ | ⟨g, cap, cur, rfl, _⟩
  · have e : xs = [] := List.eq_nil_of_length_eq_zero h0
    subst e
    exact ⟨none, 0, rfl, BS.none w none 0 (by omega) (fun _ => rfl)⟩
  · exact ⟨some ⟨g, 0, none⟩, cap, rfl, BS.ofOwns h hr hb⟩
theorem bs_take {w : World} {a : Option Addr} {len cap : Nat} {xs : List Nat} (h : BS w a len cap xs) (p : Nat) (hp : p ≤ len) : BS w a p cap (xs.take p) := by
  have h1 := h.hlen
  have h2 := h.hcap
  have h3 := h.hroom
  refine ⟨by rw [List.length_take]; omega, by omega, by omega, h.hmax, fun n hn => h.hbyte n (List.mem_of_mem_take hn), h.hnil, fun x hx i hi => ?_⟩
  rw [h.hcell x hx i (by omega)]
  congr 3
  simp [List.getD, hi]

/-- A block of a new row, known whole. -/
theorem own_whole {w : World} {B g n : Nat} {xs : List Nat} (h : w.ownsRow B 5 1 (.slice (some ⟨g, 0, none⟩) n n) n (cellsOf xs)) : w.heap[g]? = some (.cells (cellsOf xs).toArray 5 (0, 0)) ∧ B ≤ g := by
  rcases h.2 with ⟨e, _⟩ | ⟨g', cap, cur, e, h1, h2, h3, h4, h5, h6⟩
  · cases e
  · simp only [Value.slice.injEq, Option.some.injEq, Addr.mk.injEq, and_true, true_and] at e
    obtain ⟨rfl, rfl⟩ := e
    refine ⟨?_, h1⟩
    rw [h2, ← h6]
    congr 2
    apply Array.toList_inj.1
    simp only
    rw [List.take_of_length_le (by simp; omega)]
theorem whole_own {w : World} {B g n : Nat} {xs : List Nat} (h : w.heap[g]? = some (.cells (cellsOf xs).toArray 5 (0, 0))) (hg : B ≤ g) (hn : xs.length = n) (hm : n ≤ maxLen) : w.ownsRow B 5 1 (.slice (some ⟨g, 0, none⟩) n n) n (cellsOf xs) := by
  refine ⟨by rw [cellsOf_length]; omega, Or.inr ⟨g, n, _, rfl, hg, h, Nat.le_refl _, hm, by simp [cellsOf_length]; omega, ?_⟩⟩
  exact List.take_of_length_le (by simp [cellsOf_length]; omega)
theorem bs_src {w : World} {a : Option Addr} {len cap : Nat} {xs : List Nat} (h : BS w a len cap xs) : 0 < (cellsOf xs).length → ∃ ad, a = some ad ∧ ∀ j v, (cellsOf xs)[j]? = some v → w.cell? (ad.add j) = some v := by
  intro h0
  rw [cellsOf_length, h.hlen] at h0
  obtain ⟨b, o, rfl, _⟩ := h.place h0
  exact ⟨_, rfl, h.news⟩

set_option maxRecDepth 100000 in
set_option maxHeartbeats 1000000 in
theorem whole_any (a : Option Addr) (len cap : Nat) (xs : List Nat) (w : World) (h : BS w a len cap xs) (hl : len ≤ blk) :
    Calls Try.prog 41 #[.slice a len cap] w fun e w' => e = .returned (.slice (some ⟨w.heap.size, 0, none⟩) blk blk) ∧ w'.ownsRow w.heap.size 5 1 (.slice (some ⟨w.heap.size, 0, none⟩) blk blk) blk (cellsOf (pad xs)) ∧ Below w.heap.size w w' := by
  obtain ⟨i0, hi, hz0, hz1, hz2⟩ := info_parts info5
  have H := hide h
  have HL := hide h.hlen
  have HM := hide (made_bytes blk)
  have HPL := hide (pad_len (xs := xs) (by rw [h.hlen]; exact hl))
  have HSP := hide (splice_pad xs)
  have HB8 : Hid (blk = 8192) := rfl
  have HB9 : Hid (((blk : Nat) : Int) = 8192) := rfl
  generalize blk = N at *
  clear h
  go_enter Try.func41, Try.ntmps41
  go_wp2_with (first
    | (refine wpList_make_full w rfl _ _ 29 rfl w.heap.size 5 i0 (.int .u8 0) 1 Try.underlying29 hi hz0 hz1 .i64 .i64 8192 8192 N rfl rfl (HB9.out.symm) (HB9.out.symm) (by rw [hz2, HB8.out]; decide) (by rw [HB8.out]; unfold maxLen; omega) (Nat.le_refl _) ?_; intro w1 ho1 hg1; rw [HM.out] at ho1; have HO1 := hide ho1; have HG1 := hide ((Below.refl w.heap.size w).grown hg1 (Nat.le_refl _) (fun k hk => by cases hk)); clear ho1 hg1)
    | (refine wpList_copy_splice rfl (.tmp 5) (.tmp 6) 29 29 rfl 5 Try.underlying29 (by rw [hi]; simp [hz1]) _ _ N N len cap rfl rfl w.heap.size 0 (cellsOf (zs N)) 5 (own_whole HO1.out).1 (cellsOf xs) (by rw [cellsOf_length, HL.out]; exact (Nat.min_eq_left hl).symm) (fun h => ⟨rfl, bs_src (H.out.later HG1.out (Nat.le_refl _)) h⟩) (by rw [cellsOf_length, cellsOf_length, zs_len, HL.out]; omega) (cellsOf_one xs) w.heap.size w HG1.out (Nat.le_refl _) ?_; intro w2 HR2 hb2; rw [HSP.out] at HR2; have HB2 := hide hb2; clear hb2))
  go_ret
  refine ⟨rfl, whole_own HR2.out (Nat.le_refl _) ?_ (by rw [HB8.out]; unfold maxLen; omega), HB2.out⟩
  rw [HPL.out]
end Go.Proofs.Ytnapapgmeghgjaa
