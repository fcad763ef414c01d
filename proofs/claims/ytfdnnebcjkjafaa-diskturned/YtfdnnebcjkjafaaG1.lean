/- What DiskFlushed leans on: texts and their bytes; a disk without open writes. -/
import Derived.Test.YtfdnnebcjkjafaaE1
import Derived.Test.YtfdnnebcjkjafaaFA
set_option linter.unusedVariables false
namespace Go.Proofs.Ytfdnnebcjkjafaa
open Go.RowKit

/-- A text's bytes. -/
def sl (s : ByteArray) : List Nat := s.data.toList.map UInt8.toNat
theorem sl_len (s : ByteArray) : (sl s).length = s.size := by simp [sl]
theorem sl_lt (s : ByteArray) : ∀ c ∈ sl s, c < 256 := by
  intro c hc
  simp only [sl, List.mem_map] at hc
  obtain ⟨u, _, rfl⟩ := hc
  exact u.toNat_lt
theorem str_sl (s : ByteArray) : str (sl s) = s := by
  apply ByteArray.ext
  apply Array.toList_inj.1
  rw [str, strOfNums_data, sl, List.map_map, List.map_map]
  conv => rhs; rw [← List.map_id s.data.toList]
  apply List.map_congr_left
  intro u _
  simp
theorem sl_str {xs : List Nat} (h : ∀ n ∈ xs, n < 256) : sl (str xs) = xs := by
  rw [sl, str, strOfNums_data, List.map_map, List.map_map]
  conv => rhs; rw [← List.map_id xs]
  apply List.map_congr_left
  intro n hn
  have := h n hn
  simp only [Function.comp, Int.ofNat_eq_natCast, Int.toNat_natCast, UInt8.toNat_ofNat', id]
  omega
theorem str_size (xs : List Nat) : (str xs).size = xs.length := by rw [str, strOfNums_size]; simp

/-- A text turned into bytes: what was laid stays through whatever a disk does. -/
theorem conv_bs {w : World} {g cap : Nat} {s : ByteArray} {fz : Nat × Nat} (h : w.heap[g]? = some (.cells (bytesRow s cap) 5 fz)) (h1 : s.size ≤ cap) (h2 : cap ≤ 9223372036854775807) (h3 : s.size ≤ 140737488355328) : BS w (some ⟨g, 0, none⟩) s.size cap (sl s) := by
  refine BS.of (sl_len s) h1 h3 h2 (sl_lt s) ?_
  intro i hi
  have hi2 : i < s.data.size := hi
  rw [Nat.zero_add, cell_of_row w g i _ _ _ h, bytesRow_at s cap i hi2]
  congr 3
  simp only [sl, List.getD_eq_getElem?_getD, List.getElem?_map, Array.getElem?_toList, Array.getElem?_eq_getElem hi2, Option.map_some, Option.getD_some]

/-- A disk with power, without open writes, nothing armed, whose four blocks are kept as four texts. -/
structure FlS (s : DS) (k : Nat) (ks : Nat → ByteArray) : Prop where
  n4 : s.n = 4
  m0 : s.m = 0
  dn : s.down = false
  af : s.after = 0
  l0 : 0 ≤ s.life
  lk : s.life ≤ k
  sz : ∀ j, j < 4 → (ks j).size ≤ 40
  kp : ∀ j, j < 4 → s.K j = sl (ks j)
def updS (f : Nat → ByteArray) (i : Nat) (v : ByteArray) : Nat → ByteArray := fun j => if j = i then v else f j
theorem fl_start : FlS (DS.new 4) 0 (fun _ => ⟨#[]⟩) := ⟨rfl, rfl, rfl, rfl, Int.le_refl _, Int.le_refl _, fun _ _ => (show (0 : Nat) ≤ 40 by omega), fun j _ => by rw [new_K]; rfl⟩
/-- One write and a flush. -/
theorem fl_write {s : DS} {k : Nat} {ks : Nat → ByteArray} (h : FlS s k ks) {a : Nat} (ha : a < 4) {t : ByteArray} (ht : t.size ≤ 40) (hk : k ≤ 1000) : FlS (s.tick.wrote a (sl t)).flush k (updS ks a t) ∧ (s.tick.wrote a (sl t)).flushE = 0 ∧ (s.tick.wrote a (sl t)).life < 100000 := by
  have haf := h.af
  have hlk := h.lk
  have e0 : s.tick = s := tick_none (by omega)
  rw [e0]
  have d1 : (s.wrote a (sl t)).down = false := h.dn
  have a1 : (s.wrote a (sl t)).after = 0 := h.af
  have e1 : (s.wrote a (sl t)).tick = s.wrote a (sl t) := tick_none (by omega)
  have e2 : (s.wrote a (sl t)).flush = (s.wrote a (sl t)).settle 18446744073709551615 (-1) 0 := by
    unfold DS.flush
    simp only [d1, Bool.false_eq_true, if_false]
    rw [if_neg (by omega), e1]
  have hm : (s.wrote a (sl t)).m = 1 := by rw [wrote_m, h.m0]
  have hat : (s.wrote a (sl t)).at_ 0 = a := by have := wrote_at_m s a (sl t); rwa [h.m0] at this
  have hby : (s.wrote a (sl t)).by_ 0 = sl t := by have := wrote_by_m s a (sl t); rwa [h.m0] at this
  refine ⟨?_, ?_, by show s.life < _; omega⟩
  · rw [e2]
    refine ⟨by rw [settle_n]; exact h.n4, rfl, h.dn, h.af, h.l0, h.lk, ?_, ?_⟩
    · intro j hj
      unfold updS
      split
      · exact ht
      · exact h.sz j hj
    · intro j hj
      rw [settle_K _ _ _ _ _ (by show j < s.n; rw [h.n4]; exact hj), hm, DS.setK, hat, hby]
      unfold updS
      by_cases e : j = a
      · rw [if_pos e, if_pos e]
        have : keptN 18446744073709551615 (-1) 0 0 = blk := rfl
        rw [this]
        rfl
      · rw [if_neg e, if_neg e]
        exact h.kp j hj
  · unfold DS.flushE
    simp only [d1, Bool.false_eq_true, if_false]
    rw [if_neg (by omega)]
/-- The power goes and comes: nothing is lost. -/
theorem fl_cut {s : DS} {k : Nat} {ks : Nat → ByteArray} (h : FlS s k ks) (keep : Nat) (torn cut : Int) : FlS (s.cutS keep torn cut).restart (k + 1) ks := by
  have e1 : s.cutS keep torn cut = s.lose keep torn cut := by unfold DS.cutS; simp only [h.dn, Bool.false_eq_true, if_false]
  have e2 : (s.lose keep torn cut).restart = (s.lose keep torn cut).up := rfl
  have hlk := h.lk
  have hl0 := h.l0
  rw [e1, e2]
  refine ⟨(settle_n s keep torn cut).trans h.n4, rfl, rfl, rfl, by show 0 ≤ s.life + 1; omega, by show s.life + 1 ≤ _; omega, h.sz, ?_⟩
  intro j hj
  show (s.settle keep torn cut).K j = _
  rw [settle_K _ _ _ _ _ (by rw [h.n4]; exact hj), h.m0]
  exact h.kp j hj
theorem fl_show {s : DS} {k : Nat} {ks : Nat → ByteArray} (h : FlS s k ks) {j : Nat} (hj : j < 4) : s.show j = sl (ks j) := by
  have e : s.idx j = [] := by unfold DS.idx; rw [h.m0]; rfl
  unfold DS.show
  rw [e]
  exact h.kp j hj
theorem pad_take (xs : List Nat) : (pad xs).take xs.length = xs := by simp [pad]
theorem pad_end {xs : List Nat} (h : xs.length < blk) : (pad xs).getD xs.length 0 = 0 := by rw [pad_getD, List.getD_eq_getElem?_getD, List.getElem?_eq_none (Nat.le_refl _)]; rfl
end Go.Proofs.Ytfdnnebcjkjafaa
