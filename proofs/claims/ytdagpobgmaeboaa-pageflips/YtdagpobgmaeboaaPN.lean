/- Turned bits of a page's block: an odd number of them, or some within 32 behind the sum, make it no page. -/
import Derived.Test.YtdagpobgmaeboaaPL
import Derived.Test.YtdagpobgmaeboaaJ4
import Derived.Test.YtdagpobgmaeboaaSO
set_option linter.unusedVariables false
namespace Go.Proofs.Ytdagpobgmaeboaa
open Go.RowKit

theorem flip_getD {ys : List Nat} {p : Nat} (h : p / 8 < ys.length) (i : Nat) : (flip ys p).getD i 0 = if i = p / 8 then ys.getD i 0 ^^^ 2 ^ (p % 8) else ys.getD i 0 := by
  unfold flip
  simp only [List.getD_eq_getElem?_getD, List.getElem?_set]
  by_cases e : i = p / 8
  · subst e
    rw [if_pos rfl, if_pos rfl, if_pos h]
    rfl
  · rw [if_neg e, if_neg (fun e2 => e e2.symm)]
theorem pad_turn {xs : List Nat} (h : xs.length ≤ blk) {bit : Nat} (hb : bit < 65536) : pad (turnL xs bit) = flip (pad xs) bit := by
  have l1 : (turnL xs bit).length ≤ blk := by rw [turnL_len]; exact turnN_le h hb
  have hq : bit / 8 < (pad xs).length := by rw [pad_len h]; unfold blk; omega
  apply List.ext_getElem
  · rw [pad_len l1, flip_length, pad_len h]
  · intro i h1 h2
    have e1 : (pad (turnL xs bit))[i] = (pad (turnL xs bit)).getD i 0 := by simp [List.getD_eq_getElem?_getD, h1]
    have e2 : (flip (pad xs) bit)[i] = (flip (pad xs) bit).getD i 0 := by simp [List.getD_eq_getElem?_getD, h2]
    rw [e1, e2, pad_getD, turnL_getD, flip_getD hq, pad_getD]
/-- What Put lays: the sum of what stands behind it. -/
theorem laid_split (b : List Nat) (h : b.length ≤ 8186) : pad (laidP b) = ord (sumL ((pad (contentP b)).take 8188)) 4 ++ (pad (contentP b)).take 8188 := by
  have hc := contentP_len b
  have e1 : (pad (contentP b)).take 8188 = contentP b ++ zs (8186 - b.length) := by
    unfold pad
    rw [List.take_append, List.take_of_length_le (by omega)]
    congr 1
    unfold zs
    rw [List.take_replicate]
    congr 1
    unfold blk
    omega
  conv => lhs; unfold pad; rw [laidP_len]
  conv => lhs; arg 1; rw [laidP]
  rw [List.append_assoc]
  congr 1
  rw [e1]
  congr 2
  unfold blk
  omega
theorem page_sum {X b : List Nat} (h : pageOf X = some b) : X.take 4 = ord (sumL (X.drop 4)) 4 := by
  unfold pageOf at h
  split at h
  · cases h
  · rename_i hc
    split at h
    · rename_i hx
      have hl : ((X.drop 6).take (ordN ((X.drop 4).take 2))).length ≤ 8186 := by rw [List.length_take]; omega
      generalize (X.drop 6).take (ordN ((X.drop 4).take 2)) = b' at hx hl
      rw [hx, laid_split b' hl]
      generalize (pad (contentP b')).take 8188 = r
      have l4 := ord_len (sumL r) 4
      rw [List.take_append_of_le_length (by omega), List.take_of_length_le (by omega), List.drop_append_of_le_length (by omega), List.drop_of_length_le (by omega), List.nil_append]
    · cases h
theorem par_add : ∀ (j k r : Nat), par (j + k) r = xor (par j r) (par k (r / 2 ^ j))
  | 0, k, r => by simp [par]
  | j + 1, k, r => by
    rw [Nat.add_right_comm, par, par_add j k (r / 2), par, Nat.pow_succ, Nat.mul_comm, ← Nat.div_div_eq_div_mul]
    cases decide (r % 2 = 1) <;> cases par j (r / 2) <;> cases par k (r / 2 / 2 ^ j) <;> rfl
theorem par_mod : ∀ (j r : Nat), par j (r % 2 ^ j) = par j r
  | 0, _ => rfl
  | j + 1, r => by
    have e1 : r % 2 ^ (j + 1) % 2 = r % 2 := by rw [Nat.pow_succ]; exact Nat.mod_mul_left_mod _ _ _
    have e2 : r % 2 ^ (j + 1) / 2 = r / 2 % 2 ^ j := by rw [Nat.pow_succ, Nat.mul_comm, Nat.mod_mul_right_div_self]
    rw [par, par, e1, e2, par_mod j]
theorem par_four (S : Nat) : par 32 S = xor (xor (par 8 (S / 16777216 % 256)) (par 8 (S / 65536 % 256))) (xor (par 8 (S / 256 % 256)) (par 8 (S % 256))) := by
  have h1 := par_add 8 24 S
  have h2 := par_add 8 16 (S / 256)
  have h3 := par_add 8 8 (S / 256 / 256)
  have m0 := par_mod 8 S
  have m1 := par_mod 8 (S / 256)
  have m2 := par_mod 8 (S / 65536)
  have m3 := par_mod 8 (S / 16777216)
  have d1 : S / 256 / 256 = S / 65536 := by rw [Nat.div_div_eq_div_mul]
  have d2 : S / 256 / 256 / 256 = S / 16777216 := by rw [Nat.div_div_eq_div_mul, Nat.div_div_eq_div_mul]
  simp only [show (2 : Nat) ^ 8 = 256 from rfl] at *
  rw [h1, h2, h3, d2, d1, m0, m1, m2, m3]
  cases par 8 S <;> cases par 8 (S / 256) <;> cases par 8 (S / 65536) <;> cases par 8 (S / 16777216) <;> rfl
/-- The parity of a page's block. -/
def PX (X : List Nat) : Bool := xor (xor (xor (par 8 (X.getD 0 0)) (par 8 (X.getD 1 0))) (xor (par 8 (X.getD 2 0)) (par 8 (X.getD 3 0)))) (par 32 (sumL (X.drop 4)))
theorem px_page {X b : List Nat} (h : pageOf X = some b) : PX X = false := by
  have h1 := page_sum h
  have g : ∀ i, i < 4 → X.getD i 0 = (ord (sumL (X.drop 4)) 4).getD i 0 := by
    intro i hi
    rw [← h1, List.getD_eq_getElem?_getD, List.getD_eq_getElem?_getD, List.getElem?_take_of_lt hi]
  unfold PX
  rw [g 0 (by omega), g 1 (by omega), g 2 (by omega), g 3 (by omega)]
  generalize sumL (X.drop 4) = S
  rw [par_four S]
  have e : ord S 4 = [S / 16777216 % 256, S / 65536 % 256, S / 256 % 256, S % 256] := by
    simp only [ord, Nat.reducePow, Nat.div_one]
  rw [e]
  show xor (xor (xor (par 8 (S / 16777216 % 256)) (par 8 (S / 65536 % 256))) (xor (par 8 (S / 256 % 256)) (par 8 (S % 256)))) _ = false
  simp
theorem par_pow : ∀ j : Fin 8, par 8 (2 ^ j.val) = true := by decide
theorem flip_low {X : List Nat} {p : Nat} (h : p < 32) : (flip X p).drop 4 = X.drop 4 := by
  unfold flip
  rw [List.drop_set, if_pos (by omega)]
theorem flip_high {X : List Nat} {p : Nat} (h : 32 ≤ p) : (flip X p).drop 4 = flip (X.drop 4) (p - 32) ∧ (flip X p).take 4 = X.take 4 := by
  unfold flip
  constructor
  · rw [List.drop_set, if_neg (by omega)]
    have e1 : (p - 32) / 8 = p / 8 - 4 := by omega
    have e2 : (p - 32) % 8 = p % 8 := by omega
    rw [e1, e2]
    congr 2
    rw [List.getD_eq_getElem?_getD, List.getD_eq_getElem?_getD, List.getElem?_drop]
    congr 2
    omega
  · rw [List.take_set]
    exact List.set_eq_of_length_le (by rw [List.length_take]; omega)
theorem sumL_xor {r : List Nat} (hb : ∀ c ∈ r, c < 256) : sumL r = 4294967295 ^^^ crc 4294967295 r := by
  unfold sumL
  rw [ones_xor _ (crc_lt (by decide) r hb)]
theorem px_flip {X : List Nat} (hl : X.length = 8192) (hb : ∀ c ∈ X, c < 256) {p : Nat} (hp : p < 65536) : PX (flip X p) = !PX X := by
  have hq : p / 8 < X.length := by omega
  have g := flip_getD hq
  rcases Nat.lt_or_ge p 32 with h | h
  · unfold PX
    rw [flip_low h, g, g, g, g]
    have pp := par_pow ⟨p % 8, by omega⟩
    simp only at pp
    have hc : p / 8 = 0 ∨ p / 8 = 1 ∨ p / 8 = 2 ∨ p / 8 = 3 := by omega
    rcases hc with e | e | e | e
    · rw [e, if_pos rfl, if_neg (by decide), if_neg (by decide), if_neg (by decide), par_xor, pp]
      cases par 8 (X.getD 0 0) <;> cases par 8 (X.getD 1 0) <;> cases par 8 (X.getD 2 0) <;> cases par 8 (X.getD 3 0) <;> cases par 32 (sumL (X.drop 4)) <;> rfl
    · rw [e, if_neg (by decide), if_pos rfl, if_neg (by decide), if_neg (by decide), par_xor, pp]
      cases par 8 (X.getD 0 0) <;> cases par 8 (X.getD 1 0) <;> cases par 8 (X.getD 2 0) <;> cases par 8 (X.getD 3 0) <;> cases par 32 (sumL (X.drop 4)) <;> rfl
    · rw [e, if_neg (by decide), if_neg (by decide), if_pos rfl, if_neg (by decide), par_xor, pp]
      cases par 8 (X.getD 0 0) <;> cases par 8 (X.getD 1 0) <;> cases par 8 (X.getD 2 0) <;> cases par 8 (X.getD 3 0) <;> cases par 32 (sumL (X.drop 4)) <;> rfl
    · rw [e, if_neg (by decide), if_neg (by decide), if_neg (by decide), if_pos rfl, par_xor, pp]
      cases par 8 (X.getD 0 0) <;> cases par 8 (X.getD 1 0) <;> cases par 8 (X.getD 2 0) <;> cases par 8 (X.getD 3 0) <;> cases par 32 (sumL (X.drop 4)) <;> rfl
  · obtain ⟨e1, _⟩ := flip_high (X := X) h
    have hr : ∀ c ∈ X.drop 4, c < 256 := fun c hc => hb c (List.mem_of_mem_drop hc)
    have hlr : (X.drop 4).length = 8188 := by rw [List.length_drop]; omega
    have e2 : sumL (flip (X.drop 4) (p - 32)) = sumL (X.drop 4) ^^^ shn (8 * 8188 - (p - 32)) 1 := by
      rw [sumL_xor (flip_byte _ _ hr), flip_crc _ _ _ (by omega), sumL_xor hr, hlr, Nat.xor_assoc]
    unfold PX
    rw [e1, e2, par_xor, par_bit, g, g, g, g, if_neg (by omega), if_neg (by omega), if_neg (by omega), if_neg (by omega)]
    cases xor (xor (par 8 (X.getD 0 0)) (par 8 (X.getD 1 0))) (xor (par 8 (X.getD 2 0)) (par 8 (X.getD 3 0))) <;> cases par 32 (sumL (X.drop 4)) <;> rfl
/-- Three turns: one bit at least is turned. -/
theorem three_none {X b : List Nat} (hl : X.length = 8192) (hb : ∀ c ∈ X, c < 256) (h : pageOf X = some b) {i j k : Nat} (hi : i < 65536) (hj : j < 65536) (hk : k < 65536) : pageOf (flip (flip (flip X i) j) k) = none := by
  cases hc : pageOf (flip (flip (flip X i) j) k) with
  | none => rfl
  | some c =>
    have h1 := px_page hc
    have l1 : (flip X i).length = 8192 := by rw [flip_length, hl]
    have l2 : (flip (flip X i) j).length = 8192 := by rw [flip_length, l1]
    rw [px_flip l2 (flip_byte _ _ (flip_byte _ _ hb)) hk, px_flip l1 (flip_byte _ _ hb) hj, px_flip hl hb hi, px_page h] at h1
    cases h1
/-- Bits within 32 that follow one another: what is turned so far. -/
structure Bu (X Y : List Nat) (at_ P : Nat) : Prop where
  len : Y.length = 8192
  by_ : ∀ c ∈ Y, c < 256
  tk : Y.take 4 = X.take 4
  cr : crc 4294967295 (Y.drop 4) = crc 4294967295 (X.drop 4) ^^^ shn (65504 - (at_ - 32)) P
theorem shn_nought (k : Nat) : shn k 0 = 0 := by
  induction k with
  | zero => rfl
  | succ k ih => show shn k (sh 0) = 0; rw [sh_zero]; exact ih
theorem bu_start {X : List Nat} (hl : X.length = 8192) (hb : ∀ c ∈ X, c < 256) (at_ : Nat) : Bu X X at_ 0 := ⟨hl, hb, rfl, by rw [shn_nought, Nat.xor_zero]⟩
theorem Bu.next {X Y : List Nat} {at_ P x : Nat} (h : Bu X Y at_ P) (h32 : 32 ≤ at_) (hx : at_ + x < 65536) (hP : P < 2 ^ x) : Bu X (flip Y (at_ + x)) at_ (P + 2 ^ x) := by
  obtain ⟨e1, e2⟩ := flip_high (X := Y) (p := at_ + x) (by omega)
  have hlr : (Y.drop 4).length = 8188 := by rw [List.length_drop]; have := h.len; omega
  refine ⟨by rw [flip_length, h.len], flip_byte _ _ h.by_, e2.trans h.tk, ?_⟩
  rw [e1, flip_crc _ _ _ (by omega), h.cr, hlr, ← pow_xor P x hP, shn_xor, Nat.xor_assoc, shn_one _ _ (by omega)]
  congr 3
  omega
theorem Bu.none {X Y b : List Nat} {at_ P : Nat} (h : Bu X Y at_ P) (hX : ∀ c ∈ X, c < 256) (hp : pageOf X = some b) (hP : P < 4294967296) (h0 : P ≠ 0) : pageOf Y = Option.none := by
  cases hc : pageOf Y with
  | none => rfl
  | some c =>
    have h1 := page_sum hc
    have h2 := page_sum hp
    rw [h.tk, h2] at h1
    have h3 := congrArg ordN h1
    rw [ordN_ord 4 _ (sumL_lt _), ordN_ord 4 _ (sumL_lt _)] at h3
    have hr : ∀ c ∈ X.drop 4, c < 256 := fun c hc => hX c (List.mem_of_mem_drop hc)
    have hy : ∀ c ∈ Y.drop 4, c < 256 := fun c hc => h.by_ c (List.mem_of_mem_drop hc)
    have c1 := crc_lt (r := 4294967295) (by decide) (X.drop 4) hr
    have c2 := crc_lt (r := 4294967295) (by decide) (Y.drop 4) hy
    unfold sumL at h3
    have h4 : crc 4294967295 (Y.drop 4) = crc 4294967295 (X.drop 4) := by omega
    rw [h.cr] at h4
    exact absurd h4 (burst_turns hP h0 _)
end Go.Proofs.Ytdagpobgmaeboaa
