/- What PageFlips leans on: a disk whose page is turned, its bits in memory. -/
import Derived.Test.YtdagpobgmaeboaaPN
set_option linter.unusedVariables false
set_option linter.unusedSimpArgs false
namespace Go.Proofs.Ytdagpobgmaeboaa
open Go.RowKit

theorem mask40 (n : Int) : ∃ k : Nat, k < 1099511627776 ∧ bits .and .i64 n 1099511627775 = (k : Int) := by
  refine ⟨((BitVec.ofInt 64 n).toNat &&& 1099511627775), ?_, ?_⟩
  · have := @Nat.and_le_right (BitVec.ofInt 64 n).toNat 1099511627775
    omega
  · have h := @Nat.and_le_right (BitVec.ofInt 64 n).toNat 1099511627775
    have e : (BitVec.ofInt 64 1099511627775).toNat = 1099511627775 := by decide
    show IntKind.i64.wrap (((BitVec.ofInt 64 n) &&& (BitVec.ofInt 64 1099511627775)).toNat : Int) = _
    rw [BitVec.toNat_and, e]
    exact wraps_i64 _ (by omega) (by omega)
theorem pat_bit (pat x : Nat) (h : pat < 4294967296) : bits .and .u32 ((pat : Int) / 2 ^ x) 1 = ((pat / 2 ^ x % 2 : Nat) : Int) := by
  have e : (pat : Int) / 2 ^ x = ((pat / 2 ^ x : Nat) : Int) := by simp
  have hl : pat / 2 ^ x ≤ pat := Nat.div_le_self _ _
  rw [e]
  exact u32_and1 _ (by omega)
theorem mask16 (n : Int) : ∃ k : Nat, k < 65536 ∧ bits .and .i64 n 65535 = (k : Int) := by
  refine ⟨(n % 65536).toNat, by omega, ?_⟩
  rw [i64_mask n 16 (by omega) 65535 (by decide)]
  omega
theorem mask1 (n : Int) : ∃ k : Nat, k < 2 ∧ bits .and .i64 n 1 = (k : Int) := by
  refine ⟨(n % 2).toNat, by omega, ?_⟩
  rw [i64_mask n 1 (by omega) 1 (by decide)]
  omega
theorem pat_next (pat k : Nat) : pat % 2 ^ (k + 1) = pat % 2 ^ k + (if pat / 2 ^ k % 2 = 1 then 2 ^ k else 0) := by
  rw [Nat.mod_pow_succ]
  split
  · rename_i h; rw [h, Nat.mul_one]
  · rename_i h
    have : pat / 2 ^ k % 2 = 0 := by omega
    rw [this, Nat.mul_zero]

/-- A disk of four blocks with power, whose page 2 reads as Y. -/
structure FZ (s : DS) (Y : List Nat) : Prop where
  n4 : s.n = 4
  dn : s.down = false
  lf : s.life = 0
  sh : pad (s.show 2) = Y
theorem FZ.flip {s : DS} {Y : List Nat} (h : FZ s Y) (ok : s.Ok) {bit : Nat} (hb : bit < 65536) : FZ (s.flip 2 bit) (flip Y bit) := by
  obtain ⟨h1, _, h3, _, h5⟩ := flip_rest s 2 bit
  refine ⟨h1.trans h.n4, h3.trans h.dn, h5.trans h.lf, ?_⟩
  rw [flip_show s 2 bit 2 (by rw [h.n4]; omega), if_pos rfl, pad_turn (show_len ok 2) hb, h.sh]
def c3 (a b c : Nat) (k : Nat) : Nat := if k = 0 then a else if k = 1 then b else c
/-- The three bits, and the row of them behind k rounds. -/
def arr (f c : Nat → Nat) (k : Nat) : Array Value := #[.int .i64 ((if 0 < k then f 0 else c 0 : Nat) : Int), .int .i64 ((if 1 < k then f 1 else c 1 : Nat) : Int), .int .i64 ((if 2 < k then f 2 else c 2 : Nat) : Int)]
theorem arr_get (f c : Nat → Nat) {k : Nat} (h : k < 3) : (arr f c k)[k]? = some (.int .i64 (c k : Nat)) := by
  rcases (by omega : k = 0 ∨ k = 1 ∨ k = 2) with rfl | rfl | rfl <;> rfl
theorem arr_set (f c : Nat → Nat) {k : Nat} (h : k < 3) : (arr f c k).setIfInBounds k (.int .i64 (f k : Nat)) = arr f c (k + 1) := by
  rcases (by omega : k = 0 ∨ k = 1 ∨ k = 2) with rfl | rfl | rfl <;> rfl
theorem arr_same (f c : Nat → Nat) {k : Nat} (h : k < 3) (e : f k = c k) : arr f c k = arr f c (k + 1) := by
  rcases (by omega : k = 0 ∨ k = 1 ∨ k = 2) with rfl | rfl | rfl <;> simp [arr, e]
theorem arr_all (f c : Nat → Nat) {k : Nat} (h : k < 3) : (arr f c 3)[k]? = some (.int .i64 (f k : Nat)) := by
  rcases (by omega : k = 0 ∨ k = 1 ∨ k = 2) with rfl | rfl | rfl <;> rfl
def Yk (X : List Nat) (f : Nat → Nat) : Nat → List Nat
  | 0 => X
  | k + 1 => flip (Yk X f k) (f k)
theorem Yk_len (X : List Nat) (f : Nat → Nat) : ∀ k, (Yk X f k).length = X.length
  | 0 => rfl
  | k + 1 => by rw [Yk, flip_length, Yk_len X f k]
def dlt (i p : Nat) : Nat := if i = p / 8 then 2 ^ (p % 8) else 0
theorem flip_dlt {ys : List Nat} {p : Nat} (h : p / 8 < ys.length) (i : Nat) : (flip ys p).getD i 0 = ys.getD i 0 ^^^ dlt i p := by
  rw [flip_getD h, dlt]
  split
  · rfl
  · rw [Nat.xor_zero]
theorem xor_six (x a b c : Nat) : x ^^^ a ^^^ b ^^^ c ^^^ a ^^^ b ^^^ c = x := by
  apply Nat.eq_of_testBit_eq
  intro i
  simp only [Nat.testBit_xor]
  cases x.testBit i <;> cases a.testBit i <;> cases b.testBit i <;> cases c.testBit i <;> rfl
/-- Turned twice, all is as it was. -/
theorem Yk_back {X : List Nat} (hl : X.length = 8192) {f : Nat → Nat} (hf : ∀ k, f k < 65536) : Yk (Yk X f 3) f 3 = X := by
  have q : ∀ k, f k / 8 < 8192 := fun k => by have := hf k; omega
  have l3 : (Yk X f 3).length = 8192 := by rw [Yk_len, hl]
  apply List.ext_getElem
  · rw [Yk_len, Yk_len]
  · intro i h1 h2
    have e1 : (Yk (Yk X f 3) f 3)[i] = (Yk (Yk X f 3) f 3).getD i 0 := by simp [List.getD_eq_getElem?_getD, h1]
    have e2 : X[i] = X.getD i 0 := by simp [List.getD_eq_getElem?_getD, h2]
    rw [e1, e2]
    have s1 : (Yk (Yk X f 3) f 3).getD i 0 = (Yk X f 3).getD i 0 ^^^ dlt i (f 0) ^^^ dlt i (f 1) ^^^ dlt i (f 2) := by
      show (flip (flip (flip (Yk X f 3) (f 0)) (f 1)) (f 2)).getD i 0 = _
      rw [flip_dlt (by rw [flip_length, flip_length, l3]; exact q 2), flip_dlt (by rw [flip_length, l3]; exact q 1), flip_dlt (by rw [l3]; exact q 0)]
    have s2 : (Yk X f 3).getD i 0 = X.getD i 0 ^^^ dlt i (f 0) ^^^ dlt i (f 1) ^^^ dlt i (f 2) := by
      show (flip (flip (flip X (f 0)) (f 1)) (f 2)).getD i 0 = _
      rw [flip_dlt (by rw [flip_length, flip_length, hl]; exact q 2), flip_dlt (by rw [flip_length, hl]; exact q 1), flip_dlt (by rw [hl]; exact q 0)]
    rw [s1, s2, xor_six]
/-- A turn of page 2 with a Store beside it. -/
theorem flip_st {B p q : Nat} {s : DS} {t : PS} {Y : List Nat} {w : World} (bit : Nat) (h : ST B p q s t w) (hB : B ≤ w.heap.size) (hz : FZ s Y) (hb : bit < 65536) :
    Calls Try.prog 41 #[.pointer (some ⟨p, 0, none⟩), .int .i64 2, .int .i64 (bit : Int)] w fun e w' => e = .returned (.int .i64 0) ∧ ∃ s', FZ s' (flip Y bit) ∧ ST B p q s' t w' ∧ Fr B w w' := by
  refine (flip_ok B p s 2 bit w h.1 hB (by rw [hz.n4]; omega) hb).mono ?_
  rintro e w' ⟨rfl, hD, hF⟩
  exact ⟨rfl, _, hz.flip h.1.ok hb, h.disk hD hF, hF⟩
theorem ST.other {B p q g o : Nat} {s : DS} {t : PS} {w : World} {cs : Array Value} {u : Value} (h : ST B p q s t w) (hg : w.heap[g]? = some (.cells cs 71 (0, 0))) : ST B p q s t (w.setCell ⟨g, o, none⟩ u) := by
  obtain ⟨h1, gs, h2⟩ := h
  have ne : ∀ {k : Nat} {cs' : Array Value} {t' : TypeId}, w.heap[k]? = some (.cells cs' t' (0, 0)) → t' ≠ 71 → k ≠ g := by
    intro k cs' t' e ht e2
    subst e2
    rw [hg] at e
    simp only [Option.some.injEq, Obj.cells.injEq] at e
    exact ht e.2.1.symm
  refine ⟨h1.other hg (by decide) (by decide) (by decide) (by decide) (by decide), gs, ?_, ?_, h2.qB, h2.gB, h2.ok⟩
  · rw [heap_setCell_other _ _ _ _ (ne h2.hq (by decide))]; exact h2.hq
  · rw [heap_setCell_other _ _ _ _ (ne h2.hs (by decide))]; exact h2.hs
theorem Fp.set_new {B g o : Nat} {w wr : World} {u : Value} (f : Fp B w wr) (hB : B ≤ g) (hg : w.heap.size ≤ g) : Fp B w (wr.setCell ⟨g, o, none⟩ u) := by
  refine ⟨f.bel.setCell hB u, fun k cs t fz e n1 n2 n3 n4 n5 n6 => ?_⟩
  have := (Array.getElem?_eq_some_iff.1 e).1
  rw [heap_setCell_other _ _ _ _ (by show k ≠ g; omega)]
  exact f.stay k cs t fz e n1 n2 n3 n4 n5 n6
theorem flips_states (xs : List Nat) : FZ ((DS.new 4).tick.wrote 2 (laidP xs)) (pad (laidP xs)) := by
  generalize laidP xs = L
  exact ⟨rfl, rfl, rfl, by rw [show_wrote, if_pos rfl]⟩
end Go.Proofs.Ytdagpobgmaeboaa
