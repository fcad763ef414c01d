/- Small things of disks and bytes that the pages lean on. -/
import Derived.Test.YtnapapgmeghgjaaC3
set_option linter.unusedVariables false
set_option linter.unusedSimpArgs false
namespace Go.Proofs.Ytnapapgmeghgjaa
open Go.RowKit

theorem i64_mask (n : Int) (b : Nat) (hb : b ≤ 16) (m : Int) (hm : m = 2 ^ b - 1) : bits .and .i64 n m = n % 2 ^ b := by
  have hm2 : (BitVec.ofInt 64 m).toNat = 2 ^ b - 1 := by
    rw [BitVec.toNat_ofInt, hm]
    have h1 : (1 : Nat) ≤ 2 ^ b := Nat.one_le_two_pow
    have h2 : (2 : Nat) ^ b ≤ 2 ^ 16 := Nat.pow_le_pow_right (by omega) hb
    have e : ((2 : Int) ^ b - 1) = ((2 ^ b - 1 : Nat) : Int) := by
      rw [Int.ofNat_sub h1]
      simp
    rw [e]
    omega
  have key : (BitVec.ofInt 64 n &&& BitVec.ofInt 64 m).toNat = (n % ((2 ^ 64 : Nat) : Int)).toNat % 2 ^ b := by
    rw [BitVec.toNat_and, BitVec.toNat_ofInt, hm2, Nat.and_two_pow_sub_one_eq_mod]
  show IntKind.i64.wrap ((BitVec.ofInt 64 n &&& BitVec.ofInt 64 m).toNat : Nat) = n % 2 ^ b
  rw [key, IntKind.wrap_i64]
  have hc : b = 0 ∨ b = 1 ∨ b = 2 ∨ b = 3 ∨ b = 4 ∨ b = 5 ∨ b = 6 ∨ b = 7 ∨ b = 8 ∨ b = 9 ∨ b = 10 ∨ b = 11 ∨ b = 12 ∨ b = 13 ∨ b = 14 ∨ b = 15 ∨ b = 16 := by omega
  rcases hc with rfl | rfl | rfl | rfl | rfl | rfl | rfl | rfl | rfl | rfl | rfl | rfl | rfl | rfl | rfl | rfl | rfl <;> omega
theorem i64_and15 (n : Int) : bits .and .i64 n 15 = n % 16 := i64_mask n 4 (by omega) 15 (by decide)
theorem lose_n (s : DS) (keep : Nat) (torn cut : Int) : (s.lose keep torn cut).n = s.n ∧ (s.lose keep torn cut).m = 0 ∧ (s.lose keep torn cut).down = true ∧ (s.lose keep torn cut).life = s.life + 1 := ⟨settle_n s keep torn cut, rfl, rfl, rfl⟩
theorem tick_one {s : DS} (h : s.after = 1) : s.tick = s.lose s.keep s.torn s.cut := by
  unfold DS.tick
  rw [if_neg (by omega), if_pos h]
theorem tick_more {s : DS} (h : 1 < s.after) : s.tick = s.with (s.after - 1) s.keep s.torn s.cut s.down s.life := by
  unfold DS.tick
  rw [if_neg (by omega), if_neg (by omega)]
theorem tick_none {s : DS} (h : s.after < 1) : s.tick = s := by
  unfold DS.tick
  rw [if_pos h]
/-- A text's bytes. -/
def sl (s : ByteArray) : List Nat := s.data.toList.map UInt8.toNat
theorem sl_len (s : ByteArray) : (sl s).length = s.size := by simp [sl]
theorem sl_lt (s : ByteArray) : ∀ c ∈ sl s, c < 256 := by
  intro c hc
  simp only [sl, List.mem_map] at hc
  obtain ⟨u, _, rfl⟩ := hc
  exact u.toNat_lt
theorem str_sl (s : ByteArray) : str (sl s) = s := by
  apply ByteArray.ext
  apply Array.toList_inj.1
  rw [str, strOfNums_data, sl, List.map_map, List.map_map]
  conv => rhs; rw [← List.map_id s.data.toList]
  apply List.map_congr_left
  intro u _
  simp
theorem sl_str {xs : List Nat} (h : ∀ n ∈ xs, n < 256) : sl (str xs) = xs := by
  rw [sl, str, strOfNums_data, List.map_map, List.map_map]
  conv => rhs; rw [← List.map_id xs]
  apply List.map_congr_left
  intro n hn
  have := h n hn
  simp only [Function.comp, Int.ofNat_eq_natCast, Int.toNat_natCast, UInt8.toNat_ofNat', id]
  omega
theorem str_size (xs : List Nat) : (str xs).size = xs.length := by rw [str, strOfNums_size]; simp
/-- A text turned into bytes: what was laid stays through whatever a disk does. -/
theorem conv_bs {w : World} {g cap : Nat} {s : ByteArray} {fz : Nat × Nat} (h : w.heap[g]? = some (.cells (bytesRow s cap) 5 fz)) (h1 : s.size ≤ cap) (h2 : cap ≤ 9223372036854775807) (h3 : s.size ≤ 140737488355328) : BS w (some ⟨g, 0, none⟩) s.size cap (sl s) := by
  refine BS.of (sl_len s) h1 h3 h2 (sl_lt s) ?_
  intro i hi
  have hi2 : i < s.data.size := hi
  rw [Nat.zero_add, cell_of_row w g i _ _ _ h, bytesRow_at s cap i hi2]
  congr 3
  simp only [sl, List.getD_eq_getElem?_getD, List.getElem?_map, Array.getElem?_toList, Array.getElem?_eq_getElem hi2, Option.map_some, Option.getD_some]
theorem pad_take (xs : List Nat) : (pad xs).take xs.length = xs := by simp [pad]
theorem Fr.set_new [Gd] {B g o : Nat} {w wr : World} {u : Value} (f : Fr B w wr) (hB : B ≤ g) (hg : w.heap.size ≤ g) : Fr B w (wr.setCell ⟨g, o, none⟩ u) := by
  refine ⟨f.bel.setCell hB u, fun k cs t fz e n1 n2 n3 n4 => ?_, fun k cs hk e => ?_⟩
  · have := (Array.getElem?_eq_some_iff.1 e).1
    rw [heap_setCell_other _ _ _ _ (by show k ≠ g; omega)]
    exact f.stay k cs t fz e n1 n2 n3 n4
  · have := (Array.getElem?_eq_some_iff.1 e).1
    rw [heap_setCell_other _ _ _ _ (by show k ≠ g; omega)]
    exact f.gd k cs hk e
theorem DI.other [Gd] {B p g o : Nat} {s : DS} {w : World} {cs : Array Value} {t : TypeId} {u : Value} (h : DI B p s w) (hg : w.heap[g]? = some (.cells cs t (0, 0))) (n1 : t ≠ 69) (n2 : t ≠ 73) (n3 : t ≠ 76) (n4 : t ≠ 3) (n5 : t ≠ 5) : DI B p s (w.setCell ⟨g, o, none⟩ u) := by
  obtain ⟨gb, vo, kv, ov, wv, h⟩ := h
  have st : ∀ (k : Nat) (cs' : Array Value) (t' : TypeId), w.heap[k]? = some (Obj.cells cs' t' (0, 0)) → t ≠ t' → (w.setCell ⟨g, o, none⟩ u).heap[k]? = some (Obj.cells cs' t' (0, 0)) := by
    intro k cs' t' e ht
    rw [heap_setCell_other _ _ _ _ ?_, e]
    show k ≠ g
    intro e2
    subst e2
    rw [hg] at e
    simp only [Option.some.injEq, Obj.cells.injEq] at e
    exact ht e.2.1
  exact ⟨gb, vo, kv, ov, wv, ⟨st p _ _ h.hp n1, st gb _ _ h.hg n2, own_stay h.hw fun k cs' _ e => st k cs' _ e n3, fun i hi => own_stay (h.hk i hi) fun k cs' _ e => st k cs' _ e n5, fun i hi => own_stay (h.hb i hi) fun k cs' _ e => st k cs' _ e n5, fun i hi => own_stay (h.ho i hi) fun k cs' _ e => st k cs' _ e n4, h.ha, h.pB, h.gB, h.ok, fun k hk => ⟨by obtain ⟨cs', e⟩ := (h.hG k hk).1; exact ⟨cs', st k cs' _ e n4⟩, (h.hG k hk).2⟩, fun k hk => ⟨by obtain ⟨cs', e⟩ := (h.h8 k hk).1; exact ⟨cs', st k cs' _ e n5⟩, (h.h8 k hk).2⟩⟩⟩
theorem conv_run [Gd] (s : ByteArray) (w : World) (h : s.size ≤ 1000) : ∃ cap w', (convert 9 29 (.string s)).run Try.prog w = .ok (.slice (some ⟨w.heap.size, 0, none⟩) s.size cap) w' ∧ Below w.heap.size w w' ∧ ∀ B ww, Fr B w' ww → BS ww (some ⟨w.heap.size, 0, none⟩) s.size cap (sl s) := by
  refine ⟨_, _, run_bytes_of_string w 9 29 5 s Try.underlying9 Try.underlying29 Try.underlying5, (Below.refl _ _).drew.alloc (Nat.le_refl _) _, ?_⟩
  intro B ww f
  have hge := grownCap_ge w s.size 0 5
  have hle := grownCap_le_maxLen w s.size 0 5 (by unfold maxLen; omega)
  unfold maxLen at hle
  exact conv_bs (f.stay _ _ _ _ (heap_alloc_new w.drew _) (by decide) (by decide) (by decide) (by decide)) hge (by omega) (by omega)
theorem keptN_all (i : Nat) : keptN 18446744073709551615 (-1) 0 i = blk := by
  unfold keptN
  rw [if_neg (by omega)]
  have key : ∀ r : Fin 64, 18446744073709551615 / 2 ^ r.val % 2 = 1 := by decide
  have := key ⟨i % 64, Nat.mod_lt _ (by omega)⟩
  simp only at this
  rw [if_pos this]
def DS.idxK (s : DS) (k b : Nat) : List Nat := (List.range k).filter fun i => s.at_ i == b
theorem idxK_succ (s : DS) (k b : Nat) : s.idxK (k + 1) b = s.idxK k b ++ (if b = s.at_ k then [k] else []) := by
  unfold DS.idxK
  rw [List.range_succ, List.filter_append]
  congr 1
  by_cases h : b = s.at_ k
  · rw [if_pos h]; simp [h]
  · rw [if_neg h]; simp; exact fun e => h e.symm
theorem setK_all (s : DS) (b : Nat) : ∀ k, s.setK 18446744073709551615 (-1) 0 k b = (match (s.idxK k b).getLast? with | some j => s.by_ j | none => s.K b)
  | 0 => rfl
  | k + 1 => by
    rw [DS.setK, setK_all s b k, idxK_succ, keptN_all]
    by_cases h : b = s.at_ k
    · rw [if_pos h, if_pos h, List.getLast?_append]
      rfl
    · rw [if_neg h, if_neg h, List.append_nil]
theorem setK_from (s : DS) (ok : s.Ok) (keep : Nat) (torn cut : Int) (b i : Nat) (hi : i < blk) : ∀ k, (s.setK keep torn cut k b).getD i 0 = (s.K b).getD i 0 ∨ ∃ r, r < k ∧ s.at_ r = b ∧ (s.setK keep torn cut k b).getD i 0 = (s.by_ r).getD i 0
  | 0 => Or.inl rfl
  | k + 1 => by
    rw [DS.setK]
    by_cases h : b = s.at_ k
    · rw [if_pos h]
      have hl := pad_laid (k := keptN keep torn cut k) (setK_len ok keep torn cut b k) (ok.bl k) (keptN_le _ _ _ _) hi
      rw [pad_getD] at hl
      rw [hl]
      by_cases hk : i < keptN keep torn cut k
      · rw [if_pos hk]
        exact Or.inr ⟨k, by omega, h.symm, rfl⟩
      · rw [if_neg hk]
        rcases setK_from s ok keep torn cut b i hi k with e | ⟨r, h1, h2, h3⟩
        · exact Or.inl e
        · exact Or.inr ⟨r, by omega, h2, h3⟩
    · rw [if_neg h]
      rcases setK_from s ok keep torn cut b i hi k with e | ⟨r, h1, h2, h3⟩
      · exact Or.inl e
      · exact Or.inr ⟨r, by omega, h2, h3⟩
theorem DI.of_stay [Gd] {B p : Nat} {s : DS} {w w' : World} (h : DI B p s w) (st : ∀ (k : Nat) (cs : Array Value) (t : TypeId), w.heap[k]? = some (Obj.cells cs t (0, 0)) → (t = 69 ∨ t = 73 ∨ t = 76 ∨ t = 3 ∨ t = 5) → w'.heap[k]? = some (Obj.cells cs t (0, 0))) : DI B p s w' := by
  obtain ⟨gb, vo, kv, ov, wv, h⟩ := h
  exact ⟨gb, vo, kv, ov, wv, ⟨st p _ _ h.hp (by simp), st gb _ _ h.hg (by simp), own_stay h.hw fun k cs' _ e => st k cs' _ e (by simp), fun i hi => own_stay (h.hk i hi) fun k cs' _ e => st k cs' _ e (by simp), fun i hi => own_stay (h.hb i hi) fun k cs' _ e => st k cs' _ e (by simp), fun i hi => own_stay (h.ho i hi) fun k cs' _ e => st k cs' _ e (by simp), h.ha, h.pB, h.gB, h.ok, fun k hk => ⟨by obtain ⟨cs', e⟩ := (h.hG k hk).1; exact ⟨cs', st k cs' _ e (by simp)⟩, (h.hG k hk).2⟩, fun k hk => ⟨by obtain ⟨cs', e⟩ := (h.h8 k hk).1; exact ⟨cs', st k cs' _ e (by simp)⟩, (h.h8 k hk).2⟩⟩⟩
/-- A store into one of the two blocks. -/
theorem stay_set {wr : World} {g o : Nat} {cs0 : Array Value} {t0 : TypeId} {u : Value} (hg : wr.heap[g]? = some (Obj.cells cs0 t0 (0, 0))) : ∀ (k : Nat) (cs : Array Value) (t : TypeId), wr.heap[k]? = some (Obj.cells cs t (0, 0)) → t ≠ t0 → (wr.setCell ⟨g, o, none⟩ u).heap[k]? = some (Obj.cells cs t (0, 0)) := by
  intro k cs t e ht
  rw [heap_setCell_other _ _ _ _ ?_, e]
  show k ≠ g
  intro e2
  subst e2
  rw [hg] at e
  simp only [Option.some.injEq, Obj.cells.injEq] at e
  exact ht e.2.1.symm
end Go.Proofs.Ytnapapgmeghgjaa
