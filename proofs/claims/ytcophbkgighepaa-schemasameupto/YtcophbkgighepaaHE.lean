/- Bytes of schemas: schema.Encode. -/
import Derived.Test.YtcophbkgighepaaHC
import Derived.Laws.IdiomStrings
set_option linter.unusedVariables false
namespace Go.Proofs.Ytcophbkgighepaa
open Go.RowKit

/-- A text's bytes. -/
def sl (s : ByteArray) : List Nat := s.data.toList.map UInt8.toNat
theorem sl_len (s : ByteArray) : (sl s).length = s.size := by simp [sl]
theorem sl_lt (s : ByteArray) : ∀ c ∈ sl s, c < 256 := by
  intro c hc
  simp only [sl, List.mem_map] at hc
  obtain ⟨u, _, rfl⟩ := hc
  exact u.toNat_lt
theorem str_sl (s : ByteArray) : str (sl s) = s := by
  apply ByteArray.ext
  apply Array.toList_inj.1
  rw [str, strOfNums_data, sl, List.map_map, List.map_map]
  conv => rhs; rw [← List.map_id s.data.toList]
  apply List.map_congr_left
  intro u _
  simp
theorem sl_str {xs : List Nat} (h : ∀ n ∈ xs, n < 256) : sl (str xs) = xs := by
  rw [sl, str, strOfNums_data, List.map_map, List.map_map]
  conv => rhs; rw [← List.map_id xs]
  apply List.map_congr_left
  intro n hn
  have := h n hn
  simp only [Function.comp, Int.ofNat_eq_natCast, Int.toNat_natCast, UInt8.toNat_ofNat', id]
  omega
theorem conv_bs {w : World} {g cap : Nat} {s : ByteArray} {fz : Nat × Nat} (h : w.heap[g]? = some (.cells (bytesRow s cap) 5 fz)) (h1 : s.size ≤ cap) (h2 : cap ≤ 9223372036854775807) (h3 : s.size ≤ 140737488355328) : BS w (some ⟨g, 0, none⟩) s.size cap (sl s) := by
  refine BS.of (sl_len s) h1 h3 h2 (sl_lt s) ?_
  intro i hi
  have hi2 : i < s.data.size := hi
  rw [Nat.zero_add, cell_of_row w g i _ _ _ h, bytesRow_at s cap i hi2]
  congr 3
  simp only [sl, List.getD_eq_getElem?_getD, List.getElem?_map, Array.getElem?_toList, Array.getElem?_eq_getElem hi2, Option.map_some, Option.getD_some]

theorem conv_ok (s : ByteArray) (w : World) (h : s.size ≤ 1000) : ∃ cap w', (convert 9 42 (.string s)).run Try.prog w = .ok (.slice (some ⟨w.heap.size, 0, none⟩) s.size cap) w' ∧ Below w.heap.size w w' ∧ BS w' (some ⟨w.heap.size, 0, none⟩) s.size cap (sl s) := by
  refine ⟨_, _, run_bytes_of_string w 9 42 5 s Try.underlying9 Try.underlying42 Try.underlying5, (Below.refl _ _).drew.alloc (Nat.le_refl _) _, ?_⟩
  have hge := grownCap_ge w s.size 0 5
  have hle := grownCap_le_maxLen w s.size 0 5 (by unfold maxLen; omega)
  unfold maxLen at hle
  exact conv_bs (heap_alloc_new w.drew _) hge (by omega) (by omega)
theorem uint_ob (n : Nat) (w : World) (h : n < 9223372036854775808) : Calls Try.prog 37 #[.int .i64 n] w fun e w' => ∃ g c, e = .returned (.slice (some ⟨g, 0, none⟩) (grp n) c) ∧ OB w.heap.size w' (.slice (some ⟨g, 0, none⟩) (grp n) c) (encW n) ∧ Below w.heap.size w w' := by
  refine (uint_owns n w h).mono ?_
  rintro e w' ⟨g, c, rfl, h1, h2⟩
  refine ⟨g, c, rfl, ?_, h2⟩
  show World.ownsRow _ _ _ _ _ _ _
  rw [enc_length n (grp_spec n h).1]
  exact h1
/-- A name's bytes, with their number ahead. -/
def wb (s : ByteArray) : List Nat := encW s.size ++ sl s
theorem wire_name (s : ByteArray) (w : World) {cap : Nat} {a : Option Addr} (h : BS w a s.size cap (sl s)) (hs : s.size ≤ 1000) : Calls Try.prog 36 #[.slice a s.size cap] w fun e w' => ∃ g c, e = .returned (.slice (some ⟨g, 0, none⟩) (grp s.size + s.size) c) ∧ OB w.heap.size w' (.slice (some ⟨g, 0, none⟩) (grp s.size + s.size) c) (wb s) ∧ Below w.heap.size w w' := by
  refine (bytes_any a s.size cap (sl s) w h (by omega)).mono ?_
  rintro e w' ⟨g, c, rfl, h1, h2⟩
  refine ⟨g, c, rfl, ?_, h2⟩
  show World.ownsRow _ _ _ _ _ _ _
  unfold wb
  rw [List.length_append, enc_length s.size (grp_spec s.size (by omega)).1, sl_len]
  exact h1
theorem encW_len (n : Nat) (h : n < 9223372036854775808) : (encW n).length ≤ 9 := by rw [enc_length n (grp_spec n h).1]; exact (grp_spec n h).2.1
theorem wb_len (s : ByteArray) (h : s.size ≤ 8) : (wb s).length ≤ 17 := by
  unfold wb
  have := encW_len s.size (by omega)
  rw [List.length_append, sl_len]
  omega
def encC (c : Col) : List Nat := wb c.1 ++ encW c.2.1.toNat ++ encW c.2.2.toNat
def encX (x : Idx) : List Nat := encW x.1.toNat ++ encW (if x.2 then 1 else 0)
def encS (s : Sch) : List Nat := wb s.nm ++ encW s.cs.length ++ s.cs.flatMap encC ++ encW s.xs.length ++ s.xs.flatMap encX
/-- What a Right column is. -/
theorem colsN_at {l : List Col} : ∀ {n j : Nat} {c : Col}, colsN l n = true → j < n → l[j]? = some c → colAt l j c = true
  | 0, j, c, _, hj, _ => by omega
  | n + 1, j, c, h, hj, hc => by
    have h' : (colsN l n && (match l[n]? with | some c => colAt l n c | none => true)) = true := h
    rw [Bool.and_eq_true] at h'
    by_cases e : j = n
    · subst e
      have := h'.2
      rw [hc] at this
      exact this
    · exact colsN_at h'.1 (by omega) hc
theorem ixsN_at {m : Nat} {l : List Idx} : ∀ {n j : Nat} {c : Idx}, ixsN m l n = true → j < n → l[j]? = some c → ixAt m l j c = true
  | 0, j, c, _, hj, _ => by omega
  | n + 1, j, c, h, hj, hc => by
    have h' : (ixsN m l n && (match l[n]? with | some c => ixAt m l n c | none => true)) = true := h
    rw [Bool.and_eq_true] at h'
    by_cases e : j = n
    · subst e
      have := h'.2
      rw [hc] at this
      exact this
    · exact ixsN_at h'.1 (by omega) hc
theorem isNm_size {s : ByteArray} (h : isNm s = true) : s.size ≤ 8 := by
  unfold isNm at h
  simp only [Bool.and_eq_true, decide_eq_true_eq] at h
  exact h.1.2
theorem isMx_num {k m : Int} (h : isMx k m = true) : 1 ≤ k ∧ k ≤ 3 ∧ 0 ≤ m ∧ m ≤ 8 := by
  unfold isMx at h
  split at h
  · simp only [Bool.and_eq_true, decide_eq_true_eq] at h
    omega
  · split at h
    · simp only [beq_iff_eq] at h
      omega
    · cases h
structure ColOk (c : Col) : Prop where
  nm : c.1.size ≤ 8
  k0 : 1 ≤ c.2.1
  k1 : c.2.1 ≤ 3
  m0 : 0 ≤ c.2.2
  m1 : c.2.2 ≤ 8
theorem Sch.parts {s : Sch} (h : s.ok = true) : s.nm.size ≤ 8 ∧ s.cs.length ≤ 3 ∧ s.xs.length ≤ 3 ∧ (∀ (j : Nat) c, s.cs[j]? = some c → ColOk c) ∧ (∀ (j : Nat) x, s.xs[j]? = some x → 1 ≤ x.1 ∧ x.1 ≤ 3) := by
  unfold Sch.ok colsOk ixsOk at h
  simp only [Bool.and_eq_true, decide_eq_true_eq] at h
  obtain ⟨⟨h1, ⟨h2, h3⟩, h4⟩, h5, h6⟩ := h
  refine ⟨isNm_size h1, h3, h5, fun j c hc => ?_, fun j x hx => ?_⟩
  · have := colsN_at h4 (List.getElem?_eq_some_iff.1 hc).1 hc
    unfold colAt at this
    simp only [Bool.and_eq_true] at this
    have hm := isMx_num this.1.2
    exact ⟨isNm_size this.1.1, hm.1, hm.2.1, hm.2.2.1, hm.2.2.2⟩
  · have := ixsN_at h6 (List.getElem?_eq_some_iff.1 hx).1 hx
    unfold ixAt at this
    simp only [Bool.and_eq_true, decide_eq_true_eq] at this
    omega
theorem encC_len {c : Col} (h : ColOk c) : (encC c).length ≤ 35 := by
  unfold encC
  have h1 := wb_len c.1 h.nm
  have h2 := encW_len c.2.1.toNat (by have := h.k1; omega)
  have h3 := encW_len c.2.2.toNat (by have := h.m1; omega)
  simp only [List.length_append]
  omega
theorem encX_len {x : Idx} (h : 1 ≤ x.1 ∧ x.1 ≤ 3) : (encX x).length ≤ 18 := by
  unfold encX
  have h2 := encW_len x.1.toNat (by omega)
  have h3 := encW_len (if x.2 then 1 else 0) (by split <;> omega)
  simp only [List.length_append]
  omega
end Go.Proofs.Ytcophbkgighepaa
