/- Contract of keys.Read: all values of some bytes. -/
import Derived.Test.YtcophbkgighepaaR3
import Derived.Test.YtcophbkgighepaaD2
set_option linter.unusedVariables false
namespace Go.Proofs.Ytcophbkgighepaa
open Go.RowKit

abbrev v0 : Val := (0, 0, ⟨#[]⟩)
/-- A held value, put out. -/
def H.ov : H → Val
  | .nothing => (0, 0, ⟨#[]⟩)
  | .number n => (1, n, ⟨#[]⟩)
  | .text s => (2, 0, s)
  | .truth b => (3, bi b, ⟨#[]⟩)
  | .none => (0, 0, ⟨#[]⟩)
def vc (x : Val) : List Value := [.int .i64 x.1, .int .i64 x.2.1, .string x.2.2]
def vcells (vs : List Val) : List Value := vs.flatMap vc
theorem out_ov (h : H) : h.out = av h.ov.1 h.ov.2.1 h.ov.2.2 := by cases h <;> rfl
theorem vcells_len (vs : List Val) : (vcells vs).length = vs.length * 3 := by
  induction vs with
  | nil => rfl
  | cons x r ih => simp only [vcells, List.flatMap_cons, List.length_append, List.length_cons] at ih ⊢; simp only [vc, List.length_cons, List.length_nil]; omega
theorem vcells_snoc (vs : List Val) (x : Val) : vcells (vs ++ [x]) = vcells vs ++ vc x := by simp [vcells]
theorem vcells_at : ∀ (vs : List Val) (i j : Nat), i < vs.length → j < 3 → (vcells vs)[i * 3 + j]? = (vc (vs.getD i (0, 0, ⟨#[]⟩)))[j]?
  | [], i, j, h, _ => by simp at h
  | x :: r, 0, j, _, hj => by
    simp only [vcells, List.flatMap_cons, Nat.zero_mul, Nat.zero_add, List.getD_cons_zero]
    rw [List.getElem?_append_left (by simp [vc]; omega)]
  | x :: r, i + 1, j, h, hj => by
    have ih := vcells_at r i j (by simpa using h) hj
    simp only [vcells, List.flatMap_cons] at ih ⊢
    rw [List.getElem?_append_right (by simp [vc]; omega)]
    simp only [List.getD_cons_succ]
    rw [← ih]
    congr 1
    simp [vc]
    omega

/-- All values of some bytes. -/
def rdF : Nat → List Nat → Option (List Val)
  | 0, _ => some []
  | f + 1, xs => if xs = [] then some [] else match rh xs with
    | none => none
    | some (h, k) => (rdF f (xs.drop k)).map (h.ov :: ·)
def rd (xs : List Nat) : Option (List Val) := rdF xs.length xs
theorem rh_size {xs : List Nat} {h : H} {k : Nat} (hx : xs ≠ []) (e : rh xs = some (h, k)) : 1 ≤ k ∧ k ≤ xs.length := by
  have h0 : 0 < xs.length := List.length_pos_iff.2 hx
  have hd : (xs.drop 1).length = xs.length - 1 := by rw [List.length_drop]
  unfold rh at e
  split at e
  · cases e; omega
  · split at e
    · split at e
      · cases e; omega
      · cases e
    · split at e
      · split at e
        · cases e; omega
        · cases e
      · split at e
        · cases hr : rt (xs.drop 1) with
          | none => rw [hr] at e; cases e
          | some q =>
            have := rt_le (xs.drop 1) q.1 q.2 hr
            rw [hr] at e
            simp only [Option.map_some, Option.some.injEq, Prod.mk.injEq] at e
            omega
        · cases e
theorem rdF_fuel : ∀ (f : Nat) (xs : List Nat), xs.length ≤ f → rdF f xs = rd xs
  | 0, xs, h => by
    have : xs = [] := List.eq_nil_of_length_eq_zero (by omega)
    subst this; rfl
  | f + 1, xs, h => by
    by_cases hx : xs = []
    · subst hx; rfl
    · have h0 : 0 < xs.length := List.length_pos_iff.2 hx
      obtain ⟨n, hn⟩ : ∃ n, xs.length = n + 1 := ⟨xs.length - 1, by omega⟩
      unfold rd
      rw [hn]
      simp only [rdF, if_neg hx]
      cases e : rh xs with
      | none => rfl
      | some q =>
        obtain ⟨hh, k⟩ := q
        have := rh_size hx e
        simp only
        rw [rdF_fuel f _ (by rw [List.length_drop]; omega), rdF_fuel n _ (by rw [List.length_drop]; omega)]
  termination_by f => f
theorem rd_nil : rd [] = some [] := rfl
theorem rd_none {xs : List Nat} (hx : xs ≠ []) (e : rh xs = none) : rd xs = none := by
  obtain ⟨n, hn⟩ : ∃ n, xs.length = n + 1 := ⟨xs.length - 1, by have := List.length_pos_iff.2 hx; omega⟩
  unfold rd
  rw [hn]
  simp only [rdF, if_neg hx, e]
theorem rd_some {xs : List Nat} {h : H} {k : Nat} (hx : xs ≠ []) (e : rh xs = some (h, k)) : rd xs = (rd (xs.drop k)).map (h.ov :: ·) := by
  obtain ⟨n, hn⟩ : ∃ n, xs.length = n + 1 := ⟨xs.length - 1, by have := List.length_pos_iff.2 hx; omega⟩
  have := rh_size hx e
  conv => lhs; unfold rd
  rw [hn]
  simp only [rdF, if_neg hx, e]
  rw [rdF_fuel n _ (by rw [List.length_drop]; omega)]

theorem info_av : (Try.prog.info? 39).map (fun i => (i.zero, i.size, i.bytes)) = some (some (.agg #[.int .i64 0, .int .i64 0, .string ⟨#[]⟩]), 3, 32) := by kernel_rfl

/-- A row of values of the call's own, which grows. -/
structure VW (w : World) (wr : World) (v : Value) (vs : List Val) : Prop where
  own : wr.ownsRow w.heap.size 39 3 v vs.length (vcells vs)
  bel : Below w.heap.size w wr
theorem VW.hid {w wr : World} {v : Value} {vs : List Val} (h : VW w wr v vs) : Hid (VW w wr v vs) := h
theorem VW.later {w wr w1 : World} {v : Value} {vs : List Val} (h : VW w wr v vs) (hb : Below wr.heap.size wr w1) : VW w w1 v vs := ⟨ownsRow_later h.own hb, h.bel.trans (hb.mono h.bel.size)⟩
theorem VW.alloc {w wr : World} {v : Value} {vs : List Val} (h : VW w wr v vs) (o : Obj) : VW w (wr.alloc o) v vs := h.later ((Below.refl _ _).alloc (Nat.le_refl _) _)

theorem news_av (wr : World) (k n : Int) (s : ByteArray) (t : TypeId) : ∀ j u, (vc (k, n, s))[j]? = some u → (wr.alloc (.cells #[.int .i64 k, .int .i64 n, .string s] t)).cell? ((⟨wr.heap.size, 0, none⟩ : Addr).add j) = some u := by
  intro j u hj
  match j, hj with
  | 0, hj => simp [vc] at hj; subst hj; simp [Addr.add]
  | 1, hj => simp [vc] at hj; subst hj; simp [Addr.add]
  | 2, hj => simp [vc] at hj; subst hj; simp [Addr.add]
theorem one_av (k n : Int) (s : ByteArray) : ∀ u ∈ vc (k, n, s), u.oneCell' = true := by
  intro u hu
  simp only [vc, List.mem_cons, List.mem_nil_iff, or_false] at hu
  rcases hu with rfl | rfl | rfl <;> rfl
theorem wpList_append_v {ops : Array Oper} {rest : List Oper} {o : Oper} {a : Act} {Q : Exit → Act → World → Prop} {wr : World} (hgd : o.guard = none) (s x : Operand)
    (ho : o.op = .call { callee := .builtin .append, args := #[s, x], argTypes := #[26, 26] })
    (w : World) (v : Value) (vs : List Val) (hs : a.eval s = v) (k n : Int) (t : ByteArray) (hR : VW w wr v vs) (hx : a.eval x = .slice (some ⟨wr.heap.size, 0, none⟩) 1 1) (hsize : vs.length ≤ 33554432)
    (h : ∀ v' w', VW w w' v' (vs ++ [(k, n, t)]) → wpList Try.prog ops Q rest (a.put o.dst v') w') : wpList Try.prog ops Q (o :: rest) a (wr.alloc (.cells #[.int .i64 k, .int .i64 n, .string t] 39)) := by
  obtain ⟨i0, hi, hz0, hz1, hz2⟩ := info_parts info_av
  refine wpList_append_own_at _ hgd s x _ ho w.heap.size 39 i0 (.agg #[.int .i64 0, .int .i64 0, .string ⟨#[]⟩]) 3 32 Try.underlying26 hi hz0 hz1 hz2 rfl (by omega) v vs.length (vcells vs) hs (hR.alloc _).own ⟨wr.heap.size, 0, none⟩ 1 1 (vc (k, n, t)) hx rfl (news_av _ _ _ _ _) (one_av _ _ _) (by unfold maxLen; omega) (by omega) (by have := hR.bel.size; simp; omega) ?_
  intro v' w' h2 h3 _ h5
  refine h v' w' ⟨?_, (hR.alloc _).bel.grown h3 (by have := hR.bel.size; simp; omega) (fun j hj => (hR.own.lt j hj).1)⟩
  rw [List.length_append, vcells_snoc]
  exact h2

/-- What Read tells. -/
def RdR (o : Option (List Val)) (B : Nat) (e : Ending) (w' : World) : Prop := match o with
  | none => e = .returned (.tuple #[.slice none 0 0, .int .i64 11])
  | some vs => ∃ v, e = .returned (.tuple #[v, .int .i64 0]) ∧ w'.ownsRow B 39 3 v vs.length (vcells vs)
end Go.Proofs.Ytcophbkgighepaa
