/- What the law KeysJoin leans on: lists of Right values, their bytes, their order; rows that stay. -/
import Derived.Test.YtadkmnckjennoaaDoorJ2
import Derived.Test.YtadkmnckjennoaaDoorF2
set_option linter.unusedVariables false
namespace Go.Proofs.YtadkmnckjennoaaDoor
open Go.RowKit

theorem vs_row {w : World} {B : Nat} {v : Value} {vs : List Val} (h : w.ownsRow B 23 3 v vs.length (vcells vs)) (hl : vs.length ≤ 1048576) (hok : ∀ x ∈ vs, x.ok) : ∃ a cap, v = .slice a vs.length cap ∧ VS w a vs.length cap vs := by
  rcases h.2 with ⟨rfl, h0⟩ | ⟨g, cap, cur, rfl, _, h1, h2, h3, h4, h5⟩
  · have e : vs = [] := List.eq_nil_of_length_eq_zero h0
    subst e
    exact ⟨none, 0, rfl, rfl, by omega, by simp, by omega, by simp, (fun b o h => by cases h), fun h => by simp at h⟩
  · unfold maxLen at h3
    refine ⟨some ⟨g, 0, none⟩, cap, rfl, rfl, h2, by omega, by omega, hok, ?_, fun _ => ⟨g, 0, rfl⟩⟩
    intro b o e i hi
    simp only [Option.some.injEq, Addr.mk.injEq, and_true] at e
    obtain ⟨rfl, rfl⟩ := e
    have c : ∀ j, j < 3 → w.cell? ⟨g, i * 3 + j, none⟩ = (vc (vs.getD i (0, 0, ⟨#[]⟩)))[j]? := by
      intro j hj
      rw [h.cellAt (i * 3 + j) (by omega), vcells_at vs i j hi hj]
    have c0 := c 0 (by omega)
    have c1 := c 1 (by omega)
    have c2 := c 2 (by omega)
    simp only [Nat.zero_add]
    exact ⟨by simpa [vc] using c0, by simpa [vc] using c1, by simpa [vc] using c2⟩
theorem VS.later {w w1 : World} {a : Option Addr} {n c : Nat} {xs : List Val} (h : VS w a n c xs) (hb : Below w.heap.size w w1) : VS w1 a n c xs := by
  refine ⟨h.hlen, h.hcap, h.hmax, h.hroom, h.hok, ?_, h.hform⟩
  intro b o e i hi
  subst e
  have hlt := h.lt (by omega)
  obtain ⟨c0, c1, c2⟩ := h.hcell b o rfl i hi
  exact ⟨(hb.cell hlt).trans c0, (hb.cell hlt).trans c1, (hb.cell hlt).trans c2⟩

/-- Lists of Right values, not too long. -/
structure RL (xs : List Val) (m : Nat) : Prop where
  len : xs.length ≤ m
  ok : ∀ x ∈ xs, x.ok
  err : ∀ x ∈ xs, x.err = 0
  small : ∀ x ∈ xs, x.2.2.size ≤ 1048576
theorem RL.right {xs : List Val} (hok : ∀ x ∈ xs, x.ok) (hz : ∀ x ∈ xs, x.2.2.size ≤ 1048576) : RL (rightL xs) 6 := by
  have hm : ∀ x ∈ rightL xs, x ∈ xs ∧ isR x = true := by
    intro x hx
    have := List.mem_of_mem_take hx
    exact List.mem_filter.1 this
  exact ⟨by unfold rightL; rw [List.length_take]; omega, fun x hx => hok x (hm x hx).1, fun x hx => of_decide_eq_true (hm x hx).2, fun x hx => hz x (hm x hx).1⟩
theorem RL.append {a b : List Val} {m n : Nat} (h : RL a m) (k : RL b n) : RL (a ++ b) (m + n) :=
  ⟨by rw [List.length_append]; have := h.len; have := k.len; omega, fun x hx => (List.mem_append.1 hx).elim (h.ok x) (k.ok x), fun x hx => (List.mem_append.1 hx).elim (h.err x) (k.err x), fun x hx => (List.mem_append.1 hx).elim (h.small x) (k.small x)⟩
theorem RL.noErr {a : List Val} {m : Nat} (h : RL a m) : keyErr a = 0 := keyErr_all fun i hi => by
  have e : a.getD i (0, 0, ⟨#[]⟩) = a[i] := by simp [List.getD, hi]
  rw [e]
  exact h.err _ (List.getElem_mem hi)
theorem bytes_len (x : Val) (hz : x.2.2.size ≤ 1048576) : x.bytes.length ≤ 3145732 := by
  unfold Val.bytes
  cases hh : holdOf x.1 x.2.1 x.2.2 with
  | text s =>
    simp only [H.bytes, List.length_cons, List.length_append, runeB_len, hiB_len]
    cases hr : runes (bl x.2.2) with
    | none => simp
    | some rs =>
      have := runes_len hr
      rw [bl_len] at this
      simp only [Option.getD_some]
      omega
  | _ => simp [H.bytes, hiB_len]
theorem RL.bytes {a : List Val} {m : Nat} (h : RL a m) : (keyBytes a).length ≤ m * 3145732 := by
  have key : ∀ l : List Val, (∀ x ∈ l, x.2.2.size ≤ 1048576) → (keyBytes l).length ≤ l.length * 3145732 := by
    intro l
    induction l with
    | nil => intro _; simp [keyBytes]
    | cons x l ih =>
      intro hs
      have h1 := bytes_len x (hs x (by simp))
      have h2 := ih fun y hy => hs y (by simp [hy])
      have e : keyBytes (x :: l) = x.bytes ++ keyBytes l := by simp [keyBytes]
      rw [e, List.length_append, List.length_cons]
      omega
  exact Nat.le_trans (key a h.small) (Nat.mul_le_mul_right _ h.len)
theorem hiB_lt (n s : Nat) : ∀ c ∈ hiB n s, c < 256 := by
  intro c hc
  simp only [hiB, List.mem_map] at hc
  obtain ⟨i, _, rfl⟩ := hc
  omega
theorem bytes_lt (x : Val) : ∀ c ∈ x.bytes, c < 256 := by
  unfold Val.bytes
  cases holdOf x.1 x.2.1 x.2.2 with
  | nothing => simp [H.bytes]
  | number n =>
    intro c hc
    simp only [H.bytes, List.mem_cons] at hc
    rcases hc with rfl | hc
    · omega
    · exact hiB_lt _ _ c hc
  | text s =>
    intro c hc
    simp only [H.bytes, List.mem_cons, List.mem_append, runeB, List.mem_flatMap] at hc
    rcases hc with rfl | ⟨r, _, hc⟩ | hc
    · omega
    · exact hiB_lt _ _ c hc
    · exact hiB_lt _ _ c hc
  | truth b => intro c hc; cases b <;> simp [H.bytes, bi] at hc <;> omega
  | none => simp [H.bytes]
theorem keyBytes_lt (a : List Val) : ∀ c ∈ keyBytes a, c < 256 := by
  intro c hc
  simp only [keyBytes, List.mem_flatMap] at hc
  obtain ⟨x, _, hx⟩ := hc
  exact bytes_lt x c hx
theorem keyBytes_append (a b : List Val) : keyBytes (a ++ b) = keyBytes a ++ keyBytes b := by simp [keyBytes]
theorem str_add (xs ys : List Nat) : (str xs) ++ (str ys) = str (xs ++ ys) := by
  apply ByteArray.ext
  rw [ByteArray.data_append]
  simp [str, strOfNums]
theorem str_sz (xs : List Nat) : (str xs).size = xs.length := by rw [str, strOfNums_size]; simp

theorem cmpVs_lex : ∀ (a b : List Val), cmpVs a b = lexG (lexG Lib.compareInt) (a.map fun x => x.held.code) (b.map fun x => x.held.code)
  | [], [] => rfl
  | [], _ :: _ => rfl
  | _ :: _, [] => rfl
  | x :: a, y :: b => by
    rw [List.map_cons, List.map_cons, lexG_cons, ← cmpVs_lex a b, ← cmpH_code]
    rfl
theorem ordV : Ord (lexG (lexG Lib.compareInt)) := lexG_ord (lexG_ord cmpI_ord)
theorem cmp_tr {a b c : List Val} (h1 : cmpVs a b ≤ 0) (h2 : cmpVs b c ≤ 0) : cmpVs a c ≤ 0 := by rw [cmpVs_lex] at h1 h2 ⊢; exact ordV.tr h1 h2
theorem cmp_st {a b c : List Val} (h1 : cmpVs a b < 0) (h2 : cmpVs b c ≤ 0) : cmpVs a c < 0 := by rw [cmpVs_lex] at h1 h2 ⊢; exact ordV.st h1 h2
theorem cmp_pre (a b : List Val) : 0 ≤ cmpVs (a ++ b) a := by
  induction a with
  | nil => cases b <;> simp [cmpVs]
  | cons x a ih =>
    have e : cmpV x x = 0 := by unfold cmpV; rw [cmpH_code]; exact (lexG_ord cmpI_ord).rf _
    simp only [List.cons_append, cmpVs, e, if_true]
    exact ih

/-- Three rows of values that stay, and the tables. -/
structure J3x (w : World) (B1 B2 B3 : Nat) (v1 v2 v3 : Value) (x y z : List Val) (wx : World) : Prop where
  r1 : wx.ownsRow B1 23 3 v1 x.length (vcells x)
  r2 : wx.ownsRow B2 23 3 v2 y.length (vcells y)
  r3 : wx.ownsRow B3 23 3 v3 z.length (vcells z)
  bel : Below w.heap.size w wx
  tab : Lib.Utf8Tabs 0 1 wx
theorem J3x.next {w w1 w2 : World} {B1 B2 B3 : Nat} {v1 v2 v3 : Value} {x y z : List Val} (h : Hid (J3x w B1 B2 B3 v1 v2 v3 x y z w1)) (hb : Below w1.heap.size w1 w2) : Hid (J3x w B1 B2 B3 v1 v2 v3 x y z w2) :=
  ⟨ownsRow_later h.out.r1 hb, ownsRow_later h.out.r2 hb, ownsRow_later h.out.r3 hb, h.out.bel.trans (hb.mono h.out.bel.size), Utf8Tabs_below h.out.tab hb⟩
end Go.Proofs.YtadkmnckjennoaaDoor
