/- Contract of the document's own Read: what it leans on. -/
import Derived.Test.YtadkmnckjennoaaDoorR5
import Derived.Test.YtadkmnckjennoaaDoorE2
import Derived.Test.YtadkmnckjennoaaDoorY1
set_option linter.unusedVariables false
namespace Go.Proofs.YtadkmnckjennoaaDoor
open Go.RowKit

theorem row_otherZ {wx w1 : World} {B1 B2 e1 e2 n1 n2 z1 z2 : Nat} {v1 v2 : Value} {l1 l2 : List Value} (h : wx.ownsRow B1 e1 z1 v1 n1 l1) (ho : wx.ownsRow B2 e2 z2 v2 n2 l2) (hne : e1 ≠ e2) (hg : wx.grownBy w1 v2.ownBlock) : w1.ownsRow B1 e1 z1 v1 n1 l1 := by
  refine h.kept hg ?_
  rcases h.2 with ⟨rfl, _⟩ | ⟨g, cap, cur, rfl, _, hc, _⟩
  · exact Or.inl rfl
  · right
    intro e
    rcases ho.2 with ⟨rfl, _⟩ | ⟨g', cap', cur', rfl, _, hc', _⟩
    · cases e
    · have : g = g' := Option.some.inj e
      subst this
      rw [hc] at hc'
      simp only [Option.some.injEq, Obj.cells.injEq] at hc'
      exact hne hc'.2.1
/-- While the runes of a text grow beside the values that were read. -/
structure TQ (w wx : World) (v rv : Value) (pre : List Val) (rs : List Nat) : Prop where
  vw : VW w wx v pre
  row : wx.ownsRow w.heap.size 21 1 rv rs.length (rcells rs)
theorem TQ.later {w wx w1 : World} {v rv : Value} {pre : List Val} {rs : List Nat} (h : TQ w wx v rv pre rs) (hb : Below wx.heap.size wx w1) : TQ w w1 v rv pre rs := ⟨h.vw.later hb, ownsRow_later h.row hb⟩
theorem TQ.push {w wx w1 : World} {v rv rv1 : Value} {pre : List Val} {rs : List Nat} {c : Nat} (h : TQ w wx v rv pre rs) (ho : w1.ownsRow w.heap.size 21 1 rv1 (rs.length + 1) (rcells rs ++ [.int .i32 (c : Int)])) (hg : wx.grownBy w1 rv.ownBlock) : TQ w w1 v rv1 pre (rs ++ [c]) := by
  refine ⟨⟨row_otherZ h.vw.own h.row (by decide) hg, grown_below h.vw.bel hg h.row h.vw.bel.size⟩, ?_⟩
  have e : rcells (rs ++ [c]) = rcells rs ++ [.int .i32 (c : Int)] := by simp [rcells]
  rw [e, List.length_append, List.length_singleton]
  exact ho
theorem TQ.rr {w wx : World} {v rv : Value} {pre : List Val} {rs : List Nat} (h : TQ w wx v rv pre rs) (hv : ∀ r ∈ rs, vr r) : RR wx rv rs := by
  refine ⟨hv, ?_⟩
  rcases h.row.2 with ⟨rfl, h0⟩ | ⟨g, cap, cur, e, _, hc, h5, h6, _⟩
  · exact Or.inl ⟨rfl, List.eq_nil_of_length_eq_zero h0⟩
  · subst e
    refine Or.inr ⟨g, cap, rfl, h5, h6, (Array.getElem?_eq_some_iff.1 hc).1, fun i hi => ?_⟩
    exact (h.row.cellAt i (by omega)).trans (rcells_get hi)

theorem i32_or_nat (a b : Nat) (ha : a < 2147483648) (hb : b < 2147483648) : bits .or .i32 (a : Int) (b : Int) = ((a ||| b : Nat) : Int) := by
  have hx : a ||| b < 2 ^ 31 := Nat.or_lt_two_pow (by omega) (by omega)
  show IntKind.i32.wrap ((BitVec.ofInt 32 (a : Int) ||| BitVec.ofInt 32 (b : Int)).toNat : Int) = _
  rw [BitVec.toNat_or, ofInt_u32 a (by omega), ofInt_u32 b (by omega)]
  generalize a ||| b = z at hx ⊢
  simp only [IntKind.wrap, IntKind.bits, IntKind.signed]
  simp
  omega
theorem i32_join1 {a b : Nat} (ha : a < 256) (hb : b < 256) : bits .or .i32 ((a : Int) * 65536) ((b : Int) * 256) = (a : Int) * 65536 + (b : Int) * 256 := by
  have h := i32_or_nat (a * 65536) (b * 256) (by omega) (by omega)
  have e : a * 65536 ||| b * 256 = a * 65536 + b * 256 := nat_join 16 (a * 65536) (b * 256) (by omega) (by omega)
  rw [e] at h
  simpa using h
theorem i32_join2 {a b c : Nat} (ha : a < 256) (hb : b < 256) (hc : c < 256) : bits .or .i32 ((a : Int) * 65536 + (b : Int) * 256) (c : Int) = (a : Int) * 65536 + (b : Int) * 256 + (c : Int) := by
  have h := i32_or_nat (a * 65536 + b * 256) c (by omega) (by omega)
  have e : (a * 65536 + b * 256) ||| c = a * 65536 + b * 256 + c := nat_join 8 (a * 65536 + b * 256) c (by omega) (by omega)
  rw [e] at h
  simpa using h
theorem take3 {xs : List Nat} {p : Nat} (h : p + 3 ≤ xs.length) : (xs.drop p).take 3 = [xs.getD p 0, xs.getD (p + 1) 0, xs.getD (p + 2) 0] := by
  apply List.ext_getElem?
  intro i
  rw [List.getElem?_take, List.getElem?_drop]
  by_cases h3 : i < 3
  · rw [if_pos h3]
    have : i = 0 ∨ i = 1 ∨ i = 2 := by omega
    rcases this with rfl | rfl | rfl
    · simp [List.getD, show p < xs.length by omega]
    · simp [List.getD, show p + 1 < xs.length by omega]
    · simp [List.getD, show p + 2 < xs.length by omega]
  · rw [if_neg h3, List.getElem?_eq_none (by simp; omega)]
theorem valHi3 {xs : List Nat} {p : Nat} (h : p + 3 ≤ xs.length) : valHi ((xs.drop p).take 3) = xs.getD p 0 * 65536 + xs.getD (p + 1) 0 * 256 + xs.getD (p + 2) 0 := by
  rw [take3 h]
  simp [valHi]
  omega
theorem getD_dropN (xs : List Nat) (p : Nat) : (xs.drop p).getD 0 0 = xs.getD p 0 := by simp [List.getD, List.getElem?_drop]
theorem drop_ne_nil {xs : List Nat} {p : Nat} (h : p < xs.length) : xs.drop p ≠ [] := by
  intro e
  have := congrArg List.length e
  simp at this
  omega
theorem rh_1 {xs : List Nat} {p : Nat} (h : xs.getD p 0 = 1) : rh (xs.drop p) = some (.nothing, 1) := by
  unfold rh
  rw [getD_dropN, if_pos h]
theorem rh_2 {xs : List Nat} {p : Nat} (h : xs.getD p 0 = 2) : rh (xs.drop p) = if p + 9 ≤ xs.length then some (.number ((valHi ((xs.drop (p + 1)).take 8) : Int) - 9223372036854775808), 9) else none := by
  unfold rh
  rw [getD_dropN, h, if_neg (by omega), if_pos rfl, List.drop_drop, List.length_drop]
  by_cases q : p + 9 ≤ xs.length
  · rw [if_pos (by omega), if_pos q]
  · rw [if_neg (by omega), if_neg q]
theorem take1 {xs : List Nat} {p : Nat} (h : p < xs.length) : (xs.drop p).take 1 = [xs.getD p 0] := by
  rw [List.drop_eq_getElem_cons h, List.take_succ_cons, List.take_zero]
  congr 1
  rw [List.getD_eq_getElem?_getD, List.getElem?_eq_getElem h, Option.getD_some]
theorem rh_4 {xs : List Nat} {p : Nat} (h : xs.getD p 0 = 4) : rh (xs.drop p) = if p + 1 < xs.length ∧ xs.getD (p + 1) 0 ≤ 1 then some (.truth (decide (xs.getD (p + 1) 0 = 1)), 2) else none := by
  unfold rh
  rw [getD_dropN, h, if_neg (by omega), if_neg (by omega), if_pos rfl, List.drop_drop, List.length_drop]
  by_cases q : p + 1 < xs.length
  · rw [take1 q]
    have e : valHi [xs.getD (p + 1) 0] = xs.getD (p + 1) 0 := by simp [valHi]
    rw [e]
    by_cases r : xs.getD (p + 1) 0 ≤ 1
    · rw [if_pos ⟨by omega, r⟩, if_pos ⟨q, r⟩]
    · rw [if_neg (fun z => r z.2), if_neg (fun z => r z.2)]
  · rw [if_neg (fun z => by omega), if_neg (fun z => q z.1)]
theorem rh_3 {xs : List Nat} {p : Nat} (h : xs.getD p 0 = 3) : rh (xs.drop p) = (rt (xs.drop (p + 1))).map (fun q => (.text ⟨(encs q.1).toArray⟩, q.2 + 1)) := by
  unfold rh
  rw [getD_dropN, h, if_neg (by omega), if_neg (by omega), if_neg (by omega), if_pos rfl, List.drop_drop]
theorem rh_0 {xs : List Nat} {p : Nat} (h1 : xs.getD p 0 ≠ 1) (h2 : xs.getD p 0 ≠ 2) (h3 : xs.getD p 0 ≠ 3) (h4 : xs.getD p 0 ≠ 4) : rh (xs.drop p) = none := by
  unfold rh
  rw [getD_dropN, if_neg h1, if_neg h2, if_neg h4, if_neg h3]
theorem rd_step {xs : List Nat} {p k : Nat} {h : H} {pre : List Val} (hp : p < xs.length) (e : rh (xs.drop p) = some (h, k)) (hr : rd xs = (rd (xs.drop p)).map (pre ++ ·)) : rd xs = (rd (xs.drop (p + k))).map ((pre ++ [h.ov]) ++ ·) := by
  rw [hr, rd_some (drop_ne_nil hp) e, map_cons_append, List.drop_drop]
theorem rd_stop {xs : List Nat} {p : Nat} {pre : List Val} (hp : p < xs.length) (e : rh (xs.drop p) = none) (hr : rd xs = (rd (xs.drop p)).map (pre ++ ·)) : rd xs = none := by
  rw [hr, rd_none (drop_ne_nil hp) e]
  rfl
/-- A text's runes so far: rs, up to p. -/
def RtS (xs : List Nat) (p0 p : Nat) (rs : List Nat) : Prop := rt (xs.drop p0) = (rt (xs.drop p)).map (fun q => (rs ++ q.1, q.2 + (p - p0)))
theorem RtS.start (xs : List Nat) (p0 : Nat) : RtS xs p0 p0 [] := by
  unfold RtS
  cases rt (xs.drop p0) <;> simp
theorem RtS.none {xs : List Nat} {p0 p : Nat} {rs : List Nat} (h : RtS xs p0 p rs) (e : rt (xs.drop p) = Option.none) : rt (xs.drop p0) = Option.none := by
  unfold RtS at h
  rw [h, e]
  rfl
theorem rt_short {xs : List Nat} {p : Nat} (h : ¬ p + 3 ≤ xs.length) : rt (xs.drop p) = none := by
  rw [rt_eq, if_pos (by rw [List.length_drop]; omega)]
theorem rt_bad {xs : List Nat} {p V : Nat} (h : p + 3 ≤ xs.length) (hV : valHi ((xs.drop p).take 3) = V) (h0 : V ≠ 0) (hv : ¬ vr (V - 1)) : rt (xs.drop p) = none := by
  rw [rt_eq, if_neg (by rw [List.length_drop]; omega), hV, if_neg h0, if_neg hv]
theorem RtS.stop {xs : List Nat} {p0 p V : Nat} {rs : List Nat} (h : RtS xs p0 p rs) (hl : p + 3 ≤ xs.length) (hV : valHi ((xs.drop p).take 3) = V) (h0 : V = 0) : rt (xs.drop p0) = some (rs, 3 + (p - p0)) := by
  unfold RtS at h
  rw [h, rt_eq, if_neg (by rw [List.length_drop]; omega), hV, if_pos h0]
  simp
theorem RtS.step {xs : List Nat} {p0 p V : Nat} {rs : List Nat} (h : RtS xs p0 p rs) (hl : p + 3 ≤ xs.length) (hp : p0 ≤ p) (hV : valHi ((xs.drop p).take 3) = V) (h0 : V ≠ 0) (hv : vr (V - 1)) : RtS xs p0 (p + 3) (rs ++ [V - 1]) := by
  unfold RtS at h ⊢
  rw [h, rt_eq, if_neg (by rw [List.length_drop]; omega), hV, if_neg h0, if_pos hv, List.drop_drop]
  cases rt (xs.drop (p + 3)) with
  | none => rfl
  | some q => simp; omega
end Go.Proofs.YtadkmnckjennoaaDoor
