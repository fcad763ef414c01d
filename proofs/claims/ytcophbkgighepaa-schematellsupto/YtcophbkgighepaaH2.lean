/- Rows of columns and of indexes; which of them a closure means. -/
import Derived.Test.YtcophbkgighepaaH0
import Derived.Test.YtcophbkgighepaaD2
import Derived.Laws.StructEq
import Derived.Deep.LoopGhost
set_option linter.unusedVariables false
namespace Go.Proofs.Ytcophbkgighepaa
open Go.RowKit

/-- A column: its name, its Kind, its Max. -/
abbrev Col := ByteArray × Int × Int
/-- An index: its column; is it Unique? -/
abbrev Idx := Int × Bool
def fC (x : Col) : List Value := [.string x.1, .int .i64 x.2.1, .int .i64 x.2.2]
def fX (x : Idx) : List Value := [.int .i64 x.1, .bool x.2]
/-- A row lies there. -/
structure SV {α : Type} (f : α → List Value) (k : Nat) (w : World) (a : Option Addr) (len cap : Nat) (l : List α) : Prop where
  hl : l.length = len
  hc : len ≤ cap
  hm : cap ≤ 9223372036854775807
  hn : a = none → cap = 0
  pl : 0 < len → ∃ b o, a = some ⟨b, o, none⟩ ∧ b < w.heap.size ∧ ∀ (i : Nat) x, l[i]? = some x → ∀ t, t < k → w.cell? ⟨b, o + i * k + t, none⟩ = (f x)[t]?
section
variable {α : Type} {f : α → List Value} {k : Nat} {w w' : World} {a : Option Addr} {len cap : Nat} {l : List α}
theorem SV.later (h : SV f k w a len cap l) (hb : Below w.heap.size w w') : SV f k w' a len cap l := by
  refine ⟨h.hl, h.hc, h.hm, h.hn, fun h0 => ?_⟩
  obtain ⟨b, o, h1, h2, h3⟩ := h.pl h0
  exact ⟨b, o, h1, Nat.lt_of_lt_of_le h2 hb.size, fun i x hx t ht => (hb.cell h2).trans (h3 i x hx t ht)⟩
theorem SV.take (h : SV f k w a len cap l) {n : Nat} (hn : n ≤ len) : SV f k w a n cap (l.take n) := by
  refine ⟨by rw [List.length_take, h.hl]; omega, by have := h.hc; omega, h.hm, h.hn, fun h0 => ?_⟩
  obtain ⟨b, o, h1, h2, h3⟩ := h.pl (by omega)
  refine ⟨b, o, h1, h2, fun i x hx t ht => h3 i x ?_ t ht⟩
  rw [List.getElem?_take] at hx
  split at hx
  · exact hx
  · cases hx
theorem SV.nil (f : α → List Value) (k : Nat) (w : World) : SV f k w none 0 0 [] := ⟨rfl, by omega, by omega, fun _ => rfl, fun h => by omega⟩
end
set_option maxRecDepth 100000 in
theorem col_clo {bx : Nat} {nm : ByteArray} {k2 m2 : Int} {w : World} (x : Col) (hc : w.heap[bx]? = some (.cells #[.string nm, .int .i64 k2, .int .i64 m2] 59 (0, 0))) :
    Calls Try.prog 50 #[.agg #[.string x.1, .int .i64 x.2.1, .int .i64 x.2.2], .pointer (some ⟨bx, 0, none⟩)] w fun e w' => e = .returned (.bool (x.1.toList == nm.toList)) ∧ Below w.heap.size w w' := by
  have HB := hide (below_box w (.cells #[.string x.1, .int .i64 x.2.1, .int .i64 x.2.2] 59))
  have y0 : (w.alloc (.cells #[.string x.1, .int .i64 x.2.1, .int .i64 x.2.2] 59)).cell? ⟨bx, 0, none⟩ = some (.string nm) := cell_blk ((HB.out.block bx (Array.getElem?_eq_some_iff.1 hc).1).trans hc)
  clear hc
  go_enter Try.func50, Try.ntmps50
  go_wp2
  go_ret
  exact ⟨rfl, HB.out⟩
set_option maxRecDepth 100000 in
theorem ix_clo {bx : Nat} {cc : Int} {u2 : Bool} {w : World} (x : Idx) (hc : w.heap[bx]? = some (.cells #[.int .i64 cc, .bool u2] 61 (0, 0))) :
    Calls Try.prog 53 #[.agg #[.int .i64 x.1, .bool x.2], .pointer (some ⟨bx, 0, none⟩)] w fun e w' => e = .returned (.bool (x.1 == cc)) ∧ Below w.heap.size w w' := by
  have HB := hide (below_box w (.cells #[.int .i64 x.1, .bool x.2] 61))
  have y0 : (w.alloc (.cells #[.int .i64 x.1, .bool x.2] 61)).cell? ⟨bx, 0, none⟩ = some (.int .i64 cc) := cell_blk ((HB.out.block bx (Array.getElem?_eq_some_iff.1 hc).1).trans hc)
  clear hc
  go_enter Try.func53, Try.ntmps53
  go_wp2
  go_ret
  exact ⟨rfl, HB.out⟩
set_option maxRecDepth 100000 in
set_option maxHeartbeats 2000000 in
theorem col_idx {bx : Nat} {nm : ByteArray} {k2 m2 : Int} {w : World} {a : Option Addr} {len cap : Nat} {l : List Col} (h : SV fC 3 w a len cap l) (hlen : len ≤ 1000) (hc : w.heap[bx]? = some (.cells #[.string nm, .int .i64 k2, .int .i64 m2] 59 (0, 0))) :
    Calls Try.prog 72 #[.slice a len cap, .func (Fn.func 50) #[] #[.pointer (some ⟨bx, 0, none⟩)]] w fun e w' => ∃ i : Int, e = .returned (.int .i64 i) ∧ (decide (0 ≤ i) = l.any (fun x => x.1.toList == nm.toList)) ∧ Below w.heap.size w w' := by
  have H := hide h
  have hx := h.hl
  have HL := hide hx
  clear h hx
  have HC := hide hc
  clear hc
  go_enter Try.func72, Try.ntmps72
  go_wp2_with fail
  go_loopg [8] len (fun gh s8 wx => ∃ j : Nat, j + gh = len ∧ s8 = .int .i64 (j : Int) ∧ (l.take j).any (fun x => x.1.toList == nm.toList) = false ∧ Below w.heap.size w wx)
  case atStart => exact ⟨0, by omega, rfl, by simp, Below.refl _ _⟩
  case round =>
    obtain ⟨j, hj, rfl, hno, hbr⟩ := hrel
    have HNO := hide hno
    have HBR := hide hbr
    clear hno hbr
    by_cases hjn : j < len
    · have xj : (j : Int) < (len : Int) := by omega
      obtain ⟨x, hxj⟩ : ∃ x, l[j]? = some x := ⟨_, List.getElem?_eq_getElem (by rw [HL.out]; exact hjn)⟩
      have HTK : Hid ((l.take (j + 1)).any (fun x => x.1.toList == nm.toList) = (x.1.toList == nm.toList)) := by
        show _ = _
        rw [List.take_add_one, hxj, List.any_append, HNO.out]
        simp
      have HYES : Hid ((x.1.toList == nm.toList) = true → l.any (fun x => x.1.toList == nm.toList) = true) := fun q => List.any_eq_true.2 ⟨x, List.mem_of_getElem? hxj, q⟩
      obtain ⟨b, o, e0, hb, hcs⟩ := H.out.pl (by omega)
      have hcell := fun t (ht : t < 3) => hcs j x hxj t ht
      subst e0
      have y0 : wr.cell? ⟨b, o + j * 3, none⟩ = some (.string x.1) := (HBR.out.cell hb).trans (hcell 0 (by omega))
      have y1 : wr.cell? ⟨b, o + j * 3 + 1, none⟩ = some (.int .i64 x.2.1) := (HBR.out.cell hb).trans (hcell 1 (by omega))
      have y2 : wr.cell? ⟨b, o + j * 3 + 2, none⟩ = some (.int .i64 x.2.2) := (HBR.out.cell hb).trans (hcell 2 (by omega))
      have hc2 := (HBR.out.block bx (Array.getElem?_eq_some_iff.1 HC.out).1).trans HC.out
      have HCL := hide (col_clo  (w := wr) x hc2)
      obtain ⟨pb, hpb⟩ : ∃ pb : Bool, pb = (x.1.toList == nm.toList) := ⟨_, rfl⟩
      rw [← hpb] at HTK HYES HCL
      clear hcs hcell hxj hpb
      go_wp2_with fail
      refine HCL.out.mono ?_
      rintro e w1 ⟨rfl, hb1⟩
      have HB1 : Hid (Below w.heap.size w w1) := HBR.out.trans (hb1.mono HBR.out.size)
      clear hb1 HCL
      cases pb with
      | true =>
        have HY := hide (HYES.out rfl)
        go_wp2_with fail
        go_ret
        exact ⟨(j : Int), rfl, by rw [HY.out]; exact decide_eq_true (by omega), HB1.out⟩
      | false =>
        go_wp2_with fail
        go_roundg (gk - 1)
        case measure => omega
        case rel => exact ⟨j + 1, by omega, rfl, HTK.out, HB1.out⟩
    · have xj : ¬ (j : Int) < (len : Int) := by omega
      have HN : Hid (l.any (fun x => x.1.toList == nm.toList) = false) := by
        have h9 := HNO.out
        rw [List.take_of_length_le (by rw [HL.out]; omega)] at h9
        exact h9
      go_wp2
      go_ret
      exact ⟨-1, rfl, by rw [HN.out]; rfl, HBR.out⟩
set_option maxRecDepth 100000 in
theorem col_has {bx : Nat} {nm : ByteArray} {k2 m2 : Int} {w : World} {a : Option Addr} {len cap : Nat} {l : List Col} (h : SV fC 3 w a len cap l) (hlen : len ≤ 1000) (hc : w.heap[bx]? = some (.cells #[.string nm, .int .i64 k2, .int .i64 m2] 59 (0, 0))) :
    Calls Try.prog 52 #[.slice a len cap, .func (Fn.func 50) #[] #[.pointer (some ⟨bx, 0, none⟩)]] w fun e w' => e = .returned (.bool (l.any (fun x => x.1.toList == nm.toList))) ∧ Below w.heap.size w w' := by
  have HI := hide (col_idx h hlen hc)
  clear h hc
  generalize l.any (fun x => x.1.toList == nm.toList) = bb at *
  go_enter Try.func52, Try.ntmps52
  go_wp2_with fail
  refine HI.out.mono ?_
  rintro e w1 ⟨i, rfl, hi, hb1⟩
  have HB1 := hide hb1
  have HE := hide hi
  clear hb1 HI hi
  go_wp2
  go_ret
  exact ⟨by rw [← HE.out]; rfl, HB1.out⟩
set_option maxRecDepth 100000 in
set_option maxHeartbeats 2000000 in
theorem ix_idx {bx : Nat} {cc : Int} {u2 : Bool} {w : World} {a : Option Addr} {len cap : Nat} {l : List Idx} (h : SV fX 2 w a len cap l) (hlen : len ≤ 1000) (hc : w.heap[bx]? = some (.cells #[.int .i64 cc, .bool u2] 61 (0, 0))) :
    Calls Try.prog 73 #[.slice a len cap, .func (Fn.func 53) #[] #[.pointer (some ⟨bx, 0, none⟩)]] w fun e w' => ∃ i : Int, e = .returned (.int .i64 i) ∧ (decide (0 ≤ i) = l.any (fun x => x.1 == cc)) ∧ Below w.heap.size w w' := by
  have H := hide h
  have hx := h.hl
  have HL := hide hx
  clear h hx
  have HC := hide hc
  clear hc
  go_enter Try.func73, Try.ntmps73
  go_wp2_with fail
  go_loopg [8] len (fun gh s8 wx => ∃ j : Nat, j + gh = len ∧ s8 = .int .i64 (j : Int) ∧ (l.take j).any (fun x => x.1 == cc) = false ∧ Below w.heap.size w wx)
  case atStart => exact ⟨0, by omega, rfl, by simp, Below.refl _ _⟩
  case round =>
    obtain ⟨j, hj, rfl, hno, hbr⟩ := hrel
    have HNO := hide hno
    have HBR := hide hbr
    clear hno hbr
    by_cases hjn : j < len
    · have xj : (j : Int) < (len : Int) := by omega
      obtain ⟨x, hxj⟩ : ∃ x, l[j]? = some x := ⟨_, List.getElem?_eq_getElem (by rw [HL.out]; exact hjn)⟩
      have HTK : Hid ((l.take (j + 1)).any (fun x => x.1 == cc) = (x.1 == cc)) := by
        show _ = _
        rw [List.take_add_one, hxj, List.any_append, HNO.out]
        simp
      have HYES : Hid ((x.1 == cc) = true → l.any (fun x => x.1 == cc) = true) := fun q => List.any_eq_true.2 ⟨x, List.mem_of_getElem? hxj, q⟩
      obtain ⟨b, o, e0, hb, hcs⟩ := H.out.pl (by omega)
      have hcell := fun t (ht : t < 2) => hcs j x hxj t ht
      subst e0
      have y0 : wr.cell? ⟨b, o + j * 2, none⟩ = some (.int .i64 x.1) := (HBR.out.cell hb).trans (hcell 0 (by omega))
      have y1 : wr.cell? ⟨b, o + j * 2 + 1, none⟩ = some (.bool x.2) := (HBR.out.cell hb).trans (hcell 1 (by omega))
      have hc2 := (HBR.out.block bx (Array.getElem?_eq_some_iff.1 HC.out).1).trans HC.out
      have HCL := hide (ix_clo  (w := wr) x hc2)
      obtain ⟨pb, hpb⟩ : ∃ pb : Bool, pb = (x.1 == cc) := ⟨_, rfl⟩
      rw [← hpb] at HTK HYES HCL
      clear hcs hcell hxj hpb
      go_wp2_with fail
      refine HCL.out.mono ?_
      rintro e w1 ⟨rfl, hb1⟩
      have HB1 : Hid (Below w.heap.size w w1) := HBR.out.trans (hb1.mono HBR.out.size)
      clear hb1 HCL
      cases pb with
      | true =>
        have HY := hide (HYES.out rfl)
        go_wp2_with fail
        go_ret
        exact ⟨(j : Int), rfl, by rw [HY.out]; exact decide_eq_true (by omega), HB1.out⟩
      | false =>
        go_wp2_with fail
        go_roundg (gk - 1)
        case measure => omega
        case rel => exact ⟨j + 1, by omega, rfl, HTK.out, HB1.out⟩
    · have xj : ¬ (j : Int) < (len : Int) := by omega
      have HN : Hid (l.any (fun x => x.1 == cc) = false) := by
        have h9 := HNO.out
        rw [List.take_of_length_le (by rw [HL.out]; omega)] at h9
        exact h9
      go_wp2
      go_ret
      exact ⟨-1, rfl, by rw [HN.out]; rfl, HBR.out⟩
set_option maxRecDepth 100000 in
theorem ix_has {bx : Nat} {cc : Int} {u2 : Bool} {w : World} {a : Option Addr} {len cap : Nat} {l : List Idx} (h : SV fX 2 w a len cap l) (hlen : len ≤ 1000) (hc : w.heap[bx]? = some (.cells #[.int .i64 cc, .bool u2] 61 (0, 0))) :
    Calls Try.prog 54 #[.slice a len cap, .func (Fn.func 53) #[] #[.pointer (some ⟨bx, 0, none⟩)]] w fun e w' => e = .returned (.bool (l.any (fun x => x.1 == cc))) ∧ Below w.heap.size w w' := by
  have HI := hide (ix_idx h hlen hc)
  clear h hc
  generalize l.any (fun x => x.1 == cc) = bb at *
  go_enter Try.func54, Try.ntmps54
  go_wp2_with fail
  refine HI.out.mono ?_
  rintro e w1 ⟨i, rfl, hi, hb1⟩
  have HB1 := hide hb1
  have HE := hide hi
  clear hb1 HI hi
  go_wp2
  go_ret
  exact ⟨by rw [← HE.out]; rfl, HB1.out⟩
end Go.Proofs.Ytcophbkgighepaa
