/- The walk of the law KeysOrder: whatever two lists of values of the bulk, it returns true and writes nothing that was there. -/
import Derived.Test.YtnmejnkdgeljeaaDoorK4
import Derived.Test.YtnmejnkdgeljeaaDoorJ6
import Derived.Test.YtnmejnkdgeljeaaDoorF2
import Derived.Test.YtnmejnkdgeljeaaDoorR5
set_option linter.unusedVariables false
namespace Go.Proofs.YtnmejnkdgeljeaaDoor
open Go.RowKit

/-- A row of bytes of the call's own, as a slice that is read. -/
theorem bs_row {w : World} {B : Nat} {v : Value} {xs : List Nat} (h : w.ownsRow B 5 1 v xs.length (cellsOf xs)) (hr : xs.length ≤ 140737488355328) (hb : ∀ n ∈ xs, n < 256) : ∃ a cap, v = .slice a xs.length cap ∧ BS w a xs.length cap xs := by
  rcases h.2 with ⟨rfl, h0⟩ | ⟨g, cap, cur, rfl, _⟩
  · have e : xs = [] := List.eq_nil_of_length_eq_zero h0
    subst e
    exact ⟨none, 0, rfl, BS.none w none 0 (by omega) (fun _ => rfl)⟩
  · exact ⟨some ⟨g, 0, none⟩, cap, rfl, BS.ofOwns h hr hb⟩
theorem bs_take {w : World} {a : Option Addr} {len cap : Nat} {xs : List Nat} (h : BS w a len cap xs) (p : Nat) (hp : p ≤ len) : BS w a p cap (xs.take p) := by
  have h1 := h.hlen
  have h2 := h.hcap
  have h3 := h.hroom
  refine ⟨by rw [List.length_take]; omega, by omega, by omega, h.hmax, fun n hn => h.hbyte n (List.mem_of_mem_take hn), h.hnil, fun x hx i hi => ?_⟩
  rw [h.hcell x hx i (by omega)]
  congr 3
  simp [List.getD, hi]
theorem keyBytes_one (x : Val) : keyBytes [x] = x.bytes := by simp [keyBytes]
/-- A slice of one value that was just laid. -/
theorem vs_one (w : World) (x : Val) (hx : x.ok) : VS (w.alloc (.cells #[.int .i64 x.1, .int .i64 x.2.1, .string x.2.2] 23)) (some ⟨w.heap.size, 0, none⟩) 1 1 [x] := by
  refine ⟨rfl, by omega, by omega, by omega, by simpa using hx, ?_, fun _ => ⟨_, _, rfl⟩⟩
  intro b o e i hi
  simp only [Option.some.injEq, Addr.mk.injEq, and_true] at e
  obtain ⟨rfl, rfl⟩ := e
  obtain rfl : i = 0 := by omega
  refine ⟨?_, ?_, ?_⟩ <;> simp [World.cell?_alloc_at]
/-- The last word: the one's bytes are longer, or the other's first ones are otherwise. -/
theorem last_word {x y : Val} (hx : x.ok) (he : x.err = 0) (hy : y.ok) (hf : y.err = 0) (hne : ¬ x = y) (hl : x.bytes.length ≤ y.bytes.length) : ((str (y.bytes.take x.bytes.length)).toList == (str x.bytes).toList) = false := by
  have h1 : ∀ n ∈ y.bytes.take x.bytes.length, n < 256 := fun n hn => bytes_lt y n (List.mem_of_mem_take hn)
  rw [str_same h1 (bytes_lt x)]
  apply decide_eq_false
  rw [cmpL_zero]
  intro h
  exact hne (no_begin hx he hy hf (y.bytes.drop x.bytes.length) (by conv => lhs; rw [← List.take_append_drop x.bytes.length y.bytes, h]))
end Go.Proofs.YtnmejnkdgeljeaaDoor
