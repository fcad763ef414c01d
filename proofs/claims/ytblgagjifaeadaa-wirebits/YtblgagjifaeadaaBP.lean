/- Small laws on bytes: a beginning of them; what a law's walk leans on. -/
import Derived.Test.YtblgagjifaeadaaB1
import Derived.Test.YtblgagjifaeadaaA8
namespace Go.Proofs.Ytblgagjifaeadaa
open Go.RowKit

theorem BS.front {w : World} {a : Option Addr} {len cap : Nat} {xs ys : List Nat} (h : BS w a len cap (xs ++ ys)) (n : Nat) (hn : xs.length = n) : BS w a n cap xs := by
  have hl := h.hlen
  have hr := h.hroom
  have hc := h.hcap
  simp only [List.length_append] at hl
  refine ⟨hn, by omega, by omega, h.hmax, fun c hc => h.hbyte c (by simp [hc]), h.hnil, fun x hx i hi => ?_⟩
  rw [h.hcell x hx i (by omega)]
  congr 3
  simp only [List.getD_eq_getElem?_getD]
  rw [List.getElem?_append_left (by omega)]
theorem bs_front {w : World} {a : Option Addr} {len cap : Nat} {xs : List Nat} (h : BS w a len cap xs) (n : Nat) (hn : n ≤ len) : BS w a n cap (xs.take n) := by
  have e := h
  rw [← List.take_append_drop n xs] at e
  exact e.front n (by rw [List.length_take]; have := h.hlen; omega)
theorem str_append (xs ys : List Nat) : (str xs) ++ (str ys) = str (xs ++ ys) := by
  apply ByteArray.ext
  rw [ByteArray.data_append]
  simp [str, strOfNums]
theorem str_size (xs : List Nat) : (str xs).size = xs.length := by rw [str, strOfNums_size]; simp
theorem str_mn (xs : List Nat) (h : xs.length ≤ 140737488355328) (wx : World) : (Op.stringOp .add (str xs) { data := #[77, 78] }).run Try.prog wx = .ok (.string (str (xs ++ [77, 78]))) wx := by
  have e : ({ data := #[77, 78] } : ByteArray) = str [77, 78] := rfl
  rw [e, run_string_add_sum wx _ _ (by rw [str_size, str_size]; simp; omega), str_append]
theorem BS.drew {w : World} {a : Option Addr} {len cap : Nat} {xs : List Nat} (h : BS w a len cap xs) : BS w.drew a len cap xs :=
  ⟨h.hlen, h.hcap, h.hroom, h.hmax, h.hbyte, h.hnil, fun x hx i hi => h.hcell x hx i hi⟩

/-- What a law's walk carries along: the bytes that came in, their copy with two marks, and that nothing old has turned. -/
structure Kept (w : World) (a0 : Option Addr) (len0 cap0 : Nat) (xs : List Nat) (g c : Nat) (wx : World) : Prop where
  old : BS wx a0 len0 cap0 xs
  new : BS wx (some ⟨g, 0, none⟩) (len0 + 2) c (xs ++ [77, 78])
  bel : Below w.heap.size w wx
section
variable {w : World} {a0 : Option Addr} {len0 cap0 : Nat} {xs : List Nat} {g c : Nat} {wx wy : World}
theorem Kept.drew (h : Kept w a0 len0 cap0 xs g c wx) : Kept w a0 len0 cap0 xs g c wx.drew := ⟨h.old.drew, h.new.drew, h.bel.drew⟩
theorem Kept.later (h : Kept w a0 len0 cap0 xs g c wx) (hb : Below wx.heap.size wx wy) : Kept w a0 len0 cap0 xs g c wy :=
  ⟨h.old.later hb (Nat.le_refl _), h.new.later hb (Nat.le_refl _), h.bel.trans (hb.mono h.bel.size)⟩
theorem Kept.front (h : Kept w a0 len0 cap0 xs g c wx) : BS wx (some ⟨g, 0, none⟩) len0 c xs := h.new.front len0 h.old.hlen
theorem Kept.hid (h : Kept w a0 len0 cap0 xs g c wx) : Hid (Kept w a0 len0 cap0 xs g c wx) := h
end
end Go.Proofs.Ytblgagjifaeadaa
