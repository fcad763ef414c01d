/- A law's first look: the program tells what the document says of a few. -/
import Derived.Test.YtadkmnckjennoaaDoorF1
import Derived.Test.YtadkmnckjennoaaDoorD4
import Derived.Test.YtadkmnckjennoaaDoorE1
set_option linter.unusedVariables false
namespace Go.Proofs.YtadkmnckjennoaaDoor
open Go.RowKit

theorem text_own {w : World} {B : Nat} {v : Value} {xs : List Nat} (h : w.ownsRow B 5 1 v xs.length (cellsOf xs)) (hr : xs.length ≤ 140737488355328) (hb : ∀ n ∈ xs, n < 256) : (convert 31 9 v).run Tryd.prog w = .ok (.string (str xs)) w := by
  rcases h.2 with ⟨rfl, h0⟩ | ⟨g, cap, cur, rfl, _⟩
  · have e : xs = [] := List.eq_nil_of_length_eq_zero h0
    subst e
    exact run_text (BS.none w none 0 (by omega) (fun _ => rfl))
  · exact run_text (BS.ofOwns h hr hb)

def toldVs : List Val := [(1, 1, ⟨#[]⟩), (2, 0, ⟨#[97]⟩)]
def toldBs : List Nat := [2, 128, 0, 0, 0, 0, 0, 0, 1, 3, 0, 0, 98, 0, 0, 0]
theorem told_runes : runes (bl ⟨#[97]⟩) = some [97] := by decide +kernel
theorem told_err : keyErr toldVs = 0 := by
  have e1 : Val.err (1, 1, ⟨#[]⟩) = 0 := by decide +kernel
  have e2 : Val.err (2, 0, ⟨#[97]⟩) = 0 := by decide +kernel
  simp [toldVs, keyErr, e1, e2]
theorem told_bytes : keyBytes toldVs = toldBs := by decide +kernel
theorem told_fold : foldS ⟨#[195, 128, 206, 163, 208, 150, 120]⟩ = ⟨#[195, 160, 207, 131, 208, 182, 120]⟩ := by
  have e : runes (bl ⟨#[195, 128, 206, 163, 208, 150, 120]⟩) = some [192, 931, 1046, 120] := by decide +kernel
  rw [foldS, e]
  decide +kernel
theorem told_two : countOf (runes (bl ⟨#[195, 164, 120]⟩)) = 2 := by
  have e : runes (bl ⟨#[195, 164, 120]⟩) = some [228, 120] := by decide +kernel
  rw [e]; rfl

theorem told_vs (w : World) : VS (w.alloc (.cells #[.int .i64 1, .int .i64 1, .string ⟨#[]⟩, .int .i64 2, .int .i64 0, .string ⟨#[97]⟩] 23)) (some ⟨w.heap.size, 0, none⟩) 2 2 toldVs := by
  refine ⟨rfl, by omega, by omega, by omega, ?_, ?_, fun _ => ⟨_, _, rfl⟩⟩
  · intro x hx
    simp only [toldVs, List.mem_cons, List.mem_nil_iff, or_false] at hx
    rcases hx with rfl | rfl <;> unfold Val.ok <;> decide +kernel
  · intro b o h i hi
    simp only [Option.some.injEq, Addr.mk.injEq, and_true] at h
    obtain ⟨rfl, rfl⟩ := h
    match i, hi with
    | 0, _ => refine ⟨?_, ?_, ?_⟩ <;> simp [toldVs]
    | 1, _ => refine ⟨?_, ?_, ?_⟩ <;> simp [toldVs]

theorem told_s6 (w : World) : S6 w.heap.size (w.heap.size + 1) ((w.alloc (.cells #[.int .i64 3, .int .i64 0, .string ⟨#[]⟩] 23)).alloc (.cells #[.int .i64 1, .int .i64 9, .string ⟨#[]⟩] 23)) := by
  refine ⟨⟨?_, ?_, ?_⟩, ?_, ?_, ?_⟩ <;> simp

set_option maxRecDepth 100000 in
set_option maxHeartbeats 1000000 in
theorem told_any (w : World) : Calls Tryd.prog 9 #[] w fun e w' => e = .returned (.bool true) ∧ Below w.heap.size w w' := by
  go_enter Tryd.func9, Tryd.ntmps9
  go_wp2_with fail
  refine (key_any (some ⟨w.heap.size, 0, none⟩) 2 2 toldVs _ (told_vs w) (by rw [told_bytes]; decide)).mono ?_
  rintro e w1 ⟨hk, hb1⟩
  unfold KeyR at hk
  rw [told_err, if_pos rfl, told_bytes] at hk
  obtain ⟨v, rfl, ho⟩ := hk
  have HO := hidc ho
  have HB1 := hidc (((Below.refl _ w).alloc (Nat.le_refl _) (.cells #[.int .i64 1, .int .i64 1, .string ⟨#[]⟩, .int .i64 2, .int .i64 0, .string ⟨#[97]⟩] 23)).trans (hb1.mono (by simp)))
  have hcv := fun o => text_own (ho.alloc o) (by decide) (by decide)
  have hst : str toldBs = ⟨#[2, 128, 0, 0, 0, 0, 0, 0, 1, 3, 0, 0, 98, 0, 0, 0]⟩ := by decide +kernel
  rw [hst] at hcv
  clear ho hb1 hst
  have cF := fun w => fold_any ⟨#[195, 128, 206, 163, 208, 150, 120]⟩ w (by decide)
  rw [told_fold] at cF
  have cR := fun w => runes_any ⟨#[195, 164, 120]⟩ w (by decide)
  rw [told_two] at cR
  go_wp2_with (go_at_call 17; refine (read_nine w1.heap.size _ (by simp)).mono ?_; rintro e w2 ⟨rfl, hw2⟩; have hw2 := hw2.symm; subst hw2; have HB2 := hidc (HB1.out.alloc HB1.out.size (.cells #[.int .u8 9] 5)))
  refine (cF _).mono ?_
  rintro e w3 ⟨rfl, hb3⟩
  have HB3 := hidc (HB2.out.trans (hb3.mono HB2.out.size))
  clear hb3 hcv
  go_wp2_with fail
  refine (cR _).mono ?_
  rintro e w4 ⟨rfl, hb4⟩
  have HB4 := hidc (HB3.out.trans (hb4.mono HB3.out.size))
  clear hb4
  go_wp2_with (go_at_call 21; refine (compare_told w4.heap.size (w4.heap.size + 1) _ (told_s6 w4) (by simp; omega) (by simp)).mono ?_; rintro e w5 ⟨rfl, hb5⟩; have HB5 := hidc (((HB4.out.alloc HB4.out.size _).alloc (by have := HB4.out.size; simp; omega) _).trans (hb5.mono (by have := HB4.out.size; simp; omega))))
  go_ret
  exact ⟨rfl, HB5.out⟩
end Go.Proofs.YtadkmnckjennoaaDoor
