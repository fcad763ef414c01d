/- The walk of the law WireSums: whatever bytes, it returns true and writes nothing that was there. -/
import Derived.Test.YtblgagjifaeadaaBP
import Derived.Test.YtblgagjifaeadaaA7
import Derived.Deep.RegionHeld3
import Derived.Deep.DrawnRows
import Derived.Outline
namespace Go.Proofs.Ytblgagjifaeadaa
open Go.RowKit
attribute [local go_sem ↓] Go.wp_at_zero Go.wp_at_succ

set_option maxRecDepth 100000 in
set_option maxHeartbeats 2000000 in
theorem wireSums_walk (a0 : Option Addr) (len0 cap0 : Nat) (xs : List Nat) (w : World) (h : BS w a0 len0 cap0 xs) (hr : len0 ≤ 140737488351232) :
    Calls Try.prog 5 #[.slice a0 len0 cap0] w fun e w' => e = .returned (.bool true) ∧ Below w.heap.size w w' := by
  have hl := h.hlen
  go_enter Try.func5, Try.ntmps5
  go_wp2_with fail
  refine (roomy_any a0 len0 cap0 xs _ h hr).mono ?_
  rintro e w1 ⟨g, c, rfl, hg, hbs1, hb1⟩
  have hcap := hbs1.hcap
  have hmax := hbs1.hmax
  have HK := (Kept.mk (h.later hb1 (Nat.le_refl _)) hbs1 hb1).hid
  have hl2 : (0 : Int) ≤ (len0 : Int) + 2 := by omega
  have hl3 : (len0 : Int) + 2 ≤ (c : Int) := by omega
  have hwr : IntKind.i64.wrap ((len0 : Int) + 2) = (len0 : Int) + 2 := by rw [IntKind.wrap_i64]; omega
  have htn : ((len0 : Int) + 2).toNat = len0 + 2 := by omega
  have hadd := str_mn xs (by omega)
  have HL : Hid (xs.length = len0) := hl
  clear hbs1 h hb1 hl
  go_wp2_with fail
  go_region_held3 (fun wx => (convert 22 9 (.slice (some ⟨g, 0, none⟩) (len0 + 2) c)).run Try.prog wx = .ok (.string (str (xs ++ [77, 78]))) wx ∧ (convert 22 9 (.slice a0 len0 cap0)).run Try.prog wx = .ok (.string (str xs)) wx)
    (first | exact ⟨run_text HK3.out.new, run_text HK3.out.old⟩ | exact ⟨run_text HK2.out.new, run_text HK2.out.old⟩ | exact ⟨run_text HK.out.drew.new, run_text HK.out.drew.old⟩)
    (first
    | (go_at_call 12; refine (told_any _).mono ?_; rintro e w2 ⟨rfl, hb2⟩; have HK2 := (HK.out.drew.later hb2).hid; clear hb2)
    | (go_at_call 19; refine (sum_any _ _ _ xs _ HK2.out.front).mono ?_; rintro e w3 ⟨rfl, hb3⟩; have HK3 := (HK2.out.later hb3).hid; clear hb3)
    | (go_at_call 20; refine (refSum_any _ _ _ xs _ HK3.out.old).mono ?_; rintro e w4 ⟨rfl, hw4⟩; subst hw4))
  go_wp2
  go_ret
  exact ⟨rfl, HK3.out.bel⟩
end Go.Proofs.Ytblgagjifaeadaa
