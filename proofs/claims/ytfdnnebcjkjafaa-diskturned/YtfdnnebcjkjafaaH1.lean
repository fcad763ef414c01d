/- The law's helper could: each byte is one of what was kept and of the open writes. -/
import Derived.Test.YtfdnnebcjkjafaaG2
set_option linter.unusedVariables false
namespace Go.Proofs.Ytfdnnebcjkjafaa
open Go.RowKit

set_option maxRecDepth 100000 in
set_option maxHeartbeats 4000000 in
theorem could_any (g N : Nat) (ys : Nat → Nat) (kept : ByteArray) (a : Option Addr) (m c : Nat) (os : Nat → ByteArray) (w : World) (hN : N ≤ 8192) (hm : m ≤ 100000)
    (hc : ∀ i, i < N → w.cell? ⟨g, i, none⟩ = some (.int .u8 (ys i : Nat)))
    (ho : 0 < m → ∃ b o, a = some ⟨b, o, none⟩ ∧ ∀ j, j < m → w.cell? ⟨b, o + j, none⟩ = some (.string (os j)))
    (hp : ∀ i, i < N → ys i = sb kept i ∨ ∃ j, j < m ∧ ys i = sb (os j) i) :
    Calls Try.prog 30 #[.slice (some ⟨g, 0, none⟩) N N, .string kept, .slice a m c] w fun e w' => e = .returned (.bool true) ∧ ∃ n, w' = w.drewN n := by
  have HC := hide hc
  have HO := hide ho
  have HP := hide hp
  clear hc ho hp
  go_enter Try.func30, Try.ntmps30
  go_wp2
  go_loopw [7] (fun i wr => ∃ k : Nat, k ≤ N ∧ i = .int .i64 k ∧ ∃ n, wr = w.drewN n) (fun i _ => N - (intOf i).toNat)
  case atStart => exact ⟨0, by omega, rfl, 0, rfl⟩
  case round =>
    obtain ⟨k, hk, rfl, nd, HW⟩ := hrel
    by_cases hlt : k < N
    · have i1 : (0 : Int) ≤ (k : Int) := by omega
      have i2 : (k : Int) < (N : Int) := by omega
      have hcell : wr.cell? ⟨g, k, none⟩ = some (.int .u8 (ys k : Nat)) := by rw [HW]; exact HC.out k hlt
      have HW2 := hide HW
      have HA := hide (fun (s : ByteArray) (nn : Nat) => at_any s k (wr.drewN nn) (by omega))
      have HPk := hide (HP.out k hlt)
      clear HW
      go_wp2_with fail
      go_quiet ((go_at_call 31; refine Calls.quiet_of_same (HA.out _ _)))
      have HX : Hid (∃ n, wr.drewN nq = w.drewN n) := ⟨_, by rw [HW2.out, World.drewN_drewN]⟩
      have HQ0 : Hid (((((ys k : Nat) : Int) == ((sb kept k : Nat) : Int)) = true) → ys k = sb kept k ∨ ∃ j, j < m ∧ ys k = sb (os j) k) := fun _ => HPk.out
      have HQ1 : Hid (((((ys k : Nat) : Int) == ((sb kept k : Nat) : Int)) = false) → ys k ≠ sb kept k) := fun h => by simp at h; omega
      clear HA hcell
      generalize wr.drewN nq = wz at *
      go_wp2_with fail
      go_loopw [8, 9] (fun v i wy => ∃ (j : Nat) (okb : Bool), v = .bool okb ∧ i = .int .i64 j ∧ j ≤ m ∧ (okb = false → ys k ≠ sb kept k ∧ ∀ t, t < j → ys k ≠ sb (os t) k) ∧ ∃ n, wy = w.drewN n) (fun v i _ => m - (intOf i).toNat)
      case atStart => exact ⟨0, _, rfl, rfl, by omega, fun h => ⟨HQ1.out h, fun t ht => by omega⟩, HX.out⟩
      case round =>
        obtain ⟨j, okb, rfl, rfl, hj, hok, n2, HW3⟩ := hrel
        have HOK := hide hok
        have HW4 := hide HW3
        cases okb with
        | true =>
          clear HW3 hok
          by_cases hj2 : j < m
          · have j2 : (j : Int) < (m : Int) := by omega
            go_wp2
            go_roundw
            case rel => exact ⟨k + 1, by omega, by go_num, n2, HW4.out⟩
            case measure => simp [intOf]; omega
          · have j2 : ¬ (j : Int) < (m : Int) := by omega
            go_wp2
            go_roundw
            case rel => exact ⟨k + 1, by omega, by go_num, n2, HW4.out⟩
            case measure => simp [intOf]; omega
        | false =>
          by_cases hj2 : j < m
          · obtain ⟨b, o, rfl, hst⟩ := HO.out (by omega)
            have j0 : (0 : Int) ≤ (j : Int) := by omega
            have j2 : (j : Int) < (m : Int) := by omega
            have c1 : wr.cell? ⟨g, k, none⟩ = some (.int .u8 (ys k : Nat)) := by rw [HW3]; exact HC.out k hlt
            have c2 : wr.cell? ⟨b, o + j, none⟩ = some (.string (os j)) := by rw [HW3]; exact hst j hj2
            have HA := hide (fun (s : ByteArray) (nn : Nat) => at_any s k (wr.drewN nn) (by omega))
            clear HW3 hok hst
            go_wp2_with fail
            go_quiet ((go_at_call 31; refine Calls.quiet_of_same (HA.out _ _)))
            go_wp2
            go_roundw
            case rel =>
              refine ⟨j + 1, _, rfl, by go_num, by omega, fun h => ⟨(HOK.out (by trivial)).1, fun t ht => ?_⟩, _, by rw [HW4.out, World.drewN_drewN]⟩
              rcases Nat.lt_or_ge t j with h3 | h3
              · exact (HOK.out (by trivial)).2 t h3
              · obtain rfl : t = j := by omega
                simp at h
                omega
            case measure => simp [intOf]; omega
          · exfalso
            obtain ⟨e1, e2⟩ := HOK.out rfl
            rcases HPk.out with h3 | ⟨t, ht, h3⟩
            · exact e1 h3
            · exact e2 t (by omega) h3
    · have i2 : ¬ (k : Int) < (N : Int) := by omega
      have HW2 := hide HW
      clear HW
      go_wp2
      go_ret
      exact ⟨rfl, nd, HW2.out⟩
end Go.Proofs.Ytfdnnebcjkjafaa
