/- Contract of keys.appendHigh: the last bytes of a number, laid down behind a row that the call owns. -/
import Derived.Test.YtcophbkgighepaaG
import Derived.Outline
import Derived.OpenShut
import Derived.Deep.DrawnRows
import Derived.BigRegion
import Derived.Handy
set_option linter.unusedVariables false
namespace Go.Proofs.Ytcophbkgighepaa
open Go.RowKit

set_option maxRecDepth 100000 in
set_option maxHeartbeats 1000000 in
theorem appendHigh_any (B : Nat) (v : Value) (xs : List Nat) (n size : Nat) (w : World) (ho : w.ownsRow B 5 1 v xs.length (cellsOf xs)) (hB : B ≤ w.heap.size) (hn : n < 18446744073709551616) (hsz : size ≤ 8) (hl : xs.length ≤ 1099511627776) :
    Calls Try.prog 82 #[v, .int .u64 n, .int .i64 size] w fun e w' => ∃ v', e = .returned v' ∧ GR B w v w' v' (xs ++ hiB n size) := by
  have HS := (GR.start ho hB).hid
  clear ho
  go_enter Try.func82, Try.ntmps82
  go_wp2
  go_loopw [0, 9] (fun b i wr => ∃ k : Nat, k ≤ size ∧ i = .int .i64 k ∧ GR B w v wr b (xs ++ (hiB n size).take k)) (fun _ i _ => size - (intOf i).toNat)
  case atStart => exact ⟨0, by omega, rfl, by simpa using HS.out⟩
  case round =>
    obtain ⟨k, hk, rfl, hR⟩ := hrel
    have HR := hR.hid
    clear hR
    by_cases hlt : k < size
    · obtain ⟨x, HX, hx⟩ : ∃ x : Nat, Hid (n / 256 ^ (size - 1 - k) % 256 = x) ∧ (n : Int) / 2 ^ (8 * (size - 1 - k)) % 256 = (x : Int) := by
        refine ⟨n / 256 ^ (size - 1 - k) % 256, rfl, ?_⟩
        have e : (2 : Nat) ^ (8 * (size - 1 - k)) = 256 ^ (size - 1 - k) := by rw [Nat.pow_mul]
        have e2 : ((2 : Int) ^ (8 * (size - 1 - k))) = ((256 ^ (size - 1 - k) : Nat) : Int) := by rw [← e]; simp
        rw [e2]
        simp
      have hlen : (xs ++ (hiB n size).take k).length + 1 ≤ 140737488355328 := by
        rw [List.length_append, List.length_take, hiB_len]
        omega
      have HL : Hid ((xs ++ (hiB n size).take k).length + 1 ≤ 140737488355328) := hlen
      clear hlen
      go_wp2_with (at_builtin; refine wpList_append_g rfl _ _ rfl B w v _ _ rfl (HR.out.alloc _) wr.heap.size 1 1 [x] rfl rfl (news1 _ _ _) HL.out ?_)
      intro v1 w1 hR1
      have HR1 := hR1.hid
      clear hR1
      go_wp2
      go_roundw
      case rel =>
        refine ⟨k + 1, by omega, by go_num, ?_⟩
        rw [hiB_take n size k hlt, HX.out]
        exact HR1.out
      case measure => simp [intOf]; omega
    · go_wp2
      go_ret
      have e : k = size := by omega
      subst e
      refine ⟨_, rfl, ?_⟩
      have := HR.out
      rwa [List.take_of_length_le (by rw [hiB_len]; exact Nat.le_refl _)] at this
end Go.Proofs.Ytcophbkgighepaa
