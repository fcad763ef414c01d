/- Contract of headlandref1.Sum: the document's own check sum, byte by byte; the world stays. -/
import Derived.Test.YtblgagjifaeadaaA6
namespace Go.Proofs.Ytblgagjifaeadaa
open Go.RowKit

set_option maxRecDepth 100000 in
set_option maxHeartbeats 1000000 in
theorem refSum_zero (a : Option Addr) (cap : Nat) (w : World) :
    Calls Try.prog 20 #[.slice a 0 cap] w fun e w' => e = .returned (.int .u32 0) ∧ w' = w := by
  go_enter Try.func20, Try.ntmps20
  go_wp2
  go_loop [3, 4] (fun r i => r = .int .u32 4294967295 ∧ i = .int .i64 0) (fun _ _ => 0)
  case atStart => exact ⟨rfl, rfl⟩
  case round =>
    obtain ⟨rfl, rfl⟩ := hrel
    go_wp2
    go_ret
    exact ⟨ret_int (by decide), rfl⟩

set_option maxRecDepth 100000 in
set_option maxHeartbeats 1000000 in
theorem refSum_pos (b o len cap : Nat) (xs : List Nat) (w : World) (h : BS w (some ⟨b, o, none⟩) len cap xs) (hc : ∀ i, i < len → w.cell? ⟨b, o + i, none⟩ = some (.int .u8 (xs.getD i 0 : Nat))) :
    Calls Try.prog 20 #[.slice (some ⟨b, o, none⟩) len cap] w fun e w' => e = .returned (.int .u32 (4294967295 - crc 4294967295 xs : Nat)) ∧ w' = w := by
  have hroom := h.hroom
  have hcap := h.hcap
  have hlen : Hid (xs.length = len) := h.hlen
  have hby : Hid (∀ n ∈ xs, n < 256) := h.hbyte
  have HC : Hid (∀ i, i < len → w.cell? ⟨b, o + i, none⟩ = some (.int .u8 (xs.getD i 0 : Nat))) := hc
  clear h hc
  go_enter Try.func20, Try.ntmps20
  go_wp2
  go_loop [3, 4] (fun r i => ∃ k : Nat, k ≤ len ∧ i = .int .i64 k ∧ r = .int .u32 (crc 4294967295 (xs.take k) : Nat)) (fun _ i => len - (intOf i).toNat)
  case atStart => exact ⟨0, by omega, rfl, rfl⟩
  case round =>
    obtain ⟨k, hk, rfl, rfl⟩ := hrel
    have hrb := crc_take_lt xs hby.out k
    obtain ⟨r, HR⟩ : ∃ r, Hid (crc 4294967295 (xs.take k) = r) := ⟨_, rfl⟩
    rw [HR.out] at hrb ⊢
    by_cases hlt : k < len
    · have cc : w.cell? ⟨b, o + k, none⟩ = some (.int .u8 (xs.getD k 0 : Nat)) := HC.out _ hlt
      have hcb := byteAt hby.out k
      have HN : Hid (crc 4294967295 (xs.take (k + 1)) = stepB r (xs.getD k 0)) := by
        have := crc_take1 4294967295 xs k (by rw [hlen.out]; exact hlt)
        rw [HR.out] at this; exact this
      generalize xs.getD k 0 = c at *
      have hx := u32_xor_nat r c hrb (by omega)
      have hb := Nat.xor_lt_two_pow (n := 32) hrb (show c < 2 ^ 32 by omega)
      go_wp2
      go_loop [3, 5] (fun q i => ∃ t : Nat, t ≤ 8 ∧ i = .int .i64 t ∧ q = .int .u32 (shn t (r ^^^ c) : Nat)) (fun _ i => 8 - (intOf i).toNat)
      case atStart => exact ⟨0, by omega, rfl, rfl⟩
      case round =>
        obtain ⟨t, ht, rfl, rfl⟩ := hrel
        have hqb := shn_lt t hb
        obtain ⟨q, HQ⟩ : ∃ q, Hid (shn t (r ^^^ c) = q) := ⟨_, rfl⟩
        rw [HQ.out] at hqb ⊢
        have HQ2 : Hid (shn (t + 1) (r ^^^ c) = sh q) := by rw [shn_succ, HQ.out]; exact rfl
        have h1 := u32_and1 q hqb
        by_cases ht8 : t < 8
        · by_cases he : q % 2 = 0
          · have hb : (bits BinOp.and IntKind.u32 (↑q) 1 == 1) = false := by rw [h1, he]; rfl
            have hs : Hid (sh q = q / 2) := by unfold sh; rw [if_pos he]; exact rfl
            clear h1 he
            go_wp2
            go_round
            case rel => exact ⟨t + 1, by omega, by go_num, by rw [HQ2.out, hs.out]; simp⟩
            case measure => simp [intOf]; omega
          · have hb : (bits BinOp.and IntKind.u32 (↑q) 1 == 1) = true := by rw [h1]; simp; omega
            have hx : Hid (bits BinOp.xor IntKind.u32 (↑q / 2) 2197175160 = (sh q : Nat)) := by
              have := u32_xor_nat (q / 2) 2197175160 (by omega) (by decide)
              unfold sh; rw [if_neg he, ← this]; simp [Hid]
            clear h1 he
            go_wp2
            go_round
            case rel => exact ⟨t + 1, by omega, by go_num, by rw [HQ2.out, ← hx.out]⟩
            case measure => simp [intOf]; omega
        · obtain rfl : t = 8 := by omega
          go_wp2
          go_round
          case rel => exact ⟨k + 1, by omega, by go_num, by rw [HN.out, ← HQ.out]; rfl⟩
          case measure => simp [intOf]; omega
    · have HX : Hid (xs.take k = xs) := List.take_of_length_le (by rw [hlen.out]; omega)
      have HE : Hid (bits .xor .u32 IntKind.u32.max (r : Int) = ((4294967295 - crc 4294967295 xs : Nat) : Int)) := by
        have := not_u32 r hrb
        rw [← HR.out, HX.out] at this
        rw [← HR.out, HX.out]; exact this
      go_wp2
      go_ret
      exact ⟨ret_int HE.out, rfl⟩

theorem refSum_any (a : Option Addr) (len cap : Nat) (xs : List Nat) (w : World) (h : BS w a len cap xs) :
    Calls Try.prog 20 #[.slice a len cap] w fun e w' => e = .returned (.int .u32 (4294967295 - crc 4294967295 xs : Nat)) ∧ w' = w := by
  rcases Nat.eq_zero_or_pos len with h0 | h0
  · have hx : xs = [] := List.eq_nil_of_length_eq_zero (by have := h.hlen; omega)
    subst hx h0
    exact refSum_zero a cap w
  · obtain ⟨b, o, rfl, hb, hc⟩ := h.place h0
    exact refSum_pos b o len cap xs w h hc
end Go.Proofs.Ytblgagjifaeadaa
