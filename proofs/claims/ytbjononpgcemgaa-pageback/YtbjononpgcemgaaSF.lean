/- Contract of wire.Sum: whatever bytes, it tells the check sum, and changes nothing that was there. -/
import Derived.Test.YtbjononpgcemgaaSD
import Derived.Test.YtbjononpgcemgaaSE
import Derived.Test.YtbjononpgcemgaaSN
namespace Go.Proofs.Ytbjononpgcemgaa
open Go.RowKit

theorem ones_xor (r : Nat) (h : r < 2 ^ 32) : 4294967295 ^^^ r = 4294967295 - r := by
  apply Nat.eq_of_testBit_eq
  intro i
  have e1 : (4294967295 : Nat) = 2 ^ 32 - (0 + 1) := by decide
  have e2 : 4294967295 - r = 2 ^ 32 - (r + 1) := by omega
  rw [Nat.testBit_xor, e2, Nat.testBit_two_pow_sub_succ h, e1, Nat.testBit_two_pow_sub_succ (by decide)]
  by_cases hi : i < 32
  · simp [hi]
  · have : r.testBit i = false := Nat.testBit_lt_two_pow (Nat.lt_of_lt_of_le h (Nat.pow_le_pow_right (by decide) (by omega)))
    simp [hi, this]
theorem not_u32 (r : Nat) (h : r < 4294967296) : bits .xor .u32 IntKind.u32.max (r : Int) = ((4294967295 - r : Nat) : Int) := by
  have e : IntKind.u32.max = ((4294967295 : Nat) : Int) := by decide
  rw [e, u32_xor_nat _ _ (by decide) h, ones_xor r h]

/-- The world of Sum: what was there stays, and the table lies in block g. -/
structure SumW (w wr : World) (g : Nat) : Prop where
  below : Below w.heap.size w wr
  cells : ∀ j, j < 128 → wr.cell? ⟨g, j, none⟩ = some (.int .u32 (tab.getD j 0 : Nat)) ∧ tab.getD j 0 < 2 ^ 32
theorem SumW.drewN {w wr : World} {g : Nat} (h : SumW w wr g) (n : Nat) : SumW w (wr.drewN n) g := by
  induction n with
  | zero => exact h
  | succ n ih => exact ⟨ih.below.drew, fun j hj => ih.cells j hj⟩
theorem SumW.start {w w1 : World} (hb : Below w.heap.size w w1) : SumW w ((w1.alloc (.cells z128 102)).setCells w1.heap.size 0 tabV.toList) w1.heap.size := by
  have hs := hb.size
  refine ⟨below_setCells (by omega) _ _ _ (hb.alloc (by omega) _), fun j hj => ⟨?_, tab_small ⟨j, hj⟩⟩⟩
  have ht := there_z (heap_alloc_new w1 (.cells z128 102))
  have hr := World.rangeAt_setCells_same _ _ _ tabV.toList (by simpa using ht)
  have hj' : j < tab.size := by rw [tab_size]; exact hj
  have := hr j (u32v (tab.getD j 0)) (by simp [tabV, Array.getD, hj'])
  simpa [u32v] using this

set_option maxRecDepth 100000 in
set_option maxHeartbeats 1000000 in
theorem sum_pos (b o len cap : Nat) (xs : List Nat) (w : World) (h : BS w (some ⟨b, o, none⟩) len cap xs) (h0 : 0 < len) (hbl : b < w.heap.size) (hc : ∀ i, i < len → w.cell? ⟨b, o + i, none⟩ = some (.int .u8 (xs.getD i 0 : Nat))) :
    Calls Try.prog 47 #[.slice (some ⟨b, o, none⟩) len cap] w fun e w' => e = .returned (.int .u32 (4294967295 - crc 4294967295 xs : Nat)) ∧ Below w.heap.size w w' := by
  have hroom := h.hroom
  have hcap := h.hcap
  have hlen : Hid (xs.length = len) := h.hlen
  have hby : Hid (∀ n ∈ xs, n < 256) := h.hbyte
  have HC : Hid (∀ i, i < len → w.cell? ⟨b, o + i, none⟩ = some (.int .u8 (xs.getD i 0 : Nat))) := hc
  clear h hc
  have hz := run_zero48
  have hi : (Try.prog.info? 102).map (·.size) = some tabV.size := by rw [tabV_size]; exact info48
  go_enter Try.func47, Try.ntmps47
  go_wp2_with fail
  refine (newTraces_any _).mono ?_
  rintro e w1 ⟨rfl, hb1⟩
  have ht := there_z (heap_alloc_new w1 (.cells z128 102))
  go_wp2_with (refine wpList_store_mid rfl 102 _ _ rfl w1.heap.size 0 tabV rfl rfl ht hi tabV_one ?_)
  have hst := SumW.start hb1
  generalize w1.heap.size = g at hst ⊢
  clear ht hi hz
  go_loopw [14, 4] (fun i r wr => ∃ k : Nat, 4 * k ≤ len ∧ i = .int .i64 k ∧ r = .int .u32 (crc 4294967295 (xs.take (4 * k)) : Nat) ∧ SumW w wr g) (fun i _ _ => len / 4 - (intOf i).toNat)
  case atStart => exact ⟨0, by omega, rfl, rfl, hst⟩
  case round =>
    clear hst
    obtain ⟨k, hk, rfl, rfl, hS⟩ := hrel
    have hrb := crc_take_lt xs hby.out (4 * k)
    obtain ⟨r, HR⟩ : ∃ r, Hid (crc 4294967295 (xs.take (4 * k)) = r) := ⟨_, rfl⟩
    rw [HR.out] at hrb ⊢
    have HS : Hid (SumW w wr g) := hS
    clear hS
    by_cases hlt : 4 * k + 4 ≤ len
    · have hlt' : (k : Int) < (len : Int) / 4 := by omega
      have c0 : Hid (w.cell? ⟨b, o + 4 * k, none⟩ = some (.int .u8 (xs.getD (4 * k) 0 : Nat))) := HC.out _ (by omega)
      have c1 : Hid (w.cell? ⟨b, o + 4 * k + 1, none⟩ = some (.int .u8 (xs.getD (4 * k + 1) 0 : Nat))) := by have := HC.out (4 * k + 1) (by omega); rw [← Nat.add_assoc] at this; exact this
      have c2 : Hid (w.cell? ⟨b, o + 4 * k + 2, none⟩ = some (.int .u8 (xs.getD (4 * k + 2) 0 : Nat))) := by have := HC.out (4 * k + 2) (by omega); rw [← Nat.add_assoc] at this; exact this
      have c3 : Hid (w.cell? ⟨b, o + 4 * k + 3, none⟩ = some (.int .u8 (xs.getD (4 * k + 3) 0 : Nat))) := by have := HC.out (4 * k + 3) (by omega); rw [← Nat.add_assoc] at this; exact this
      have HN : Hid (crc 4294967295 (xs.take (4 * (k + 1))) = shn 32 (r ^^^ (xs.getD (4 * k) 0 ^^^ (256 * xs.getD (4 * k + 1) 0) ^^^ (65536 * xs.getD (4 * k + 2) 0) ^^^ (16777216 * xs.getD (4 * k + 3) 0)))) := by
        have := crc_take4 4294967295 xs k (by rw [hlen.out]; omega)
        rw [HR.out] at this; exact this
      have b0 := byteAt hby.out (4 * k)
      have b1 := byteAt hby.out (4 * k + 1)
      have b2 := byteAt hby.out (4 * k + 2)
      have b3 := byteAt hby.out (4 * k + 3)
      generalize xs.getD (4 * k) 0 = x0 at *
      generalize xs.getD (4 * k + 1) 0 = x1 at *
      generalize xs.getD (4 * k + 2) 0 = x2 at *
      generalize xs.getD (4 * k + 3) 0 = x3 at *
      have hx : x0 ^^^ 256 * x1 ^^^ 65536 * x2 ^^^ 16777216 * x3 < 4294967296 :=
        Nat.xor_lt_two_pow (n := 32) (Nat.xor_lt_two_pow (Nat.xor_lt_two_pow (by omega) (by omega)) (by omega)) (by omega)
      have hbel := HS.out.below
      go_wp2_with fail
      refine (word_any b (o + 4 * k) _ _ x0 x1 x2 x3 _ (by omega) ?_ ?_ ?_ ?_ b0 b1 b2 b3).mono ?_
      · rw [hbel.cell hbl]; exact c0.out
      · rw [hbel.cell hbl]; exact c1.out
      · rw [hbel.cell hbl]; exact c2.out
      · rw [hbel.cell hbl]; exact c3.out
      generalize x0 ^^^ 256 * x1 ^^^ 65536 * x2 ^^^ 16777216 * x3 = y at *
      rintro e w2 ⟨rfl, n2, rfl⟩
      have hxr := u32_xor_nat r y hrb hx
      have hb := Nat.xor_lt_two_pow (n := 32) hrb hx
      clear hbel
      go_wp2_with fail
      refine (past_any g (r ^^^ y) _ hb (fun j => tab.getD j 0) (fun j hj => (HS.out.drewN n2).cells j hj)).mono ?_
      rw [past_eq _ hb]
      rintro e w3 ⟨rfl, n3, rfl⟩
      have HS3 : Hid (SumW w (wr.drewN (n2 + n3)) g) := HS.out.drewN (n2 + n3)
      go_wp2
      go_roundw
      case rel => exact ⟨k + 1, by omega, by go_num, by rw [HN.out], HS3.out⟩
      case measure => simp [intOf]; omega
    · have hlt' : ¬ (k : Int) < (len : Int) / 4 := by omega
      obtain rfl : k = len / 4 := by omega
      by_cases hce : cap = 4 * (len / 4)
      · have hll : len = 4 * (len / 4) := by omega
        have HX : Hid (xs.take (4 * (len / 4)) = xs) := List.take_of_length_le (by rw [hlen.out]; omega)
        have hd0 : len - 4 * (len / 4) = 0 := by omega
        clear hll
        go_wp2_with fail
        go_loopw [31, 4] (fun i q wx => i = .int .i64 0 ∧ q = .int .u32 r ∧ wr = wx) (fun _ _ _ => 0)
        case atStart => exact ⟨rfl, rfl, rfl⟩
        case round =>
          obtain ⟨rfl, rfl, rfl⟩ := hrel
          have HE : Hid (bits .xor .u32 IntKind.u32.max (r : Int) = ((4294967295 - crc 4294967295 xs : Nat) : Int)) := by
            have := not_u32 r hrb
            rw [← HR.out, HX.out] at this
            rw [← HR.out, HX.out]; exact this
          go_wp2
          go_ret
          exact ⟨ret_int HE.out, HS.out.below⟩
      · have hce' : ¬ 4 * (len / 4) = cap := fun h => hce h.symm
        go_wp2_with fail
        go_loopw [31, 4] (fun i q wx => ∃ j : Nat, 4 * (len / 4) + j ≤ len ∧ i = .int .i64 j ∧ q = .int .u32 (crc 4294967295 (xs.take (4 * (len / 4) + j)) : Nat) ∧ SumW w wx g) (fun i _ _ => len - 4 * (len / 4) - (intOf i).toNat)
        case atStart => exact ⟨0, by omega, rfl, by rw [Nat.add_zero, HR.out], HS.out⟩
        case round =>
          clear HR HS hrb
          obtain ⟨j, hj, rfl, rfl, hS⟩ := hrel
          have hrb := crc_take_lt xs hby.out (4 * (len / 4) + j)
          obtain ⟨r, HR⟩ : ∃ r, Hid (crc 4294967295 (xs.take (4 * (len / 4) + j)) = r) := ⟨_, rfl⟩
          rw [HR.out] at hrb ⊢
          have HS : Hid (SumW w wr g) := hS
          clear hS
          by_cases hjl : 4 * (len / 4) + j < len
          · have hjl' : (j : Int) < ((len - 4 * (len / 4) : Nat) : Int) := by omega
            have cc : wr.cell? ⟨b, o + 4 * (len / 4) + j, none⟩ = some (.int .u8 (xs.getD (4 * (len / 4) + j) 0 : Nat)) := by
              rw [HS.out.below.cell hbl, Nat.add_assoc]; exact HC.out _ hjl
            have hcb := byteAt hby.out (4 * (len / 4) + j)
            have HN : Hid (crc 4294967295 (xs.take (4 * (len / 4) + (j + 1))) = stepB r (xs.getD (4 * (len / 4) + j) 0)) := by
              have := crc_take1 4294967295 xs (4 * (len / 4) + j) (by rw [hlen.out]; exact hjl)
              rw [HR.out] at this; exact this
            generalize xs.getD (4 * (len / 4) + j) 0 = c at *
            have hx := u32_xor_nat r c hrb (by omega)
            have hb := Nat.xor_lt_two_pow (n := 32) hrb (show c < 2 ^ 32 by omega)
            go_wp2_with fail
            go_loopw [39, 4] (fun i q wx => ∃ t : Nat, t ≤ 8 ∧ i = .int .i64 t ∧ q = .int .u32 (shn t (r ^^^ c) : Nat) ∧ wr = wx) (fun i _ _ => 8 - (intOf i).toNat)
            case atStart => exact ⟨0, by omega, rfl, rfl, rfl⟩
            case round =>
              obtain ⟨t, ht, rfl, rfl, rfl⟩ := hrel
              have hqb := shn_lt t hb
              obtain ⟨q, HQ⟩ : ∃ q, Hid (shn t (r ^^^ c) = q) := ⟨_, rfl⟩
              rw [HQ.out] at hqb ⊢
              have HQ2 : Hid (shn (t + 1) (r ^^^ c) = sh q) := by rw [shn_succ, HQ.out]; exact rfl
              by_cases ht8 : t < 8
              · go_wp2_with (go_at_call 59; refine (shift_any _ _ hqb).mono ?_; rintro e w' ⟨rfl, rfl⟩)
                go_roundw
                case rel => exact ⟨t + 1, by omega, by go_num, by rw [HQ2.out], trivial⟩
                case measure => simp [intOf]; omega
              · obtain rfl : t = 8 := by omega
                go_wp2
                go_roundw
                case rel => exact ⟨j + 1, by omega, by go_num, by rw [HN.out, ← HQ.out]; rfl, HS.out⟩
                case measure => simp [intOf]; omega
          · have hjl' : ¬ (j : Int) < ((len - 4 * (len / 4) : Nat) : Int) := by omega
            have HX : Hid (xs.take (4 * (len / 4) + j) = xs) := List.take_of_length_le (by rw [hlen.out]; omega)
            have HE : Hid (bits .xor .u32 IntKind.u32.max (r : Int) = ((4294967295 - crc 4294967295 xs : Nat) : Int)) := by
              have := not_u32 r hrb
              rw [← HR.out, HX.out] at this
              rw [← HR.out, HX.out]; exact this
            go_wp2
            go_ret
            exact ⟨ret_int HE.out, HS.out.below⟩

set_option maxRecDepth 100000 in
set_option maxHeartbeats 1000000 in
theorem sum_zero (a : Option Addr) (cap : Nat) (w : World) :
    Calls Try.prog 47 #[.slice a 0 cap] w fun e w' => e = .returned (.int .u32 0) ∧ Below w.heap.size w w' := by
  have hz := run_zero48
  have hi : (Try.prog.info? 102).map (·.size) = some tabV.size := by rw [tabV_size]; exact info48
  go_enter Try.func47, Try.ntmps47
  go_wp2_with fail
  refine (newTraces_any _).mono ?_
  rintro e w1 ⟨rfl, hb1⟩
  have ht := there_z (heap_alloc_new w1 (.cells z128 102))
  go_wp2_with (refine wpList_store_mid rfl 102 _ _ rfl w1.heap.size 0 tabV rfl rfl ht hi tabV_one ?_)
  have hst := (SumW.start hb1).below
  generalize w1.heap.size = g at hst ⊢
  generalize (w1.alloc (.cells z128 102)).setCells g 0 tabV.toList = wx at *
  clear ht hi hz hb1
  go_loopw [14, 4] (fun i r wr => i = .int .i64 0 ∧ r = .int .u32 4294967295 ∧ wx = wr) (fun _ _ _ => 0)
  case atStart => exact ⟨rfl, rfl, rfl⟩
  case round =>
    obtain ⟨rfl, rfl, rfl⟩ := hrel
    cases a with
    | none =>
      go_wp2_with fail
      go_loopw [31, 4] (fun i r wr => i = .int .i64 0 ∧ r = .int .u32 4294967295 ∧ wx = wr) (fun _ _ _ => 0)
      case atStart => exact ⟨rfl, rfl, rfl⟩
      case round =>
        obtain ⟨rfl, rfl, rfl⟩ := hrel
        go_wp2
        go_ret
        exact ⟨ret_int (by decide), hst⟩
    | some x =>
      go_wp2_with fail
      go_loopw [31, 4] (fun i r wr => i = .int .i64 0 ∧ r = .int .u32 4294967295 ∧ wx = wr) (fun _ _ _ => 0)
      case atStart => exact ⟨rfl, rfl, rfl⟩
      case round =>
        obtain ⟨rfl, rfl, rfl⟩ := hrel
        go_wp2
        go_ret
        exact ⟨ret_int (by decide), hst⟩

theorem sum_any (a : Option Addr) (len cap : Nat) (xs : List Nat) (w : World) (h : BS w a len cap xs) :
    Calls Try.prog 47 #[.slice a len cap] w fun e w' => e = .returned (.int .u32 (4294967295 - crc 4294967295 xs : Nat)) ∧ Below w.heap.size w w' := by
  rcases Nat.eq_zero_or_pos len with h0 | h0
  · have hx : xs = [] := List.eq_nil_of_length_eq_zero (by have := h.hlen; omega)
    subst hx h0
    exact sum_zero a cap w
  · obtain ⟨b, o, rfl, hb, hc⟩ := h.place h0
    exact sum_pos b o len cap xs w h h0 hb hc
end Go.Proofs.Ytbjononpgcemgaa
