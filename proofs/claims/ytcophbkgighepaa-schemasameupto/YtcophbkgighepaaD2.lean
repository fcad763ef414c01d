/- Contract of keys.appendHeld: a held value's bytes, laid down behind a row that the call owns. -/
import Derived.Test.YtcophbkgighepaaD1
import Derived.Test.YtcophbkgighepaaC2
import Derived.Lib.OthersKept
set_option linter.unusedVariables false
namespace Go.Proofs.Ytcophbkgighepaa
open Go.RowKit

/-- The bytes of a value that is held. -/
def runeB (rs : List Nat) : List Nat := rs.flatMap fun r => hiB (r + 1) 3
def numB (n : Int) : Nat := (n + 9223372036854775808).toNat
def H.bytes (h : H) (rs : List Nat) : List Nat := match h with
  | .nothing => [1]
  | .number n => 2 :: hiB (numB n) 8
  | .text _ => 3 :: (runeB rs ++ hiB 0 3)
  | .truth b => [4, (bi b).toNat]
  | .none => [1]

theorem kindByte_any (k : Nat) (w : World) (hk : k < 255) : Calls Try.prog 81 #[.int .i64 k] w fun e w' => e = .returned (.int .u8 (k + 1 : Nat)) ∧ w' = w := by
  go_enter Try.func81, Try.ntmps81
  go_wp2
  go_ret
  exact ⟨by congr 2, rfl⟩

theorem nat_top (x : Nat) (h : x < 2 ^ 63) : x ^^^ 2 ^ 63 = x + 2 ^ 63 := by
  apply Nat.eq_of_testBit_eq
  intro i
  rw [Nat.testBit_xor, Nat.testBit_two_pow, Nat.add_comm]
  by_cases h1 : i = 63
  · subst h1
    rw [Nat.testBit_two_pow_add_eq, Nat.testBit_lt_two_pow h]
    rfl
  · by_cases h2 : i < 63
    · rw [Nat.testBit_two_pow_add_gt h2]
      have : decide (63 = i) = false := by simp; omega
      rw [this]; simp
    · have h3 : 2 ^ 64 ≤ 2 ^ i := Nat.pow_le_pow_right (by decide) (by omega)
      rw [Nat.testBit_lt_two_pow (x := x) (by omega), Nat.testBit_lt_two_pow (x := 2 ^ 63 + x) (by omega)]
      have : decide (63 = i) = false := by simp; omega
      rw [this]; rfl
theorem numB_lt (n : Int) (h0 : -9223372036854775808 ≤ n) (h1 : n ≤ 9223372036854775807) : numB n < 18446744073709551616 := by unfold numB; omega
theorem xor_num (n : Int) (h0 : -9223372036854775808 ≤ n) (h1 : n ≤ 9223372036854775807) : bits .xor .u64 (IntKind.u64.wrap n) 9223372036854775808 = ((numB n : Nat) : Int) := by
  have key : ∀ x : Nat, x < 18446744073709551616 → bits .xor .u64 (x : Int) 9223372036854775808 = ((x ^^^ 2 ^ 63 : Nat) : Int) := fun x hx => by
    have := u64_xor_nat x (2 ^ 63) (by omega) (by decide)
    simpa using this
  by_cases h : 0 ≤ n
  · obtain ⟨x, rfl⟩ : ∃ x : Nat, n = (x : Int) := ⟨n.toNat, by omega⟩
    have e : IntKind.u64.wrap (x : Int) = (x : Int) := by rw [IntKind.wrap_u64]; omega
    rw [e, key x (by omega), nat_top x (by omega)]
    unfold numB
    omega
  · obtain ⟨x, hx⟩ : ∃ x : Nat, n + 9223372036854775808 = (x : Int) := ⟨(n + 9223372036854775808).toNat, by omega⟩
    have e : IntKind.u64.wrap n = ((x + 2 ^ 63 : Nat) : Int) := by rw [IntKind.wrap_u64]; omega
    rw [e, key _ (by omega), ← nat_top x (by omega), Nat.xor_assoc, Nat.xor_self, Nat.xor_zero]
    unfold numB
    omega
theorem field_kind (a b c : Value) (w : World) : (Instr.field 39 (.agg #[a, b, c]) 0).run Try.prog w = .ok a w := by kernel_rfl

set_option maxRecDepth 100000 in
set_option maxHeartbeats 1000000 in
theorem appendHeld_nothing (B : Nat) (v : Value) (xs : List Nat) (w : World) (ho : w.ownsRow B 5 1 v xs.length (cellsOf xs)) (hB : B ≤ w.heap.size) (hl : xs.length ≤ 549755813888) :
    Calls Try.prog 65 #[v, H.nothing.val] w fun e w' => ∃ v', e = .returned v' ∧ GR B w v w' v' (xs ++ H.nothing.bytes []) := by
  have HS := (GR.start ho hB).hid
  clear ho
  have a0 := fun w => as_nothing_number w
  have a1 := fun w => as_nothing_text w
  have a2 := fun w => as_nothing_truth w
  have af := field_kind
  have cr := release_any H.nothing
  unfold H.val H.out av at cr
  have ck := fun w => kindByte_any 0 w (by omega)
  unfold H.val
  go_enter Try.func65, Try.ntmps65
  go_wp2_with fail
  refine (cr _).mono ?_
  rintro e w1 ⟨rfl, hb1⟩
  have HS1 := (HS.out.later hb1).hid
  have hsz1 := hb1.size
  clear hb1
  go_wp2_with fail
  refine (ck _).mono ?_
  rintro e w2 ⟨rfl, hw2⟩
  have hw2 := hw2.symm
  subst hw2
  go_wp2_with (at_builtin; refine wpList_append_g rfl (.tmp 13) (.tmp 18) rfl B w v _ _ rfl (HS1.out.alloc _) w1.heap.size 1 1 [0 + 1] rfl rfl (news1 _ _ _) (by omega) ?_)
  intro v2 w2 hR2
  have HR2 := hR2.hid
  clear hR2
  go_wp2
  go_ret
  exact ⟨_, rfl, HR2.out⟩

set_option maxRecDepth 100000 in
set_option maxHeartbeats 1000000 in
theorem appendHeld_truth (B : Nat) (v : Value) (xs : List Nat) (b : Bool) (w : World) (ho : w.ownsRow B 5 1 v xs.length (cellsOf xs)) (hB : B ≤ w.heap.size) (hl : xs.length ≤ 549755813888) :
    Calls Try.prog 65 #[v, (H.truth b).val] w fun e w' => ∃ v', e = .returned v' ∧ GR B w v w' v' (xs ++ (H.truth b).bytes []) := by
  have HS := (GR.start ho hB).hid
  clear ho
  have a0 := fun w => as_truth_number b w
  have a1 := fun w => as_truth_text b w
  have a2 := fun w => as_truth_truth b w
  have af := field_kind
  have cr := release_any (H.truth b)
  unfold H.val H.out av at cr
  have ck := fun w => kindByte_any 3 w (by omega)
  unfold H.val
  go_enter Try.func65, Try.ntmps65
  go_wp2_with fail
  refine (cr _).mono ?_
  rintro e w1 ⟨rfl, hb1⟩
  have HS1 := (HS.out.later hb1).hid
  have hsz1 := hb1.size
  clear hb1
  go_wp2_with fail
  refine (ck _).mono ?_
  rintro e w2 ⟨rfl, hw2⟩
  have hw2 := hw2.symm
  subst hw2
  go_wp2_with (at_builtin; refine wpList_append_g rfl (.tmp 13) (.tmp 18) rfl B w v _ _ rfl (HS1.out.alloc _) w1.heap.size 1 1 [3 + 1] rfl rfl (news1 _ _ _) (by omega) ?_)
  intro v2 w2 hR2
  have HR2 := hR2.hid
  clear hR2
  have cb := number_any b
  obtain ⟨x, hx, HX⟩ : ∃ x : Nat, bi b = (x : Int) ∧ Hid (x = (bi b).toNat ∧ x ≤ 1) := by cases b <;> first | exact ⟨0, rfl, hidc (by decide)⟩ | exact ⟨1, rfl, hidc (by decide)⟩
  go_wp2_with fail
  refine (cb _).mono ?_
  rintro e w3 ⟨rfl, hw3⟩
  have hw3 := hw3.symm
  subst hw3
  have hx2 : (x : Int) % 256 = (x : Int) := by have := HX.out.2; omega
  go_wp2_with (at_builtin; refine wpList_append_g rfl (.tmp 37) (.tmp 41) rfl B w v _ _ rfl (HR2.out.alloc _) w2.heap.size 1 1 [x] rfl rfl (news1 _ _ _) (by simp; omega) ?_)
  intro v3 w3 hR3
  have HR3 := hR3.hid
  clear hR3
  go_wp2
  go_ret
  refine ⟨_, rfl, ?_⟩
  have := HR3.out
  rw [HX.out.1] at this
  simpa [H.bytes] using this

set_option maxRecDepth 100000 in
set_option maxHeartbeats 1000000 in
theorem appendHeld_number (B : Nat) (v : Value) (xs : List Nat) (n : Int) (w : World) (ho : w.ownsRow B 5 1 v xs.length (cellsOf xs)) (hB : B ≤ w.heap.size) (hl : xs.length ≤ 549755813888) (hn0 : -9223372036854775808 ≤ n) (hn1 : n ≤ 9223372036854775807) :
    Calls Try.prog 65 #[v, (H.number n).val] w fun e w' => ∃ v', e = .returned v' ∧ GR B w v w' v' (xs ++ (H.number n).bytes []) := by
  have HS := (GR.start ho hB).hid
  clear ho
  have a0 := fun w => as_number_number n w
  have a1 := fun w => as_number_text n w
  have a2 := fun w => as_number_truth n w
  have af := field_kind
  have cr := release_any (H.number n)
  unfold H.val H.out av at cr
  have ck := fun w => kindByte_any 1 w (by omega)
  unfold H.val
  go_enter Try.func65, Try.ntmps65
  go_wp2_with fail
  refine (cr _).mono ?_
  rintro e w1 ⟨rfl, hb1⟩
  have HS1 := (HS.out.later hb1).hid
  have hsz1 := hb1.size
  clear hb1
  go_wp2_with fail
  refine (ck _).mono ?_
  rintro e w2 ⟨rfl, hw2⟩
  have hw2 := hw2.symm
  subst hw2
  go_wp2_with (at_builtin; refine wpList_append_g rfl (.tmp 13) (.tmp 18) rfl B w v _ _ rfl (HS1.out.alloc _) w1.heap.size 1 1 [1 + 1] rfl rfl (news1 _ _ _) (by omega) ?_)
  intro v2 w2 hR2
  have HR2 := hR2.hid
  clear hR2
  have hxn := xor_num n hn0 hn1
  have hlen : (xs ++ [1 + 1]).length ≤ 1099511627776 := by simp; omega
  have hB2 := Nat.le_trans HR2.out.base HR2.out.size
  go_wp2_with fail
  refine (appendHigh_any B v2 (xs ++ [1 + 1]) (numB n) 8 w2 HR2.out.own hB2 (numB_lt n hn0 hn1) (by omega) hlen).mono ?_
  rintro e w3 ⟨v3, rfl, hR3⟩
  have HR3 := (HR2.out.trans hR3).hid
  clear hR3
  go_wp2
  go_ret
  refine ⟨_, rfl, ?_⟩
  have := HR3.out
  simpa [H.bytes] using this
end Go.Proofs.Ytcophbkgighepaa
