/- Contract of keys.appendHeld: a held value's bytes, laid down behind a row that the call owns. -/
import Derived.Test.YtcophbkgighepaaD1
import Derived.Test.YtcophbkgighepaaC2
import Derived.Lib.OthersKept
set_option linter.unusedVariables false
namespace Go.Proofs.Ytcophbkgighepaa
open Go.RowKit

/-- The bytes of a value that is held. -/
def runeB (rs : List Nat) : List Nat := rs.flatMap fun r => hiB (r + 1) 3
def numB (n : Int) : Nat := (n + 9223372036854775808).toNat
def H.bytes (h : H) (rs : List Nat) : List Nat := match h with
  | .nothing => [1]
  | .number n => 2 :: hiB (numB n) 8
  | .text _ => 3 :: (runeB rs ++ hiB 0 3)
  | .truth b => [4, (bi b).toNat]
  | .none => [1]

theorem kindByte_any (k : Nat) (w : World) (hk : k < 255) : Calls Try.prog 81 #[.int .i64 k] w fun e w' => e = .returned (.int .u8 (k + 1 : Nat)) ∧ w' = w := by
  go_enter Try.func81, Try.ntmps81
  go_wp2
  go_ret
  exact ⟨by congr 2, rfl⟩

theorem nat_top (x : Nat) (h : x < 2 ^ 63) : x ^^^ 2 ^ 63 = x + 2 ^ 63 := by
  apply Nat.eq_of_testBit_eq
  intro i
  rw [Nat.testBit_xor, Nat.testBit_two_pow, Nat.add_comm]
  by_cases h1 : i = 63
  · subst h1
    rw [Nat.testBit_two_pow_add_eq, Nat.testBit_lt_two_pow h]
    rfl
  · by_cases h2 : i < 63
    · rw [Nat.testBit_two_pow_add_gt h2]
      have : decide (63 = i) = false := by simp; omega
      rw [this]; simp
    · have h3 : 2 ^ 64 ≤ 2 ^ i := Nat.pow_le_pow_right (by decide) (by omega)
      rw [Nat.testBit_lt_two_pow (x := x) (by omega), Nat.testBit_lt_two_pow (x := 2 ^ 63 + x) (by omega)]
      have : decide (63 = i) = false := by simp; omega
      rw [this]; rfl
theorem numB_lt (n : Int) (h0 : -9223372036854775808 ≤ n) (h1 : n ≤ 9223372036854775807) : numB n < 18446744073709551616 := by unfold numB; omega
theorem xor_num (n : Int) (h0 : -9223372036854775808 ≤ n) (h1 : n ≤ 9223372036854775807) : bits .xor .u64 (IntKind.u64.wrap n) 9223372036854775808 = ((numB n : Nat) : Int) := by
  have key : ∀ x : Nat, x < 18446744073709551616 → bits .xor .u64 (x : Int) 9223372036854775808 = ((x ^^^ 2 ^ 63 : Nat) : Int) := fun x hx => by
    have := u64_xor_nat x (2 ^ 63) (by omega) (by decide)
    simpa using this
  by_cases h : 0 ≤ n
  · obtain ⟨x, rfl⟩ : ∃ x : Nat, n = (x : Int) := ⟨n.toNat, by omega⟩
    have e : IntKind.u64.wrap (x : Int) = (x : Int) := by rw [IntKind.wrap_u64]; omega
    rw [e, key x (by omega), nat_top x (by omega)]
    unfold numB
    omega
  · obtain ⟨x, hx⟩ : ∃ x : Nat, n + 9223372036854775808 = (x : Int) := ⟨(n + 9223372036854775808).toNat, by omega⟩
    have e : IntKind.u64.wrap n = ((x + 2 ^ 63 : Nat) : Int) := by rw [IntKind.wrap_u64]; omega
    rw [e, key _ (by omega), ← nat_top x (by omega), Nat.xor_assoc, Nat.xor_self, Nat.xor_zero]
    unfold numB
    omega
theorem field_kind (a b c : Value) (w : World) : (Instr.field 39 (.agg #[a, b, c]) 0).run Try.prog w = .ok a w := by kernel_rfl

set_option maxRecDepth 100000 in
set_option maxHeartbeats 1000000 in
theorem appendHeld_nothing (B : Nat) (v : Value) (xs : List Nat) (w : World) (ho : w.ownsRow B 5 1 v xs.length (cellsOf xs)) (hB : B ≤ w.heap.size) (hl : xs.length ≤ 549755813888) :
    Calls Try.prog 65 #[v, H.nothing.val] w fun e w' => ∃ v', e = .returned v' ∧ GR B w v w' v' (xs ++ H.nothing.bytes []) := by
  have HS := (GR.start ho hB).hid
  clear ho
  have a0 := fun w => as_nothing_number w
  have a1 := fun w => as_nothing_text w
  have a2 := fun w => as_nothing_truth w
  have af := field_kind
  have cr := release_any H.nothing
  unfold H.val H.out av at cr
  have ck := fun w => kindByte_any 0 w (by omega)
  unfold H.val
  go_enter Try.func65, Try.ntmps65
  go_wp2_with fail
  refine (cr _).mono ?_
  rintro e w1 ⟨rfl, hb1⟩
  have HS1 := (HS.out.later hb1).hid
  have hsz1 := hb1.size
  clear hb1
  go_wp2_with fail
  refine (ck _).mono ?_
  rintro e w2 ⟨rfl, hw2⟩
  have hw2 := hw2.symm
  subst hw2
  go_wp2_with (at_builtin; refine wpList_append_g rfl (.tmp 13) (.tmp 18) rfl B w v _ _ rfl (HS1.out.alloc _) w1.heap.size 1 1 [0 + 1] rfl rfl (news1 _ _ _) (by omega) ?_)
  intro v2 w2 hR2
  have HR2 := hR2.hid
  clear hR2
  go_wp2
  go_ret
  exact ⟨_, rfl, HR2.out⟩

set_option maxRecDepth 100000 in
set_option maxHeartbeats 1000000 in
theorem appendHeld_truth (B : Nat) (v : Value) (xs : List Nat) (b : Bool) (w : World) (ho : w.ownsRow B 5 1 v xs.length (cellsOf xs)) (hB : B ≤ w.heap.size) (hl : xs.length ≤ 549755813888) :
    Calls Try.prog 65 #[v, (H.truth b).val] w fun e w' => ∃ v', e = .returned v' ∧ GR B w v w' v' (xs ++ (H.truth b).bytes []) := by
  have HS := (GR.start ho hB).hid
  clear ho
  have a0 := fun w => as_truth_number b w
  have a1 := fun w => as_truth_text b w
  have a2 := fun w => as_truth_truth b w
  have af := field_kind
  have cr := release_any (H.truth b)
  unfold H.val H.out av at cr
  have ck := fun w => kindByte_any 3 w (by omega)
  unfold H.val
  go_enter Try.func65, Try.ntmps65
  go_wp2_with fail
  refine (cr _).mono ?_
  rintro e w1 ⟨rfl, hb1⟩
  have HS1 := (HS.out.later hb1).hid
  have hsz1 := hb1.size
  clear hb1
  go_wp2_with fail
  refine (ck _).mono ?_
  rintro e w2 ⟨rfl, hw2⟩
  have hw2 := hw2.symm
  subst hw2
  go_wp2_with (at_builtin; refine wpList_append_g rfl (.tmp 13) (.tmp 18) rfl B w v _ _ rfl (HS1.out.alloc _) w1.heap.size 1 1 [3 + 1] rfl rfl (news1 _ _ _) (by omega) ?_)
  intro v2 w2 hR2
  have HR2 := hR2.hid
  clear hR2
  have cb := number_any b
  obtain ⟨x, hx, HX⟩ : ∃ x : Nat, bi b = (x : Int) ∧ Hid (x = (bi b).toNat ∧ x ≤ 1) := by cases b <;> first | exact ⟨0, rfl, hidc (by decide)⟩ | exact ⟨1, rfl, hidc (by decide)⟩
  go_wp2_with fail
  refine (cb _).mono ?_
  rintro e w3 ⟨rfl, hw3⟩
  have hw3 := hw3.symm
  subst hw3
  have hx2 : (x : Int) % 256 = (x : Int) := by have := HX.out.2; omega
  go_wp2_with (at_builtin; refine wpList_append_g rfl (.tmp 37) (.tmp 41) rfl B w v _ _ rfl (HR2.out.alloc _) w2.heap.size 1 1 [x] rfl rfl (news1 _ _ _) (by simp; omega) ?_)
  intro v3 w3 hR3
  have HR3 := hR3.hid
  clear hR3
  go_wp2
  go_ret
  refine ⟨_, rfl, ?_⟩
  have := HR3.out
  rw [HX.out.1] at this
  simpa [H.bytes] using this

set_option maxRecDepth 100000 in
set_option maxHeartbeats 1000000 in
theorem appendHeld_number (B : Nat) (v : Value) (xs : List Nat) (n : Int) (w : World) (ho : w.ownsRow B 5 1 v xs.length (cellsOf xs)) (hB : B ≤ w.heap.size) (hl : xs.length ≤ 549755813888) (hn0 : -9223372036854775808 ≤ n) (hn1 : n ≤ 9223372036854775807) :
    Calls Try.prog 65 #[v, (H.number n).val] w fun e w' => ∃ v', e = .returned v' ∧ GR B w v w' v' (xs ++ (H.number n).bytes []) := by
  have HS := (GR.start ho hB).hid
  clear ho
  have a0 := fun w => as_number_number n w
  have a1 := fun w => as_number_text n w
  have a2 := fun w => as_number_truth n w
  have af := field_kind
  have cr := release_any (H.number n)
  unfold H.val H.out av at cr
  have ck := fun w => kindByte_any 1 w (by omega)
  unfold H.val
  go_enter Try.func65, Try.ntmps65
  go_wp2_with fail
  refine (cr _).mono ?_
  rintro e w1 ⟨rfl, hb1⟩
  have HS1 := (HS.out.later hb1).hid
  have hsz1 := hb1.size
  clear hb1
  go_wp2_with fail
  refine (ck _).mono ?_
  rintro e w2 ⟨rfl, hw2⟩
  have hw2 := hw2.symm
  subst hw2
  go_wp2_with (at_builtin; refine wpList_append_g rfl (.tmp 13) (.tmp 18) rfl B w v _ _ rfl (HS1.out.alloc _) w1.heap.size 1 1 [1 + 1] rfl rfl (news1 _ _ _) (by omega) ?_)
  intro v2 w2 hR2
  have HR2 := hR2.hid
  clear hR2
  have hxn := xor_num n hn0 hn1
  have hlen : (xs ++ [1 + 1]).length ≤ 1099511627776 := by simp; omega
  have hB2 := Nat.le_trans HR2.out.base HR2.out.size
  go_wp2_with fail
  refine (appendHigh_any B v2 (xs ++ [1 + 1]) (numB n) 8 w2 HR2.out.own hB2 (numB_lt n hn0 hn1) (by omega) hlen).mono ?_
  rintro e w3 ⟨v3, rfl, hR3⟩
  have HR3 := (HR2.out.trans hR3).hid
  clear hR3
  go_wp2
  go_ret
  refine ⟨_, rfl, ?_⟩
  have := HR3.out
  simpa [H.bytes] using this
end Go.Proofs.Ytcophbkgighepaa
set_option linter.unusedVariables false
namespace Go.Proofs.Ytcophbkgighepaa
open Go.RowKit

theorem runeB_append (a b : List Nat) : runeB (a ++ b) = runeB a ++ runeB b := by simp [runeB]
theorem runeB_len (rs : List Nat) : (runeB rs).length = 3 * rs.length := by
  induction rs with
  | nil => rfl
  | cons r rs ih =>
    have e : runeB (r :: rs) = hiB (r + 1) 3 ++ runeB rs := by simp [runeB]
    rw [e, List.length_append, hiB_len, ih]
    simp
    omega

theorem GR.other {B : Nat} {w0 w1 : World} {v0 v1 : Value} {xs : List Nat} (h : GR B w0 v0 w1 v1 xs) {k : Nat} (hk : k < w0.heap.size) (hne : some k ≠ v0.ownBlock) : some k ≠ v1.ownBlock := by
  rcases h.lies with e | ⟨j, e, hj⟩
  · rw [e]; exact hne
  · rw [e]; intro h2; cases h2; omega

/-- While a text is gone through and its bytes grow. -/
structure TX (B : Nat) (w : World) (v : Value) (wr : World) (b : Value) (K : Nat) (s : ByteArray) (pos : Nat) (ys : List Nat) : Prop where
  gr : GR B w v wr b ys
  it : wr.heap[K]? = some (.stringIter s pos)
  ne : some K ≠ b.ownBlock
theorem TX.hid {B : Nat} {w : World} {v : Value} {wr : World} {b : Value} {K : Nat} {s : ByteArray} {pos : Nat} {ys : List Nat} (h : TX B w v wr b K s pos ys) : Hid (TX B w v wr b K s pos ys) := h
theorem TX.moved {B : Nat} {w : World} {v : Value} {wr : World} {b : Value} {K : Nat} {s : ByteArray} {pos : Nat} {ys : List Nat} (h : TX B w v wr b K s pos ys) (hK : w.heap.size ≤ K) (p : Nat) : TX B w v (wr.iterAt K s p) b K s p ys := by
  have hsz : K < wr.heap.size := (Array.getElem?_eq_some_iff.1 h.it).1
  have hg : wr.grownBy (wr.iterAt K s p) (some K) := by
    refine ⟨rfl, rfl, rfl, by rw [Lib.iterAt_size]; exact Nat.le_refl _, fun k hk hne => ?_⟩
    exact Lib.iterAt_other wr K k s p (fun e => hne (by rw [e]))
  refine ⟨⟨h.gr.own.kept hg ?_, h.gr.grown.andThen hg ?_, h.gr.lies, h.gr.base, h.gr.old⟩, Lib.iterAt_heap wr K s pos p h.it, h.ne⟩
  · exact Or.inr fun e => h.ne e.symm
  · intro j hj
    cases hj
    exact Or.inl hK
theorem TX.grow {B : Nat} {w : World} {v : Value} {wr w1 : World} {b b1 : Value} {K : Nat} {s : ByteArray} {pos : Nat} {ys zs : List Nat} (h : TX B w v wr b K s pos ys) (hg : GR B wr b w1 b1 zs) : TX B w v w1 b1 K s pos zs := by
  have hsz : K < wr.heap.size := (Array.getElem?_eq_some_iff.1 h.it).1
  exact ⟨h.gr.trans hg, by rw [hg.kept hsz h.ne]; exact h.it, hg.other hsz h.ne⟩

set_option maxRecDepth 100000 in
set_option maxHeartbeats 1000000 in
theorem appendHeld_text (B : Nat) (v : Value) (xs : List Nat) (s : ByteArray) (rs : List Nat) (w : World) (ho : w.ownsRow B 5 1 v xs.length (cellsOf xs)) (hB : B ≤ w.heap.size) (hl : xs.length ≤ 549755813888) (hs : s.size ≤ 16777216) (hr : runes (bl s) = some rs) :
    Calls Try.prog 65 #[v, (H.text s).val] w fun e w' => ∃ v', e = .returned v' ∧ GR B w v w' v' (xs ++ (H.text s).bytes rs) := by
  have HS := (GR.start ho hB).hid
  clear ho
  have a0 := fun w => as_text_number s w
  have a1 := fun w => as_text_text s w
  have a2 := fun w => as_text_truth s w
  have af := field_kind
  have cr := release_any (H.text s)
  unfold H.val H.out av at cr
  have ck := fun w => kindByte_any 2 w (by omega)
  unfold H.val
  go_enter Try.func65, Try.ntmps65
  go_wp2_with fail
  refine (cr _).mono ?_
  rintro e w1 ⟨rfl, hb1⟩
  have HS1 := (HS.out.later hb1).hid
  have hsz1 := hb1.size
  clear hb1
  go_wp2_with fail
  refine (ck _).mono ?_
  rintro e w2 ⟨rfl, hw2⟩
  have hw2 := hw2.symm
  subst hw2
  go_wp2_with (at_builtin; refine wpList_append_g rfl (.tmp 13) (.tmp 18) rfl B w v _ _ rfl (HS1.out.alloc _) w1.heap.size 1 1 [2 + 1] rfl rfl (news1 _ _ _) (by omega) ?_)
  intro v2 w2 hR2
  have HR2 := hR2.hid
  clear hR2
  go_wp2_with fail
  go_loopw [0] (fun b wr => ∃ (pos : Nat) (pre : List Nat), TX B w v wr b w2.heap.size s pos (xs ++ 3 :: runeB pre) ∧ Met s pos pre ∧ pos ≤ s.size) (fun _ wr => s.size - wr.iterPos w2.heap.size)
  case atStart =>
    refine ⟨0, [], ⟨?_, ?_, ?_⟩, Met.start s, by omega⟩
    · have := HR2.out.alloc (.stringIter s 0)
      simpa [runeB, World.iter] using this
    · exact World.iter_heap w2 s 0
    · intro e
      have := (HR2.out.own.lt _ e.symm).2
      omega
  case round =>
    obtain ⟨pos, pre, hT, hm, hps⟩ := hrel
    have hpl := hm.2
    have HM := hidc hm
    have HT := hT.hid
    clear hm hT
    by_cases hp : pos < s.size
    · obtain ⟨R, W, hd⟩ : ∃ R W, dl ((bl s).drop pos) = (R, W) := ⟨_, _, rfl⟩
      have hw := dl_width (drop_ne hp)
      rw [hd, List.length_drop, bl_len] at hw
      have hnx : ∀ ty, (Instr.next (.pointer (some ⟨w2.heap.size, 0, none⟩)) true ty).run Try.prog wr = .ok (.tuple #[.bool true, .int .i64 pos, .int .i32 R]) (wr.iterAt w2.heap.size s (pos + W)) := fun ty => by
        rw [Lib.run_next_any_at wr w2.heap.size s pos ty HT.out.it hp, dec_at, hd]
      have hgood : (R, W) ≠ (65533, 1) := by
        intro e
        rw [e] at hd
        rw [HM.out.bad hp hd] at hr
        cases hr
      have hR : R ≤ 1114111 := by
        obtain ⟨r, rest, g1, g2, _⟩ := dl_ok (drop_ne hp) (by rw [hd]; exact hgood)
        rw [hd] at g1
        simp only [Prod.mk.injEq] at g1
        unfold vr at g2
        omega
      have HD := hidc hd
      have HG := hidc hgood
      clear hd hgood
      have HT2 := (HT.out.moved (Nat.le_trans HS.out.size (Nat.le_trans HR2.out.size (Nat.le_refl _))) (pos + W)).hid
      have hB2 := Nat.le_trans HT2.out.gr.base HT2.out.gr.size
      have hlen : (xs ++ 3 :: runeB pre).length ≤ 1099511627776 := by simp only [List.length_append, List.length_cons, runeB_len]; omega
      have HL := hidc hlen
      have HB2 := hidc hB2
      clear hlen hB2
      go_wp2_with (go_at_call 82; refine (appendHigh_any B _ (xs ++ 3 :: runeB pre) (R + 1) 3 _ HT2.out.gr.own HB2.out (by omega) (by omega) HL.out).mono ?_; rintro e w3 ⟨v3, rfl, hR3⟩; have HT3 := (HT2.out.grow hR3).hid; clear hR3)
      go_roundw
      case rel =>
        refine ⟨pos + W, pre ++ [R], ?_, HM.out.step hp HD.out HG.out, by omega⟩
        have := HT3.out
        rw [runeB_append]
        simpa [runeB] using this
      case measure =>
        simp only [World.iterPos, HT3.out.it, HT.out.it]
        omega
    · have hnx : ∀ ty, (Instr.next (.pointer (some ⟨w2.heap.size, 0, none⟩)) true ty).run Try.prog wr = _ := fun ty => Lib.run_next_end_at wr w2.heap.size s pos ty HT.out.it hp
      have e : pre = rs := by have := HM.out.fin hp; rw [hr] at this; cases this; rfl
      have HE := hidc e
      clear e
      have hB2 := Nat.le_trans HT.out.gr.base HT.out.gr.size
      have hlen : (xs ++ 3 :: runeB pre).length ≤ 1099511627776 := by simp only [List.length_append, List.length_cons, runeB_len]; omega
      have HL := hidc hlen
      have HB2 := hidc hB2
      clear hlen hB2
      go_wp2_with (go_at_call 82; refine (appendHigh_any B _ (xs ++ 3 :: runeB pre) 0 3 _ HT.out.gr.own HB2.out (by omega) (by omega) HL.out).mono ?_; rintro e w3 ⟨v3, rfl, hR3⟩; have HR3 := (HT.out.gr.trans hR3).hid; clear hR3)
      go_ret
      refine ⟨_, rfl, ?_⟩
      have := HR3.out
      rw [HE.out] at this
      simpa [H.bytes] using this
end Go.Proofs.Ytcophbkgighepaa
set_option linter.unusedVariables false
namespace Go.Proofs.Ytcophbkgighepaa
open Go.RowKit

/-- A value as numbers and bytes. -/
abbrev Val := Int × Int × ByteArray
def Val.ok (x : Val) : Prop := -9223372036854775808 ≤ x.1 ∧ x.1 ≤ 9223372036854775807 ∧ -9223372036854775808 ≤ x.2.1 ∧ x.2.1 ≤ 9223372036854775807 ∧ x.2.2.size ≤ 16777216
def Val.err (x : Val) : Int := rightOf x.1 x.2.1 x.2.2
def Val.bytes (x : Val) : List Nat := (holdOf x.1 x.2.1 x.2.2).bytes ((runes (bl x.2.2)).getD [])

/-- A slice of values lies in the world. -/
structure VS (w : World) (a : Option Addr) (len cap : Nat) (vs : List Val) : Prop where
  hlen : vs.length = len
  hcap : len ≤ cap
  hmax : len ≤ 1099511627776
  hroom : cap ≤ 9223372036854775807
  hok : ∀ x ∈ vs, x.ok
  hcell : ∀ b o, a = some ⟨b, o, none⟩ → ∀ i, i < len → w.cell? ⟨b, o + i * 3, none⟩ = some (.int .i64 (vs.getD i (0, 0, ⟨#[]⟩)).1) ∧ w.cell? ⟨b, o + i * 3 + 1, none⟩ = some (.int .i64 (vs.getD i (0, 0, ⟨#[]⟩)).2.1) ∧ w.cell? ⟨b, o + i * 3 + 2, none⟩ = some (.string (vs.getD i (0, 0, ⟨#[]⟩)).2.2)
  hform : 0 < len → ∃ b o, a = some ⟨b, o, none⟩

def keyErr : List Val → Int
  | [] => 0
  | x :: r => if x.err = 0 then keyErr r else x.err
def keyBytes (vs : List Val) : List Nat := vs.flatMap Val.bytes

theorem right_kind {k n : Int} {s : ByteArray} (h : rightOf k n s = 0) : (k = 0 ∨ k = 1 ∨ k = 2 ∨ k = 3) ∧ (k = 2 → ∃ rs, runes (bl s) = some rs) := by
  unfold rightOf at h
  split at h
  · rename_i h1
    refine ⟨?_, ?_⟩
    · refine Classical.byContradiction fun hn => ?_
      have e : holdOf k n s = .none := by unfold holdOf; rw [if_neg (by omega), if_neg (by omega), if_neg (by omega), if_neg (by omega)]
      rw [e] at h1
      simp only [H.eqv, eqv, Bool.and_eq_true, beq_iff_eq] at h1
      omega
    · intro h2
      cases hr : runes (bl s) with
      | none => rw [if_pos ⟨h2, hr⟩] at h; cases h
      | some rs => exact ⟨rs, rfl⟩
  · cases h

theorem appendHeld_right (B : Nat) (v : Value) (xs : List Nat) (x : Val) (w : World) (ho : w.ownsRow B 5 1 v xs.length (cellsOf xs)) (hB : B ≤ w.heap.size) (hl : xs.length ≤ 549755813888) (hx : x.ok) (he : x.err = 0) :
    Calls Try.prog 65 #[v, heldRight x.1 x.2.1 x.2.2] w fun e w' => ∃ v', e = .returned v' ∧ GR B w v w' v' (xs ++ x.bytes) := by
  obtain ⟨k, n, s⟩ := x
  obtain ⟨o1, o2, o3, o4, o5⟩ := hx
  simp only at o1 o2 o3 o4 o5
  unfold Val.err at he
  simp only at he
  unfold Val.bytes heldRight
  simp only [he, if_true]
  obtain ⟨hk, h2⟩ := right_kind he
  rcases hk with rfl | rfl | rfl | rfl
  · have e : holdOf 0 n s = .nothing := by simp [holdOf]
    rw [e]
    exact appendHeld_nothing B v xs w ho hB hl
  · have e : holdOf 1 n s = .number n := by simp [holdOf]
    rw [e]
    exact appendHeld_number B v xs n w ho hB hl o3 o4
  · have e : holdOf 2 n s = .text s := by simp [holdOf]
    obtain ⟨rs, hr⟩ := h2 rfl
    rw [e, hr]
    exact appendHeld_text B v xs s rs w ho hB hl o5 hr
  · have e : holdOf 3 n s = .truth (n == 1) := by simp [holdOf]
    rw [e]
    exact appendHeld_truth B v xs (n == 1) w ho hB hl

theorem keyErr_take (vs : List Val) (k : Nat) (h : ∀ i, i < k → i < vs.length → (vs.getD i (0, 0, ⟨#[]⟩)).err = 0) : keyErr vs = keyErr (vs.drop k) := by
  induction k generalizing vs with
  | zero => rfl
  | succ k ih =>
    cases vs with
    | nil => rfl
    | cons x r =>
      have h0 := h 0 (by omega) (by simp)
      simp only [List.getD_cons_zero] at h0
      have : keyErr r = keyErr (r.drop k) := ih r fun i hi hl => by
        have := h (i + 1) (by omega) (by simp; omega)
        simpa using this
      simp only [keyErr, h0, if_true, List.drop_succ_cons]
      exact this
theorem keyErr_at {vs : List Val} {k : Nat} (hk : k < vs.length) (h : ∀ i, i < k → i < vs.length → (vs.getD i (0, 0, ⟨#[]⟩)).err = 0) (he : (vs.getD k (0, 0, ⟨#[]⟩)).err ≠ 0) : keyErr vs = (vs.getD k (0, 0, ⟨#[]⟩)).err := by
  rw [keyErr_take vs k h, List.drop_eq_getElem_cons hk]
  have e : vs.getD k (0, 0, ⟨#[]⟩) = vs[k] := by simp [List.getD, hk]
  rw [e] at he ⊢
  simp only [keyErr, if_neg he]
theorem keyErr_all {vs : List Val} (h : ∀ i, i < vs.length → (vs.getD i (0, 0, ⟨#[]⟩)).err = 0) : keyErr vs = 0 := by
  rw [keyErr_take vs vs.length fun i _ hl => h i hl, List.drop_length]
  rfl
theorem keyBytes_take {vs : List Val} {k : Nat} (hk : k < vs.length) : keyBytes (vs.take (k + 1)) = keyBytes (vs.take k) ++ (vs.getD k (0, 0, ⟨#[]⟩)).bytes := by
  rw [List.take_add_one]
  unfold keyBytes
  rw [List.flatMap_append]
  congr 1
  simp [List.getD, hk]
theorem keyBytes_le (vs : List Val) (k : Nat) : (keyBytes (vs.take k)).length ≤ (keyBytes vs).length := by
  have : keyBytes vs = keyBytes (vs.take k) ++ keyBytes (vs.drop k) := by unfold keyBytes; rw [← List.flatMap_append, List.take_append_drop]
  rw [this, List.length_append]
  omega
theorem ok_getD {vs : List Val} (h : ∀ x ∈ vs, x.ok) (k : Nat) (hk : k < vs.length) : (vs.getD k (0, 0, ⟨#[]⟩)).ok := by
  have e : vs.getD k (0, 0, ⟨#[]⟩) = vs[k] := by simp [List.getD, hk]
  rw [e]
  exact h _ (List.getElem_mem hk)

/-- What Key tells. -/
def KeyR (vs : List Val) (B : Nat) (e : Ending) (w' : World) : Prop := if keyErr vs = 0 then ∃ v, e = .returned (.tuple #[v, .int .i64 0]) ∧ w'.ownsRow B 5 1 v (keyBytes vs).length (cellsOf (keyBytes vs)) else e = .returned (.tuple #[.slice none 0 0, .int .i64 (keyErr vs)])

theorem VS.lt {w : World} {b o len cap : Nat} {vs : List Val} (h : VS w (some ⟨b, o, none⟩) len cap vs) (h0 : 0 < len) : b < w.heap.size := by
  have := (h.hcell b o rfl 0 h0).1
  unfold World.cell? at this
  refine Classical.byContradiction fun hn => ?_
  have e : w.heap[b]? = none := Array.getElem?_eq_none (by omega)
  simp [e] at this

set_option maxRecDepth 100000 in
set_option maxHeartbeats 1000000 in
theorem key_any (a : Option Addr) (len cap : Nat) (vs : List Val) (w : World) (h : VS w a len cap vs) (ht : (keyBytes vs).length ≤ 549755813888) :
    Calls Try.prog 39 #[.slice a len cap] w fun e w' => KeyR vs w.heap.size e w' ∧ Below w.heap.size w w' := by
  have hm := h.hmax
  have hc := h.hcap
  have hm2 := h.hroom
  have HV := hidc h
  have HT := hidc ht
  clear ht h
  go_enter Try.func39, Try.ntmps39
  go_wp2
  go_loopw [4, 11] (fun v i wr => ∃ k : Nat, k ≤ len ∧ i = .int .i64 k ∧ GR w.heap.size w (.slice none 0 0) wr v (keyBytes (vs.take k)) ∧ ∀ i, i < k → i < vs.length → (vs.getD i (0, 0, ⟨#[]⟩)).err = 0) (fun _ i _ => len - (intOf i).toNat)
  case atStart => exact ⟨0, by omega, rfl, GR.start (World.ownsRow_nil _ _ _ _) (Nat.le_refl _), fun i hi => absurd hi (by omega)⟩
  case round =>
    obtain ⟨k, hk, rfl, hG, hE⟩ := hrel
    have HG := hG.hid
    have HE := hidc hE
    clear hG hE
    by_cases hlt : k < len
    · obtain ⟨b, o, ha⟩ := HV.out.hform (by omega)
      subst ha
      have hvl : k < vs.length := by rw [HV.out.hlen]; exact hlt
      obtain ⟨x, HX⟩ : ∃ x, Hid (vs.getD k (0, 0, ⟨#[]⟩) = x) := ⟨_, rfl⟩
      have HOK := hidc (ok_getD HV.out.hok k hvl)
      have hbw := HV.out.lt (by omega)
      have hcs := HV.out.hcell b o rfl k hlt
      rw [HX.out] at hcs HOK
      obtain ⟨c0, c1, c2⟩ := hcs
      have hbel := HG.out.below
      rw [← hbel.cell (p := ⟨b, o + k * 3, none⟩) hbw] at c0
      rw [← hbel.cell (p := ⟨b, o + k * 3 + 1, none⟩) hbw] at c1
      rw [← hbel.cell (p := ⟨b, o + k * 3 + 2, none⟩) hbw] at c2
      clear hbel
      obtain ⟨xk, xn, xs⟩ := x
      simp only at c0 c1 c2
      obtain ⟨-, -, o3, o4, o5⟩ := HOK.out
      simp only at o3 o4 o5
      have HL := hidc (Nat.le_trans (keyBytes_le vs k) HT.out)
      by_cases he : rightOf xk xn xs = 0
      · go_wp2_with (first
          | (go_at_call 64; refine (holdRight_any xk xn xs _ o5).mono ?_; rintro e w1 ⟨rfl, hb1⟩; have HG1 := ((HG.out.alloc _).later hb1).hid; have HB1 := hidc (Nat.le_trans HG1.out.base HG1.out.size); clear hb1)
          | (go_at_call 65; refine (appendHeld_right w.heap.size _ _ (xk, xn, xs) _ HG1.out.own HB1.out HL.out HOK.out he).mono ?_; rintro e w2 ⟨v2, rfl, hG2⟩; have HG2 := (HG1.out.trans hG2).hid; clear hG2))
        go_roundw
        case rel =>
          refine ⟨k + 1, by omega, by go_num, ?_, ?_⟩
          · rw [keyBytes_take hvl, HX.out]; exact HG2.out
          · intro i hi hil
            by_cases hik : i = k
            · subst hik; rw [HX.out]; exact he
            · exact HE.out i (by omega) hil
        case measure => simp [intOf]; omega
      · have he2 : (rightOf xk xn xs != 0) = true := by simp [he]
        go_wp2_with (go_at_call 64; refine (holdRight_any xk xn xs _ o5).mono ?_; rintro e w1 ⟨rfl, hb1⟩; have HG1 := ((HG.out.alloc _).later hb1).hid; clear hb1)
        go_ret2
        have e : keyErr vs = rightOf xk xn xs := by
          have := keyErr_at hvl HE.out (by rw [HX.out]; exact he)
          rw [HX.out] at this
          exact this
        unfold KeyR
        rw [e, if_neg he]
        exact ⟨rfl, HG1.out.below⟩
    · go_wp2
      go_ret2
      have e : k = vs.length := by rw [HV.out.hlen]; omega
      have e0 : keyErr vs = 0 := keyErr_all fun i hi => HE.out i (by omega) hi
      unfold KeyR
      rw [e0, if_pos rfl]
      have hG := HG.out
      rw [List.take_of_length_le (by omega)] at hG
      exact ⟨⟨_, rfl, hG.own⟩, hG.below⟩
end Go.Proofs.Ytcophbkgighepaa
