/- Plain mathematics of numbers as bytes: what is written is read; what is read is written just so; the order. -/
import Derived.Test.YtcophbkgighepaaXU
import Derived.Test.YtcophbkgighepaaXB
namespace Go.Proofs.Ytcophbkgighepaa

/-- The marked groups of a number, j of them, the highest first. -/
def em (m : Nat) : Nat → List Nat
  | 0 => []
  | j + 1 => (m / 128 ^ j % 128 + 128) :: em m j
theorem em_length (m j : Nat) : (em m j).length = j := by induction j with | zero => rfl | succ j ih => simp [em, ih]
theorem em_snoc (m : Nat) : ∀ j, em m (j + 1) = em (m / 128) j ++ [m % 128 + 128]
  | 0 => by simp [em]
  | j + 1 => by
    rw [em, em_snoc m j, em]
    simp only [List.cons_append]
    congr 2
    rw [Nat.div_div_eq_div_mul, Nat.pow_succ, Nat.mul_comm 128]
theorem rsf_em (n : Nat) : ∀ j, rsf n j = em (n / 128) j ++ [n % 128]
  | 0 => rfl
  | j + 1 => by
    rw [rsf, rsf_em n j, em]
    simp only [List.cons_append]
    congr 2
    rw [Nat.div_div_eq_div_mul, Nat.pow_succ, Nat.mul_comm 128]
theorem enc_em (n : Nat) : encW n = em (n / 128) (grp n - 1) ++ [n % 128] := by rw [← rsf_enc, rsf_em]

theorem pow_le9 {k : Nat} (h : k ≤ 9) : 128 ^ k ≤ 9223372036854775808 := by
  have := Nat.pow_le_pow_right (n := 128) (by decide) h
  simpa using this
/-- How many groups a number has, by its size. -/
theorem grp_of (n i : Nat) (hi : i ≤ 8) (h1 : n < 128 ^ (i + 1)) (h2 : 0 < i → 128 ^ i ≤ n) : grp n = i + 1 := by
  have hn : n < 9223372036854775808 := Nat.lt_of_lt_of_le h1 (pow_le9 (by omega))
  obtain ⟨g1, g2, g3, g4, g5⟩ := grp_spec n hn
  rcases Nat.lt_trichotomy (grp n) (i + 1) with z | z | z
  · exfalso
    have h3 := h2 (by omega)
    have hp : 128 ^ grp n ≤ 128 ^ i := Nat.pow_le_pow_right (by decide) (by omega)
    omega
  · exact z
  · exfalso
    have hn0 : n ≠ 0 := fun h => by have := g5 h; omega
    have h3 := g4 hn0
    have hp : 128 ^ (i + 1) ≤ 128 ^ (grp n - 1) := Nat.pow_le_pow_right (by decide) (by omega)
    omega

/-- WHAT IS READ IS WRITTEN JUST SO. -/
theorem rdF_enc : ∀ (k i : Nat) (xs : List Nat) (n : Nat), i + k ≤ 9 → (∀ x ∈ xs, x < 256) → n < 128 ^ i → (0 < i → 128 ^ (i - 1) ≤ n) → (rdFW k i xs n).2.2 = 0 →
    em n i ++ xs.take ((rdFW k i xs n).2.1 - i) = encW (rdFW k i xs n).1 ∧ (rdFW k i xs n).1 < 9223372036854775808
  | 0, i, xs, n => by simp [rdFW]
  | k + 1, i, [], n => by simp [rdFW]
  | k + 1, i, c :: r, n => by
    intro hik hb hn1 hn2
    have hc := hb c (by simp)
    rw [rdF_cons]
    split
    · simp
    · rename_i h128
      split
      · rename_i hlt
        intro _
        have hp : n * 128 + c % 128 < 128 ^ (i + 1) := by rw [Nat.pow_succ]; omega
        have hlow : 0 < i → 128 ^ i ≤ n * 128 + c % 128 := fun h0 => by
          have h1 := hn2 h0
          have e : 128 ^ i = 128 ^ (i - 1) * 128 := by rw [← Nat.pow_succ]; congr 1; omega
          omega
        have hg := grp_of (n * 128 + c % 128) i (by omega) hp hlow
        refine ⟨?_, Nat.lt_of_lt_of_le hp (pow_le9 (by omega))⟩
        rw [enc_em, hg]
        simp only [Nat.add_sub_cancel, Nat.add_sub_cancel_left, List.take_succ_cons, List.take_zero]
        rw [show (n * 128 + c % 128) / 128 = n by omega, show (n * 128 + c % 128) % 128 = c by omega]
      · rename_i hge
        intro he
        have hp : n * 128 + c % 128 < 128 ^ (i + 1) := by rw [Nat.pow_succ]; omega
        have hlow : 128 ^ i ≤ n * 128 + c % 128 := by
          by_cases h0 : i = 0
          · subst h0
            simp
            omega
          · have h1 := hn2 (by omega)
            have e : 128 ^ i = 128 ^ (i - 1) * 128 := by rw [← Nat.pow_succ]; congr 1; omega
            omega
        have ih := rdF_enc k (i + 1) r (n * 128 + c % 128) (by omega) (fun x hx => hb x (by simp [hx])) hp (fun _ => by simpa using hlow) he
        refine ⟨?_, ih.2⟩
        rw [← ih.1, em_snoc, show (n * 128 + c % 128) / 128 = n by omega, show (n * 128 + c % 128) % 128 + 128 = c by omega]
        have hnx := (rdF_next k (i + 1) r (n * 128 + c % 128) he).1
        generalize (rdFW k (i + 1) r (n * 128 + c % 128)).2.1 = K at *
        rw [show K - i = (K - (i + 1)) + 1 by omega, List.take_succ_cons]
        simp
theorem ru_enc (xs : List Nat) (p : Int) (hb : ∀ x ∈ xs, x < 256) (h : ruE xs p = 0) : (xs.drop p.toNat).take (ruP xs p - p.toNat) = encW (ruN xs p) ∧ ruN xs p < 9223372036854775808 := by
  have hpp := ruP_le h
  have hp : 0 ≤ p ∧ p ≤ xs.length := by omega
  have e1 : ruN xs p = (rdN xs p.toNat).1 := by unfold ruN; rw [if_pos hp]
  have e2 : ruP xs p = rdNext xs p.toNat := by unfold ruP; rw [if_pos hp]
  have e3 : ruE xs p = (rdN xs p.toNat).2.2 := by unfold ruE; rw [if_pos hp]
  rw [e3] at h
  have e4 : rdNext xs p.toNat = p.toNat + (rdN xs p.toNat).2.1 := by unfold rdNext; rw [if_pos h]
  have := rdF_enc 9 0 (xs.drop p.toNat) 0 (by omega) (fun x hx => hb x (List.mem_of_mem_drop hx)) (by decide) (by omega) h
  rw [e1, e2, e4, Nat.add_sub_cancel_left]
  simpa [em, rdN] using this

/-- The value of marked groups, read on from n. -/
def val (n : Nat) (zs : List Nat) : Nat := zs.foldl (fun n c => n * 128 + c % 128) n
theorem val_em (m : Nat) : ∀ j n, val n (em m j) = n * 128 ^ j + m % 128 ^ j
  | 0, n => by simp [val, em, Nat.mod_one]
  | j + 1, n => by
    rw [em]
    show val (n * 128 + (m / 128 ^ j % 128 + 128) % 128) (em m j) = _
    rw [val_em m j]
    have e : (m / 128 ^ j % 128 + 128) % 128 = m / 128 ^ j % 128 := by omega
    rw [e, Nat.pow_succ]
    have h1 : m % (128 ^ j * 128) = m % 128 ^ j + 128 ^ j * (m / 128 ^ j % 128) := Nat.mod_mul
    rw [h1, Nat.add_mul, Nat.mul_assoc, Nat.mul_comm 128 (128 ^ j), Nat.mul_comm (m / 128 ^ j % 128)]
    omega
/-- WHAT IS WRITTEN IS READ. -/
theorem rdF_run : ∀ (zs : List Nat) (k i c n : Nat) (rest : List Nat), (∀ z ∈ zs, 128 ≤ z) → (i = 0 → zs.head? ≠ some 128) → zs.length < k → c < 128 →
    rdFW k i (zs ++ c :: rest) n = (val n zs * 128 + c, i + zs.length + 1, 0)
  | [], k, i, c, n, rest => by
    intro _ _ hk hc
    obtain ⟨k, rfl⟩ : ∃ j, k = j + 1 := ⟨k - 1, by simp at hk; omega⟩
    rw [List.nil_append, rdF_cons, if_neg (by omega), if_pos hc]
    simp [val]
    omega
  | z :: zs, k, i, c, n, rest => by
    intro hz h0 hk hc
    obtain ⟨k, rfl⟩ : ∃ j, k = j + 1 := ⟨k - 1, by simp at hk; omega⟩
    have hz1 := hz z (by simp)
    rw [List.cons_append, rdF_cons, if_neg (fun h => h0 h.1 (by simp [h.2])), if_neg (by omega), rdF_run zs k (i + 1) c _ rest (fun x hx => hz x (by simp [hx])) (by omega) (by simp at hk; omega) hc]
    simp [val]
    omega
theorem em_marked (m j : Nat) : ∀ z ∈ em m j, 128 ≤ z := by
  induction j with
  | zero => simp [em]
  | succ j ih =>
    intro z hz
    simp only [em, List.mem_cons] at hz
    rcases hz with rfl | hz
    · omega
    · exact ih z hz
theorem rd_enc (n : Nat) (h : n < 9223372036854775808) (pre rest : List Nat) : rdN (pre ++ (encW n ++ rest)) pre.length = (n, grp n, 0) := by
  obtain ⟨g1, g2, g3, g4, g5⟩ := grp_spec n h
  unfold rdN
  rw [List.drop_left, enc_em, List.append_assoc, List.singleton_append]
  have hm : n / 128 < 128 ^ (grp n - 1) := by
    have e : 128 ^ grp n = 128 ^ (grp n - 1) * 128 := by rw [← Nat.pow_succ]; congr 1; omega
    rw [e] at g3
    exact Nat.div_lt_of_lt_mul (by rw [Nat.mul_comm]; exact g3)
  rw [rdF_run _ 9 0 (n % 128) 0 rest (em_marked _ _) ?_ (by rw [em_length]; omega) (by omega), val_em, em_length, Nat.mod_eq_of_lt hm]
  · refine Prod.ext (by simp; omega) (Prod.ext (by simp; omega) rfl)
  · intro _
    rcases Nat.eq_zero_or_pos (grp n - 1) with z | z
    · rw [z]; simp [em]
    · obtain ⟨j, hj⟩ : ∃ j, grp n - 1 = j + 1 := ⟨grp n - 2, by omega⟩
      rw [hj] at hm ⊢
      have hn0 : n ≠ 0 := fun h => by have := g5 h; omega
      have h4 := g4 hn0
      rw [hj, Nat.pow_succ] at h4
      rw [em]
      simp only [List.head?_cons, ne_eq, Option.some.injEq]
      have hd : n / 128 / 128 ^ j < 128 := Nat.div_lt_of_lt_mul (by rw [← Nat.pow_succ]; exact hm)
      have hd2 : 1 ≤ n / 128 / 128 ^ j := (Nat.le_div_iff_mul_le (Nat.pow_pos (by decide))).2 (by
        rw [Nat.one_mul]
        exact (Nat.le_div_iff_mul_le (by decide)).2 h4)
      omega
/-- No number's bytes begin another one's. -/
theorem enc_prefix (n m : Nat) (hn : n < 9223372036854775808) (hm : m < 9223372036854775808) (t : List Nat) (h : encW m = encW n ++ t) : n = m := by
  have e1 := rd_enc n hn [] t
  have e2 := rd_enc m hm [] []
  rw [← h] at e1
  rw [List.append_nil] at e2
  rw [e2] at e1
  exact (congrArg Prod.fst e1).symm
/-- The bytes' order. -/
theorem str_toList (xs : List Nat) : (str xs).toList = xs.map UInt8.ofNat := by
  rw [ByteArray.toList_eq, str, strOfNums_data, List.map_map]
  rfl
theorem u8_inj {a b : Nat} (ha : a < 256) (hb : b < 256) (h : UInt8.ofNat a = UInt8.ofNat b) : a = b := by
  have := congrArg UInt8.toNat h
  simp only [UInt8.toNat_ofNat'] at this
  omega
theorem map_u8_inj : ∀ (xs ys : List Nat), (∀ x ∈ xs, x < 256) → (∀ y ∈ ys, y < 256) → xs.map UInt8.ofNat = ys.map UInt8.ofNat → xs = ys
  | [], [], _, _, _ => rfl
  | [], _ :: _, _, _, h => by simp at h
  | _ :: _, [], _, _, h => by simp at h
  | x :: xs, y :: ys, hx, hy, h => by
    simp only [List.map_cons, List.cons.injEq] at h
    rw [u8_inj (hx x (by simp)) (hy y (by simp)) h.1, map_u8_inj xs ys (fun z hz => hx z (by simp [hz])) (fun z hz => hy z (by simp [hz])) h.2]
theorem str_beq (xs ys : List Nat) (hx : ∀ x ∈ xs, x < 256) (hy : ∀ y ∈ ys, y < 256) : ((str xs).toList == (str ys).toList) = decide (xs = ys) := by
  rw [str_toList, str_toList, Bool.eq_iff_iff]
  simp only [beq_iff_eq, decide_eq_true_eq]
  exact ⟨map_u8_inj xs ys hx hy, fun h => by rw [h]⟩
theorem less_cons (a b : Nat) (xs ys : List UInt8) (ha : a < 256) (hb : b < 256) : Op.bytesLess (UInt8.ofNat a :: xs) (UInt8.ofNat b :: ys) = (decide (a < b) || (decide (a = b) && Op.bytesLess xs ys)) := by
  have e1 : (UInt8.ofNat a < UInt8.ofNat b) ↔ a < b := by
    rw [UInt8.lt_iff_toNat_lt]
    simp only [UInt8.toNat_ofNat']
    omega
  have e2 : (UInt8.ofNat a == UInt8.ofNat b) = decide (a = b) := by
    rw [Bool.eq_iff_iff]
    simp only [beq_iff_eq, decide_eq_true_eq]
    exact ⟨u8_inj ha hb, fun h => by rw [h]⟩
  rw [Op.bytesLess, e2]
  congr 1
  exact decide_eq_decide.2 e1
theorem rsf_less (n m : Nat) : ∀ j, Op.bytesLess ((rsf n j).map UInt8.ofNat) ((rsf m j).map UInt8.ofNat) = decide (n % 128 ^ (j + 1) < m % 128 ^ (j + 1))
  | 0 => by
    show Op.bytesLess [UInt8.ofNat (n % 128)] [UInt8.ofNat (m % 128)] = _
    rw [less_cons _ _ _ _ (by omega) (by omega)]
    simp [Op.bytesLess]
  | j + 1 => by
    rw [rsf, rsf, List.map_cons, List.map_cons, less_cons _ _ _ _ (by omega) (by omega), rsf_less n m j]
    have en : n % 128 ^ (j + 1 + 1) = n % 128 ^ (j + 1) + 128 ^ (j + 1) * (n / 128 ^ (j + 1) % 128) := by rw [Nat.pow_succ 128 (j + 1), Nat.mod_mul]
    have em : m % 128 ^ (j + 1 + 1) = m % 128 ^ (j + 1) + 128 ^ (j + 1) * (m / 128 ^ (j + 1) % 128) := by rw [Nat.pow_succ 128 (j + 1), Nat.mod_mul]
    have hp : 0 < 128 ^ (j + 1) := Nat.pow_pos (by decide)
    have ln := Nat.mod_lt n hp
    have lm := Nat.mod_lt m hp
    rw [en, em]
    generalize 128 ^ (j + 1) = B at *
    generalize n % B = n0 at *
    generalize m % B = m0 at *
    generalize n / B % 128 = n1 at *
    generalize m / B % 128 = m1 at *
    rw [Bool.eq_iff_iff]
    simp only [Bool.or_eq_true, Bool.and_eq_true, decide_eq_true_eq]
    rcases Nat.lt_trichotomy n1 m1 with z | z | z
    · have : B * n1 + B ≤ B * m1 := by
        have := Nat.mul_le_mul_left B (show n1 + 1 ≤ m1 from z)
        rw [Nat.mul_add, Nat.mul_one] at this
        exact this
      omega
    · subst z
      omega
    · have : B * m1 + B ≤ B * n1 := by
        have := Nat.mul_le_mul_left B (show m1 + 1 ≤ n1 from z)
        rw [Nat.mul_add, Nat.mul_one] at this
        exact this
      omega
theorem enc_less (n m : Nat) (hn : n < 9223372036854775808) (hm : m < 9223372036854775808) (hg : grp n = grp m) : Op.bytesLess (str (encW n)).toList (str (encW m)).toList = decide (n < m) := by
  obtain ⟨g1, g2, g3, -, -⟩ := grp_spec n hn
  obtain ⟨-, -, k3, -, -⟩ := grp_spec m hm
  rw [str_toList, str_toList, ← rsf_enc, ← rsf_enc, ← hg, rsf_less, show grp n - 1 + 1 = grp n by omega, Nat.mod_eq_of_lt g3, Nat.mod_eq_of_lt (by rw [hg]; exact k3)]
theorem grp_more (n m : Nat) (hn : n < 9223372036854775808) (hm : m < 9223372036854775808) (hg : grp m < grp n) : m < n := by
  obtain ⟨g1, g2, g3, g4, g5⟩ := grp_spec n hn
  obtain ⟨k1, k2, k3, k4, k5⟩ := grp_spec m hm
  have hn0 : n ≠ 0 := fun h => by have := g5 h; omega
  have h4 := g4 hn0
  have hp : 128 ^ grp m ≤ 128 ^ (grp n - 1) := Nat.pow_le_pow_right (by decide) (by omega)
  omega
theorem mask63 (n : Int) : ∃ k : Nat, k < 9223372036854775808 ∧ bits .and .i64 n 9223372036854775807 = (k : Int) := by
  refine ⟨((BitVec.ofInt 64 n).toNat &&& 9223372036854775807), ?_, ?_⟩
  · have := @Nat.and_le_right (BitVec.ofInt 64 n).toNat 9223372036854775807
    omega
  · have h := @Nat.and_le_right (BitVec.ofInt 64 n).toNat 9223372036854775807
    have e : (BitVec.ofInt 64 9223372036854775807).toNat = 9223372036854775807 := by decide
    show IntKind.i64.wrap (((BitVec.ofInt 64 n) &&& (BitVec.ofInt 64 9223372036854775807)).toNat : Int) = _
    rw [BitVec.toNat_and, e]
    exact wraps_i64 _ (by omega) (by omega)
end Go.Proofs.Ytcophbkgighepaa
