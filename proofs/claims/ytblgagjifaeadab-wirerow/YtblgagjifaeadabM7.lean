/- Plain mathematics of numbers and bytes one behind the other, cut anywhere. -/
import Derived.Test.YtblgagjifaeadabM5
namespace Go.Proofs.Ytblgagjifaeadab

theorem rum (n : Nat) (h : n < 9223372036854775808) (pre rest : List Nat) (p : Int) (hp : p = pre.length) : ruN (pre ++ (enc n ++ rest)) p = n ∧ ruP (pre ++ (enc n ++ rest)) p = pre.length + grp n ∧ ruE (pre ++ (enc n ++ rest)) p = 0 := by
  have e := rd_enc n h pre rest
  have hc : 0 ≤ p ∧ p ≤ (pre ++ (enc n ++ rest)).length := by rw [List.length_append]; omega
  have ht : p.toNat = pre.length := by omega
  unfold ruN ruP ruE
  rw [if_pos hc, if_pos hc, if_pos hc, ht]
  unfold rdNext
  rw [e]
  simp
/-- Marked groups alone are too short. -/
theorem rdF_short : ∀ (zs : List Nat) (k i n : Nat), (∀ z ∈ zs, 128 ≤ z) → (i = 0 → zs.head? ≠ some 128) → zs.length < k → rdF k i zs n = (0, 0, 10)
  | [], k, i, n => by
    intro _ _ hk
    obtain ⟨k, rfl⟩ : ∃ j, k = j + 1 := ⟨k - 1, by simp at hk; omega⟩
    rfl
  | z :: zs, k, i, n => by
    intro hz h0 hk
    obtain ⟨k, rfl⟩ : ∃ j, k = j + 1 := ⟨k - 1, by simp at hk; omega⟩
    have hz1 := hz z (by simp)
    rw [rdF_cons, if_neg (fun h => h0 h.1 (by simp [h.2])), if_neg (by omega), rdF_short zs k (i + 1) _ (fun x hx => hz x (by simp [hx])) (by omega) (by simp at hk; omega)]
theorem em_head (n : Nat) (h : n < 9223372036854775808) : (em (n / 128) (grp n - 1)).head? ≠ some 128 := by
  obtain ⟨g1, g2, g3, g4, g5⟩ := grp_spec n h
  rcases Nat.eq_zero_or_pos (grp n - 1) with z | z
  · rw [z]; simp [em]
  · obtain ⟨j, hj⟩ : ∃ j, grp n - 1 = j + 1 := ⟨grp n - 2, by omega⟩
    have hm : n / 128 < 128 ^ (grp n - 1) := by
      have e : 128 ^ grp n = 128 ^ (grp n - 1) * 128 := by rw [← Nat.pow_succ]; congr 1; omega
      rw [e] at g3
      exact Nat.div_lt_of_lt_mul (by rw [Nat.mul_comm]; exact g3)
    have hn0 : n ≠ 0 := fun h => by have := g5 h; omega
    have h4 := g4 hn0
    rw [hj] at hm ⊢
    rw [hj, Nat.pow_succ] at h4
    rw [em]
    simp only [List.head?_cons, ne_eq, Option.some.injEq]
    have hd : n / 128 / 128 ^ j < 128 := Nat.div_lt_of_lt_mul (by rw [← Nat.pow_succ]; exact hm)
    have hd2 : 1 ≤ n / 128 / 128 ^ j := (Nat.le_div_iff_mul_le (Nat.pow_pos (by decide))).2 (by
      rw [Nat.one_mul]
      exact (Nat.le_div_iff_mul_le (by decide)).2 h4)
    omega
theorem ru_cut (n : Nat) (h : n < 9223372036854775808) (pre : List Nat) (m : Nat) (hm : m < grp n) (p : Int) (hp : p = pre.length) : ruE (pre ++ (enc n).take m) p = 10 := by
  obtain ⟨g1, g2, -, -, -⟩ := grp_spec n h
  have hc : 0 ≤ p ∧ p ≤ (pre ++ (enc n).take m).length := by rw [List.length_append]; omega
  have ht : p.toNat = pre.length := by omega
  unfold ruE rdN
  rw [if_pos hc, ht, List.drop_left, enc_em, List.take_append_of_le_length (by rw [em_length]; omega)]
  rw [rdF_short _ 9 0 0 (fun z hz => em_marked _ _ z (List.mem_of_mem_take hz)) ?_ (by rw [List.length_take, em_length]; omega)]
  intro _
  have hh := em_head n h
  cases m with
  | zero => simp
  | succ m =>
    cases hE : em (n / 128) (grp n - 1) with
    | nil => simp
    | cons a l => rw [hE] at hh; simpa using hh
theorem rbm (s pre rest : List Nat) (hs : s.length < 9223372036854775808) (p most : Int) (hp : p = pre.length) (hm : (s.length : Int) ≤ most) :
    rbE (pre ++ (enc s.length ++ (s ++ rest))) p most = 0 ∧ rbS (pre ++ (enc s.length ++ (s ++ rest))) p most = s ∧ rbP (pre ++ (enc s.length ++ (s ++ rest))) p most = pre.length + grp s.length + s.length := by
  obtain ⟨h1, h2, h3⟩ := rum s.length hs pre (s ++ rest) p hp
  have hg := enc_length s.length (grp_spec s.length hs).1
  have he : rbE (pre ++ (enc s.length ++ (s ++ rest))) p most = 0 := by
    unfold rbE
    rw [h1, h2, h3, if_neg (by omega), if_neg (by omega), if_neg (by omega), if_neg]
    simp only [List.length_append, hg]
    omega
  refine ⟨he, ?_, ?_⟩
  · unfold rbS
    rw [if_pos he, h1, h2]
    have e : pre ++ (enc s.length ++ (s ++ rest)) = (pre ++ enc s.length) ++ (s ++ rest) := by simp
    rw [e, show pre.length + grp s.length = (pre ++ enc s.length).length by rw [List.length_append, hg], List.drop_left, List.take_left]
  · unfold rbP
    rw [if_pos he, h1, h2]
/-- Cut within: too short. -/
theorem rb_cut (s pre : List Nat) (hs : s.length < 9223372036854775808) (m : Nat) (hm : m < grp s.length + s.length) (p most : Int) (hp : p = pre.length) (hmo : (s.length : Int) ≤ most) :
    rbE (pre ++ (enc s.length ++ s).take m) p most = 10 := by
  have hg := enc_length s.length (grp_spec s.length hs).1
  rcases Nat.lt_or_ge m (grp s.length) with z | z
  · have e : (enc s.length ++ s).take m = (enc s.length).take m := List.take_append_of_le_length (by rw [hg]; omega)
    have h := ru_cut s.length hs pre m z p hp
    unfold rbE
    rw [e, h, if_pos (by omega)]
  · have e : (enc s.length ++ s).take m = enc s.length ++ s.take (m - grp s.length) := by
      rw [List.take_append, List.take_of_length_le (by rw [hg]; omega), hg]
    obtain ⟨h1, h2, h3⟩ := rum s.length hs pre (s.take (m - grp s.length)) p hp
    unfold rbE
    rw [e, h1, h2, h3, if_neg (by omega), if_neg (by omega), if_neg (by omega), if_pos]
    simp only [List.length_append, hg, List.length_take]
    omega

section
variable (kf : Nat → Nat) (T : Nat) (tf : Nat → List Nat)
def pc (i : Nat) : List Nat := enc (kf i) ++ (if i < T then enc (tf i).length ++ tf i else [])
def acc : Nat → List Nat
  | 0 => []
  | i + 1 => acc i ++ pc kf T tf i
def e0 (i : Nat) : Nat := (acc kf T tf i).length + grp (kf i)
def e1 (i : Nat) : Nat := (acc kf T tf (i + 1)).length
def ends : Nat → List Nat
  | 0 => []
  | i + 1 => ends i ++ [e0 kf T tf i, e1 kf T tf i]
theorem ends_length (n : Nat) : (ends kf T tf n).length = 2 * n := by induction n with | zero => rfl | succ n ih => simp [ends, ih]; omega
theorem ends_at (n i : Nat) (h : i < n) : (ends kf T tf n).getD (2 * i) 0 = e0 kf T tf i ∧ (ends kf T tf n).getD (2 * i + 1) 0 = e1 kf T tf i := by
  induction n with
  | zero => omega
  | succ n ih =>
    have hl := ends_length kf T tf n
    simp only [ends, List.getD_eq_getElem?_getD] at ih ⊢
    rcases Nat.lt_or_ge i n with z | z
    · rw [List.getElem?_append_left (by omega), List.getElem?_append_left (by omega)]
      exact ih z
    · obtain rfl : i = n := by omega
      rw [List.getElem?_append_right (by omega), List.getElem?_append_right (by omega), hl]
      simp
theorem acc_split (n i : Nat) (h : i < n) : ∃ r, acc kf T tf n = acc kf T tf i ++ (pc kf T tf i ++ r) := by
  induction n with
  | zero => omega
  | succ n ih =>
    rcases Nat.lt_or_ge i n with z | z
    · obtain ⟨r, hr⟩ := ih z
      exact ⟨r ++ pc kf T tf n, by rw [acc, hr]; simp⟩
    · obtain rfl : i = n := by omega
      exact ⟨[], by rw [acc]; simp⟩
theorem e1_eq (i : Nat) (hk : kf i < 9223372036854775808) (ht : (tf i).length ≤ 50) : e1 kf T tf i = e0 kf T tf i + (if i < T then grp (tf i).length + (tf i).length else 0) := by
  unfold e1 e0
  rw [acc, List.length_append, pc, List.length_append, enc_length _ (grp_spec _ hk).1]
  split
  · rw [List.length_append, enc_length _ (grp_spec _ (by omega)).1]; omega
  · simp
theorem acc_le (n : Nat) (hk : ∀ i, kf i < 9223372036854775808) (ht : ∀ i, (tf i).length ≤ 50) : (acc kf T tf n).length ≤ 68 * n := by
  induction n with
  | zero => simp [acc]
  | succ n ih =>
    have h1 := e1_eq kf T tf n (hk n) (ht n)
    have g1 := (grp_spec _ (hk n)).2.1
    have g2 := (grp_spec (tf n).length (by have := ht n; omega)).2.1
    have h2 := ht n
    unfold e1 e0 at h1
    split at h1 <;> omega
theorem acc_byte (hb : ∀ i, ∀ x ∈ tf i, x < 256) (n : Nat) : ∀ x ∈ acc kf T tf n, x < 256 := by
  induction n with
  | zero => simp [acc]
  | succ n ih =>
    intro x hx
    rw [acc, pc] at hx
    rcases List.mem_append.1 hx with z | z
    · exact ih x z
    · rcases List.mem_append.1 z with z | z
      · exact enc_byte _ x z
      · split at z
        · rcases List.mem_append.1 z with z | z
          · exact enc_byte _ x z
          · exact hb n x z
        · simp at z
/-- What a round reads. -/
theorem round_num (n i cut : Nat) (h : i < n) (hk : kf i < 9223372036854775808) (p : Int) (hp : p = (acc kf T tf i).length) (hc : (acc kf T tf i).length ≤ cut) :
    (cut < e0 kf T tf i → ruE ((acc kf T tf n).take cut) p = 10) ∧
    (e0 kf T tf i ≤ cut → ruN ((acc kf T tf n).take cut) p = kf i ∧ ruP ((acc kf T tf n).take cut) p = e0 kf T tf i ∧ ruE ((acc kf T tf n).take cut) p = 0) := by
  obtain ⟨r, hr⟩ := acc_split kf T tf n i h
  have hg := enc_length _ (grp_spec _ hk).1
  have he : e0 kf T tf i = (acc kf T tf i).length + grp (kf i) := rfl
  rw [hr, List.take_append, List.take_of_length_le hc, pc, List.append_assoc]
  constructor
  · intro hlt
    rw [List.take_append_of_le_length (by rw [hg]; omega)]
    exact ru_cut _ hk _ _ (by omega) p hp
  · intro hle
    rw [List.take_append, List.take_of_length_le (by rw [hg]; omega)]
    have := rum _ hk (acc kf T tf i) ((((if i < T then enc (tf i).length ++ tf i else []) ++ r).take (cut - (acc kf T tf i).length - (enc (kf i)).length))) p hp
    exact this
theorem round_txt (n i cut : Nat) (h : i < n) (hT : i < T) (hk : kf i < 9223372036854775808) (ht : (tf i).length ≤ 50) (p : Int) (hp : p = e0 kf T tf i) (hc : e0 kf T tf i ≤ cut) :
    (cut < e1 kf T tf i → rbE ((acc kf T tf n).take cut) p 50 = 10) ∧
    (e1 kf T tf i ≤ cut → rbE ((acc kf T tf n).take cut) p 50 = 0 ∧ rbS ((acc kf T tf n).take cut) p 50 = tf i ∧ rbP ((acc kf T tf n).take cut) p 50 = e1 kf T tf i) := by
  obtain ⟨r, hr⟩ := acc_split kf T tf n i h
  have hg := enc_length _ (grp_spec _ hk).1
  have hg2 := enc_length (tf i).length (grp_spec _ (by omega)).1
  have h1 := e1_eq kf T tf i hk ht
  rw [if_pos hT] at h1
  have he : e0 kf T tf i = (acc kf T tf i).length + grp (kf i) := rfl
  have hpre : (acc kf T tf i ++ enc (kf i)).length = e0 kf T tf i := by rw [List.length_append, hg, he]
  have e : acc kf T tf n = (acc kf T tf i ++ enc (kf i)) ++ ((enc (tf i).length ++ tf i) ++ r) := by rw [hr, pc, if_pos hT]; simp
  rw [e, List.take_append, List.take_of_length_le (by rw [hpre]; exact hc)]
  have hp' : p = (acc kf T tf i ++ enc (kf i)).length := by rw [hpre]; exact hp
  constructor
  · intro hlt
    rw [List.take_append_of_le_length (by have q : (enc (tf i).length ++ tf i).length = grp (tf i).length + (tf i).length := by rw [List.length_append, hg2]
                                          rw [q, hpre]; omega)]
    exact rb_cut (tf i) _ (by omega) _ (by rw [hpre]; omega) p 50 hp' (by omega)
  · intro hle
    have q : (enc (tf i).length ++ tf i).length = grp (tf i).length + (tf i).length := by rw [List.length_append, hg2]
    rw [List.take_append, List.take_of_length_le (by rw [q, hpre]; omega), List.append_assoc (enc (tf i).length) (tf i)]
    have := rbm (tf i) (acc kf T tf i ++ enc (kf i)) (r.take (cut - (acc kf T tf i ++ enc (kf i)).length - (enc (tf i).length ++ tf i).length)) (by omega) p 50 hp' (by omega)
    rw [hpre] at this ⊢
    exact ⟨this.1, this.2.1, by rw [this.2.2, h1]; omega⟩
end
end Go.Proofs.Ytblgagjifaeadab
