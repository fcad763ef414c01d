/- Plain mathematics of a number's bytes: from the last one on. -/
import Derived.Test.YtblgagjifaeadaaC2
namespace Go.Proofs.Ytblgagjifaeadaa

/-- The last bytes of a number: one and j more. -/
def rsf (n : Nat) : Nat → List Nat
  | 0 => [n % 128]
  | j + 1 => (n / 128 ^ (j + 1) % 128 + 128) :: rsf n j
theorem rsf_eq (n : Nat) : ∀ j, rsf n j = (List.range j).map (fun i => n / 128 ^ (j - i) % 128 + 128) ++ [n % 128]
  | 0 => by simp [rsf]
  | j + 1 => by
    rw [rsf, rsf_eq n j, List.range_succ_eq_map]
    simp only [List.map_cons, List.map_map, List.cons_append, Nat.sub_zero]
    congr 2
    apply List.map_congr_left
    intro i _
    simp [Function.comp]
theorem rsf_enc (n : Nat) : rsf n (grp n - 1) = enc n := by
  rw [rsf_eq]; rfl
theorem rsf_length (n j : Nat) : (rsf n j).length = j + 1 := by
  induction j with
  | zero => rfl
  | succ j ih => simp [rsf, ih]
theorem rsf_byte (n j : Nat) : ∀ x ∈ rsf n j, x < 256 := by
  induction j with
  | zero => intro x hx; simp [rsf] at hx; omega
  | succ j ih =>
    intro x hx
    simp only [rsf, List.mem_cons] at hx
    rcases hx with rfl | hx
    · omega
    · exact ih x hx
theorem rsf_end (n j : Nat) (h : n < 9223372036854775808) (h0 : n / 128 ^ (j + 1) = 0) (h1 : j = 0 ∨ 0 < n / 128 ^ j) : j = grp n - 1 := by
  obtain ⟨g1, g2, g3, g4, g5⟩ := grp_spec n h
  have hlt : n < 128 ^ (j + 1) := by
    rcases Nat.lt_or_ge n (128 ^ (j + 1)) with z | z
    · exact z
    · have := Nat.div_pos z (Nat.pow_pos (by decide)); omega
  rcases Nat.lt_trichotomy j (grp n - 1) with z | z | z
  · exfalso
    have hn : n ≠ 0 := fun h => by have := g5 h; omega
    have := g4 hn
    have hp : 128 ^ (j + 1) ≤ 128 ^ (grp n - 1) := Nat.pow_le_pow_right (by decide) (by omega)
    omega
  · exact z
  · exfalso
    have hj : 0 < n / 128 ^ j := by rcases h1 with z2 | z2; omega; exact z2
    have hp : 128 ^ grp n ≤ 128 ^ j := Nat.pow_le_pow_right (by decide) (by omega)
    rw [Nat.div_eq_of_lt (by omega)] at hj
    omega

end Go.Proofs.Ytblgagjifaeadaa
