/- What a disk reads as behind Flip; a bit turned twice. -/
import Derived.Test.YtnapapgmeghgjaaJ3
set_option linter.unusedVariables false
namespace Go.Proofs.Ytnapapgmeghgjaa
open Go.RowKit

theorem flipF_by (bit : Nat) : ∀ (l : List Nat) (s : DS) (i : Nat), l.Nodup → (∀ j ∈ l, j < s.m) → (s.flipF bit l).by_ i = if i ∈ l then turnL (s.by_ i) bit else s.by_ i
  | [], s, i, _, _ => by simp [DS.flipF]
  | k :: l, s, i, hn, hm => by
    have hn2 := List.nodup_cons.1 hn
    have e : s.flipF bit (k :: l) = (s.setBy k (turnL (s.by_ k) bit)).flipF bit l := rfl
    rw [e, flipF_by bit l _ i hn2.2 (fun j hj => by rw [setBy_m]; exact hm j (by simp [hj]))]
    rw [setBy_by s k _ i (hm k (by simp))]
    by_cases h1 : i = k
    · subst h1
      rw [if_neg hn2.1, if_pos rfl, if_pos (by simp)]
    · rw [if_neg h1]
      by_cases h2 : i ∈ l
      · rw [if_pos h2, if_pos (by simp [h2])]
      · rw [if_neg h2, if_neg (by simp [h1, h2])]
theorem flipF_K (bit : Nat) : ∀ (l : List Nat) (s : DS) (j : Nat), (s.flipF bit l).K j = s.K j
  | [], _, _ => rfl
  | k :: l, s, j => flipF_K bit l (s.setBy k (turnL (s.by_ k) bit)) j
theorem flipF_rest (bit : Nat) : ∀ (l : List Nat) (s : DS), (s.flipF bit l).down = s.down ∧ (s.flipF bit l).after = s.after ∧ (s.flipF bit l).life = s.life
  | [], _ => ⟨rfl, rfl, rfl⟩
  | k :: l, s => flipF_rest bit l (s.setBy k (turnL (s.by_ k) bit))
theorem idx_nodup (s : DS) (a : Nat) : (s.idx a).Nodup := by
  unfold DS.idx
  exact List.Pairwise.filter _ List.nodup_range
theorem flip_rest (s : DS) (a bit : Nat) : (s.flip a bit).n = s.n ∧ (s.flip a bit).m = s.m ∧ (s.flip a bit).down = s.down ∧ (s.flip a bit).after = s.after ∧ (s.flip a bit).life = s.life := by
  obtain ⟨h1, h2, _⟩ := flipF_m bit (s.idx a) (s.setKp a (turnL (s.K a) bit))
  obtain ⟨h3, h4, h5⟩ := flipF_rest bit (s.idx a) (s.setKp a (turnL (s.K a) bit))
  exact ⟨h2.trans (setKp_n s a _), h1, h3, h4, h5⟩
theorem flip_show (s : DS) (a bit j : Nat) (ha : a < s.n) : (s.flip a bit).show j = if j = a then turnL (s.show a) bit else s.show j := by
  have hi : (s.flip a bit).idx j = s.idx j := (flipF_m bit (s.idx a) (s.setKp a (turnL (s.K a) bit))).2.2 j
  have hK : (s.flip a bit).K j = if j = a then turnL (s.K a) bit else s.K j := (flipF_K bit (s.idx a) _ j).trans (setKp_K s a _ j ha)
  have hb : ∀ i, (s.flip a bit).by_ i = if i ∈ s.idx a then turnL (s.by_ i) bit else s.by_ i := fun i => flipF_by bit (s.idx a) (s.setKp a (turnL (s.K a) bit)) i (idx_nodup s a) (fun k hk => (idx_mem hk).1)
  unfold DS.show
  rw [hi]
  by_cases e : j = a
  · subst e
    rw [if_pos rfl]
    cases h : (s.idx j).getLast? with
    | none => simp only; rw [hK, if_pos rfl]
    | some r => simp only; rw [hb r, if_pos (List.mem_of_getLast? h)]
  · rw [if_neg e]
    cases h : (s.idx j).getLast? with
    | none => simp only; rw [hK, if_neg e]
    | some r =>
      simp only
      rw [hb r, if_neg]
      intro hm
      have h1 := (idx_mem (List.mem_of_getLast? h)).2
      have h2 := (idx_mem hm).2
      exact e (h1.symm.trans h2)
theorem padTo_getD (n : Nat) (xs : List Nat) (i : Nat) : (padTo n xs).getD i 0 = xs.getD i 0 := by
  simp only [padTo, List.getD_eq_getElem?_getD]
  rcases Nat.lt_or_ge i xs.length with h | h
  · rw [List.getElem?_append_left h]
  · rw [List.getElem?_append_right h, List.getElem?_eq_none (l := xs) h]
    simp only [zs, List.getElem?_replicate]
    split <;> rfl
theorem turnL_getD (xs : List Nat) (bit i : Nat) : (turnL xs bit).getD i 0 = if i = bit / 8 then xs.getD i 0 ^^^ 2 ^ (bit % 8) else xs.getD i 0 := by
  have hl : bit / 8 < (padTo (turnN xs bit) xs).length := by
    rw [padTo, List.length_append, zs_len]
    unfold turnN
    omega
  have h1 : ∀ c, ((padTo (turnN xs bit) xs).set (bit / 8) c).getD i 0 = if i = bit / 8 then c else (padTo (turnN xs bit) xs).getD i 0 := by
    intro c
    simp only [List.getD_eq_getElem?_getD, List.getElem?_set]
    by_cases e : i = bit / 8
    · subst e; simp [hl]
    · rw [if_neg e, if_neg (fun e2 => e e2.symm)]
  rw [turnL, h1, padTo_getD, padTo_getD]
  by_cases e : i = bit / 8
  · rw [if_pos e, if_pos e, e]
  · rw [if_neg e, if_neg e]
theorem turn_turn {xs : List Nat} {bit : Nat} (h : xs.length ≤ blk) (hb : bit < 65536) : pad (turnL (turnL xs bit) bit) = pad xs := by
  have l1 : (turnL xs bit).length ≤ blk := by rw [turnL_len]; exact turnN_le h hb
  have l2 : (turnL (turnL xs bit) bit).length ≤ blk := by rw [turnL_len]; exact turnN_le l1 hb
  apply List.ext_getElem
  · rw [pad_len l2, pad_len h]
  · intro i h1 h2
    have e1 : (pad (turnL (turnL xs bit) bit))[i] = (pad (turnL (turnL xs bit) bit)).getD i 0 := by simp [List.getD_eq_getElem?_getD, h1]
    have e2 : (pad xs)[i] = (pad xs).getD i 0 := by simp [List.getD_eq_getElem?_getD, h2]
    rw [e1, e2, pad_getD, pad_getD, turnL_getD, turnL_getD]
    by_cases e : i = bit / 8
    · rw [if_pos e, if_pos e, Nat.xor_assoc, Nat.xor_self, Nat.xor_zero]
    · rw [if_neg e, if_neg e]
end Go.Proofs.Ytnapapgmeghgjaa
