/- What PageKeeps leans on: heads and pages on a disk that loses its power at any call. -/
import Derived.Test.YtdagpobgmaeboaaPL
set_option linter.unusedVariables false
set_option linter.unusedSimpArgs false
namespace Go.Proofs.Ytdagpobgmaeboaa
open Go.RowKit

/-- What may lie in the other head's block: whatever it is, it bears an older number at its end. -/
structure Old (L : List Nat) (N : Nat) : Prop where
  mid : ∀ j, 4 ≤ j → j < 11 → L.getD j 0 = 0
  far : ∀ j, 20 ≤ j → L.getD j 0 = 0
  end_ : L.getD 19 0 < N ∨ L.getD 19 0 = 0
  len : L.length ≤ blk
  by_ : ∀ c ∈ L, c < 256
theorem ord8 (M : Nat) (h : M < 256) : ord M 8 = [0, 0, 0, 0, 0, 0, 0, M] := by
  simp only [ord, Nat.reducePow, Nat.div_one]
  have d : ∀ k, 256 ≤ k → M / k % 256 = 0 := fun k hk => by rw [Nat.div_eq_of_lt (by omega)]
  rw [d _ (by omega), d _ (by omega), d _ (by omega), d _ (by omega), d _ (by omega), d _ (by omega), d _ (by omega), Nat.mod_eq_of_lt h]
theorem ord4 (M : Nat) (h : M < 256) : ord M 4 = [0, 0, 0, M] := by
  simp only [ord, Nat.reducePow, Nat.div_one]
  have d : ∀ k, 256 ≤ k → M / k % 256 = 0 := fun k hk => by rw [Nat.div_eq_of_lt (by omega)]
  rw [d _ (by omega), d _ (by omega), d _ (by omega), Nat.mod_eq_of_lt h]
theorem headB_is {M r : Nat} (h : M < 256) (hr : r < 256) : headB M r = [104, 101, 97, 100, 0, 0, 0, 0, 0, 0, 0, M, 0, 0, 0, r, 0, 0, 0, M] := by
  unfold headB
  rw [ord8 M h, ord4 r hr]
  rfl
/-- It reads as no head, or as one of that number. -/
theorem old_read {L : List Nat} {N : Nat} (h : Old L N) : (rdH (pad L) 12).1 < (N : Int) ∨ (rdH (pad L) 12).1 ≤ 0 := by
  unfold rdH
  split
  · exact Or.inr (Int.le_refl _)
  · split
    · exact Or.inr (by show (-1 : Int) ≤ 0; omega)
    · split
      · rename_i hx
        generalize hn : ordN (((pad L).drop 4).take 8) = num at hx
        generalize ordN (((pad L).drop 12).take 4) = root at hx
        simp only
        have e19 : (pad L).getD 19 0 = num % 256 := by
          rw [hx, pad_getD]
          simp [headB, ord]
        rw [pad_getD] at e19
        have l8 : ((pad L).drop 4).take 8 = [0, 0, 0, 0, 0, 0, 0, (pad L).getD 11 0] := by
          have hl := pad_len h.len
          apply List.ext_getElem
          · simp only [List.length_take, List.length_drop, hl]; rfl
          · intro i h1 h2
            have h3 : i < 8 := by simpa using h2
            have e : (((pad L).drop 4).take 8)[i] = (pad L).getD (4 + i) 0 := by
              simp only [List.getElem_take, List.getElem_drop]
              rw [List.getD_eq_getElem?_getD, List.getElem?_eq_getElem (by rw [hl]; unfold blk; omega)]
              rfl
            rw [e]
            rcases (by omega : i = 0 ∨ i = 1 ∨ i = 2 ∨ i = 3 ∨ i = 4 ∨ i = 5 ∨ i = 6 ∨ i = 7) with rfl | rfl | rfl | rfl | rfl | rfl | rfl | rfl
            · rw [pad_getD, h.mid _ (by omega) (by omega)]; rfl
            · rw [pad_getD, h.mid _ (by omega) (by omega)]; rfl
            · rw [pad_getD, h.mid _ (by omega) (by omega)]; rfl
            · rw [pad_getD, h.mid _ (by omega) (by omega)]; rfl
            · rw [pad_getD, h.mid _ (by omega) (by omega)]; rfl
            · rw [pad_getD, h.mid _ (by omega) (by omega)]; rfl
            · rw [pad_getD, h.mid _ (by omega) (by omega)]; rfl
            · rfl
        have n11 : num = (pad L).getD 11 0 := by
          rw [← hn, l8]
          simp [ordN]
        have b11 := byteAt (pad_lt h.by_) 11
        rcases h.end_ with h1 | h1
        · left; omega
        · right; omega
      · exact Or.inr (by show (-1 : Int) ≤ 0; omega)
theorem getD_big {L : List Nat} {i : Nat} (h : L.length ≤ i) : L.getD i 0 = 0 := by
  rw [List.getD_eq_getElem?_getD, List.getElem?_eq_none h]; rfl
theorem pad_ext {A B : List Nat} (ha : A.length ≤ blk) (hb : B.length ≤ blk) (h : ∀ i, i < blk → A.getD i 0 = B.getD i 0) : pad A = pad B := by
  apply List.ext_getElem
  · rw [pad_len ha, pad_len hb]
  · intro i h1 h2
    have e1 : (pad A)[i] = (pad A).getD i 0 := by simp [List.getD_eq_getElem?_getD, h1]
    have e2 : (pad B)[i] = (pad B).getD i 0 := by simp [List.getD_eq_getElem?_getD, h2]
    rw [e1, e2, pad_getD, pad_getD]
    exact h i (by rw [pad_len ha] at h1; exact h1)
/-- A head's write that is torn leaves what was older, or is whole. -/
theorem torn_head {L : List Nat} {N id k : Nat} (h : Old L N) (hN : N < 200) (hid : id < 12) (hk : k ≤ blk) : pad (laidL L (headB (N + 1) id) k) = pad (headB (N + 1) id) ∨ Old (laidL L (headB (N + 1) id) k) N := by
  have hb : (headB (N + 1) id).length ≤ blk := by rw [headB_len]; unfold blk; omega
  have hH := headB_is (M := N + 1) (r := id) (by omega) (by omega)
  have hlen := laidL_len h.len hb hk
  have g : ∀ i, i < blk → (laidL L (headB (N + 1) id) k).getD i 0 = if i < k then (headB (N + 1) id).getD i 0 else L.getD i 0 := fun i hi => by
    have := pad_laid h.len hb hk hi
    rwa [pad_getD] at this
  have far : ∀ i, 20 ≤ i → (headB (N + 1) id).getD i 0 = 0 := fun i hi => getD_big (by rw [headB_len]; exact hi)
  rcases Nat.lt_or_ge k 20 with h1 | h1
  · right
    refine ⟨fun j h4 h11 => ?_, fun j hj => ?_, ?_, hlen, laidL_lt h.by_ (headB_lt _ _)⟩
    · rw [g j (by unfold blk; omega)]
      split
      · rw [hH]
        rcases (by omega : j = 4 ∨ j = 5 ∨ j = 6 ∨ j = 7 ∨ j = 8 ∨ j = 9 ∨ j = 10) with rfl | rfl | rfl | rfl | rfl | rfl | rfl <;> rfl
      · exact h.mid j h4 h11
    · rcases Nat.lt_or_ge j blk with h2 | h2
      · rw [g j h2, if_neg (by omega)]
        exact h.far j hj
      · exact getD_big (by omega)
    · rw [g 19 (by unfold blk; omega), if_neg (by omega)]
      exact h.end_
  · left
    refine pad_ext hlen hb (fun i hi => ?_)
    rw [g i hi]
    split
    · rfl
    · rw [h.far i (by omega), far i (by omega)]

/-- The next page: two pages take turns. -/
def nid (R : Nat) : Nat := if R = 2 then 3 else 2
/-- A disk whose last head is (N, R), with the page R of the bytes xs. -/
structure KD (s : DS) (N R : Nat) (xs : List Nat) : Prop where
  n12 : s.n = 12
  m0 : s.opens = []
  cur : (N = 0 ∧ R = 0 ∧ pad (s.K 0) = pad []) ∨ (0 < N ∧ pad (s.K (N % 2)) = pad (headB N R))
  oth : Old (s.K ((N + 1) % 2)) N
  rr : R = 0 ∨ R = 2 ∨ R = 3
  pg : R ≠ 0 → pad (s.K R) = pad (laidP xs)
  xl : xs.length ≤ 200
  xb : ∀ c ∈ xs, c < 256
theorem KD.of {s s' : DS} {N R : Nat} {xs : List Nat} (h : KD s N R xs) (h1 : s'.opens = s.opens) (h2 : s'.kept = s.kept) : KD s' N R xs := by
  have eK : ∀ b, s'.K b = s.K b := fun b => by simp only [DS.K, h2]
  exact ⟨by simp only [DS.n, h2]; exact h.n12, h1.trans h.m0, by rw [eK, eK]; exact h.cur, by rw [eK]; exact h.oth, h.rr, by rw [eK]; exact h.pg, h.xl, h.xb⟩
theorem show_none {s : DS} (h : s.opens = []) (b : Nat) : s.show b = s.K b := by unfold DS.show DS.idx DS.m; rw [h]; rfl
theorem KD.last {s : DS} {N R : Nat} {xs : List Nat} (h : KD s N R xs) (hN : N < 200) : lastH (rdH (pad (s.show 0)) s.n) (rdH (pad (s.show 1)) s.n) = some (N, R) := by
  rw [show_none h.m0, show_none h.m0, h.n12]
  have hr := h.rr
  have ho := old_read h.oth
  rcases h.cur with ⟨rfl, rfl, e⟩ | ⟨h0, e⟩
  · rw [e, rdH_zero]
    refine lastH_even (num := 0) (root := 0) ?_ rfl
    rcases ho with ho | ho
    · exact Int.le_of_lt ho
    · exact ho
  · have hd := rdH_head (num := N) (root := R) (n := 12) (by omega) (by omega) (by omega) (by omega) (by omega)
    rcases Nat.mod_two_eq_zero_or_one N with hm | hm
    · have hm2 : (N + 1) % 2 = 1 := by omega
      rw [hm] at e
      rw [hm2] at ho
      rw [e, hd]
      exact lastH_even (by omega) hm
    · have hm2 : (N + 1) % 2 = 0 := by omega
      rw [hm] at e
      rw [hm2] at ho
      rw [e, hd]
      exact lastH_odd (by omega) hm
theorem kd_start : KD (DS.new 12) 0 0 [] where
  n12 := rfl
  m0 := rfl
  cur := Or.inl ⟨rfl, rfl, rfl⟩
  oth := ⟨fun _ _ _ => rfl, fun _ _ => rfl, Or.inr rfl, Nat.zero_le _, fun c hc => by cases hc⟩
  rr := Or.inl rfl
  pg := fun h => absurd rfl h
  xl := Nat.zero_le _
  xb := fun c hc => by cases hc
theorem nid_cases {R : Nat} (h : R = 0 ∨ R = 2 ∨ R = 3) : (nid R = 2 ∨ nid R = 3) ∧ nid R ≠ R := by
  rcases h with rfl | rfl | rfl <;> exact ⟨by decide, by decide⟩

/-- What a loss leaves of a disk without open writes. -/
theorem KD.lose {s : DS} {N R : Nat} {xs : List Nat} (h : KD s N R xs) (keep : Nat) (torn cut : Int) : KD (s.lose keep torn cut) N R xs := by
  have m : s.m = 0 := by unfold DS.m; rw [h.m0]; rfl
  have eK : ∀ b, b < 12 → (s.lose keep torn cut).K b = s.K b := fun b hb => by
    show (s.settle keep torn cut).K b = _
    rw [settle_K _ _ _ _ _ (by rw [h.n12]; exact hb), m]
    rfl
  have hr := h.rr
  exact ⟨(settle_n s keep torn cut).trans h.n12, rfl, by rw [eK 0 (by omega), eK (N % 2) (by omega)]; exact h.cur, by rw [eK _ (by omega)]; exact h.oth, h.rr, by rw [eK R (by omega)]; exact h.pg, h.xl, h.xb⟩
/-- .. and of one with a page's open write. -/
theorem KD.losePage {s : DS} {N R : Nat} {xs : List Nat} (h : KD s N R xs) {s1 : DS} (ys : List Nat) (ho : s1.opens = [(nid R, ys)]) (hk : s1.kept = s.kept) (keep : Nat) (torn cut : Int) : KD (s1.lose keep torn cut) N R xs := by
  have hi := nid_cases h.rr
  have hr := h.rr
  have n12 : s1.n = 12 := by unfold DS.n; rw [hk]; exact h.n12
  have eK : ∀ b, b < 12 → b ≠ nid R → (s1.lose keep torn cut).K b = s.K b := fun b hb hne => by
    show (s1.settle keep torn cut).K b = _
    rw [settle_K _ _ _ _ _ (by rw [n12]; exact hb), setK_none]
    · unfold DS.K; rw [hk]
    · intro r hr2
      have m : s1.m = 1 := by unfold DS.m; rw [ho]; rfl
      obtain rfl : r = 0 := by omega
      unfold DS.at_
      rw [ho]
      exact fun e => hne e.symm
  exact ⟨(settle_n s1 keep torn cut).trans n12, rfl, by rw [eK 0 (by omega) (by omega), eK (N % 2) (by omega) (by omega)]; exact h.cur, by rw [eK _ (by omega) (by omega)]; exact h.oth, h.rr, by intro h0; rw [eK R (by omega) (by omega)]; exact h.pg h0, h.xl, h.xb⟩
/-- A flush keeps the page. -/
theorem KD.flushPage {s : DS} {N R : Nat} {xs : List Nat} (h : KD s N R xs) {s1 : DS} (ys : List Nat) (ho : s1.opens = [(nid R, laidP ys)]) (hk : s1.kept = s.kept) : KD (s1.settle 18446744073709551615 (-1) 0) N R xs ∧ (s1.settle 18446744073709551615 (-1) 0).K (nid R) = laidP ys := by
  have n12 : s1.n = 12 := by unfold DS.n; rw [hk]; exact h.n12
  have hi := nid_cases h.rr
  have e1 : s1.settle 18446744073709551615 (-1) 0 = (s1.settle 18446744073709551615 (-1) 0) := rfl
  have m : s1.m = 1 := by unfold DS.m; rw [ho]; rfl
  refine ⟨?_, ?_⟩
  · have := h.losePage (laidP ys) ho hk 18446744073709551615 (-1) 0
    exact this.of rfl rfl
  · rw [settle_K _ _ _ _ _ (by rw [n12]; omega), m]
    have hat : s1.at_ 0 = nid R := by unfold DS.at_; rw [ho]; rfl
    have hby : s1.by_ 0 = laidP ys := by unfold DS.by_; rw [ho]; rfl
    rw [DS.setK, if_pos hat.symm, keptN_all, hby]
    unfold laidL
    rw [if_neg (by unfold blk; omega), if_pos rfl]
theorem headN {N R id : Nat} : (N + 1 + 1) % 2 = N % 2 := by omega
/-- A head's open write, settled in any way: the old head, or the new one. -/
theorem KD.head {s : DS} {N R : Nat} {xs ys : List Nat} (h : KD s N R xs) (ok : s.Ok) (hN : N < 100) (hp : pad (s.K (nid R)) = pad (laidP ys)) (hyl : ys.length ≤ 200) (hyb : ∀ c ∈ ys, c < 256) {s1 : DS} (ho : s1.opens = [((N + 1) % 2, headB (N + 1) (nid R))]) (hk : s1.kept = s.kept) (keep : Nat) (torn cut : Int) :
    (KD (s1.settle keep torn cut) N R xs ∨ KD (s1.settle keep torn cut) (N + 1) (nid R) ys) ∧ (keptN keep torn cut 0 = blk → KD (s1.settle keep torn cut) (N + 1) (nid R) ys) := by
  have n12 : s1.n = 12 := by unfold DS.n; rw [hk]; exact h.n12
  have hi := nid_cases h.rr
  have hr := h.rr
  have m : s1.m = 1 := by unfold DS.m; rw [ho]; rfl
  have hat : s1.at_ 0 = (N + 1) % 2 := by unfold DS.at_; rw [ho]; rfl
  have hby : s1.by_ 0 = headB (N + 1) (nid R) := by unfold DS.by_; rw [ho]; rfl
  have eK0 : ∀ b, s1.K b = s.K b := fun b => by unfold DS.K; rw [hk]
  have eK : ∀ b, b < 12 → b ≠ (N + 1) % 2 → (s1.settle keep torn cut).K b = s.K b := fun b hb hne => by
    rw [settle_K _ _ _ _ _ (by rw [n12]; exact hb), m, DS.setK, if_neg (by rw [hat]; exact hne)]
    exact eK0 b
  have eH : (s1.settle keep torn cut).K ((N + 1) % 2) = laidL (s.K ((N + 1) % 2)) (headB (N + 1) (nid R)) (keptN keep torn cut 0) := by
    rw [settle_K _ _ _ _ _ (by rw [n12]; omega), m, DS.setK, if_pos hat.symm, hby]
    show laidL (s1.K ((N + 1) % 2)) _ _ = _
    rw [eK0]
  have nn : (s1.settle keep torn cut).n = 12 := (settle_n s1 keep torn cut).trans n12
  have new : pad ((s1.settle keep torn cut).K ((N + 1) % 2)) = pad (headB (N + 1) (nid R)) → KD (s1.settle keep torn cut) (N + 1) (nid R) ys := by
    intro e
    have eo : (s1.settle keep torn cut).K ((N + 1 + 1) % 2) = s.K (N % 2) := by
      rw [headN (R := 0) (id := 0)]
      exact eK _ (by omega) (by omega)
    refine ⟨nn, rfl, Or.inr ⟨by omega, e⟩, ?_, by omega, fun _ => by rw [eK _ (by omega) (by omega)]; exact hp, hyl, hyb⟩
    rw [eo]
    have key : ∀ L : List Nat, L.length ≤ blk → (∀ c ∈ L, c < 256) → pad L = pad [] ∨ pad L = pad (headB N R) → Old L (N + 1) := by
      intro L hl hb hor
      have g : ∀ i, L.getD i 0 = (pad L).getD i 0 := fun i => (pad_getD L i).symm
      rcases hor with hq | hq
      · have z : ∀ i, L.getD i 0 = 0 := fun i => by rw [g, hq, pad_getD]; rfl
        exact ⟨fun j _ _ => z j, fun j _ => z j, Or.inr (z 19), hl, hb⟩
      · have z : ∀ i, L.getD i 0 = (headB N R).getD i 0 := fun i => by rw [g, hq, pad_getD]
        have hH := headB_is (M := N) (r := R) (by omega) (by omega)
        refine ⟨fun j h4 h11 => ?_, fun j hj => ?_, ?_, hl, hb⟩
        · rw [z, hH]
          rcases (by omega : j = 4 ∨ j = 5 ∨ j = 6 ∨ j = 7 ∨ j = 8 ∨ j = 9 ∨ j = 10) with rfl | rfl | rfl | rfl | rfl | rfl | rfl <;> rfl
        · rw [z]
          exact getD_big (by rw [headB_len]; exact hj)
        · left
          rw [z, hH]
          show N < N + 1
          omega
    refine key _ (ok.kl _) (ok.kb _) ?_
    rcases h.cur with ⟨rfl, rfl, e0⟩ | ⟨_, e0⟩
    · exact Or.inl e0
    · exact Or.inr e0
  refine ⟨?_, fun hb => ?_⟩
  · rcases torn_head (id := nid R) (k := keptN keep torn cut 0) h.oth (by omega) (by omega) (keptN_le _ _ _ _) with e | e
    · exact Or.inr (new (by rw [eH]; exact e))
    · refine Or.inl ⟨nn, rfl, ?_, by rw [eH]; exact e, h.rr, fun h0 => by rw [eK R (by omega) (by omega)]; exact h.pg h0, h.xl, h.xb⟩
      rcases h.cur with ⟨rfl, rfl, e0⟩ | ⟨h0, e0⟩
      · exact Or.inl ⟨rfl, rfl, by rw [eK 0 (by omega) (by omega)]; exact e0⟩
      · exact Or.inr ⟨h0, by rw [eK (N % 2) (by omega) (by omega)]; exact e0⟩
  · apply new
    rw [eH, hb]
    unfold laidL
    rw [if_neg (by unfold blk; omega), if_pos rfl]
/-- A round's calls, one behind the other, on an armed disk. -/
theorem round_put {s : DS} {N R : Nat} {xs : List Nat} (h : KD s N R xs) (hf : s.after = 1) : KD s.tick N R xs ∧ s.tick.down = true ∧ s.tick.life = s.life + 1 := by
  rw [tick_one hf]
  exact ⟨h.lose _ _ _, rfl, rfl⟩
theorem round_commit {s : DS} {N R : Nat} {xs ys : List Nat} (h : KD s N R xs) (hd : s.down = false) (hf : ¬ s.after = 1) (hN : N < 100) (hyl : ys.length ≤ 200) (hyb : ∀ c ∈ ys, c < 256) (ok : (s.tick.wrote (nid R) (laidP ys)).Ok) {s' : DS} {E : Int}
    (hc : (s.tick.wrote (nid R) (laidP ys)).commit (N + 1) (nid R) = (s', E)) (okf : (s.tick.wrote (nid R) (laidP ys)).flush.Ok) :
    (E = 0 ∧ KD s' (N + 1) (nid R) ys ∧ s'.down = false ∧ s'.life = s.life) ∨ (E = 20 ∧ s'.down = true ∧ s'.life = s.life + 1 ∧ (KD s' N R xs ∨ KD s' (N + 1) (nid R) ys)) := by
  obtain ⟨t1, t2⟩ := tick_same hf
  obtain ⟨f1, f2, f3, f4⟩ := tick_facts hf
  have o1 : (s.tick.wrote (nid R) (laidP ys)).opens = [(nid R, laidP ys)] := by
    show s.tick.opens ++ [(nid R, laidP ys)] = _
    rw [t1, h.m0]; rfl
  have k1 : (s.tick.wrote (nid R) (laidP ys)).kept = s.kept := t2
  have d1 : (s.tick.wrote (nid R) (laidP ys)).down = false := f1.trans hd
  have l1 : (s.tick.wrote (nid R) (laidP ys)).life = s.life := f2
  generalize s.tick.wrote (nid R) (laidP ys) = s1 at *
  unfold DS.commit at hc
  by_cases h1 : s1.after = 1
  · rw [if_pos h1] at hc
    simp only [Prod.mk.injEq] at hc
    obtain ⟨rfl, rfl⟩ := hc
    have e : s1.flush = s1.lose s1.keep s1.torn s1.cut := by
      unfold DS.flush
      rw [d1]
      simp only [Bool.false_eq_true, if_false]
      rw [if_pos h1, tick_one h1]
    rw [e]
    exact Or.inr ⟨rfl, rfl, by show s1.life + 1 = _; rw [l1], Or.inl (h.losePage _ o1 k1 _ _ _)⟩
  · rw [if_neg h1] at hc
    obtain ⟨u1, u2⟩ := tick_same h1
    obtain ⟨v1, v2, v3, v4⟩ := tick_facts h1
    have ef := flush_is d1 h1
    obtain ⟨hk2, hp2⟩ := h.flushPage (s1 := s1.tick) ys (u1.trans o1) (u2.trans k1)
    rw [← ef] at hk2 hp2
    have d2 : s1.flush.down = false := (flush_facts d1 h1).2.1
    have l2 : s1.flush.life = s.life := (flush_facts d1 h1).2.2.2.2.trans l1
    generalize s1.flush = s2 at *
    by_cases h2 : s2.after = 1
    · rw [if_pos h2] at hc
      simp only [Prod.mk.injEq] at hc
      obtain ⟨rfl, rfl⟩ := hc
      rw [tick_one h2]
      exact Or.inr ⟨rfl, rfl, by show s2.life + 1 = _; rw [l2], Or.inl (hk2.lose _ _ _)⟩
    · rw [if_neg h2] at hc
      simp only [Prod.mk.injEq] at hc
      obtain ⟨rfl, rfl⟩ := hc
      obtain ⟨w1, w2⟩ := tick_same h2
      obtain ⟨x1, x2, x3, x4⟩ := tick_facts h2
      have o3 : (s2.tick.wrote ((N + 1) % 2) (headB (N + 1) (nid R))).opens = [((N + 1) % 2, headB (N + 1) (nid R))] := by
        show s2.tick.opens ++ [((N + 1) % 2, headB (N + 1) (nid R))] = _
        rw [w1, hk2.m0]; rfl
      have k3 : (s2.tick.wrote ((N + 1) % 2) (headB (N + 1) (nid R))).kept = s2.kept := w2
      have d3 : (s2.tick.wrote ((N + 1) % 2) (headB (N + 1) (nid R))).down = false := x1.trans d2
      have l3 : (s2.tick.wrote ((N + 1) % 2) (headB (N + 1) (nid R))).life = s.life := x2.trans l2
      generalize s2.tick.wrote ((N + 1) % 2) (headB (N + 1) (nid R)) = s3 at *
      have hp : pad (s2.K (nid R)) = pad (laidP ys) := by rw [hp2]
      by_cases h3 : s3.after = 1
      · have e : s3.flush = s3.lose s3.keep s3.torn s3.cut := by
          unfold DS.flush
          rw [d3]
          simp only [Bool.false_eq_true, if_false]
          rw [if_pos h3, tick_one h3]
        have eE : s3.flushE = 20 := by
          unfold DS.flushE
          rw [d3]
          simp only [Bool.false_eq_true, if_false]
          rw [if_pos h3]
        rw [e, eE]
        refine Or.inr ⟨rfl, rfl, by show s3.life + 1 = _; rw [l3], ?_⟩
        rcases (hk2.head okf hN hp hyl hyb o3 k3 s3.keep s3.torn s3.cut).1 with z | z
        · exact Or.inl (z.of rfl rfl)
        · exact Or.inr (z.of rfl rfl)
      · obtain ⟨y1, y2⟩ := tick_same h3
        have e := flush_is d3 h3
        have ff := flush_facts d3 h3
        rw [ff.1]
        refine Or.inl ⟨rfl, ?_, ff.2.1, ff.2.2.2.2.trans l3⟩
        rw [e]
        exact (hk2.head okf hN hp hyl hyb (y1.trans o3) (y2.trans k3) _ _ _).2 (keptN_all 0)
end Go.Proofs.Ytdagpobgmaeboaa
