/- The law's helper few; the order of lists of values. -/
import Derived.Test.YtadkmnckjennoaaDoorJ1
import Derived.Test.YtadkmnckjennoaaDoorX4
set_option linter.unusedVariables false
namespace Go.Proofs.YtadkmnckjennoaaDoor
open Go.RowKit

theorem own_take {w : World} {B g n cap : Nat} {vs : List Val} {m : Val} (h : w.ownsRow B 23 3 (.slice (some ⟨g, 0, none⟩) (n + 1) cap) (n + 1) (vcells (vs ++ [m]))) (hn : vs.length = n) : w.ownsRow B 23 3 (.slice (some ⟨g, 0, none⟩) n cap) n (vcells vs) := by
  refine ⟨by rw [vcells_len, hn], Or.inr ?_⟩
  rcases h.2 with ⟨e, _⟩ | ⟨g', cap', cur, e, h1, h2, h3, h4, h5, h6⟩
  · cases e
  · simp only [Value.slice.injEq, Option.some.injEq, Addr.mk.injEq, and_true, true_and] at e
    obtain ⟨rfl, rfl⟩ := e
    refine ⟨g, cap, cur, rfl, h1, h2, by omega, h4, h5, ?_⟩
    have e2 : cur.toList.take (n * 3) = (cur.toList.take ((n + 1) * 3)).take (n * 3) := by rw [List.take_take]; congr 1; omega
    rw [e2, h6, vcells_append]
    rw [List.take_append_of_le_length (by rw [vcells_len]; omega)]
    exact List.take_of_length_le (by rw [vcells_len]; omega)

theorem own_row {w : World} {B n : Nat} {v : Value} {xs : List Value} (h : w.ownsRow B 23 3 v n xs) (h0 : 0 < n) : ∃ g cap cur, v = .slice (some ⟨g, 0, none⟩) n cap ∧ B ≤ g ∧ w.heap[g]? = some (.cells cur 23 (0, 0)) ∧ n ≤ cap ∧ cap ≤ 9223372036854775807 ∧ True := by
  rcases h.2 with ⟨_, e⟩ | ⟨g, cap, cur, e, h1, h2, h3, h4, _⟩
  · omega
  · unfold maxLen at h4
    exact ⟨g, cap, cur, e, h1, h2, h3, by omega, trivial⟩

theorem wpList_append_v1 {ops : Array Oper} {rest : List Oper} {o : Oper} {a : Act} {Q : Exit → Act → World → Prop} {wr : World} (hgd : o.guard = none) (s x : Operand)
    (ho : o.op = .call { callee := .builtin .append, args := #[s, x], argTypes := #[30, 30] })
    (w : World) (v : Value) (vs : List Val) (L : Nat) (hs : a.eval s = v) (k n : Int) (t : ByteArray) (hR : VW w wr v vs) (hx : a.eval x = .slice (some ⟨wr.heap.size, 0, none⟩) 1 1) (hsize : vs.length ≤ 16777216) (hL : vs.length = L)
    (h : ∀ g2 cap2 w', L + 1 ≤ cap2 → cap2 ≤ 9223372036854775807 → VW w w' (.slice (some ⟨g2, 0, none⟩) (L + 1) cap2) (vs ++ [(k, n, t)]) → wpList Tryd.prog ops Q rest (a.put o.dst (.slice (some ⟨g2, 0, none⟩) (L + 1) cap2)) w') : wpList Tryd.prog ops Q (o :: rest) a (wr.alloc (.cells #[.int .i64 k, .int .i64 n, .string t] 23)) := by
  refine wpList_append_v hgd s x ho w v vs hs k n t hR hx (by omega) fun v' w' hV => ?_
  have e : (vs ++ [(k, n, t)]).length = L + 1 := by simp [hL]
  obtain ⟨g2, cap2, cur, hv, _, _, r3, r4, _⟩ := own_row hV.own (by rw [e]; omega)
  rw [e] at hv r3
  subst hv
  exact h g2 cap2 w' r3 r4 hV

set_option maxRecDepth 100000 in
set_option maxHeartbeats 2000000 in
theorem few_law (B : Nat) (u : Value) (xs : List Val) (w : World) (h : w.ownsRow B 23 3 u xs.length (vcells xs)) (hl : xs.length ≤ 6) :
    Calls Tryd.prog 14 #[u, .int .i64 6] w fun e w' => ∃ v, e = .returned v ∧ VW w w' v xs := by
  obtain ⟨n, hn⟩ : ∃ n, Hid (xs.length = n) := ⟨_, rfl⟩
  obtain ⟨a, cap, hu, hnil, hcp, hmx⟩ := own_form h
  rw [hn.out] at hu hnil hcp hl
  have hmin : min (n : Int) 6 = (n : Int) := by omega
  have H := hidj h
  have n0 : (0 : Int) ≤ (n : Int) := by omega
  have n1 : (n : Int) ≤ (cap : Int) := by omega
  have hl' : (n : Int) ≤ 6 := by omega
  have HN : Hid (VW w w (.slice none 0 0) []) := ⟨World.ownsRow_nil _ _ _ _, Below.refl _ _⟩
  subst hu
  clear h
  cases a with
  | none =>
    obtain ⟨e1, e2⟩ := hnil rfl
    subst e1 e2
    clear hnil
    go_enter Tryd.func14, Tryd.ntmps14
    go_wp2_with (first
      | (at_builtin; refine wpList_append_vv rfl (.tmp 11) (.tmp 14) rfl w _ _ [] xs B rfl rfl HN.out H.out (by have := hn.out; simp only [List.length_nil]; omega) ?_; intro v1 w1 hV1; have HV1 : Hid (VW w w1 v1 xs) := hV1; clear hV1)
      | (at_builtin; refine wpList_append_v1 rfl (.tmp 16) (.tmp 18) rfl w _ _ 0 rfl (-7) 0 ⟨#[]⟩ HV1.out rfl (by have := hn.out; omega) (by have := hn.out; omega) ?_; intro g2 cap2 w2 r3 r4 hV2; have HV2 := hV2.hid; clear hV2))
    go_ret
    refine ⟨_, rfl, ⟨?_, HV2.out.bel⟩⟩
    have hh := HV2.out.own
    simp only [List.length_append, List.length_singleton, hn.out] at hh
    have := own_take hh hn.out
    rw [hn.out]
    exact this
  | some x =>
    clear hnil
    go_enter Tryd.func14, Tryd.ntmps14
    go_wp2_with (first
      | (at_builtin; refine wpList_append_vv rfl (.tmp 11) (.tmp 14) rfl w _ _ [] xs B rfl rfl HN.out H.out (by have := hn.out; simp only [List.length_nil]; omega) ?_; intro v1 w1 hV1; have HV1 : Hid (VW w w1 v1 xs) := hV1; clear hV1)
      | (at_builtin; refine wpList_append_v1 rfl (.tmp 16) (.tmp 18) rfl w _ _ n rfl (-7) 0 ⟨#[]⟩ HV1.out rfl (by have := hn.out; omega) (by have := hn.out; omega) ?_; intro g2 cap2 w2 r3 r4 hV2; have HV2 := hV2.hid; have p1 : (n : Int) ≤ (cap2 : Int) := (by omega); clear hV2))
    go_ret
    refine ⟨_, rfl, ⟨?_, HV2.out.bel⟩⟩
    have hh := HV2.out.own
    simp only [List.length_append, List.length_singleton, hn.out] at hh
    have := own_take hh hn.out
    rw [hn.out]
    exact this

/-- An order by signs. -/
structure Ord {α : Type} (c : α → α → Int) : Prop where
  rf : ∀ a, c a a = 0
  tr : ∀ {a b d}, c a b ≤ 0 → c b d ≤ 0 → c a d ≤ 0
  st : ∀ {a b d}, c a b < 0 → c b d ≤ 0 → c a d < 0
  ts : ∀ {a b d}, c a b ≤ 0 → c b d < 0 → c a d < 0
def lexG {α : Type} (c : α → α → Int) : List α → List α → Int
  | [], [] => 0
  | [], _ :: _ => -1
  | _ :: _, [] => 1
  | x :: a, y :: b => if c x y = 0 then lexG c a b else c x y
theorem lexG_cons {α : Type} (c : α → α → Int) (x y : α) (a b : List α) : lexG c (x :: a) (y :: b) = if c x y = 0 then lexG c a b else c x y := rfl
theorem lexG_head {α : Type} {c : α → α → Int} {x y : α} {a b : List α} (h : lexG c (x :: a) (y :: b) ≤ 0) : c x y ≤ 0 := by
  rw [lexG_cons] at h
  split at h <;> omega
theorem lexG_tail {α : Type} {c : α → α → Int} {x y : α} {a b : List α} (h : c x y = 0) : lexG c (x :: a) (y :: b) = lexG c a b := by rw [lexG_cons, if_pos h]
theorem lexG_ord {α : Type} {c : α → α → Int} (o : Ord c) : Ord (lexG c) where
  rf := by
    intro a
    induction a with
    | nil => rfl
    | cons x a ih => rw [lexG_tail (o.rf x)]; exact ih
  tr := by
    intro a
    induction a with
    | nil => intro b d _ _; cases d <;> simp [lexG]
    | cons x a ih =>
      intro b d h1 h2
      cases b with
      | nil => simp [lexG] at h1
      | cons y b =>
        cases d with
        | nil => simp [lexG] at h2
        | cons z d =>
          have p1 := lexG_head h1
          have p2 := lexG_head h2
          have p3 := o.tr p1 p2
          by_cases hz : c x z = 0
          · have q1 : c x y = 0 := by
              rcases Int.lt_or_eq_of_le p1 with q | q
              · have := o.st q p2; omega
              · exact q
            have q2 : c y z = 0 := by
              rcases Int.lt_or_eq_of_le p2 with q | q
              · have := o.ts p1 q; omega
              · exact q
            rw [lexG_tail q1] at h1
            rw [lexG_tail q2] at h2
            rw [lexG_tail hz]
            exact ih h1 h2
          · rw [lexG_cons, if_neg hz]; exact p3
  st := by
    intro a
    induction a with
    | nil =>
      intro b d h1 h2
      cases b with
      | nil => simp [lexG] at h1
      | cons y b => cases d with
        | nil => simp [lexG] at h2
        | cons z d => simp [lexG]
    | cons x a ih =>
      intro b d h1 h2
      cases b with
      | nil => simp [lexG] at h1
      | cons y b =>
        cases d with
        | nil => simp [lexG] at h2
        | cons z d =>
          have p1 := lexG_head (Int.le_of_lt h1)
          have p2 := lexG_head h2
          have p3 := o.tr p1 p2
          by_cases hz : c x z = 0
          · have q1 : c x y = 0 := by
              rcases Int.lt_or_eq_of_le p1 with q | q
              · have := o.st q p2; omega
              · exact q
            have q2 : c y z = 0 := by
              rcases Int.lt_or_eq_of_le p2 with q | q
              · have := o.ts p1 q; omega
              · exact q
            rw [lexG_tail q1] at h1
            rw [lexG_tail q2] at h2
            rw [lexG_tail hz]
            exact ih h1 h2
          · rw [lexG_cons, if_neg hz]; omega
  ts := by
    intro a
    induction a with
    | nil =>
      intro b d h1 h2
      cases b with
      | nil => cases d <;> simp [lexG] at h2 ⊢
      | cons y b => cases d with
        | nil => simp [lexG] at h2
        | cons z d => simp [lexG]
    | cons x a ih =>
      intro b d h1 h2
      cases b with
      | nil => simp [lexG] at h1
      | cons y b =>
        cases d with
        | nil => simp [lexG] at h2
        | cons z d =>
          have p1 := lexG_head h1
          have p2 := lexG_head (Int.le_of_lt h2)
          have p3 := o.tr p1 p2
          by_cases hz : c x z = 0
          · have q1 : c x y = 0 := by
              rcases Int.lt_or_eq_of_le p1 with q | q
              · have := o.st q p2; omega
              · exact q
            have q2 : c y z = 0 := by
              rcases Int.lt_or_eq_of_le p2 with q | q
              · have := o.ts p1 q; omega
              · exact q
            rw [lexG_tail q1] at h1
            rw [lexG_tail q2] at h2
            rw [lexG_tail hz]
            exact ih h1 h2
          · rw [lexG_cons, if_neg hz]; omega
theorem cmpI_ord : Ord Lib.compareInt where
  rf := by intro a; unfold Lib.compareInt; simp
  tr := by intro a b d; unfold Lib.compareInt; intro h1 h2; repeat' (first | split at h1 | split at h2 | split) <;> omega
  st := by intro a b d; unfold Lib.compareInt; intro h1 h2; repeat' (first | split at h1 | split at h2 | split) <;> omega
  ts := by intro a b d; unfold Lib.compareInt; intro h1 h2; repeat' (first | split at h1 | split at h2 | split) <;> omega

/-- A held value as numbers, in the order. -/
def H.code : H → List Int
  | .nothing => [0]
  | .number n => [1, n]
  | .text s => 2 :: ((runes (bl s)).getD []).map Int.ofNat
  | .truth b => [3, bi b]
  | .none => [0]
theorem cmpL_lex : ∀ (a b : List Nat), cmpL a b = lexG Lib.compareInt (a.map Int.ofNat) (b.map Int.ofNat)
  | [], [] => rfl
  | [], _ :: _ => rfl
  | _ :: _, [] => rfl
  | x :: a, y :: b => by
    rw [List.map_cons, List.map_cons, lexG_cons, ← cmpL_lex a b]
    simp only [cmpL, Lib.compareInt, Int.ofNat_eq_natCast]
    by_cases h : x = y
    · subst h; simp
    · by_cases h1 : x < y
      · have : ¬ (y : Int) < x := by omega
        simp [h, h1]
      · have h2 : (y : Int) < x := by omega
        have h3 : ¬ (x : Int) < y := by omega
        simp [h, h1, h2]
theorem cmpH_code (a b : H) : cmpH a b = lexG Lib.compareInt a.code b.code := by
  cases a <;> cases b <;> simp only [cmpH, H.code, H.kind, lexG_cons, lexG, Lib.compareInt]
  all_goals first | rfl | (simp; done) | skip
  exact cmpL_lex _ _
end Go.Proofs.YtadkmnckjennoaaDoor
