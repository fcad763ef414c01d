/- The law's helper few at eight, of a list that came in; the answers of Key and Read in one form. -/
import Derived.Test.YtadkmnckjennoaaDoorJ4
import Derived.Test.YtadkmnckjennoaaDoorK1
import Derived.Test.YtadkmnckjennoaaDoorF2
import Derived.Test.YtadkmnckjennoaaDoorY3
set_option linter.unusedVariables false
namespace Go.Proofs.YtadkmnckjennoaaDoor
open Go.RowKit

theorem getD_takeV {xs : List Val} {m i : Nat} (h : i < m) : (xs.take m).getD i v0 = xs.getD i v0 := by
  simp [List.getD, h]
theorem vs_take {w : World} {a : Option Addr} {n c : Nat} {xs : List Val} (h : VS w a n c xs) (m : Nat) (hm : m ≤ n) : VS w a m c (xs.take m) := by
  have h1 := h.hlen
  have h2 := h.hcap
  have h3 := h.hmax
  refine ⟨by rw [List.length_take]; omega, by omega, by omega, h.hroom, fun x hx => h.hok x (List.mem_of_mem_take hx), fun b o e i hi => ?_, fun h0 => h.hform (by omega)⟩
  have := h.hcell b o e i (by omega)
  rw [getD_takeV hi]
  exact this
theorem vs_news {w : World} {x : Addr} {n c : Nat} {xs : List Val} (h : VS w (some x) n c xs) : ∀ j u, (vcells xs)[j]? = some u → w.cell? (x.add j) = some u := by
  intro j u hj
  have hl : j < xs.length * 3 := by rw [← vcells_len]; exact (List.getElem?_eq_some_iff.1 hj).1
  have hn := h.hlen
  obtain ⟨b, o, e⟩ := h.hform (by omega)
  have e2 : x = ⟨b, o, none⟩ := Option.some.inj e
  subst e2
  obtain ⟨i, r, hr, rfl⟩ : ∃ i r, r < 3 ∧ j = i * 3 + r := ⟨j / 3, j % 3, by omega, by omega⟩
  have hi : i < xs.length := by omega
  rw [vcells_at xs i r hi hr] at hj
  obtain ⟨c0, c1, c2⟩ := h.hcell b o rfl i (by omega)
  rw [add_plain]
  have : r = 0 ∨ r = 1 ∨ r = 2 := by omega
  rcases this with rfl | rfl | rfl
  · simp only [vc, List.getElem?_cons_zero, Option.some.injEq] at hj
    subst hj
    exact c0
  · simp only [vc, List.getElem?_cons_zero, List.getElem?_cons_succ, Option.some.injEq] at hj
    subst hj
    rw [← Nat.add_assoc]
    exact c1
  · simp only [vc, List.getElem?_cons_zero, List.getElem?_cons_succ, Option.some.injEq] at hj
    subst hj
    rw [← Nat.add_assoc]
    exact c2
theorem wpList_append_vs {ops : Array Oper} {rest : List Oper} {o : Oper} {a : Act} {Q : Exit → Act → World → Prop} {wr : World} (hgd : o.guard = none) (s x : Operand)
    (ho : o.op = .call { callee := .builtin .append, args := #[s, x], argTypes := #[30, 30] })
    (w : World) (v : Value) (vs ys : List Val) (y : Option Addr) (m c : Nat) (hs : a.eval s = v) (hx : a.eval x = .slice y m c) (hnil : y = none → c = 0) (hR : VW w wr v vs) (hY : VS wr y m c ys) (hsize : vs.length + m ≤ 16777216)
    (h : ∀ v' w', VW w w' v' (vs ++ ys) → wpList Tryd.prog ops Q rest (a.put o.dst v') w') : wpList Tryd.prog ops Q (o :: rest) a wr := by
  obtain ⟨i0, hi, hz0, hz1, hz2⟩ := info_parts info_av
  cases y with
  | none =>
    have h0 : c = 0 := hnil rfl
    have h1 := hY.hcap
    have h2 := hY.hlen
    have e : ys = [] := List.eq_nil_of_length_eq_zero (by omega)
    have em : m = 0 := by omega
    subst e em h0
    refine wpList_append_own_none hgd s x _ ho w.heap.size 23 i0 3 Tryd.underlying30 hi v vs.length (vcells vs) hs hR.own hx (h v wr ?_)
    simpa using hR
  | some ad =>
    have hyl := hY.hlen
    refine wpList_append_own_at _ hgd s x _ ho w.heap.size 23 i0 (.agg #[.int .i64 0, .int .i64 0, .string ⟨#[]⟩]) 3 32 Tryd.underlying30 hi hz0 hz1 hz2 rfl (by omega) v vs.length (vcells vs) hs hR.own ad m c (vcells ys) hx (by rw [vcells_len, hyl]) (vs_news hY) (vcells_one ys) (by unfold maxLen; omega) (by omega) hR.bel.size ?_
    intro v' w' h2 h3 _ h5
    refine h v' w' ⟨?_, hR.bel.grown h3 hR.bel.size (fun j hj => (hR.own.lt j hj).1)⟩
    rw [List.length_append, vcells_append, hyl]
    exact h2

set_option maxRecDepth 100000 in
set_option maxHeartbeats 2000000 in
theorem few_in (a : Option Addr) (n c m : Nat) (xs : List Val) (w : World) (h : VS w a n c xs) (hnil : a = none → c = 0) (hm : m = min n 8) :
    Calls Tryd.prog 14 #[.slice a n c, .int .i64 8] w fun e w' => ∃ g cap, e = .returned (.slice (some ⟨g, 0, none⟩) m cap) ∧ m + 1 ≤ cap ∧ cap ≤ 9223372036854775807 ∧ VW w w' (.slice (some ⟨g, 0, none⟩) (m + 1) cap) (xs.take m ++ [(-7, 0, ⟨#[]⟩)]) := by
  have hcap := h.hcap
  have hmx := h.hmax
  have hrm := h.hroom
  have HV := hidj (vs_take h m (by omega))
  have HL : Hid ((xs.take m).length = m) := HV.out.hlen
  have HNI := hidj hnil
  have e0 : (if (8 : Int) < (n : Int) then (8 : Int) else (n : Int)) = (m : Int) := by split <;> omega
  have em : min (n : Int) 8 = (m : Int) := by omega
  have n0 : (0 : Int) ≤ (m : Int) := by omega
  have n1 : (m : Int) ≤ (c : Int) := by omega
  have m8 : (m : Int) ≤ 8 := by omega
  have HN : Hid (VW w w (.slice none 0 0) []) := ⟨World.ownsRow_nil _ _ _ _, Below.refl _ _⟩
  clear h hnil hm
  generalize xs.take m = ys at *
  go_enter Tryd.func14, Tryd.ntmps14
  go_wp2_with (first
    | (at_builtin; refine wpList_append_vs rfl (.tmp 11) (.tmp 14) rfl w _ [] ys a m c rfl rfl HNI.out HN.out HV.out (by simp only [List.length_nil]; omega) ?_; intro v1 w1 hV1; have HV1 : Hid (VW w w1 v1 ys) := hV1; clear hV1)
    | (at_builtin; refine wpList_append_v1 rfl (.tmp 16) (.tmp 18) rfl w _ _ m rfl (-7) 0 ⟨#[]⟩ HV1.out rfl (by have := HL.out; omega) HL.out ?_; intro g2 cap2 w2 r3 r4 hV2; have HV2 := hV2.hid; have p1 : (m : Int) ≤ (cap2 : Int) := (by omega); clear hV2))
  go_ret
  exact ⟨g2, cap2, rfl, r3, r4, HV2.out⟩

/-- Key's bytes, and none where it refuses. -/
def kbB (vs : List Val) : List Nat := if keyErr vs = 0 then keyBytes vs else []
theorem keyR_one {vs : List Val} {B : Nat} {e : Ending} {w' : World} (h : KeyR vs B e w') : ∃ v, e = .returned (.tuple #[v, .int .i64 (keyErr vs)]) ∧ w'.ownsRow B 5 1 v (kbB vs).length (cellsOf (kbB vs)) := by
  unfold KeyR at h
  unfold kbB
  by_cases q : keyErr vs = 0
  · rw [if_pos q] at h
    rw [if_pos q, q]
    exact h
  · rw [if_neg q] at h
    rw [if_neg q]
    exact ⟨_, h, World.ownsRow_nil _ _ _ _⟩
/-- What Read tells, and none where it refuses. -/
def rdV (xs : List Nat) : List Val := (rd xs).getD []
def rdE (xs : List Nat) : Int := match rd xs with | none => 11 | some _ => 0
theorem rdR_one {xs : List Nat} {B : Nat} {e : Ending} {w' : World} (h : RdR (rd xs) B e w') : ∃ v, e = .returned (.tuple #[v, .int .i64 (rdE xs)]) ∧ w'.ownsRow B 23 3 v (rdV xs).length (vcells (rdV xs)) := by
  unfold rdV rdE
  cases q : rd xs with
  | none =>
    rw [q] at h
    exact ⟨_, h, World.ownsRow_nil _ _ _ _⟩
  | some vs =>
    rw [q] at h
    exact h
theorem rdV_ok {xs : List Nat} (hl : xs.length ≤ 1048576) (hb : ∀ c ∈ xs, c < 256) : (∀ x ∈ rdV xs, x.ok) ∧ (rdV xs).length ≤ 1048576 := by
  unfold rdV
  cases q : rd xs with
  | none => exact ⟨by simp, by simp⟩
  | some vs =>
    obtain ⟨_, _, h3, h4⟩ := rd_back xs.length xs vs (Nat.le_refl _) hl hb q
    exact ⟨h3, by simp only [Option.getD_some]; omega⟩
theorem kb_len {vs : List Val} (hl : vs.length ≤ 8) (hz : ∀ x ∈ vs, x.2.2.size ≤ 1048576) : (keyBytes vs).length ≤ 25165856 ∧ (kbB vs).length ≤ 25165856 := by
  have h : ∀ (l : List Val), (∀ x ∈ l, x.2.2.size ≤ 1048576) → (keyBytes l).length ≤ l.length * 3145732 := by
    intro l
    induction l with
    | nil => intro _; simp [keyBytes]
    | cons x r ih =>
      intro hx
      have e : keyBytes (x :: r) = x.bytes ++ keyBytes r := by simp [keyBytes]
      have h1 := bytes_len x (hx x (by simp))
      have h2 := ih (fun y hy => hx y (by simp [hy]))
      rw [e, List.length_append, List.length_cons]
      omega
  have h1 := h vs hz
  have h2 : (keyBytes vs).length ≤ 25165856 := by omega
  refine ⟨h2, ?_⟩
  unfold kbB
  split
  · exact h2
  · simp
theorem kb_lt (vs : List Val) : ∀ c ∈ kbB vs, c < 256 := by
  unfold kbB
  split
  · exact keyBytes_lt vs
  · intro c hc; cases hc
theorem keyErr_le (vs : List Val) : 0 ≤ keyErr vs ∧ keyErr vs ≤ 12 := by
  induction vs with
  | nil => exact ⟨Int.le_refl _, by decide⟩
  | cons x r ih =>
    unfold keyErr
    split
    · exact ih
    · unfold Val.err rightOf
      split
      · split <;> omega
      · omega
end Go.Proofs.YtadkmnckjennoaaDoor
