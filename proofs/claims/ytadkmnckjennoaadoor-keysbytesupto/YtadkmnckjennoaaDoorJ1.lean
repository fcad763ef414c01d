/- The laws' helpers right and few; values appended to values. -/
import Derived.Test.YtadkmnckjennoaaDoorR4
import Derived.Test.YtadkmnckjennoaaDoorC3
set_option linter.unusedVariables false
namespace Go.Proofs.YtadkmnckjennoaaDoor
open Go.RowKit

theorem hidj {p : Prop} (h : p) : Hid p := h
theorem own_form {w : World} {B : Nat} {v : Value} {vs : List Val} (h : w.ownsRow B 23 3 v vs.length (vcells vs)) : ∃ a cap, v = .slice a vs.length cap ∧ (a = none → vs.length = 0 ∧ cap = 0) ∧ vs.length ≤ cap ∧ cap ≤ 9223372036854775807 := by
  rcases h.2 with ⟨rfl, h0⟩ | ⟨g, cap, cur, rfl, _, _, h2, h3, _⟩
  · exact ⟨none, 0, by rw [h0], fun _ => ⟨h0, rfl⟩, by omega, by omega⟩
  · unfold maxLen at h3
    exact ⟨some ⟨g, 0, none⟩, cap, rfl, (fun h => by cases h), h2, by omega⟩
theorem vcells_append (a b : List Val) : vcells (a ++ b) = vcells a ++ vcells b := by simp [vcells]
theorem vcells_one (vs : List Val) : ∀ u ∈ vcells vs, u.oneCell' = true := by
  intro u hu
  simp only [vcells, List.mem_flatMap] at hu
  obtain ⟨x, _, hx⟩ := hu
  exact one_av x.1 x.2.1 x.2.2 u hx
theorem own_news {w : World} {B : Nat} {g n cap : Nat} {xs : List Value} (h : w.ownsRow B 23 3 (.slice (some ⟨g, 0, none⟩) n cap) n xs) : ∀ j u, xs[j]? = some u → w.cell? ((⟨g, 0, none⟩ : Addr).add j) = some u := by
  intro j u hj
  have hl : j < xs.length := (List.getElem?_eq_some_iff.1 hj).1
  have := h.1
  rw [add_plain, Nat.zero_add, h.cellAt j (by omega)]
  exact hj

theorem wpList_append_vv {ops : Array Oper} {rest : List Oper} {o : Oper} {a : Act} {Q : Exit → Act → World → Prop} {wr : World} (hgd : o.guard = none) (s x : Operand)
    (ho : o.op = .call { callee := .builtin .append, args := #[s, x], argTypes := #[30, 30] })
    (w : World) (v u : Value) (vs ys : List Val) (B : Nat) (hs : a.eval s = v) (hx : a.eval x = u) (hR : VW w wr v vs) (hY : wr.ownsRow B 23 3 u ys.length (vcells ys)) (hsize : vs.length + ys.length ≤ 16777216)
    (h : ∀ v' w', VW w w' v' (vs ++ ys) → wpList Tryd.prog ops Q rest (a.put o.dst v') w') : wpList Tryd.prog ops Q (o :: rest) a wr := by
  obtain ⟨i0, hi, hz0, hz1, hz2⟩ := info_parts info_av
  rcases hY.2 with ⟨rfl, h0⟩ | ⟨g, cap, cur, rfl, _⟩
  · have e : ys = [] := List.eq_nil_of_length_eq_zero h0
    subst e
    refine wpList_append_own_none hgd s x _ ho w.heap.size 23 i0 3 Tryd.underlying30 hi v vs.length (vcells vs) hs hR.own hx (h v wr ?_)
    simpa using hR
  · refine wpList_append_own_at _ hgd s x _ ho w.heap.size 23 i0 (.agg #[.int .i64 0, .int .i64 0, .string ⟨#[]⟩]) 3 32 Tryd.underlying30 hi hz0 hz1 hz2 rfl (by omega) v vs.length (vcells vs) hs hR.own ⟨g, 0, none⟩ ys.length cap (vcells ys) hx (by rw [vcells_len]) (own_news hY) (vcells_one ys) (by unfold maxLen; omega) (by omega) hR.bel.size ?_
    intro v' w' h2 h3 _ h5
    refine h v' w' ⟨?_, hR.bel.grown h3 hR.bel.size (fun j hj => (hR.own.lt j hj).1)⟩
    rw [List.length_append, vcells_append]
    exact h2

/-- The Right ones, at most six. -/
def isR (x : Val) : Bool := decide (x.err = 0)
def rightL (xs : List Val) : List Val := (xs.filter isR).take 6
theorem take_succ_filter {xs : List Val} {k : Nat} (hk : k < xs.length) : (xs.take (k + 1)).filter isR = (xs.take k).filter isR ++ (if isR (xs.getD k v0) then [xs.getD k v0] else []) := by
  have e : xs.take (k + 1) = xs.take k ++ [xs.getD k v0] := by rw [List.take_add_one]; simp [List.getD, hk]
  rw [e, List.filter_append]
  congr 1
  simp [List.filter_cons]
theorem rightL_done {xs : List Val} {k : Nat} (h : xs.length ≤ k ∨ ((xs.take k).filter isR).length = 6) (h6 : ((xs.take k).filter isR).length ≤ 6) : rightL xs = (xs.take k).filter isR := by
  unfold rightL
  rcases h with h | h
  · rw [List.take_of_length_le (i := k) h] at h6 ⊢
    exact List.take_of_length_le h6
  · have e : xs.filter isR = (xs.take k).filter isR ++ (xs.drop k).filter isR := by rw [← List.filter_append, List.take_append_drop]
    rw [e, List.take_append_of_le_length (by omega)]
    exact List.take_of_length_le (by omega)

set_option maxRecDepth 100000 in
set_option maxHeartbeats 2000000 in
theorem right_law (a : Option Addr) (n c : Nat) (xs : List Val) (w : World) (h : VS w a n c xs) (hz : ∀ x ∈ xs, x.2.2.size ≤ 1048576) :
    Calls Tryd.prog 20 #[.slice a n c] w fun e w' => ∃ v, e = .returned v ∧ VW w w' v (rightL xs) := by
  have HV := hidj h
  have HZ := hidj hz
  have m1 := h.hmax
  have q1 := h.hcap
  have HL := hidj h.hlen
  clear h hz
  go_enter Tryd.func20, Tryd.ntmps20
  go_wp2
  go_loopw [3, 4] (fun v i wr => ∃ k : Nat, k ≤ n ∧ i = .int .i64 k ∧ VW w wr v ((xs.take k).filter isR) ∧ ((xs.take k).filter isR).length ≤ 6) (fun _ i _ => n - (intOf i).toNat)
  case atStart => exact ⟨0, by omega, rfl, ⟨World.ownsRow_nil _ _ _ _, Below.refl _ _⟩, by simp⟩
  case round =>
    obtain ⟨k, hk, rfl, hW, h6⟩ := hrel
    obtain ⟨a', cap', hv, hnil, hcp, hmx⟩ := own_form hW.own
    obtain ⟨L, hL⟩ : ∃ L, Hid (((xs.take k).filter isR).length = L) := ⟨_, rfl⟩
    rw [hL.out] at hv h6 hcp
    subst hv
    have HW := hW.hid
    clear hW hnil
    have h6' : (L : Int) ≤ 6 := by omega
    by_cases hlt : k < n
    · by_cases hl6 : L < 6
      · have hl6' : (L : Int) < 6 := by omega
        have lx : k < xs.length := by rw [HL.out]; exact hlt
        obtain ⟨b, o, ha⟩ := HV.out.hform (by omega)
        subst ha
        obtain ⟨x, HX⟩ : ∃ x, Hid (xs.getD k v0 = x) := ⟨_, rfl⟩
        have hbw := HV.out.lt (by omega)
        have hc := HV.out.hcell b o rfl k hlt
        have e1 : xs.getD k (0, 0, ⟨#[]⟩) = x := HX.out
        rw [e1] at hc
        have mx : x ∈ xs := by rw [← HX.out]; simp [List.getD, lx]
        have hzx := HZ.out x mx
        obtain ⟨d0, d1, d2⟩ := hc
        have hbel := HW.out.bel
        rw [← hbel.cell (p := ⟨b, o + k * 3, none⟩) hbw] at d0
        rw [← hbel.cell (p := ⟨b, o + k * 3 + 1, none⟩) hbw] at d1
        rw [← hbel.cell (p := ⟨b, o + k * 3 + 2, none⟩) hbw] at d2
        have hbs := hbel.size
        have HF := hidj (take_succ_filter lx)
        rw [HX.out] at HF
        obtain ⟨xk, xn, xt⟩ := x
        simp only at d0 d1 d2 hzx
        have cR := fun ww => refRight_any xk xn xt ww hzx
        unfold av at cR
        have eE : Val.err (xk, xn, xt) = rightOf xk xn xt := rfl
        have HD := hidj (And.intro d0 (And.intro d1 d2))
        clear hbel
        by_cases he : rightOf xk xn xt = 0
        · have HI : Hid (isR (xk, xn, xt) = true) := by unfold isR; rw [eE, he]; exact rfl
          rw [he] at cR
          clear eE
          have carry : ∀ w1, Below wr.heap.size wr w1 → w1.cell? ⟨b, o + k * 3, none⟩ = some (.int .i64 xk) ∧ w1.cell? ⟨b, o + k * 3 + 1, none⟩ = some (.int .i64 xn) ∧ w1.cell? ⟨b, o + k * 3 + 2, none⟩ = some (.string xt) := fun w1 hb => by
            have hlt2 : b < wr.heap.size := by omega
            exact ⟨(hb.cell hlt2).trans HD.out.1, (hb.cell hlt2).trans HD.out.2.1, (hb.cell hlt2).trans HD.out.2.2⟩
          have HCY := hidj carry
          clear carry
          go_wp2_with (first
            | (go_at_call 11; refine (cR _).mono ?_; rintro e w1 ⟨rfl, hb1⟩; obtain ⟨f0, f1, f2⟩ := HCY.out _ hb1; have HW1 := (HW.out.later hb1).hid; clear hb1)
            | (at_builtin; refine wpList_append_v rfl (.tmp 22) (.tmp 27) rfl w _ _ rfl xk xn xt HW1.out rfl (by have := hL.out; omega) ?_; intro v3 w3 hV3; have HV3 := hV3.hid; clear hV3))
          go_roundw
          case rel =>
            refine ⟨k + 1, by omega, by go_num, ?_, ?_⟩
            · rw [HF.out, if_pos HI.out]; exact HV3.out
            · rw [HF.out, if_pos HI.out, List.length_append, hL.out]; simp; omega
          case measure => simp [intOf]; omega
        · have he2 : (rightOf xk xn xt == 0) = false := by simp [he]
          have HI : Hid (isR (xk, xn, xt) = false) := by unfold isR; rw [eE]; exact decide_eq_false he
          clear eE
          go_wp2_with (go_at_call 11; refine (cR _).mono ?_; rintro e w1 ⟨rfl, hb1⟩; have HW1 := (HW.out.later hb1).hid; clear hb1)
          go_roundw
          case rel =>
            have e0 : (if isR (xk, xn, xt) = true then [(xk, xn, xt)] else []) = ([] : List Val) := by rw [HI.out]; rfl
            refine ⟨k + 1, by omega, by go_num, ?_, ?_⟩
            · rw [HF.out, e0, List.append_nil]; exact HW1.out
            · rw [HF.out, e0, List.append_nil, hL.out]; omega
          case measure => simp [intOf]; omega
      · have hl6' : ¬ (L : Int) < 6 := by omega
        go_wp2
        go_ret
        have e := rightL_done (xs := xs) (k := k) (Or.inr (by rw [hL.out]; omega)) (by rw [hL.out]; omega)
        rw [e]
        exact ⟨_, rfl, HW.out⟩
    · go_wp2
      go_ret
      have e := rightL_done (xs := xs) (k := k) (Or.inl (by rw [HL.out]; omega)) (by rw [hL.out]; omega)
      rw [e]
      exact ⟨_, rfl, HW.out⟩
end Go.Proofs.YtadkmnckjennoaaDoor
