/- The walk of the law KeysBytes: whatever values and bytes of the bulk, it returns true and writes nothing that was there. -/
import Derived.Test.YtadkmnckjennoaaDoorY4
set_option linter.unusedVariables false
namespace Go.Proofs.YtadkmnckjennoaaDoor
open Go.RowKit

/-- What few made, at any later world. -/
theorem few_vs {w ww : World} {g m cap : Nat} {l : List Val} (h : VW w ww (.slice (some ⟨g, 0, none⟩) (m + 1) cap) (l ++ [(-7, 0, ⟨#[]⟩)])) (hl : l.length = m) (hm : m ≤ 8) (hok : ∀ x ∈ l, x.ok) : VS ww (some ⟨g, 0, none⟩) m cap l ∧ ww.cell? ⟨g, m * 3, none⟩ = some (.int .i64 (-7)) := by
  have ho := h.own
  rw [List.length_append, List.length_singleton, hl] at ho
  refine ⟨?_, ?_⟩
  · have h2 := own_take ho hl
    rw [← hl] at h2
    obtain ⟨a, c, e, hv⟩ := vs_row h2 (by omega) hok
    simp only [Value.slice.injEq, true_and] at e
    obtain ⟨rfl, rfl⟩ := e
    rw [hl] at hv
    exact hv
  · have := ho.cellAt (m * 3) (by omega)
    rw [this]
    have e := vcells_at (l ++ [(-7, 0, ⟨#[]⟩)]) m 0 (by simp [hl]) (by omega)
    rw [Nat.add_zero] at e
    rw [e]
    have e2 : (l ++ [((-7 : Int), (0 : Int), (⟨#[]⟩ : ByteArray))]).getD m (0, 0, ⟨#[]⟩) = (-7, 0, ⟨#[]⟩) := by
      rw [List.getD_eq_getElem?_getD, List.getElem?_append_right (by omega), hl, Nat.sub_self]
      rfl
    rw [e2]
    rfl

set_option maxRecDepth 100000 in
set_option maxHeartbeats 8000000 in
theorem keysBytes_walk (a0 : Option Addr) (n0 c0 : Nat) (xs0 : List Val) (a1 : Option Addr) (n1 c1 : Nat) (xs1 : List Nat) (w : World) (h0 : VS w a0 n0 c0 xs0) (z0 : ∀ x ∈ xs0, x.2.2.size ≤ 1048576) (hnil : a0 = none → c0 = 0) (h1 : BS w a1 n1 c1 xs1) (z1 : n1 ≤ 1048576) :
    Calls Tryd.prog 4 #[.slice a0 n0 c0, .slice a1 n1 c1] w fun e w' => e = .returned (.bool true) ∧ Below w.heap.size w w' := by
  obtain ⟨m, hm⟩ : ∃ m, m = min n0 8 := ⟨_, rfl⟩
  have m8 : m ≤ 8 := by omega
  have hcap := h0.hcap
  have hrm := h0.hroom
  have n0' : (0 : Int) ≤ (m : Int) := by omega
  have n1' : (m : Int) ≤ (c0 : Int) := by omega
  have HF := hidj (few_in a0 n0 c0 m xs0 w h0 hnil hm)
  have HV0 := hidj (vs_take h0 m (by omega))
  have HL : Hid ((xs0.take m).length = m) := HV0.out.hlen
  have HOK : Hid (∀ x ∈ xs0.take m, x.ok) := HV0.out.hok
  have HZ : Hid (∀ x ∈ xs0.take m, x.2.2.size ≤ 1048576) := fun x hx => z0 x (List.mem_of_mem_take hx)
  generalize xs0.take m = l at *
  have HKL := hidj (kb_len (by have := HL.out; omega) HZ.out)
  have HKE := hidj (keyErr_le l)
  have H1 := hidj h1
  have HRO := hidj (rdV_ok (by rw [h1.hlen]; exact z1) h1.hbyte)
  clear h0 z0 hnil h1 hm
  go_enter Tryd.func4, Tryd.ntmps4
  go_wp2_with fail
  refine HF.out.mono ?_
  rintro e w1 ⟨g, cap, rfl, hc1, hc2, hW1⟩
  have HW1 := hidj hW1
  have p1 : (m : Int) + 1 ≤ (cap : Int) := by omega
  have p2 : (cap : Int) ≤ 9223372036854775807 := by omega
  clear hW1 HF
  go_wp2_with fail
  refine (key_any (some ⟨g, 0, none⟩) m cap l _ (few_vs HW1.out HL.out m8 HOK.out).1 (by have := HKL.out.1; omega)).mono ?_
  rintro e w2 ⟨hK2, hb2⟩
  obtain ⟨v2, rfl, ho2⟩ := keyR_one hK2
  have HW2 := hidj (HW1.out.later hb2)
  have HO2 := hidj ho2
  clear hK2 hb2 ho2 HW1
  go_wp2_with fail
  refine (refKey_any (some ⟨g, 0, none⟩) m cap l _ (few_vs HW2.out HL.out m8 HOK.out).1 (by have := HKL.out.1; omega) HZ.out).mono ?_
  rintro e w3 ⟨hK3, hb3⟩
  obtain ⟨v3, rfl, ho3⟩ := keyR_one hK3
  have HW3 := hidj (HW2.out.later hb3)
  have HO23 := hidj (And.intro (ownsRow_later HO2.out hb3) ho3)
  clear hK3 hb3 ho3 HW2 HO2
  go_wp2_with fail
  refine (read_any a1 n1 c1 xs1 _ (H1.out.later HW3.out.bel (Nat.le_refl _)) (by omega)).mono ?_
  rintro e w4 ⟨hR4, hb4⟩
  obtain ⟨v4, rfl, ho4⟩ := rdR_one hR4
  have HW4 := hidj (HW3.out.later hb4)
  have HO24 := hidj (And.intro (ownsRow_later HO23.out.1 hb4) (And.intro (ownsRow_later HO23.out.2 hb4) ho4))
  clear hR4 hb4 ho4 HW3 HO23
  go_wp2_with fail
  refine (refRead_any a1 n1 c1 xs1 _ (H1.out.later HW4.out.bel (Nat.le_refl _)) z1).mono ?_
  rintro e w5 ⟨hR5, hb5⟩
  obtain ⟨v5, rfl, ho5⟩ := rdR_one hR5
  have HW5 := hidj (HW4.out.later hb5)
  have HO5 := hidj (And.intro (ownsRow_later HO24.out.1 hb5) (And.intro (ownsRow_later HO24.out.2.1 hb5) (And.intro (ownsRow_later HO24.out.2.2 hb5) ho5)))
  clear hR5 hb5 ho5 HW4 HO24
  go_wp2_with fail
  refine (told_any _).mono ?_
  rintro e w6 ⟨rfl, hb6⟩
  have HW6 := hidj (HW5.out.later hb6)
  have HO6 := hidj (And.intro (ownsRow_later HO5.out.1 hb6) (And.intro (ownsRow_later HO5.out.2.1 hb6) (And.intro (ownsRow_later HO5.out.2.2.1 hb6) (ownsRow_later HO5.out.2.2.2 hb6))))
  clear hb6 HW5 HO5
  have tx := txt_own HO6.out.1 (by have := HKL.out.2; omega) (kb_lt l)
  have ty := txt_own HO6.out.2.1 (by have := HKL.out.2; omega) (kb_lt l)
  obtain ⟨a4, c4, e4, hv4⟩ := vs_row HO6.out.2.2.1 HRO.out.2 HRO.out.1
  obtain ⟨a5, c5, e5, hv5⟩ := vs_row HO6.out.2.2.2 HRO.out.2 HRO.out.1
  have HSA := hidj (same_any a4 a5 _ c4 _ c5 _ _ w6 hv4 hv5)
  rw [sameV_true rfl] at HSA
  subst e4 e5
  clear hv4 hv5 HO6
  generalize (rdV xs1).length = r1 at *
  generalize str (kbB l) = sx at *
  generalize keyErr l = ke at *
  generalize rdE xs1 = re at *
  go_wp2_with fail
  refine HSA.out.mono ?_
  rintro e w7 ⟨rfl, hb7⟩
  have HW7 := hidj (HW6.out.later hb7)
  clear hb7 HW6 tx ty HSA
  have HSB := hidj (same_any (some ⟨g, 0, none⟩) a0 m cap m c0 l l w7 (few_vs HW7.out HL.out m8 HOK.out).1 (HV0.out.later (HW7.out.bel.mono (Nat.le_refl _))))
  rw [sameV_true rfl] at HSB
  go_wp2_with fail
  refine HSB.out.mono ?_
  rintro e w8 ⟨rfl, hb8⟩
  have HW8 := hidj (HW7.out.later hb8)
  have cm := (few_vs HW8.out HL.out m8 HOK.out).2
  clear hb8 HW7 HSB
  have m1 : (m : Int) < (m : Int) + 1 := by omega
  go_wp2
  go_ret
  exact ⟨rfl, HW8.out.bel⟩
end Go.Proofs.YtadkmnckjennoaaDoor
