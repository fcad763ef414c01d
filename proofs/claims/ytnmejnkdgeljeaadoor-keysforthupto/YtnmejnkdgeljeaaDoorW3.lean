/- The walk of the law KeysForth: whatever bytes of the bulk, it returns true and writes nothing that was there. -/
import Derived.Test.YtnmejnkdgeljeaaDoorF2
import Derived.Test.YtnmejnkdgeljeaaDoorR5
import Derived.Test.YtnmejnkdgeljeaaDoorK1
set_option linter.unusedVariables false
namespace Go.Proofs.YtnmejnkdgeljeaaDoor
open Go.RowKit

theorem vs_own {w : World} {B : Nat} {v : Value} {vs : List Val} (h : w.ownsRow B 23 3 v vs.length (vcells vs)) (hl : vs.length ≤ 1048576) (hok : ∀ x ∈ vs, x.ok) : ∃ a cap, v = .slice a vs.length cap ∧ VS w a vs.length cap vs := by
  rcases h.2 with ⟨rfl, h0⟩ | ⟨g, cap, cur, rfl, _, h1, h2, h3, h4, h5⟩
  · have e : vs = [] := List.eq_nil_of_length_eq_zero h0
    subst e
    exact ⟨none, 0, rfl, rfl, by omega, by simp, by omega, by simp, (fun b o h => by cases h), fun h => by simp at h⟩
  · unfold maxLen at h3
    refine ⟨some ⟨g, 0, none⟩, cap, rfl, rfl, h2, by omega, by omega, hok, ?_, fun _ => ⟨g, 0, rfl⟩⟩
    intro b o e i hi
    simp only [Option.some.injEq, Addr.mk.injEq, and_true] at e
    obtain ⟨rfl, rfl⟩ := e
    have c : ∀ j, j < 3 → w.cell? ⟨g, i * 3 + j, none⟩ = (vc (vs.getD i (0, 0, ⟨#[]⟩)))[j]? := by
      intro j hj
      rw [h.cellAt (i * 3 + j) (by omega), vcells_at vs i j hi hj]
    have c0 := c 0 (by omega)
    have c1 := c 1 (by omega)
    have c2 := c 2 (by omega)
    simp only [Nat.zero_add]
    exact ⟨by simpa [vc] using c0, by simpa [vc] using c1, by simpa [vc] using c2⟩

set_option maxRecDepth 100000 in
set_option maxHeartbeats 2000000 in
theorem keysForth_walk (a : Option Addr) (len cap : Nat) (xs : List Nat) (w : World) (h : BS w a len cap xs) (hl : len ≤ 1048576) :
    Calls Tryd.prog 6 #[.slice a len cap] w fun e w' => e = .returned (.bool true) ∧ Below w.heap.size w w' := by
  have HX := hidr h
  have cR := fun ww (hh : BS ww a len cap xs) => read_any a len cap xs ww hh hl
  cases hr : rd xs with
  | none =>
    rw [hr] at cR
    unfold RdR at cR
    simp only at cR
    go_enter Tryd.func6, Tryd.ntmps6
    go_wp2_with fail
    refine (cR _ HX.out).mono ?_
    rintro e w1 ⟨rfl, hb1⟩
    have HB1 := hidr hb1
    clear hb1
    go_wp2_with fail
    refine (told_any _).mono ?_
    rintro e w2 ⟨rfl, hb2⟩
    have HB2 := hidr (HB1.out.trans (hb2.mono HB1.out.size))
    clear hb2
    go_wp2
    go_ret
    exact ⟨rfl, HB2.out⟩
  | some vs =>
    obtain ⟨b1, b2, b3, b4⟩ := rd_back xs.length xs vs (Nat.le_refl _) (by rw [h.hlen]; exact hl) h.hbyte hr
    rw [hr] at cR
    unfold RdR at cR
    simp only at cR
    have hxl := h.hlen
    have hroom := h.hroom
    have hby := hidr h.hbyte
    have H1 := hidr b1
    have H2 := hidr b2
    have H3 := hidr b3
    rw [hxl] at b4
    have H4 := hidr b4
    have HXL := hidr hxl
    clear b1 b2 b3 b4 hxl h
    go_enter Tryd.func6, Tryd.ntmps6
    go_wp2_with fail
    refine (cR _ HX.out).mono ?_
    rintro e w1 ⟨⟨v, rfl, ho⟩, hb1⟩
    obtain ⟨a2, cap2, rfl, hV⟩ := vs_own ho (by have := H4.out; omega) H3.out
    have HB1 := hidr hb1
    have HV := hidr hV
    clear hb1 ho hV
    go_wp2_with fail
    refine (key_any a2 vs.length cap2 vs _ HV.out (by rw [H2.out, HXL.out]; omega)).mono ?_
    rintro e w2 ⟨hk, hb2⟩
    unfold KeyR at hk
    rw [H1.out, if_pos rfl, H2.out] at hk
    obtain ⟨v2, rfl, ho2⟩ := hk
    have HB2 := hidr (HB1.out.trans (hb2.mono HB1.out.size))
    have HO2 := hidr ho2
    clear hb2 ho2
    go_wp2_with fail
    refine (told_any _).mono ?_
    rintro e w3 ⟨rfl, hb3⟩
    have HB3 := hidr (HB2.out.trans (hb3.mono HB2.out.size))
    have t1 := text_own (ownsRow_later HO2.out hb3) (by rw [HXL.out]; omega) hby.out
    have t2 := run_text (HX.out.later HB3.out (Nat.le_refl _))
    clear hb3
    go_wp2
    go_ret
    exact ⟨rfl, HB3.out⟩
end Go.Proofs.YtnmejnkdgeljeaaDoor
