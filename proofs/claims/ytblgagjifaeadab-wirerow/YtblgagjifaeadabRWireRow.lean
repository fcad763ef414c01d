/- The law WireRow holds for every input: called with whatever values of its parameters' types it returns true, and each argument reads afterwards as it read before. No condition beyond the form's own reach. -/
import Derived.Test.YtblgagjifaeadabFR
import Derived.Test.YtblgagjifaeadabW7
import Derived.Deep.Matrix
namespace Go.Proofs.Ytblgagjifaeadab
open Go.ChangeShapes Go.WideShapes Go.ChangeAt Go.RowKit
set_option linter.unusedVariables false

theorem place_of {W : World} {x : Addr} {v : Value} (h : W.cell? (x.add 0) = some v) : ∃ b o, x = ⟨b, o, none⟩ := by
  obtain ⟨b, o, s⟩ := x
  have hs : s = none := by simpa [Addr.add] using World.cell?_spot h
  exact ⟨b, o, by rw [hs]⟩
theorem open_i64 {H : Type} {enc : TypeId × Value → H} {W : World} {a0 : Option Addr} {len0 cap0 : Nat} {d0 : DataW H} {p0 : List MemPlace}
    (h0 : DataW.Trod enc Try.prog W 0 (fun _ => true) true 22 (.slice a0 len0 cap0) d0 p0) :
    ∃ Z : Nat → Int, len0 ≤ 9223372036854775807 ∧ (0 < len0 → ∃ b o, a0 = some ⟨b, o, none⟩ ∧ ∀ i, i < len0 → W.cell? ⟨b, o + i, none⟩ = some (.int .i64 (Z i))) := by
  obtain ⟨fuel, hf⟩ := h0
  rcases open_ints Try.underlying22 Try.underlying3 (by kernel_rfl) hf with ⟨hcs, _⟩ | ⟨x, l, c, zs, hcs, _, hl, hm, hz, hx, hcell, hwz⟩
  · simp [Value.cells] at hcs
    obtain ⟨rfl, rfl, rfl⟩ := hcs
    exact ⟨fun _ => 0, by omega, fun h => by omega⟩
  · simp [Value.cells] at hcs
    obtain ⟨rfl, rfl, rfl⟩ := hcs
    unfold maxLen at hm
    simp only [if_true] at hz
    refine ⟨fun i => zs.getD i 0, by omega, fun hpos => ?_⟩
    obtain ⟨b, o, rfl⟩ := place_of (hcell 0 (by omega))
    exact ⟨b, o, rfl, fun i hi => by have := hcell i (by omega); rwa [add_plain] at this⟩
theorem open_texts {H : Type} {enc : TypeId × Value → H} {W : World} {a1 : Option Addr} {T cap1 : Nat} {d1 : DataW H} {p1 : List MemPlace}
    (h1 : DataW.Trod enc Try.prog W 0 (fun _ => true) true 23 (.slice a1 T cap1) d1 p1) :
    ∃ (b1 o1 : Nat) (A : Nat → Option Addr) (L C : Nat → Nat) (tf : Nat → List Nat), T ≤ 9223372036854775807 ∧ (0 < T → a1 = some ⟨b1, o1, none⟩) ∧ (∀ r, r < T → W.cell? ⟨b1, o1 + r, none⟩ = some (.slice (A r) (L r) (C r))) ∧
      (∀ r, r < T → L r ≤ C r ∧ C r ≤ 9223372036854775807) ∧ (∀ r, r < T → BS W (A r) (min (L r) 50) (C r) (tf r)) ∧ (∀ r, (tf r).length ≤ 50) ∧ ∀ r, ∀ x ∈ tf r, x < 256 := by
  obtain ⟨fuel, hf⟩ := h1
  rcases Deep.open_int_rows Try.underlying23 Try.underlying24 Try.underlying5 (by kernel_rfl) (by kernel_rfl) hf with ⟨hcs, _⟩ | ⟨x, len, cap, A, L, C, Z, hcs, _, hl, hm, _, hrow⟩
  · simp [Value.cells] at hcs
    obtain ⟨rfl, rfl, rfl⟩ := hcs
    exact ⟨0, 0, fun _ => none, fun _ => 0, fun _ => 0, fun _ => [], by omega, fun h => by omega, fun r h => by omega, fun r h => by omega, fun r h => by omega, by simp, by simp⟩
  · simp [Value.cells] at hcs
    obtain ⟨rfl, rfl, rfl⟩ := hcs
    unfold maxLen at hm
    obtain ⟨b, o, hbo⟩ : ∃ b o, 0 < T → x = ⟨b, o, none⟩ := by
      rcases Nat.eq_zero_or_pos T with z | z
      · exact ⟨0, 0, fun h => by omega⟩
      · obtain ⟨b, o, hh⟩ := place_of (hrow 0 (by omega)).1
        exact ⟨b, o, fun _ => hh⟩
    have hby : ∀ r, r < T → ∀ n ∈ ((Z r).take (min (L r) 50)).map Int.toNat, n < 256 := fun r hr n hn => by
      simp only [List.mem_map] at hn
      obtain ⟨z, hz1, rfl⟩ := hn
      have := u8_bounds ((hrow r (by omega)).2.2.2.2.1 z (List.mem_of_mem_take hz1))
      omega
    refine ⟨b, o, A, L, C, fun r => if r < T then ((Z r).take (min (L r) 50)).map Int.toNat else [], by omega, fun h => by rw [hbo h], fun r hr => ?_, fun r hr => ?_, fun r hr => ?_, fun r => ?_, fun r => ?_⟩
    · have := (hrow r (by omega)).1
      rwa [hbo (by omega), add_plain] at this
    · obtain ⟨_, h2, h3, _⟩ := hrow r (by omega)
      unfold maxLen at h3
      exact ⟨h2, by omega⟩
    · obtain ⟨_, h2, h3, h4, h5, h6, h7⟩ := hrow r (by omega)
      unfold maxLen at h3
      simp only [if_pos hr]
      refine ⟨by simp; omega, by omega, by omega, by omega, hby r hr, h6, fun y hy i hi => ?_⟩
      rw [(h7 y hy).2 i (by omega)]
      have hi' : i < (Z r).length := by omega
      have hb3 := u8_bounds (h5 (Z r)[i] (List.getElem_mem hi'))
      simp only [List.getD_eq_getElem?_getD, List.getElem?_map, List.getElem?_take_of_lt hi, List.getElem?_eq_getElem hi', Option.map_some, Option.getD_some]
      rw [Int.toNat_of_nonneg hb3.1]
    · simp only []
      split
      · simp; omega
      · simp
    · simp only []
      split
      · rename_i hr
        exact hby r hr
      · simp

theorem wireRow_walk (a0 : Option Addr) (len0 cap0 : Nat) (Z : Nat → Int) (a1 : Option Addr) (T cap1 b1 o1 : Nat) (A : Nat → Option Addr) (L C : Nat → Nat) (tf : Nat → List Nat) (cut : Int) (W : World)
    (hl0 : len0 ≤ 9223372036854775807) (hp0 : 0 < len0 → ∃ b o, a0 = some ⟨b, o, none⟩ ∧ ∀ i, i < len0 → W.cell? ⟨b, o + i, none⟩ = some (.int .i64 (Z i))) (hl1 : T ≤ 9223372036854775807)
    (hb1 : 0 < T → a1 = some ⟨b1, o1, none⟩) (hc1 : ∀ r, r < T → W.cell? ⟨b1, o1 + r, none⟩ = some (.slice (A r) (L r) (C r))) (hL : ∀ r, r < T → L r ≤ C r ∧ C r ≤ 9223372036854775807)
    (htx : ∀ r, r < T → BS W (A r) (min (L r) 50) (C r) (tf r)) (htl : ∀ r, (tf r).length ≤ 50) (htb : ∀ r, ∀ x ∈ tf r, x < 256) :
    Calls Try.prog 3 #[.slice a0 len0 cap0, .slice a1 T cap1, .int .i64 cut] W fun e w' => e = .returned (.bool true) ∧ Below W.heap.size W w' := by
  rcases Nat.eq_zero_or_pos len0 with z | z
  · subst z
    exact wireRow_none a0 cap0 a1 T cap1 cut W
  · obtain ⟨b, o, rfl, hc⟩ := hp0 z
    exact wireRow_some b o len0 cap0 Z a1 T cap1 b1 o1 A L C (fun i => Classical.choose (mask63 (Z i))) tf cut W z hl0 hl1 hc (fun i => (Classical.choose_spec (mask63 (Z i))).2) (fun i => (Classical.choose_spec (mask63 (Z i))).1) hb1 hc1 hL htx htl htb

set_option maxRecDepth 100000 in
theorem wireRow_lifted (os : Os) (started : os.Started) (H : Type) (enc : TypeId × Value → H) :
    ReturnsInHanded {} Try.checked os 3 .any (Rows.wireRowSpec.pre6 enc Try.prog Try.f3 Rows.wireRowRow.domain false) (Rows.wireRowSpec.post enc Try.prog Try.f3 false true false false) := by
  refine returnsInHanded_of_change_sized (C := Try.checked) own started (by kernel_rfl) Try.func3
    (ChangeSpec.witness6 (enc := enc) (C := Try.checked) false ⟨#[], #[.slice none 0 0, .slice none 0 0, .int .i64 0], []⟩ 8 (by kernel_rfl) (by kernel_rfl) (by kernel_rfl) (by kernel_rfl)) ?_
  intro W base args ds gs before hval0 hW hcnd hsz0 _
  have hval : ∀ (j : Nat) t v, Try.f3.params[j]? = some t → args[j]? = some v → Value.okWide Try.prog W .any base t v := hval0
  have hW' := hW
  obtain ⟨p, q, hA0, hV, rfl, hfz, hnd⟩ := hW
  have hA : DataW.TrodAll enc Try.prog W 0 (fun _ => true) true Try.f3.params.toList args.toList ds p := hA0
  rw [Try.params3] at hA hval
  obtain ⟨v0, vs0, d0, ds0, p0, q0, hargs, rfl, rfl, h0, r0⟩ := trodAll_cons hA
  obtain ⟨v1, vs1, d1, ds1, p1, q1, rfl, rfl, rfl, h1, r1⟩ := trodAll_cons r0
  obtain ⟨v2, vs2, d2, ds2, p2, q2, rfl, rfl, rfl, h2, r2⟩ := trodAll_cons r1
  obtain ⟨rfl, rfl, rfl⟩ := trodAll_nil r2
  obtain rfl : args = #[v0, v1, v2] := by cases args; simp_all
  obtain ⟨rfl, rfl⟩ := trodVars_none hV
  obtain ⟨a0, len0, cap0, rfl⟩ := okWide_slice Try.underlying22 (hval 0 22 v0 rfl rfl)
  have k0 := h0
  have lt0 : ∀ x ∈ p0, x.block < W.heap.size := by obtain ⟨m, hm⟩ := k0; exact DataW.trod_lt m _ _ _ hm
  obtain ⟨Z, hl0, hp0⟩ := open_i64 h0
  obtain ⟨a1, len1, cap1, rfl⟩ := okWide_slice Try.underlying23 (hval 1 23 v1 rfl rfl)
  have k1 := h1
  have lt1 : ∀ x ∈ p1, x.block < W.heap.size := by obtain ⟨m, hm⟩ := k1; exact DataW.trod_lt m _ _ _ hm
  obtain ⟨b1, o1, A, L, C, tf, hl1, hb1, hc1, hL, htx, htl, htb⟩ := open_texts h1
  obtain ⟨a2, rfl, rfl, rfl, w2⟩ := open_int Try.underlying3 (hval 2 3 v2 rfl rfl) h2
  clear hA0 hval0 hsz0
  refine (wireRow_walk a0 len0 cap0 Z a1 len1 cap1 b1 o1 A L C tf a2 W hl0 hp0 hl1 hb1 hc1 hL htx htl htb).mono fun e W' ⟨he, bel⟩ => ?_
  subst he
  exact ⟨_, rfl, _, _, _, [], _, [], hW', trodAll_mk1 (shut_bool Try.underlying4 _), (trodAll_cons_mk (Below.trod laidOut (by kernel_rfl) (of_decide_eq_true (by kernel_rfl)) k0 bel lt0) (trodAll_cons_mk (Below.trod laidOut (by kernel_rfl) (of_decide_eq_true (by kernel_rfl)) k1 bel lt1) (trodAll_cons_mk (shut_int Try.underlying3 w2) trodAll_mk0))), rfl, bel.frame _, fun h => by cases h⟩

theorem wireRow_holds : Rows.WireRowSaid :=
  OpenClaim.holds_of_wide 3 Try.f3 rfl rfl rfl rfl rfl rfl rfl ⟨rfl, rfl, rfl, rfl, rfl⟩ rfl rfl rfl rfl rfl (by kernel_rfl) Try.func3 (by kernel_rfl)
    (of_decide_eq_true (by kernel_rfl)) (by unfold Func.isWrapper; first | (rw [if_pos (by decide +kernel)]; kernel_rfl) | (rw [if_neg (by decide +kernel)]; exact ⟨rfl, rfl⟩))
    (fun os started H enc _ => wireRow_lifted os started H enc)
#print axioms wireRow_holds
end Go.Proofs.Ytblgagjifaeadab
