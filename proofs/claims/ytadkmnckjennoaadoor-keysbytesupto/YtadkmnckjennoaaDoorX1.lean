/- Contract of keys.compareTexts: two texts, rune by rune. -/
import Derived.Test.YtadkmnckjennoaaDoorA1
import Derived.Outline
import Derived.OpenShut
import Derived.Deep.DrawnRows
import Derived.BigRegion
import Derived.Handy
set_option linter.unusedVariables false
namespace Go.Proofs.YtadkmnckjennoaaDoor
open Go.RowKit

theorem hidx {p : Prop} (h : p) : Hid p := h

def cmpL : List Nat → List Nat → Int
  | [], [] => 0
  | [], _ :: _ => -1
  | _ :: _, [] => 1
  | x :: a, y :: b => if x = y then cmpL a b else if x < y then -1 else 1

set_option maxRecDepth 100000 in
theorem cmpRune_any (x y : Nat) (w : World) : Calls Tryd.prog 55 #[.int .i32 x, .int .i32 y] w fun e w' => e = .returned (.int .i64 (if (x : Int) < y then -1 else if (y : Int) < x then 1 else 0)) ∧ w' = w := by
  by_cases h1 : (x : Int) < y
  · rw [if_pos h1]
    go_enter Tryd.func55, Tryd.ntmps55
    go_wp2
    go_ret
    exact ⟨rfl, rfl⟩
  · rw [if_neg h1]
    by_cases h2 : (y : Int) < x
    · rw [if_pos h2]
      go_enter Tryd.func55, Tryd.ntmps55
      go_wp2
      go_ret
      exact ⟨rfl, rfl⟩
    · rw [if_neg h2]
      go_enter Tryd.func55, Tryd.ntmps55
      go_wp2
      go_ret
      exact ⟨rfl, rfl⟩

theorem decodeGo_enc {t : ByteArray} {Q : Nat} {rb : List Nat} (h : runes (bl t) = some (Q :: rb)) : Lib.decodeGo t = (Q, (enc Q).length) ∧ (enc Q).length ≤ t.size ∧ Q ≤ 1114111 ∧ runes (bl (t.extract (enc Q).length t.size)) = some rb := by
  obtain ⟨h1, h2⟩ := (runes_iff _ _).1 h
  have hv := h2 Q (by simp)
  have e1 : encs (Q :: rb) = enc Q ++ encs rb := by simp [encs]
  rw [e1] at h1
  have hl := enc_len Q
  have hsz : t.size = (enc Q).length + (encs rb).length := by rw [← bl_len t, h1, List.length_append]
  refine ⟨?_, by omega, by unfold vr at hv; omega, ?_⟩
  · unfold Lib.decodeGo
    rw [if_neg (by omega), dec_at, List.drop_zero, h1]
    exact dl_enc hv _
  · have e2 : bl (t.extract (enc Q).length t.size) = encs rb := by
      unfold bl
      rw [ByteArray.data_extract, Array.toList_extract]
      have : t.data.toList = enc Q ++ encs rb := h1
      rw [this, List.extract_eq_take_drop]
      rw [List.drop_left]
      exact List.take_of_length_le (by omega)
    rw [e2]
    exact runes_of_encs rb fun r hr => h2 r (by simp [hr])
theorem empty_iff {t : ByteArray} {rb : List Nat} (h : runes (bl t) = some rb) : t.toList.isEmpty = rb.isEmpty := by
  obtain ⟨h1, _⟩ := (runes_iff _ _).1 h
  rw [ByteArray.toList_eq]
  have : t.data.toList = encs rb := h1
  rw [this]
  cases rb with
  | nil => rfl
  | cons r rs =>
    have hl := enc_len r
    have e : encs (r :: rs) = enc r ++ encs rs := by simp [encs]
    rw [e]
    cases hq : enc r with
    | nil => rw [hq] at hl; simp at hl
    | cons a l => rfl

/-- While two texts are gone through. -/
structure CX (w : World) (s : ByteArray) (ra rb : List Nat) (wr : World) (t : ByteArray) (pos : Nat) (pre ra' rb' : List Nat) : Prop where
  it : wr.heap[w.heap.size]? = some (.stringIter s pos)
  bel : Below w.heap.size w wr
  tab : Lib.Utf8Tabs 0 1 wr
  met : Met s pos pre
  sa : ra = pre ++ ra'
  ta : runes (bl t) = some rb'
  eq : cmpL ra rb = cmpL ra' rb'
  le : pos ≤ s.size
theorem CX.hid {w : World} {s : ByteArray} {ra rb : List Nat} {wr : World} {t : ByteArray} {pos : Nat} {pre ra' rb' : List Nat} (h : CX w s ra rb wr t pos pre ra' rb') : Hid (CX w s ra rb wr t pos pre ra' rb') := h

theorem tabs_iterAt {k : Nat} {s : ByteArray} {p q : Nat} {w : World} (h : Lib.Utf8Tabs 0 1 w) (hk : w.heap[k]? = some (.stringIter s q)) : Lib.Utf8Tabs 0 1 (w.iterAt k s p) := by
  have hc : ∀ a : Addr, a.block ≠ k → (w.iterAt k s p).cell? a = w.cell? a := fun a ha => World.cell?_of_block (Lib.iterAt_other w k a.block s p ha)
  have hne : ∀ b off, (w.cell? ⟨b, off, none⟩).isSome → b ≠ k := by
    intro b off hs e
    subst e
    simp [World.cell?, hk] at hs
  refine ⟨fun c hcc => ?_, fun i hi => ?_⟩
  · have h1 := h.1 c hcc
    rw [hc _ (hne _ _ (by rw [h1]; rfl))]
    exact h1
  · have h2 := h.2 i hi
    refine ⟨?_, ?_⟩
    · rw [hc _ (hne _ _ (by rw [h2.1]; rfl))]; exact h2.1
    · rw [hc _ (hne _ _ (by rw [h2.2]; rfl))]; exact h2.2

set_option maxRecDepth 100000 in
set_option maxHeartbeats 2000000 in
theorem compareTexts_any (s t : ByteArray) (ra rb : List Nat) (w : World) (hs : s.size ≤ 16777216) (hA : runes (bl s) = some ra) (hB : runes (bl t) = some rb) (hT : Lib.Utf8Tabs 0 1 w) :
    Calls Tryd.prog 47 #[.string s, .string t] w fun e w' => e = .returned (.int .i64 (cmpL ra rb)) ∧ Below w.heap.size w w' := by
  have HT := hidx hT
  have HA := hidx hA
  have HB := hidx hB
  clear hT hA hB
  go_enter Tryd.func47, Tryd.ntmps47
  go_wp2
  go_loopw [1] (fun b wr => ∃ (t' : ByteArray) (pos : Nat) (pre ra' rb' : List Nat), b = .string t' ∧ CX w s ra rb wr t' pos pre ra' rb') (fun _ wr => s.size - wr.iterPos w.heap.size)
  case atStart => exact ⟨t, 0, [], ra, rb, rfl, ⟨World.iter_heap w s 0, below_iter w s 0, Utf8Tabs_below HT.out (below_iter w s 0), Met.start s, rfl, HB.out, rfl, by omega⟩⟩
  case round =>
    obtain ⟨t', pos, pre, ra', rb', rfl, hC⟩ := hrel
    have HC := hC.hid
    have hps := hC.le
    clear hC
    by_cases hp : pos < s.size
    · obtain ⟨R, W, hd⟩ : ∃ R W, dl ((bl s).drop pos) = (R, W) := ⟨_, _, rfl⟩
      have hw := dl_width (drop_ne hp)
      rw [hd, List.length_drop, bl_len] at hw
      have hnx : ∀ ty, (Instr.next (.pointer (some ⟨w.heap.size, 0, none⟩)) true ty).run Tryd.prog wr = .ok (.tuple #[.bool true, .int .i64 pos, .int .i32 R]) (wr.iterAt w.heap.size s (pos + W)) := fun ty => by
        rw [Lib.run_next_any_at wr w.heap.size s pos ty HC.out.it hp, dec_at, hd]
      have hgood : (R, W) ≠ (65533, 1) := by
        intro e
        rw [e] at hd
        have h1 := HC.out.met.bad hp hd
        rw [HA.out] at h1
        cases h1
      have hR : (R : Int) ≤ 1114111 := by
        obtain ⟨r, rest, g1, g2, _⟩ := dl_ok (drop_ne hp) (by rw [hd]; exact hgood)
        rw [hd] at g1
        simp only [Prod.mk.injEq] at g1
        unfold vr at g2
        omega
      have HM := hidx (HC.out.met.step hp hd hgood)
      obtain ⟨ra2, Hra⟩ : ∃ ra2, Hid (ra' = R :: ra2) := by
        have h1 := HM.out.1
        have h2 := HA.out
        rw [h1] at h2
        cases hq : runes ((bl s).drop (pos + W)) with
        | none => rw [hq] at h2; cases h2
        | some z =>
          rw [hq] at h2
          simp only [Option.map_some, Option.some.injEq] at h2
          rw [HC.out.sa, List.append_assoc] at h2
          exact ⟨z, (List.append_cancel_left h2).symm⟩
      clear hd hgood
      have HIT2 := hidx (Lib.iterAt_heap wr w.heap.size s pos (pos + W) HC.out.it)
      have HBL2 := hidx (Lib.below_iterAt HC.out.bel (k := w.heap.size) (Nat.le_refl _) s (pos + W))
      have HTB2 := hidx (tabs_iterAt (p := pos + W) HC.out.tab HC.out.it)
      have hem := empty_iff HC.out.ta
      have HEQ := hidx HC.out.eq
      cases hq : rb' with
      | nil =>
        rw [hq] at hem
        have hem' : t'.toList.isEmpty = true := hem
        have HF : Hid (cmpL ra rb = 1) := by rw [HEQ.out, hq, Hra.out]; exact rfl
        clear hem
        go_wp2
        go_ret
        rw [HF.out]
        exact ⟨rfl, HBL2.out⟩
      | cons Q rb2 =>
        rw [hq] at hem
        have hem' : t'.toList.isEmpty = false := hem
        clear hem
        have hTA := HC.out.ta
        rw [hq] at hTA
        obtain ⟨g1, g2, g3, g4⟩ := decodeGo_enc hTA
        have hQ : (Q : Int) ≤ 1114111 := by omega
        have hl4 := enc_len Q
        obtain ⟨z, Hz⟩ : ∃ z, Hid ((enc Q).length = z) := ⟨_, rfl⟩
        rw [Hz.out] at g1 g2 g4 hl4
        have cD := fun ww (hh : Lib.Utf8Tabs 0 1 ww) => Tryd.utf8_DecodeRuneInString t' ww hh
        rw [g1] at cD
        have G4 := hidx g4
        have z0 : (0 : Int) ≤ (z : Int) := by omega
        have z1 : (z : Int) ≤ (t'.size : Int) := by omega
        clear g1 g2 g3 g4 hTA
        by_cases hRQ : R = Q
        · subst hRQ
          go_wp2_with (go_at_call 54; refine (cD _ HTB2.out).mono ?_; rintro e w1 ⟨rfl, hb1⟩; have HB1 := hidx hb1; clear hb1)
          go_roundw
          case rel =>
            refine ⟨_, pos + W, pre ++ [R], ra2, rb2, rfl, ⟨?_, ?_, Utf8Tabs_below HTB2.out HB1.out, HM.out, ?_, G4.out, ?_, by omega⟩⟩
            · rw [HB1.out.block _ (Array.getElem?_eq_some_iff.1 HIT2.out).1]; exact HIT2.out
            · exact HBL2.out.trans (HB1.out.mono HBL2.out.size)
            · rw [HC.out.sa, Hra.out]; simp
            · rw [HEQ.out, hq, Hra.out]; simp [cmpL]
          case measure =>
            have h2 : w1.heap[w.heap.size]? = some (.stringIter s (pos + W)) := by rw [HB1.out.block _ (Array.getElem?_eq_some_iff.1 HIT2.out).1]; exact HIT2.out
            simp only [World.iterPos, h2, HC.out.it]
            omega
        · have hne : ((R : Int) != (Q : Int)) = true := by simp; omega
          have HF : Hid ((if (R : Int) < Q then (-1 : Int) else if (Q : Int) < R then 1 else 0) = cmpL ra rb) := by
            rw [HEQ.out, hq, Hra.out]
            simp only [cmpL, if_neg hRQ]
            by_cases h1 : R < Q
            · rw [if_pos h1, if_pos (by omega)]; exact rfl
            · rw [if_neg h1, if_neg (by omega), if_pos (by omega)]; exact rfl
          clear hRQ
          have cC := cmpRune_any R Q
          rw [HF.out] at cC
          go_wp2_with (first
            | (go_at_call 54; refine (cD _ HTB2.out).mono ?_; rintro e w1 ⟨rfl, hb1⟩; have HB1 := hidx hb1; clear hb1)
            | (go_at_call 55; refine (cC _).mono ?_; rintro e w2 ⟨rfl, hw2⟩; have hw2 := hw2.symm; subst hw2))
          go_ret
          exact ⟨rfl, HBL2.out.trans (HB1.out.mono HBL2.out.size)⟩
    · have hnx : ∀ ty, (Instr.next (.pointer (some ⟨w.heap.size, 0, none⟩)) true ty).run Tryd.prog wr = _ := fun ty => Lib.run_next_end_at wr w.heap.size s pos ty HC.out.it hp
      have hfin := HC.out.met.fin hp
      have hra : ra' = [] := by
        have h1 := HA.out
        rw [hfin] at h1
        simp only [Option.some.injEq] at h1
        have h2 := HC.out.sa
        rw [← h1] at h2
        simpa using h2.symm
      have hem := empty_iff HC.out.ta
      have HEQ := hidx HC.out.eq
      have Hra := hidx hra
      clear hfin hra
      cases hq : rb' with
      | nil =>
        rw [hq] at hem
        have hem' : t'.toList.isEmpty = true := hem
        clear hem
        go_wp2
        go_ret
        rw [HEQ.out, hq, Hra.out]
        exact ⟨rfl, HC.out.bel⟩
      | cons Q rb2 =>
        rw [hq] at hem
        have hem' : t'.toList.isEmpty = false := hem
        clear hem
        go_wp2
        go_ret
        rw [HEQ.out, hq, Hra.out]
        exact ⟨rfl, HC.out.bel⟩
end Go.Proofs.YtadkmnckjennoaaDoor
