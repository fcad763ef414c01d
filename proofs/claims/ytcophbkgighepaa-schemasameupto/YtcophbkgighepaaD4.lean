/- Contract of keys.Key: the bytes of a list of values, or the first one's error that is not Right. -/
import Derived.Test.YtcophbkgighepaaD3
set_option linter.unusedVariables false
namespace Go.Proofs.Ytcophbkgighepaa
open Go.RowKit

/-- A value as numbers and bytes. -/
abbrev Val := Int × Int × ByteArray
def Val.ok (x : Val) : Prop := -9223372036854775808 ≤ x.1 ∧ x.1 ≤ 9223372036854775807 ∧ -9223372036854775808 ≤ x.2.1 ∧ x.2.1 ≤ 9223372036854775807 ∧ x.2.2.size ≤ 16777216
def Val.err (x : Val) : Int := rightOf x.1 x.2.1 x.2.2
def Val.bytes (x : Val) : List Nat := (holdOf x.1 x.2.1 x.2.2).bytes ((runes (bl x.2.2)).getD [])

/-- A slice of values lies in the world. -/
structure VS (w : World) (a : Option Addr) (len cap : Nat) (vs : List Val) : Prop where
  hlen : vs.length = len
  hcap : len ≤ cap
  hmax : len ≤ 1099511627776
  hroom : cap ≤ 9223372036854775807
  hok : ∀ x ∈ vs, x.ok
  hcell : ∀ b o, a = some ⟨b, o, none⟩ → ∀ i, i < len → w.cell? ⟨b, o + i * 3, none⟩ = some (.int .i64 (vs.getD i (0, 0, ⟨#[]⟩)).1) ∧ w.cell? ⟨b, o + i * 3 + 1, none⟩ = some (.int .i64 (vs.getD i (0, 0, ⟨#[]⟩)).2.1) ∧ w.cell? ⟨b, o + i * 3 + 2, none⟩ = some (.string (vs.getD i (0, 0, ⟨#[]⟩)).2.2)
  hform : 0 < len → ∃ b o, a = some ⟨b, o, none⟩

def keyErr : List Val → Int
  | [] => 0
  | x :: r => if x.err = 0 then keyErr r else x.err
def keyBytes (vs : List Val) : List Nat := vs.flatMap Val.bytes

theorem right_kind {k n : Int} {s : ByteArray} (h : rightOf k n s = 0) : (k = 0 ∨ k = 1 ∨ k = 2 ∨ k = 3) ∧ (k = 2 → ∃ rs, runes (bl s) = some rs) := by
  unfold rightOf at h
  split at h
  · rename_i h1
    refine ⟨?_, ?_⟩
    · refine Classical.byContradiction fun hn => ?_
      have e : holdOf k n s = .none := by unfold holdOf; rw [if_neg (by omega), if_neg (by omega), if_neg (by omega), if_neg (by omega)]
      rw [e] at h1
      simp only [H.eqv, eqv, Bool.and_eq_true, beq_iff_eq] at h1
      omega
    · intro h2
      cases hr : runes (bl s) with
      | none => rw [if_pos ⟨h2, hr⟩] at h; cases h
      | some rs => exact ⟨rs, rfl⟩
  · cases h

theorem appendHeld_right (B : Nat) (v : Value) (xs : List Nat) (x : Val) (w : World) (ho : w.ownsRow B 5 1 v xs.length (cellsOf xs)) (hB : B ≤ w.heap.size) (hl : xs.length ≤ 549755813888) (hx : x.ok) (he : x.err = 0) :
    Calls Try.prog 65 #[v, heldRight x.1 x.2.1 x.2.2] w fun e w' => ∃ v', e = .returned v' ∧ GR B w v w' v' (xs ++ x.bytes) := by
  obtain ⟨k, n, s⟩ := x
  obtain ⟨o1, o2, o3, o4, o5⟩ := hx
  simp only at o1 o2 o3 o4 o5
  unfold Val.err at he
  simp only at he
  unfold Val.bytes heldRight
  simp only [he, if_true]
  obtain ⟨hk, h2⟩ := right_kind he
  rcases hk with rfl | rfl | rfl | rfl
  · have e : holdOf 0 n s = .nothing := by simp [holdOf]
    rw [e]
    exact appendHeld_nothing B v xs w ho hB hl
  · have e : holdOf 1 n s = .number n := by simp [holdOf]
    rw [e]
    exact appendHeld_number B v xs n w ho hB hl o3 o4
  · have e : holdOf 2 n s = .text s := by simp [holdOf]
    obtain ⟨rs, hr⟩ := h2 rfl
    rw [e, hr]
    exact appendHeld_text B v xs s rs w ho hB hl o5 hr
  · have e : holdOf 3 n s = .truth (n == 1) := by simp [holdOf]
    rw [e]
    exact appendHeld_truth B v xs (n == 1) w ho hB hl

theorem keyErr_take (vs : List Val) (k : Nat) (h : ∀ i, i < k → i < vs.length → (vs.getD i (0, 0, ⟨#[]⟩)).err = 0) : keyErr vs = keyErr (vs.drop k) := by
  induction k generalizing vs with
  | zero => rfl
  | succ k ih =>
    cases vs with
    | nil => rfl
    | cons x r =>
      have h0 := h 0 (by omega) (by simp)
      simp only [List.getD_cons_zero] at h0
      have : keyErr r = keyErr (r.drop k) := ih r fun i hi hl => by
        have := h (i + 1) (by omega) (by simp; omega)
        simpa using this
      simp only [keyErr, h0, if_true, List.drop_succ_cons]
      exact this
theorem keyErr_at {vs : List Val} {k : Nat} (hk : k < vs.length) (h : ∀ i, i < k → i < vs.length → (vs.getD i (0, 0, ⟨#[]⟩)).err = 0) (he : (vs.getD k (0, 0, ⟨#[]⟩)).err ≠ 0) : keyErr vs = (vs.getD k (0, 0, ⟨#[]⟩)).err := by
  rw [keyErr_take vs k h, List.drop_eq_getElem_cons hk]
  have e : vs.getD k (0, 0, ⟨#[]⟩) = vs[k] := by simp [List.getD, hk]
  rw [e] at he ⊢
  simp only [keyErr, if_neg he]
theorem keyErr_all {vs : List Val} (h : ∀ i, i < vs.length → (vs.getD i (0, 0, ⟨#[]⟩)).err = 0) : keyErr vs = 0 := by
  rw [keyErr_take vs vs.length fun i _ hl => h i hl, List.drop_length]
  rfl
theorem keyBytes_take {vs : List Val} {k : Nat} (hk : k < vs.length) : keyBytes (vs.take (k + 1)) = keyBytes (vs.take k) ++ (vs.getD k (0, 0, ⟨#[]⟩)).bytes := by
  rw [List.take_add_one]
  unfold keyBytes
  rw [List.flatMap_append]
  congr 1
  simp [List.getD, hk]
theorem keyBytes_le (vs : List Val) (k : Nat) : (keyBytes (vs.take k)).length ≤ (keyBytes vs).length := by
  have : keyBytes vs = keyBytes (vs.take k) ++ keyBytes (vs.drop k) := by unfold keyBytes; rw [← List.flatMap_append, List.take_append_drop]
  rw [this, List.length_append]
  omega
theorem ok_getD {vs : List Val} (h : ∀ x ∈ vs, x.ok) (k : Nat) (hk : k < vs.length) : (vs.getD k (0, 0, ⟨#[]⟩)).ok := by
  have e : vs.getD k (0, 0, ⟨#[]⟩) = vs[k] := by simp [List.getD, hk]
  rw [e]
  exact h _ (List.getElem_mem hk)

/-- What Key tells. -/
def KeyR (vs : List Val) (B : Nat) (e : Ending) (w' : World) : Prop := if keyErr vs = 0 then ∃ v, e = .returned (.tuple #[v, .int .i64 0]) ∧ w'.ownsRow B 5 1 v (keyBytes vs).length (cellsOf (keyBytes vs)) else e = .returned (.tuple #[.slice none 0 0, .int .i64 (keyErr vs)])

theorem VS.lt {w : World} {b o len cap : Nat} {vs : List Val} (h : VS w (some ⟨b, o, none⟩) len cap vs) (h0 : 0 < len) : b < w.heap.size := by
  have := (h.hcell b o rfl 0 h0).1
  unfold World.cell? at this
  refine Classical.byContradiction fun hn => ?_
  have e : w.heap[b]? = none := Array.getElem?_eq_none (by omega)
  simp [e] at this

set_option maxRecDepth 100000 in
set_option maxHeartbeats 1000000 in
theorem key_any (a : Option Addr) (len cap : Nat) (vs : List Val) (w : World) (h : VS w a len cap vs) (ht : (keyBytes vs).length ≤ 549755813888) :
    Calls Try.prog 39 #[.slice a len cap] w fun e w' => KeyR vs w.heap.size e w' ∧ Below w.heap.size w w' := by
  have hm := h.hmax
  have hc := h.hcap
  have hm2 := h.hroom
  have HV := hidc h
  have HT := hidc ht
  clear ht h
  go_enter Try.func39, Try.ntmps39
  go_wp2
  go_loopw [4, 11] (fun v i wr => ∃ k : Nat, k ≤ len ∧ i = .int .i64 k ∧ GR w.heap.size w (.slice none 0 0) wr v (keyBytes (vs.take k)) ∧ ∀ i, i < k → i < vs.length → (vs.getD i (0, 0, ⟨#[]⟩)).err = 0) (fun _ i _ => len - (intOf i).toNat)
  case atStart => exact ⟨0, by omega, rfl, GR.start (World.ownsRow_nil _ _ _ _) (Nat.le_refl _), fun i hi => absurd hi (by omega)⟩
  case round =>
    obtain ⟨k, hk, rfl, hG, hE⟩ := hrel
    have HG := hG.hid
    have HE := hidc hE
    clear hG hE
    by_cases hlt : k < len
    · obtain ⟨b, o, ha⟩ := HV.out.hform (by omega)
      subst ha
      have hvl : k < vs.length := by rw [HV.out.hlen]; exact hlt
      obtain ⟨x, HX⟩ : ∃ x, Hid (vs.getD k (0, 0, ⟨#[]⟩) = x) := ⟨_, rfl⟩
      have HOK := hidc (ok_getD HV.out.hok k hvl)
      have hbw := HV.out.lt (by omega)
      have hcs := HV.out.hcell b o rfl k hlt
      rw [HX.out] at hcs HOK
      obtain ⟨c0, c1, c2⟩ := hcs
      have hbel := HG.out.below
      rw [← hbel.cell (p := ⟨b, o + k * 3, none⟩) hbw] at c0
      rw [← hbel.cell (p := ⟨b, o + k * 3 + 1, none⟩) hbw] at c1
      rw [← hbel.cell (p := ⟨b, o + k * 3 + 2, none⟩) hbw] at c2
      clear hbel
      obtain ⟨xk, xn, xs⟩ := x
      simp only at c0 c1 c2
      obtain ⟨-, -, o3, o4, o5⟩ := HOK.out
      simp only at o3 o4 o5
      have HL := hidc (Nat.le_trans (keyBytes_le vs k) HT.out)
      by_cases he : rightOf xk xn xs = 0
      · go_wp2_with (first
          | (go_at_call 64; refine (holdRight_any xk xn xs _ o5).mono ?_; rintro e w1 ⟨rfl, hb1⟩; have HG1 := ((HG.out.alloc _).later hb1).hid; have HB1 := hidc (Nat.le_trans HG1.out.base HG1.out.size); clear hb1)
          | (go_at_call 65; refine (appendHeld_right w.heap.size _ _ (xk, xn, xs) _ HG1.out.own HB1.out HL.out HOK.out he).mono ?_; rintro e w2 ⟨v2, rfl, hG2⟩; have HG2 := (HG1.out.trans hG2).hid; clear hG2))
        go_roundw
        case rel =>
          refine ⟨k + 1, by omega, by go_num, ?_, ?_⟩
          · rw [keyBytes_take hvl, HX.out]; exact HG2.out
          · intro i hi hil
            by_cases hik : i = k
            · subst hik; rw [HX.out]; exact he
            · exact HE.out i (by omega) hil
        case measure => simp [intOf]; omega
      · have he2 : (rightOf xk xn xs != 0) = true := by simp [he]
        go_wp2_with (go_at_call 64; refine (holdRight_any xk xn xs _ o5).mono ?_; rintro e w1 ⟨rfl, hb1⟩; have HG1 := ((HG.out.alloc _).later hb1).hid; clear hb1)
        go_ret2
        have e : keyErr vs = rightOf xk xn xs := by
          have := keyErr_at hvl HE.out (by rw [HX.out]; exact he)
          rw [HX.out] at this
          exact this
        unfold KeyR
        rw [e, if_neg he]
        exact ⟨rfl, HG1.out.below⟩
    · go_wp2
      go_ret2
      have e : k = vs.length := by rw [HV.out.hlen]; omega
      have e0 : keyErr vs = 0 := keyErr_all fun i hi => HE.out i (by omega) hi
      unfold KeyR
      rw [e0, if_pos rfl]
      have hG := HG.out
      rw [List.take_of_length_le (by omega)] at hG
      exact ⟨⟨_, rfl, hG.own⟩, hG.below⟩
end Go.Proofs.Ytcophbkgighepaa
