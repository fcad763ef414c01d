/- Names: schema.Name and the document's own. -/
import Derived.Test.YtcophbkgighepaaE1
import Derived.Test.YtcophbkgighepaaK1
set_option linter.unusedVariables false
namespace Go.Proofs.Ytcophbkgighepaa
open Go.RowKit

/-- 1 to 8 letters a to z. -/
def isLt (b : UInt8) : Bool := decide (97 ≤ b.toNat) && decide (b.toNat ≤ 122)
def isNm (s : ByteArray) : Bool := decide (1 ≤ s.size) && decide (s.size ≤ 8) && (bl s).all isLt
theorem dl_low {b : UInt8} (t : List UInt8) (h : b.toNat ≤ 127) : dl (b :: t) = (b.toNat, 1) := by
  have e := enc1 h
  have e2 : (b.toNat).toUInt8 = b := by simp
  rw [e2] at e
  have := dl_enc (r := b.toNat) (Or.inl (by omega)) t
  rw [e] at this
  exact this
theorem dl_high {b : UInt8} (t : List UInt8) (h : ¬ b.toNat ≤ 127) : 128 ≤ (dl (b :: t)).1 := by
  refine Classical.byContradiction fun hc => ?_
  have hn : dl (b :: t) ≠ (65533, 1) := fun e => by rw [e] at hc; omega
  obtain ⟨r, rest, h1, h2, h3⟩ := dl_ok (by simp) hn
  rw [h1] at hc
  have hr : r ≤ 127 := by show r ≤ 127; simp at hc; omega
  rw [enc1 hr] at h3
  simp only [List.cons_append, List.nil_append, List.cons.injEq] at h3
  rw [h3.1, tn (by omega)] at h
  exact h hr
theorem dl_letter {b : UInt8} (t : List UInt8) {R W : Nat} (h : dl (b :: t) = (R, W)) : (97 ≤ R ∧ R ≤ 122 → W = 1 ∧ isLt b = true) ∧ (¬ (97 ≤ R ∧ R ≤ 122) → isLt b = false) := by
  by_cases hb : b.toNat ≤ 127
  · rw [dl_low t hb] at h
    simp only [Prod.mk.injEq] at h
    obtain ⟨rfl, rfl⟩ := h
    refine ⟨fun q => ⟨rfl, ?_⟩, fun q => ?_⟩
    · unfold isLt; rw [decide_eq_true q.1, decide_eq_true q.2]; rfl
    · unfold isLt
      cases h1 : decide (97 ≤ b.toNat) with
      | false => rfl
      | true => rw [Bool.true_and]; exact decide_eq_false fun h2 => q ⟨of_decide_eq_true h1, h2⟩
  · have hh := dl_high t hb
    rw [h] at hh
    dsimp only at hh
    refine ⟨fun q => by omega, fun q => ?_⟩
    unfold isLt
    rw [decide_eq_false (show ¬ b.toNat ≤ 122 by omega), Bool.and_false]
theorem nm_bad {s : ByteArray} {pos : Nat} {b : UInt8} {t : List UInt8} (h : (bl s).drop pos = b :: t) (hb : isLt b = false) : isNm s = false := by
  have : (bl s).all isLt = false := by
    rw [List.all_eq_false]
    exact ⟨b, by
      have : b ∈ (bl s).drop pos := by rw [h]; exact List.mem_cons_self
      exact List.mem_of_mem_drop this, by rw [hb]; decide⟩
  unfold isNm
  rw [this, Bool.and_false]
/-- The letters that were met. -/
def NmM (s : ByteArray) (pos : Nat) : Prop := pos ≤ s.size ∧ ((bl s).take pos).all isLt = true
theorem NmM.step {s : ByteArray} {pos : Nat} {b : UInt8} {t : List UInt8} (h : NmM s pos) (hp : pos < s.size) (hd : (bl s).drop pos = b :: t) (hb : isLt b = true) : NmM s (pos + 1) := by
  refine ⟨hp, ?_⟩
  have hl : pos < (bl s).length := by rw [bl_len]; exact hp
  have e : (bl s).take (pos + 1) = (bl s).take pos ++ [b] := by
    rw [List.take_add_one, List.getElem?_eq_getElem hl]
    have := List.drop_eq_getElem_cons hl
    rw [hd] at this
    simp only [List.cons.injEq] at this
    rw [← this.1]
    rfl
  rw [e, List.all_append, h.2]
  simp [hb]
theorem NmM.fin {s : ByteArray} {pos : Nat} (h : NmM s pos) (hp : ¬ pos < s.size) : isNm s = (decide (1 ≤ s.size) && decide (s.size ≤ 8)) := by
  have e : (bl s).take pos = bl s := List.take_of_length_le (by rw [bl_len]; have := h.1; omega)
  have := h.2
  rw [e] at this
  unfold isNm
  rw [this, Bool.and_true]
set_option maxRecDepth 100000 in
set_option maxHeartbeats 1000000 in
theorem name_any (s : ByteArray) (w : World) :
    Calls Try.prog 16 #[.string s] w fun e w' => e = .returned (.bool (isNm s)) ∧ Below w.heap.size w w' := by
  go_enter Try.func16, Try.ntmps16
  go_wp2
  go_loopw [] (fun wr => ∃ pos : Nat, wr = w.iter s pos ∧ NmM s pos) (fun wr => s.size - wr.iterPos w.heap.size)
  case atStart => exact ⟨0, rfl, by omega, by simp⟩
  case round =>
    obtain ⟨pos, rfl, hm⟩ := hrel
    have HM : Hid (NmM s pos) := hm
    clear hm
    by_cases hp : pos < s.size
    · obtain ⟨R, W, hd⟩ : ∃ R W, dl ((bl s).drop pos) = (R, W) := ⟨_, _, rfl⟩
      obtain ⟨b, t, hbt⟩ : ∃ b t, (bl s).drop pos = b :: t := by
        cases hx : (bl s).drop pos with
        | nil => exact absurd hx (drop_ne hp)
        | cons b t => exact ⟨b, t, rfl⟩
      have hnx : ∀ ty, (Instr.next (.pointer (some ⟨w.heap.size, 0, none⟩)) true ty).run Try.prog (w.iter s pos) = .ok (.tuple #[.bool true, .int .i64 pos, .int .i32 R]) (w.iter s (pos + W)) := fun ty => by rw [run_next_any w s pos ty hp, dec_at, hd]
      rw [hbt] at hd
      have hl := dl_letter t hd
      by_cases hR : 97 ≤ R ∧ R ≤ 122
      · obtain ⟨rfl, hb⟩ := hl.1 hR
        have r1 : ¬ (R : Int) < 97 := by omega
        have r2 : ¬ (122 : Int) < (R : Int) := by omega
        have HN : Hid (NmM s (pos + 1)) := HM.out.step hp hbt hb
        clear hl hR hd hbt
        go_wp2
        go_roundw
        case rel => exact ⟨pos + 1, rfl, HN.out⟩
        case measure => simp; omega
      · have HF : Hid (isNm s = false) := nm_bad hbt (hl.2 hR)
        clear hl hd hbt
        by_cases c1 : (R : Int) < 97
        · go_wp2
          go_ret
          exact ⟨by rw [HF.out]; rfl, below_iter w s _⟩
        · have r2 : (122 : Int) < (R : Int) := by omega
          go_wp2
          go_ret
          exact ⟨by rw [HF.out]; rfl, below_iter w s _⟩
    · have hnx : ∀ ty, (Instr.next (.pointer (some ⟨w.heap.size, 0, none⟩)) true ty).run Try.prog (w.iter s pos) = _ := fun ty => run_next_end w s pos ty hp
      have HF := hide (HM.out.fin hp)
      by_cases h0 : s = ⟨#[]⟩
      · subst h0
        go_wp2
        go_ret
        exact ⟨by rw [HF.out]; rfl, below_iter w _ pos⟩
      · have hz : s.size ≠ 0 := fun q => h0 (by cases s with | mk d => simp [ByteArray.size] at q; simp [q])
        have hq : s.toList.isEmpty = false := by
          cases hx : s.toList.isEmpty with
          | false => rfl
          | true => exact absurd (nil_of_empty hx) h0
        have e8 : decide ((s.size : Int) ≤ 8) = decide (s.size ≤ 8) := decide_eq_decide.2 (by omega)
        rw [decide_eq_true (show 1 ≤ s.size by omega), Bool.true_and, ← e8] at HF
        clear hz h0 e8
        go_wp2
        go_ret
        exact ⟨by rw [HF.out]; rfl, below_iter w s pos⟩
end Go.Proofs.Ytcophbkgighepaa
