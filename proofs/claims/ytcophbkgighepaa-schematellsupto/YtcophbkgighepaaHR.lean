/- The document's own Name. -/
import Derived.Test.YtcophbkgighepaaHP
import Derived.Deep.LoopGhost
set_option linter.unusedVariables false
namespace Go.Proofs.Ytcophbkgighepaa
open Go.RowKit

set_option maxRecDepth 100000 in
set_option maxHeartbeats 2000000 in
theorem refname_any (s : ByteArray) (hs : s.size ≤ 16777216) (w : World) :
    Calls Try.prog 17 #[.string s] w fun e w' => e = .returned (.bool (isNm s)) ∧ w' = w := by
  obtain ⟨n, hn⟩ : ∃ n, s.size = n := ⟨_, rfl⟩
  have HN := hide hn
  have HLen : Hid ((bl s).length = n) := by show _ = _; rw [bl_len]; exact hn
  have hl : ∀ ww t ty, Try.prog.underlying t = some .string → (Builtin.len_ #[t] ty #[.string s]).run Try.prog ww = .ok (goInt n) ww := fun ww t ty h => by rw [← hn]; exact run_len_string _ t ty s h
  have x5 : n ≤ 16777216 := by omega
  by_cases c1 : n < 1
  · have HF : Hid (isNm s = false) := by show _ = _; unfold isNm; rw [hn, decide_eq_false (show ¬ 1 ≤ n by omega)]; rfl
    have e0 : n = 0 := by omega
    subst e0
    have hz : s.size = 0 := hn
    clear HN hl hs
    go_enter Try.func17, Try.ntmps17
    go_wp2
    go_ret
    exact ⟨by rw [HF.out]; rfl, rfl⟩
  · by_cases c2 : 8 < n
    · have HF : Hid (isNm s = false) := by show _ = _; unfold isNm; rw [hn, decide_eq_false (show ¬ n ≤ 8 by omega)]; simp
      have hz := hn
      have y1 : ¬ (n : Int) < 1 := by omega
      have y2 : 8 < (n : Int) := by omega
      clear HN hl hs
      go_enter Try.func17, Try.ntmps17
      go_wp2
      go_ret
      exact ⟨by rw [HF.out]; rfl, rfl⟩
    · have HE : Hid (isNm s = (bl s).all isLt) := by show _ = _; unfold isNm; rw [hn, decide_eq_true (show 1 ≤ n by omega), decide_eq_true (show n ≤ 8 by omega)]; rfl
      have hz := hn
      have y1 : ¬ (n : Int) < 1 := by omega
      have y2 : ¬ 8 < (n : Int) := by omega
      have HX : Hid (∀ (j : Nat) (b : UInt8), (bl s)[j]? = some b → ∀ ww, (Instr.index 9 (.string s) (.int .i64 (j : Int))).run Try.prog ww = .ok (.int .u8 (b.toNat : Int)) ww) := by
        intro j b hb ww
        have hj : j < s.size := by
          have := (List.getElem?_eq_some_iff.1 hb).1
          rw [bl_len] at this
          exact this
        rw [run_index_string ww _ _ _ _ Try.underlying9, dif_pos ⟨by omega, by omega⟩]
        have e : s[((j : Int)).toNat]'(by omega) = b := by
          have h2 := (List.getElem?_eq_some_iff.1 hb).2
          rw [← h2]
          simp [bl]
          rfl
        rw [e]
      clear hl hs HN
      go_enter Try.func17, Try.ntmps17
      go_wp2_with fail
      go_loopg [3] n (fun gh s3 wx => ∃ j : Nat, j + gh = n ∧ s3 = .int .i64 (j : Int) ∧ ((bl s).take j).all isLt = true ∧ wx = w)
      case atStart => exact ⟨0, by omega, rfl, by simp, rfl⟩
      case round =>
        obtain ⟨j, hj, rfl, hno, rfl⟩ := hrel
        have HNO := hide hno
        clear hno
        by_cases hjn : j < n
        · have xj : (j : Int) < (n : Int) := by omega
          obtain ⟨b, hb⟩ : ∃ b, (bl s)[j]? = some b := ⟨_, List.getElem?_eq_getElem (by rw [HLen.out]; exact hjn)⟩
          have hx := HX.out j b hb
          have HTK : Hid (((bl s).take (j + 1)).all isLt = isLt b) := by
            show _ = _
            rw [List.take_add_one, hb, List.all_append, HNO.out]
            simp
          have HNOO : Hid (isLt b = false → (bl s).all isLt = false) := fun q => by
            cases h9 : (bl s).all isLt with
            | false => rfl
            | true => exact absurd (List.all_eq_true.1 h9 b (List.mem_of_getElem? hb)) (by rw [q]; simp)
          obtain ⟨z, hzb⟩ : ∃ z : Nat, b.toNat = z := ⟨_, rfl⟩
          have HB : Hid (isLt b = (decide (97 ≤ z) && decide (z ≤ 122))) := by show _ = _; unfold isLt; rw [hzb]
          rw [hzb] at hx
          clear hb hzb
          by_cases d1 : z < 97
          · have z1 : (z : Int) < 97 := by omega
            have HF : Hid ((bl s).all isLt = false) := HNOO.out (by rw [HB.out, decide_eq_false (show ¬ 97 ≤ z by omega)]; rfl)
            go_wp2
            go_ret
            exact ⟨by rw [HE.out, HF.out]; rfl, rfl⟩
          · have z1 : ¬ (z : Int) < 97 := by omega
            by_cases d2 : 122 < z
            · have z2 : 122 < (z : Int) := by omega
              have HF : Hid ((bl s).all isLt = false) := HNOO.out (by rw [HB.out, decide_eq_false (show ¬ z ≤ 122 by omega)]; simp)
              go_wp2
              go_ret
              exact ⟨by rw [HE.out, HF.out]; rfl, rfl⟩
            · have z2 : ¬ 122 < (z : Int) := by omega
              have HT : Hid (((bl s).take (j + 1)).all isLt = true) := by
                show _ = _
                rw [HTK.out, HB.out, decide_eq_true (show 97 ≤ z by omega), decide_eq_true (show z ≤ 122 by omega)]
                rfl
              go_wp2
              go_roundg (gk - 1)
              case measure => omega
              case rel => exact ⟨j + 1, by omega, rfl, HT.out, rfl⟩
        · have xj : ¬ (j : Int) < (n : Int) := by omega
          have HF : Hid ((bl s).all isLt = true) := by
            have h9 := HNO.out
            rw [List.take_of_length_le (by rw [HLen.out]; omega)] at h9
            exact h9
          go_wp2
          go_ret
          exact ⟨by rw [HE.out, HF.out]; rfl, rfl⟩
end Go.Proofs.Ytcophbkgighepaa
