/- Contracts of Read, and of Writes that are refused; a write more. -/
import Derived.Test.YtnapapgmeghgjaaB7
set_option linter.unusedVariables false
namespace Go.Proofs.Ytnapapgmeghgjaa
open Go.RowKit

theorem read_down [Gd] (B p : Nat) (s : DS) (at_ : Int) (w : World) (h : DI B p s w) (hd : s.down = true) :
    Calls Try.prog 23 #[.pointer (some ⟨p, 0, none⟩), .int .i64 at_] w fun e w' => e = .returned (.tuple #[.slice none 0 0, .int .i64 20]) ∧ w' = w := by
  obtain ⟨gb, vo, kv, ov, wv, h⟩ := h
  have c6 := h.c6
  rw [hd] at c6
  clear h
  go_enter Try.func23, Try.ntmps23
  go_wp2
  go_ret2
  exact ⟨rfl, rfl⟩
theorem read_arg [Gd] (B p : Nat) (s : DS) (at_ : Int) (w : World) (h : DI B p s w) (hd : s.down = false) (ha : ¬ (0 ≤ at_ ∧ at_ < s.n)) :
    Calls Try.prog 23 #[.pointer (some ⟨p, 0, none⟩), .int .i64 at_] w fun e w' => e = .returned (.tuple #[.slice none 0 0, .int .i64 1]) ∧ w' = w := by
  have HC := hide (has_any B p s at_ w h)
  rw [decide_eq_false ha] at HC
  obtain ⟨gb, vo, kv, ov, wv, h⟩ := h
  have c6 := h.c6
  rw [hd] at c6
  clear h
  go_enter Try.func23, Try.ntmps23
  go_wp2_with fail
  refine HC.out.mono ?_
  rintro e w2 ⟨rfl, rfl⟩
  go_wp2
  go_ret2
  exact ⟨rfl, rfl⟩
set_option maxRecDepth 100000 in
theorem read_ok [Gd] (B p : Nat) (s : DS) (i : Nat) (w : World) (h : DI B p s w) (hB : B ≤ w.heap.size) (hd : s.down = false) (hi : i < s.n) :
    Calls Try.prog 23 #[.pointer (some ⟨p, 0, none⟩), .int .i64 i] w fun e w' => ∃ g, e = .returned (.tuple #[.slice (some ⟨g, 0, none⟩) blk blk, .int .i64 0]) ∧ w'.ownsRow w.heap.size 5 1 (.slice (some ⟨g, 0, none⟩) blk blk) blk (cellsOf (pad (s.show i))) ∧ Below w.heap.size w w' := by
  have HC := hide (has_any B p s i w h)
  rw [decide_eq_true (by omega : (0 : Int) ≤ (i : Int) ∧ (i : Int) < s.n)] at HC
  have HS := hide (shown_any B p s i w h hB hi)
  have HSL := hide (show_len h.ok i)
  have HST := hide (show_lt h.ok i)
  obtain ⟨gb, vo, kv, ov, wv, h⟩ := h
  have c6 := h.c6
  rw [hd] at c6
  clear h
  generalize s.show i = xs at *
  go_enter Try.func23, Try.ntmps23
  go_wp2_with fail
  refine HC.out.mono ?_
  rintro e w2 ⟨rfl, rfl⟩
  go_wp2_with fail
  refine HS.out.mono ?_
  rintro e w3 ⟨v, rfl, hv, hb3⟩
  obtain ⟨a3, c3, rfl, B3⟩ := bs_row hv (by have := HSL.out; unfold blk at this; omega) HST.out
  have HB3 := hide B3
  have HL3 := hide hb3
  clear hv hb3 B3
  go_wp2_with fail
  refine (whole_any a3 xs.length c3 xs _ HB3.out HSL.out).mono ?_
  rintro e w4 ⟨rfl, ho4, hb4⟩
  have HO4 := hide (own_base ho4 HL3.out.size)
  have HL4 := hide (HL3.out.trans (hb4.mono HL3.out.size))
  clear ho4 hb4
  go_wp2
  go_ret2
  exact ⟨_, rfl, HO4.out, HL4.out⟩

theorem write_down [Gd] (B p : Nat) (s : DS) (at_ : Int) (v : Value) (w : World) (h : DI B p s w) (hd : s.down = true) :
    Calls Try.prog 12 #[.pointer (some ⟨p, 0, none⟩), .int .i64 at_, v] w fun e w' => e = .returned (.int .i64 20) ∧ w' = w := by
  obtain ⟨gb, vo, kv, ov, wv, h⟩ := h
  have c6 := h.c6
  rw [hd] at c6
  clear h
  go_enter Try.func12, Try.ntmps12
  go_wp2
  go_ret
  exact ⟨rfl, rfl⟩
theorem write_arg [Gd] (B p : Nat) (s : DS) (at_ : Int) (a : Option Addr) (len cap : Nat) (w : World) (h : DI B p s w) (hd : s.down = false) (ha : ¬ (0 ≤ at_ ∧ at_ < s.n)) :
    Calls Try.prog 12 #[.pointer (some ⟨p, 0, none⟩), .int .i64 at_, .slice a len cap] w fun e w' => e = .returned (.int .i64 1) ∧ w' = w := by
  have HC := hide (has_any B p s at_ w h)
  rw [decide_eq_false ha] at HC
  obtain ⟨gb, vo, kv, ov, wv, h⟩ := h
  have c6 := h.c6
  rw [hd] at c6
  clear h
  go_enter Try.func12, Try.ntmps12
  go_wp2_with fail
  refine HC.out.mono ?_
  rintro e w2 ⟨rfl, rfl⟩
  go_wp2
  go_ret
  exact ⟨rfl, rfl⟩
theorem write_long [Gd] (B p : Nat) (s : DS) (at_ : Int) (a : Option Addr) (len cap : Nat) (w : World) (h : DI B p s w) (hd : s.down = false) (ha : 0 ≤ at_ ∧ at_ < s.n) (hl : blk < len) :
    Calls Try.prog 12 #[.pointer (some ⟨p, 0, none⟩), .int .i64 at_, .slice a len cap] w fun e w' => e = .returned (.int .i64 1) ∧ w' = w := by
  have HC := hide (has_any B p s at_ w h)
  rw [decide_eq_true ha] at HC
  obtain ⟨gb, vo, kv, ov, wv, h⟩ := h
  have c6 := h.c6
  rw [hd] at c6
  have d1 : decide ((8192 : Int) < (len : Int)) = true := decide_eq_true (by unfold blk at hl; omega)
  clear h
  go_enter Try.func12, Try.ntmps12
  go_wp2_with fail
  refine HC.out.mono ?_
  rintro e w2 ⟨rfl, rfl⟩
  go_wp2
  go_ret
  exact ⟨rfl, rfl⟩
set_option maxRecDepth 100000 in
theorem write_fails [Gd] (B p : Nat) (s : DS) (at_ : Int) (a : Option Addr) (len cap : Nat) (w : World) (h : DI B p s w) (hB : B ≤ w.heap.size) (hd : s.down = false) (ha : 0 ≤ at_ ∧ at_ < s.n) (hl : len ≤ blk) (hf : s.after = 1) (hlf : s.life < 100000) :
    Calls Try.prog 12 #[.pointer (some ⟨p, 0, none⟩), .int .i64 at_, .slice a len cap] w fun e w' => e = .returned (.int .i64 20) ∧ DI B p s.tick w' ∧ Fr B w w' := by
  have HC := hide (has_any B p s at_ w h)
  rw [decide_eq_true ha] at HC
  have HF := hide (fails_any B p s w h hB hd hlf)
  rw [decide_eq_true hf] at HF
  obtain ⟨gb, vo, kv, ov, wv, h⟩ := h
  have c6 := h.c6
  rw [hd] at c6
  have d1 : decide ((8192 : Int) < (len : Int)) = false := decide_eq_false (by unfold blk at hl; omega)
  clear h hf
  go_enter Try.func12, Try.ntmps12
  go_wp2_with fail
  refine HC.out.mono ?_
  rintro e w2 ⟨rfl, rfl⟩
  go_wp2_with fail
  refine HF.out.mono ?_
  rintro e w3 ⟨rfl, hD, hF⟩
  have HD := hide hD
  have HF3 := hide hF
  clear hD hF
  go_wp2
  go_ret
  exact ⟨rfl, HD.out, HF3.out⟩

/-- One open write more. -/
def DS.wrote (s : DS) (at_ : Nat) (xs : List Nat) : DS := { s with opens := s.opens ++ [(at_, xs)] }
section
variable (s : DS) (a : Nat) (xs : List Nat)
theorem wrote_m : (s.wrote a xs).m = s.m + 1 := by simp [DS.wrote, DS.m]
theorem wrote_at {i : Nat} (h : i < s.m) : (s.wrote a xs).at_ i = s.at_ i := by
  simp only [DS.m] at h
  simp [DS.wrote, DS.at_, List.getD_eq_getElem?_getD, List.getElem?_append_left h]
theorem wrote_at_m : (s.wrote a xs).at_ s.m = a := by
  simp [DS.wrote, DS.at_, DS.m, List.getD_eq_getElem?_getD]
theorem wrote_by {i : Nat} (h : i < s.m) : (s.wrote a xs).by_ i = s.by_ i := by
  simp only [DS.m] at h
  simp [DS.wrote, DS.by_, List.getD_eq_getElem?_getD, List.getElem?_append_left h]
theorem wrote_by_m : (s.wrote a xs).by_ s.m = xs := by
  simp [DS.wrote, DS.by_, DS.m, List.getD_eq_getElem?_getD]
theorem wrote_by_gt {i : Nat} (h : s.m < i) : (s.wrote a xs).by_ i = [] := by
  simp only [DS.m] at h
  simp only [DS.wrote, DS.by_, List.getD_eq_getElem?_getD]
  rw [List.getElem?_eq_none (by simp; omega)]
  rfl
theorem wrote_idx (i : Nat) : (s.wrote a xs).idx i = if i = a then s.idx i ++ [s.m] else s.idx i := by
  unfold DS.idx
  rw [wrote_m, List.range_succ, List.filter_append]
  have e : (List.range s.m).filter (fun j => (s.wrote a xs).at_ j == i) = (List.range s.m).filter (fun j => s.at_ j == i) := by
    apply List.filter_congr
    intro j hj
    rw [wrote_at s a xs (List.mem_range.1 hj)]
  rw [e]
  simp only [List.filter_cons, List.filter_nil, wrote_at_m]
  by_cases h : i = a
  · subst h; simp
  · have : ¬ a = i := fun e => h e.symm
    simp [h, this]
theorem wrote_ok (h : s.Ok) (ha : a < s.n) (hx : xs.length ≤ blk) (hb : ∀ c ∈ xs, c < 256) (hm : s.m < 100000) : (s.wrote a xs).Ok where
  n1 := h.n1
  n2 := h.n2
  kl := h.kl
  kb := h.kb
  at_ := fun i hi => by
    rw [wrote_m] at hi
    rcases Nat.lt_or_ge i s.m with h1 | h1
    · rw [wrote_at s a xs h1]; exact h.at_ i h1
    · obtain rfl : i = s.m := by omega
      rw [wrote_at_m]; exact ha
  bl := fun i => by
    rcases Nat.lt_or_ge i s.m with h1 | h1
    · rw [wrote_by s a xs h1]; exact h.bl i
    · rcases Nat.lt_or_ge s.m i with h2 | h2
      · rw [wrote_by_gt s a xs h2]; exact Nat.zero_le _
      · obtain rfl : i = s.m := by omega
        rw [wrote_by_m]; exact hx
  bb := fun i c hc => by
    rcases Nat.lt_or_ge i s.m with h1 | h1
    · rw [wrote_by s a xs h1] at hc; exact h.bb i c hc
    · rcases Nat.lt_or_ge s.m i with h2 | h2
      · rw [wrote_by_gt s a xs h2] at hc; cases hc
      · obtain rfl : i = s.m := by omega
        rw [wrote_by_m] at hc; exact hb c hc
  mm := by rw [wrote_m]; omega
  keep := h.keep
  after := h.after
  life0 := h.life0
  life1 := h.life1
end
end Go.Proofs.Ytnapapgmeghgjaa
