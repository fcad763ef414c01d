/- Contract of the document's own Fold. -/
import Derived.Test.YtcophbkgighepaaE1
import Derived.Test.YtcophbkgighepaaE2
set_option linter.unusedVariables false
namespace Go.Proofs.Ytcophbkgighepaa
open Go.RowKit

/-- A row of runes of the call's own, in block g, while it is written. -/
structure FW (w wr : World) (g cap : Nat) (ys : List Nat) : Prop where
  bel : Below w.heap.size w wr
  base : w.heap.size ≤ g
  own : wr.ownsRow w.heap.size 21 1 (.slice (some ⟨g, 0, none⟩) ys.length cap) ys.length (rcells ys)
theorem FW.hid {w wr : World} {g cap : Nat} {ys : List Nat} (h : FW w wr g cap ys) : Hid (FW w wr g cap ys) := h
theorem rcells_get (ys : List Nat) (i : Nat) (hi : i < ys.length) : (rcells ys)[i]? = some (.int .i32 (ys.getD i 0 : Nat)) := by simp [rcells, hi]
theorem FW.cell {w wr : World} {g cap : Nat} {ys : List Nat} (h : FW w wr g cap ys) {i : Nat} (hi : i < ys.length) : wr.cell? ⟨g, i, none⟩ = some (.int .i32 (ys.getD i 0 : Nat)) := by
  rw [h.own.cellAt i (by omega), rcells_get ys i hi]
theorem FW.block {w wr : World} {g cap : Nat} {ys : List Nat} (h : FW w wr g cap ys) : ∃ cur, wr.heap[g]? = some (.cells cur 21 (0, 0)) ∧ ys.length ≤ cap ∧ cap ≤ maxLen ∧ cur.size = cap ∧ cur.toList.take ys.length = rcells ys := by
  rcases h.own.2 with ⟨e, _⟩ | ⟨g', cap', cur, e, _, h1, h2, h3, h4, h5⟩
  · cases e
  · simp only [Value.slice.injEq, Option.some.injEq, Addr.mk.injEq, and_true, true_and] at e
    obtain ⟨rfl, rfl⟩ := e
    exact ⟨cur, h1, h2, h3, by omega, by simpa using h5⟩
theorem FW.frozen {w wr : World} {g cap : Nat} {ys : List Nat} (h : FW w wr g cap ys) (i : Nat) : wr.frozen? ⟨g, i, none⟩ = false := by
  obtain ⟨cur, h1, _⟩ := h.block
  exact frozen_of_row _ _ _ _ _ h1
theorem FW.set {w wr : World} {g cap : Nat} {ys : List Nat} (h : FW w wr g cap ys) (i x : Nat) (hi : i < ys.length) : FW w (wr.setCell ⟨g, i, none⟩ (.int .i32 (x : Nat))) g cap (ys.set i x) := by
  obtain ⟨cur, h1, h2, h3, h4, h5⟩ := h.block
  refine ⟨h.bel.setCell h.base _, h.base, ?_, Or.inr ⟨g, cap, cur.setIfInBounds i (.int .i32 (x : Nat)), rfl, h.base, ?_, by rw [List.length_set]; exact h2, h3, by simp [h4], ?_⟩⟩
  · simp [rcells]
  · rw [heap_setCell_same _ _ _ _ _ _ h1]
  · rw [List.length_set, Nat.mul_one, Array.toList_setIfInBounds, List.take_set, h5]
    simp [rcells, List.map_set]

/-- The first k made small. -/
def part (rs : List Nat) (k : Nat) : List Nat := (rs.take k).map foldR ++ rs.drop k
theorem part_len (rs : List Nat) (k : Nat) (h : k ≤ rs.length) : (part rs k).length = rs.length := by simp [part]; omega
theorem part_at (rs : List Nat) (k : Nat) (h : k < rs.length) : (part rs k).getD k 0 = rs.getD k 0 := by
  have : ((rs.take k).map foldR).length = k := by simp; omega
  simp only [part, List.getD_eq_getElem?_getD]
  rw [List.getElem?_append_right (by omega), this]
  simp
theorem part_succ (rs : List Nat) (k : Nat) (h : k < rs.length) : (part rs k).set k (foldR (rs.getD k 0)) = part rs (k + 1) := by
  have e : ((rs.take k).map foldR).length = k := by simp; omega
  have e1 : rs.take (k + 1) = rs.take k ++ [rs.getD k 0] := by rw [List.take_add_one]; simp [List.getD, h]
  have e2 : rs.drop k = rs.getD k 0 :: rs.drop (k + 1) := by rw [List.drop_eq_getElem_cons h]; simp [List.getD, h]
  unfold part
  rw [e1, e2, List.map_append, List.set_append_right _ _ (by omega), e, Nat.sub_self]
  simp
theorem part_zero (rs : List Nat) : part rs 0 = rs := by simp [part]
theorem part_all (rs : List Nat) : part rs rs.length = rs.map foldR := by simp [part]
theorem part_same (rs : List Nat) (k : Nat) (h : k < rs.length) (e : foldR (rs.getD k 0) = rs.getD k 0) : part rs (k + 1) = part rs k := by
  rw [← part_succ rs k h, e]
  have hl := part_len rs k (by omega)
  apply List.ext_getElem?
  intro i
  rw [List.getElem?_set]
  split
  · rename_i hi
    subst hi
    rw [if_pos (by omega)]
    have := part_at rs k h
    rw [← this]
    simp [List.getD, hl, h]
  · rfl

set_option maxRecDepth 100000 in
set_option maxHeartbeats 8000000 in
theorem refFold_any (s : ByteArray) (w : World) (hs : s.size ≤ 1048576) :
    Calls Try.prog 62 #[.string s] w fun e w' => e = .returned (.string (foldS s)) ∧ Below w.heap.size w w' := by
  cases hr : runes (bl s) with
  | none =>
    go_enter Try.func62, Try.ntmps62
    go_wp2_with fail
    refine (decode_any s _ hs).mono ?_
    rintro e w1 ⟨hd, hb1⟩
    unfold DecR at hd
    rw [hr] at hd
    subst hd
    go_wp2
    go_ret
    exact ⟨by rw [foldS, hr]; rfl, hb1⟩
  | some rs =>
    have hv := ((runes_iff (bl s) rs).1 hr).2
    have hle := runes_len hr
    rw [bl_len] at hle
    have hok : ∀ r ∈ rs.map foldR, vr r := by
      intro r hm
      simp only [List.mem_map] at hm
      obtain ⟨q, hq, rfl⟩ := hm
      exact foldR_vr (hv q hq)
    go_enter Try.func62, Try.ntmps62
    go_wp2_with fail
    refine (decode_any s _ hs).mono ?_
    rintro e w1 ⟨hd, hb1⟩
    unfold DecR at hd
    rw [hr] at hd
    obtain ⟨v, rfl, ho⟩ := hd
    rcases ho.2 with ⟨rfl, h0⟩ | ⟨g, cap, cur, rfl, hg, hrest⟩
    · have e0 : rs = [] := List.eq_nil_of_length_eq_zero h0
      have HB1 := hid_of hb1
      clear hb1 ho
      go_wp2
      refine wp_loop_rounds 1 ?_
      rw [rounds_succ]
      go_wp2_with (go_at_call 78; refine (encode_any (.slice none 0 0) [] _ (by simp) ⟨by simp, Or.inl ⟨rfl, rfl⟩⟩).mono ?_; rintro e w2 ⟨rfl, hb2⟩)
      go_ret
      refine ⟨by rw [foldS, hr, e0]; rfl, HB1.out.trans (hb2.mono HB1.out.size)⟩
    · have HF : Hid (FW w w1 g cap (part rs 0)) := by rw [part_zero]; exact ⟨hb1, hg, ho⟩
      have hcap := hrest.2.1
      have hmax := hrest.2.2.1
      unfold maxLen at hmax
      have HV := hid_of hv
      have HOK := hid_of hok
      have HR := hid_of hr
      clear ho hrest hb1 hv hok hr
      go_wp2
      go_loopw [5] (fun i wr => ∃ k : Nat, k ≤ rs.length ∧ i = .int .i64 k ∧ FW w wr g cap (part rs k)) (fun i _ => rs.length - (intOf i).toNat)
      case atStart => exact ⟨0, by omega, rfl, HF.out⟩
      case round =>
        clear HF
        obtain ⟨k, hk, rfl, hF⟩ := hrel
        have HF := hF.hid
        clear hF
        by_cases hlt : k < rs.length
        · have hpl := part_len rs k hk
          have hcl := HF.out.cell (i := k) (by omega)
          have hfz := HF.out.frozen k
          rw [part_at rs k hlt] at hcl
          obtain ⟨r, HR2⟩ : ∃ r, Hid (rs.getD k 0 = r) := ⟨_, rfl⟩
          rw [HR2.out] at hcl
          have hvr : vr r := by rw [← HR2.out]; apply HV.out; simp [List.getD, hlt]
          have hr1 : (r : Int) ≤ 1114111 := by unfold vr at hvr; omega
          clear hvr
          have HPL := hid_of hpl
          clear hpl
          by_cases q0 : (r : Int) < 65
          · have t0 : decide ((65 : Int) ≤ (r : Int)) = false := decide_eq_false (by omega)
            have u0 : decide ((r : Int) ≤ 90) = true := decide_eq_true (by omega)
            have t1 : decide ((192 : Int) ≤ (r : Int)) = false := decide_eq_false (by omega)
            have u1 : decide ((r : Int) ≤ 222) = true := decide_eq_true (by omega)
            have t2 : decide ((913 : Int) ≤ (r : Int)) = false := decide_eq_false (by omega)
            have u2 : decide ((r : Int) ≤ 937) = true := decide_eq_true (by omega)
            have t3 : decide ((1040 : Int) ≤ (r : Int)) = false := decide_eq_false (by omega)
            have u3 : decide ((r : Int) ≤ 1071) = true := decide_eq_true (by omega)
            have HG := hid_of (show foldR r = r by rw [foldR, if_neg (by unfold great; omega)])
            clear q0
            go_wp2
            go_roundw
            case rel =>
              refine ⟨k + 1, by omega, by go_num, ?_⟩
              rw [part_same rs k hlt (by rw [HR2.out]; exact HG.out)]
              exact HF.out
            case measure => simp [intOf]; omega
          · skip
            by_cases q1 : (r : Int) ≤ 90
            · have t0 : decide ((65 : Int) ≤ (r : Int)) = true := decide_eq_true (by omega)
              have u0 : decide ((r : Int) ≤ 90) = true := decide_eq_true (by omega)
              have t1 : decide ((192 : Int) ≤ (r : Int)) = false := decide_eq_false (by omega)
              have u1 : decide ((r : Int) ≤ 222) = true := decide_eq_true (by omega)
              have t2 : decide ((913 : Int) ≤ (r : Int)) = false := decide_eq_false (by omega)
              have u2 : decide ((r : Int) ≤ 937) = true := decide_eq_true (by omega)
              have t3 : decide ((1040 : Int) ≤ (r : Int)) = false := decide_eq_false (by omega)
              have u3 : decide ((r : Int) ≤ 1071) = true := decide_eq_true (by omega)
              have HG := hid_of (show foldR r = r + 32 by rw [foldR, if_pos (by unfold great; omega)])
              have HS := hid_of (HF.out.set k (r + 32) (by rw [HPL.out]; exact hlt))
              clear q0 q1
              go_wp2
              go_roundw
              case rel =>
                refine ⟨k + 1, by omega, by go_num, ?_⟩
                rw [← part_succ rs k hlt, HR2.out, HG.out]
                exact HS.out
              case measure => simp [intOf]; omega
            · skip
              by_cases q2 : (r : Int) < 192
              · have t0 : decide ((65 : Int) ≤ (r : Int)) = true := decide_eq_true (by omega)
                have u0 : decide ((r : Int) ≤ 90) = false := decide_eq_false (by omega)
                have t1 : decide ((192 : Int) ≤ (r : Int)) = false := decide_eq_false (by omega)
                have u1 : decide ((r : Int) ≤ 222) = true := decide_eq_true (by omega)
                have t2 : decide ((913 : Int) ≤ (r : Int)) = false := decide_eq_false (by omega)
                have u2 : decide ((r : Int) ≤ 937) = true := decide_eq_true (by omega)
                have t3 : decide ((1040 : Int) ≤ (r : Int)) = false := decide_eq_false (by omega)
                have u3 : decide ((r : Int) ≤ 1071) = true := decide_eq_true (by omega)
                have HG := hid_of (show foldR r = r by rw [foldR, if_neg (by unfold great; omega)])
                clear q0 q1 q2
                go_wp2
                go_roundw
                case rel =>
                  refine ⟨k + 1, by omega, by go_num, ?_⟩
                  rw [part_same rs k hlt (by rw [HR2.out]; exact HG.out)]
                  exact HF.out
                case measure => simp [intOf]; omega
              · skip
                by_cases q3 : (r : Int) = 215
                · have q : r = 215 := by omega
                  subst q
                  have HG := hid_of (show foldR 215 = 215 by rw [foldR, if_neg (by unfold great; omega)])
                  go_wp2
                  go_roundw
                  case rel =>
                    refine ⟨k + 1, by omega, by go_num, ?_⟩
                    rw [part_same rs k hlt (by rw [HR2.out]; exact HG.out)]
                    exact HF.out
                  case measure => simp [intOf]; omega
                · skip
                  by_cases q4 : (r : Int) ≤ 222
                  · have t0 : decide ((65 : Int) ≤ (r : Int)) = true := decide_eq_true (by omega)
                    have u0 : decide ((r : Int) ≤ 90) = false := decide_eq_false (by omega)
                    have t1 : decide ((192 : Int) ≤ (r : Int)) = true := decide_eq_true (by omega)
                    have u1 : decide ((r : Int) ≤ 222) = true := decide_eq_true (by omega)
                    have t2 : decide ((913 : Int) ≤ (r : Int)) = false := decide_eq_false (by omega)
                    have u2 : decide ((r : Int) ≤ 937) = true := decide_eq_true (by omega)
                    have t3 : decide ((1040 : Int) ≤ (r : Int)) = false := decide_eq_false (by omega)
                    have u3 : decide ((r : Int) ≤ 1071) = true := decide_eq_true (by omega)
                    have p3 : ((r : Int) != 215) = true := by simp only [bne_iff_ne, ne_eq]; omega
                    have HG := hid_of (show foldR r = r + 32 by rw [foldR, if_pos (by unfold great; omega)])
                    have HS := hid_of (HF.out.set k (r + 32) (by rw [HPL.out]; exact hlt))
                    clear q0 q1 q2 q3 q4
                    go_wp2
                    go_roundw
                    case rel =>
                      refine ⟨k + 1, by omega, by go_num, ?_⟩
                      rw [← part_succ rs k hlt, HR2.out, HG.out]
                      exact HS.out
                    case measure => simp [intOf]; omega
                  · skip
                    by_cases q5 : (r : Int) < 913
                    · have t0 : decide ((65 : Int) ≤ (r : Int)) = true := decide_eq_true (by omega)
                      have u0 : decide ((r : Int) ≤ 90) = false := decide_eq_false (by omega)
                      have t1 : decide ((192 : Int) ≤ (r : Int)) = true := decide_eq_true (by omega)
                      have u1 : decide ((r : Int) ≤ 222) = false := decide_eq_false (by omega)
                      have t2 : decide ((913 : Int) ≤ (r : Int)) = false := decide_eq_false (by omega)
                      have u2 : decide ((r : Int) ≤ 937) = true := decide_eq_true (by omega)
                      have t3 : decide ((1040 : Int) ≤ (r : Int)) = false := decide_eq_false (by omega)
                      have u3 : decide ((r : Int) ≤ 1071) = true := decide_eq_true (by omega)
                      have p3 : ((r : Int) != 215) = true := by simp only [bne_iff_ne, ne_eq]; omega
                      have HG := hid_of (show foldR r = r by rw [foldR, if_neg (by unfold great; omega)])
                      clear q0 q1 q2 q3 q4 q5
                      go_wp2
                      go_roundw
                      case rel =>
                        refine ⟨k + 1, by omega, by go_num, ?_⟩
                        rw [part_same rs k hlt (by rw [HR2.out]; exact HG.out)]
                        exact HF.out
                      case measure => simp [intOf]; omega
                    · skip
                      by_cases q6 : (r : Int) = 930
                      · have q : r = 930 := by omega
                        subst q
                        have HG := hid_of (show foldR 930 = 930 by rw [foldR, if_neg (by unfold great; omega)])
                        go_wp2
                        go_roundw
                        case rel =>
                          refine ⟨k + 1, by omega, by go_num, ?_⟩
                          rw [part_same rs k hlt (by rw [HR2.out]; exact HG.out)]
                          exact HF.out
                        case measure => simp [intOf]; omega
                      · skip
                        by_cases q7 : (r : Int) ≤ 937
                        · have t0 : decide ((65 : Int) ≤ (r : Int)) = true := decide_eq_true (by omega)
                          have u0 : decide ((r : Int) ≤ 90) = false := decide_eq_false (by omega)
                          have t1 : decide ((192 : Int) ≤ (r : Int)) = true := decide_eq_true (by omega)
                          have u1 : decide ((r : Int) ≤ 222) = false := decide_eq_false (by omega)
                          have t2 : decide ((913 : Int) ≤ (r : Int)) = true := decide_eq_true (by omega)
                          have u2 : decide ((r : Int) ≤ 937) = true := decide_eq_true (by omega)
                          have t3 : decide ((1040 : Int) ≤ (r : Int)) = false := decide_eq_false (by omega)
                          have u3 : decide ((r : Int) ≤ 1071) = true := decide_eq_true (by omega)
                          have p3 : ((r : Int) != 215) = true := by simp only [bne_iff_ne, ne_eq]; omega
                          have p6 : ((r : Int) != 930) = true := by simp only [bne_iff_ne, ne_eq]; omega
                          have HG := hid_of (show foldR r = r + 32 by rw [foldR, if_pos (by unfold great; omega)])
                          have HS := hid_of (HF.out.set k (r + 32) (by rw [HPL.out]; exact hlt))
                          clear q0 q1 q2 q3 q4 q5 q6 q7
                          go_wp2
                          go_roundw
                          case rel =>
                            refine ⟨k + 1, by omega, by go_num, ?_⟩
                            rw [← part_succ rs k hlt, HR2.out, HG.out]
                            exact HS.out
                          case measure => simp [intOf]; omega
                        · skip
                          by_cases q8 : (r : Int) < 1040
                          · have t0 : decide ((65 : Int) ≤ (r : Int)) = true := decide_eq_true (by omega)
                            have u0 : decide ((r : Int) ≤ 90) = false := decide_eq_false (by omega)
                            have t1 : decide ((192 : Int) ≤ (r : Int)) = true := decide_eq_true (by omega)
                            have u1 : decide ((r : Int) ≤ 222) = false := decide_eq_false (by omega)
                            have t2 : decide ((913 : Int) ≤ (r : Int)) = true := decide_eq_true (by omega)
                            have u2 : decide ((r : Int) ≤ 937) = false := decide_eq_false (by omega)
                            have t3 : decide ((1040 : Int) ≤ (r : Int)) = false := decide_eq_false (by omega)
                            have u3 : decide ((r : Int) ≤ 1071) = true := decide_eq_true (by omega)
                            have p3 : ((r : Int) != 215) = true := by simp only [bne_iff_ne, ne_eq]; omega
                            have p6 : ((r : Int) != 930) = true := by simp only [bne_iff_ne, ne_eq]; omega
                            have HG := hid_of (show foldR r = r by rw [foldR, if_neg (by unfold great; omega)])
                            clear q0 q1 q2 q3 q4 q5 q6 q7 q8
                            go_wp2
                            go_roundw
                            case rel =>
                              refine ⟨k + 1, by omega, by go_num, ?_⟩
                              rw [part_same rs k hlt (by rw [HR2.out]; exact HG.out)]
                              exact HF.out
                            case measure => simp [intOf]; omega
                          · skip
                            by_cases q9 : (r : Int) ≤ 1071
                            · have t0 : decide ((65 : Int) ≤ (r : Int)) = true := decide_eq_true (by omega)
                              have u0 : decide ((r : Int) ≤ 90) = false := decide_eq_false (by omega)
                              have t1 : decide ((192 : Int) ≤ (r : Int)) = true := decide_eq_true (by omega)
                              have u1 : decide ((r : Int) ≤ 222) = false := decide_eq_false (by omega)
                              have t2 : decide ((913 : Int) ≤ (r : Int)) = true := decide_eq_true (by omega)
                              have u2 : decide ((r : Int) ≤ 937) = false := decide_eq_false (by omega)
                              have t3 : decide ((1040 : Int) ≤ (r : Int)) = true := decide_eq_true (by omega)
                              have u3 : decide ((r : Int) ≤ 1071) = true := decide_eq_true (by omega)
                              have p3 : ((r : Int) != 215) = true := by simp only [bne_iff_ne, ne_eq]; omega
                              have p6 : ((r : Int) != 930) = true := by simp only [bne_iff_ne, ne_eq]; omega
                              have HG := hid_of (show foldR r = r + 32 by rw [foldR, if_pos (by unfold great; omega)])
                              have HS := hid_of (HF.out.set k (r + 32) (by rw [HPL.out]; exact hlt))
                              clear q0 q1 q2 q3 q4 q5 q6 q7 q8 q9
                              go_wp2
                              go_roundw
                              case rel =>
                                refine ⟨k + 1, by omega, by go_num, ?_⟩
                                rw [← part_succ rs k hlt, HR2.out, HG.out]
                                exact HS.out
                              case measure => simp [intOf]; omega
                            · skip
                              have t0 : decide ((65 : Int) ≤ (r : Int)) = true := decide_eq_true (by omega)
                              have u0 : decide ((r : Int) ≤ 90) = false := decide_eq_false (by omega)
                              have t1 : decide ((192 : Int) ≤ (r : Int)) = true := decide_eq_true (by omega)
                              have u1 : decide ((r : Int) ≤ 222) = false := decide_eq_false (by omega)
                              have t2 : decide ((913 : Int) ≤ (r : Int)) = true := decide_eq_true (by omega)
                              have u2 : decide ((r : Int) ≤ 937) = false := decide_eq_false (by omega)
                              have t3 : decide ((1040 : Int) ≤ (r : Int)) = true := decide_eq_true (by omega)
                              have u3 : decide ((r : Int) ≤ 1071) = false := decide_eq_false (by omega)
                              have HG := hid_of (show foldR r = r by rw [foldR, if_neg (by unfold great; omega)])
                              clear q0 q1 q2 q3 q4 q5 q6 q7 q8 q9
                              go_wp2
                              go_roundw
                              case rel =>
                                refine ⟨k + 1, by omega, by go_num, ?_⟩
                                rw [part_same rs k hlt (by rw [HR2.out]; exact HG.out)]
                                exact HF.out
                              case measure => simp [intOf]; omega
        · have e : k = rs.length := by omega
          have hF := HF.out
          rw [e, part_all] at hF
          have hl2 : (rs.map foldR).length = rs.length := by simp
          have HE : Hid (RR wr (.slice (some ⟨g, 0, none⟩) rs.length cap) (rs.map foldR)) := by
            obtain ⟨c2, b1, b2, b3, _, _⟩ := hF.block
            refine ⟨HOK.out, Or.inr ⟨g, cap, by rw [hl2], b2, b3, (Array.getElem?_eq_some_iff.1 b1).1, fun i hi => hF.cell hi⟩⟩
          have HB := hid_of hF.bel
          clear hF e
          go_wp2_with (go_at_call 78; refine (encode_any _ (rs.map foldR) _ (by rw [hl2]; omega) HE.out).mono ?_; rintro e w2 ⟨rfl, hb2⟩)
          go_ret
          exact ⟨by rw [foldS, HR.out]; rfl, HB.out.trans (hb2.mono HB.out.size)⟩
end Go.Proofs.Ytcophbkgighepaa
