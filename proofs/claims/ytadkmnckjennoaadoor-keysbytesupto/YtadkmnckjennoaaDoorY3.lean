/- Contract of the document's own Read: the walk. -/
import Derived.Test.YtadkmnckjennoaaDoorY2
import Derived.BigQuiet
set_option linter.unusedVariables false
namespace Go.Proofs.YtadkmnckjennoaaDoor
open Go.RowKit

theorem below_boxK (w : World) (o : Obj) : Below w.heap.size w (w.alloc o) := (Below.refl _ w).alloc (Nat.le_refl _) _

set_option maxRecDepth 100000 in
set_option maxHeartbeats 8000000 in
theorem refRead_any (a : Option Addr) (len cap : Nat) (xs : List Nat) (w : World) (h : BS w a len cap xs) (hl : len ≤ 1048576) :
    Calls Tryd.prog 18 #[.slice a len cap] w fun e w' => RdR (rd xs) w.heap.size e w' ∧ Below w.heap.size w w' := by
  have HX := hidr h
  have hcap := h.hcap
  have hmax := h.hmax
  have HLN := hidr h.hlen
  obtain ⟨i0, hi, hz0, hz1, hz2⟩ := info_parts info_rune
  clear h
  go_enter Tryd.func18, Tryd.ntmps18
  go_wp2
  go_loopw [5, 4] (fun i v wr => ∃ (pos : Nat) (pre : List Val), pos ≤ len ∧ i = .int .i64 pos ∧ pre.length ≤ pos ∧ VW w wr v pre ∧ rd xs = (rd (xs.drop pos)).map (pre ++ ·)) (fun i _ _ => len - (intOf i).toNat)
  case atStart =>
    refine ⟨0, [], by omega, rfl, by simp, ⟨World.ownsRow_nil _ _ _ _, Below.refl _ _⟩, ?_⟩
    rw [List.drop_zero]
    cases rd xs <;> simp
  case round =>
    obtain ⟨pos, pre, hpl, rfl, hprl, hV, hR⟩ := hrel
    have HV := hV.hid
    have HR := hidr hR
    clear hV hR
    by_cases hlt : pos < len
    · have hpx : pos < xs.length := by rw [HLN.out]; exact hlt
      have HPX := hidr hpx
      obtain ⟨b, o, rfl, hbl, hc⟩ := HX.out.place (by omega)
      have HC : Hid (∀ ww, Below w.heap.size w ww → ∀ i, i < len → ww.cell? ⟨b, o + i, none⟩ = some (.int .u8 (xs.getD i 0 : Nat))) := fun ww hb i hi => (hb.cell (p := ⟨b, o + i, none⟩) hbl).trans (hc i hi)
      have HBY := hidr HX.out.hbyte
      clear hc
      have c0 := HC.out wr HV.out.bel pos hlt
      obtain ⟨x, Hx⟩ : ∃ x, Hid (xs.getD pos 0 = x) := ⟨_, hidr rfl⟩
      have hxb : x < 256 := by rw [← Hx.out]; exact byteAt HBY.out pos
      rw [Hx.out] at c0
      by_cases x1 : x = 1
      · subst x1
        have HS := hidr (rd_step HPX.out (rh_1 Hx.out) HR.out)
        go_wp2_with (at_builtin; refine wpList_append_v rfl (.tmp 26) (.tmp 28) rfl w _ pre rfl 0 0 ⟨#[]⟩ HV.out rfl (by omega) ?_; intro v3 w3 hV3; have HV3 := hV3.hid; clear hV3)
        go_roundw
        case rel => exact ⟨pos + 1, _, by omega, by go_num, by simp; omega, HV3.out, HS.out⟩
        case measure => simp [intOf]; omega
      · by_cases x4 : x = 4
        · subst x4
          have HRH := hidr (rh_4 Hx.out)
          by_cases hp1 : pos + 1 < len
          · have i1 : (pos : Int) + 1 < (len : Int) := by omega
            have c1 := HC.out wr HV.out.bel (pos + 1) hp1
            obtain ⟨y, Hy⟩ : ∃ y, Hid (xs.getD (pos + 1) 0 = y) := ⟨_, hidr rfl⟩
            rw [Hy.out] at c1 HRH
            have hyb : y < 256 := by rw [← Hy.out]; exact byteAt HBY.out (pos + 1)
            by_cases hy : y ≤ 1
            · rw [if_pos ⟨by rw [HLN.out]; exact hp1, hy⟩] at HRH
              have HS := hidr (rd_step HPX.out HRH.out HR.out)
              have HOV : Hid ((H.truth (decide (y = 1))).ov = (3, (y : Int), ⟨#[]⟩)) := by
                have : y = 0 ∨ y = 1 := by omega
                rcases this with rfl | rfl <;> rfl
              rw [HOV.out] at HS
              have i2 : (y : Int) < 2 := by omega
              go_wp2_with (at_builtin; refine wpList_append_v rfl (.tmp 46) (.tmp 53) rfl w _ pre rfl 3 (y : Int) ⟨#[]⟩ HV.out rfl (by omega) ?_; intro v3 w3 hV3; have HV3 := hV3.hid; clear hV3)
              go_roundw
              case rel => exact ⟨pos + 2, _, by omega, by go_num, by simp; omega, HV3.out, HS.out⟩
              case measure => simp [intOf]; omega
            · rw [if_neg (fun z => hy z.2)] at HRH
              have HS := hidr (rd_stop HPX.out HRH.out HR.out)
              have i2 : ¬ (y : Int) < 2 := by omega
              go_wp2
              go_ret2
              rw [HS.out]
              exact ⟨rfl, HV.out.bel⟩
          · have i1 : ¬ (pos : Int) + 1 < (len : Int) := by omega
            rw [if_neg (fun z => hp1 (by have := z.1; rw [HLN.out] at this; exact this))] at HRH
            have HS := hidr (rd_stop HPX.out HRH.out HR.out)
            go_wp2
            go_ret2
            rw [HS.out]
            exact ⟨rfl, HV.out.bel⟩
        · by_cases x2 : x = 2
          · subst x2
            have HRH := hidr (rh_2 Hx.out)
            by_cases hp9 : pos + 9 ≤ len
            · have i1 : (pos : Int) + 1 + 8 ≤ (len : Int) := by omega
              rw [if_pos (by rw [HLN.out]; exact hp9)] at HRH
              have HS := hidr (rd_step HPX.out HRH.out HR.out)
              go_wp2_with fail
              go_loopw [8, 7] (fun i u wx => ∃ j : Nat, j ≤ 8 ∧ i = .int .i64 j ∧ u = .int .u64 (valHi ((xs.drop (pos + 1)).take j) : Nat) ∧ wx = wr) (fun i _ _ => 8 - (intOf i).toNat)
              case atStart => exact ⟨0, by omega, rfl, rfl, rfl⟩
              case round =>
                obtain ⟨j, hj, rfl, rfl, hwx⟩ := hrel
                have hwx := hwx.symm
                subst hwx
                by_cases hj8 : j < 8
                · have ci := HC.out _ HV.out.bel (pos + 1 + j) (by omega)
                  obtain ⟨c, Hc⟩ : ∃ c, Hid (xs.getD (pos + 1 + j) 0 = c) := ⟨_, hidr rfl⟩
                  have hcb : c < 256 := by rw [← Hc.out]; exact byteAt HBY.out _
                  rw [Hc.out] at ci
                  have hv : valHi ((xs.drop (pos + 1)).take j) < 72057594037927936 := by
                    have h1 := valHi_lt ((xs.drop (pos + 1)).take j) fun n hn => HBY.out n (List.mem_of_mem_drop (List.mem_of_mem_take hn))
                    have h2 : ((xs.drop (pos + 1)).take j).length ≤ 7 := by rw [List.length_take]; omega
                    exact Nat.lt_of_lt_of_le h1 (Nat.le_trans (Nat.pow_le_pow_right (by decide) h2) (by decide))
                  have HN : Hid (valHi ((xs.drop (pos + 1)).take (j + 1)) = valHi ((xs.drop (pos + 1)).take j) * 256 + c) := by
                    have e : (xs.drop (pos + 1)).getD j 0 = c := by rw [← Hc.out]; simp [List.getD, List.getElem?_drop]
                    rw [take_snoc (by rw [List.length_drop, HLN.out]; omega), valHi_snoc, e]
                    exact rfl
                  generalize valHi ((xs.drop (pos + 1)).take j) = m at hv HN ⊢
                  have hjn := u64_join m c hv hcb
                  go_wp2
                  go_roundw
                  case rel => exact ⟨j + 1, by omega, by go_num, by rw [HN.out]; go_num, by first | rfl | trivial⟩
                  case measure => simp [intOf]; omega
                · have e8 : j = 8 := by omega
                  subst e8
                  have hv : valHi ((xs.drop (pos + 1)).take 8) < 18446744073709551616 := by
                    have h1 := valHi_lt ((xs.drop (pos + 1)).take 8) fun n hn => HBY.out n (List.mem_of_mem_drop (List.mem_of_mem_take hn))
                    have h2 : ((xs.drop (pos + 1)).take 8).length ≤ 8 := by rw [List.length_take]; omega
                    exact Nat.lt_of_lt_of_le h1 (Nat.le_trans (Nat.pow_le_pow_right (by decide) h2) (by decide))
                  generalize valHi ((xs.drop (pos + 1)).take 8) = m at hv HS ⊢
                  have HVB := hidr hv
                  have hxr := xor_back m hv
                  have HS2 : Hid (rd xs = (rd (xs.drop (pos + 9))).map ((pre ++ [(1, (m : Int) - 9223372036854775808, ⟨#[]⟩)]) ++ ·)) := HS.out
                  clear hv HS
                  go_wp2_with (at_builtin; refine wpList_append_v rfl (.tmp 81) (.tmp 86) rfl w _ pre rfl 1 ((m : Int) - 9223372036854775808) ⟨#[]⟩ HV.out rfl (by omega) ?_; intro v3 w3 hV3; have HV3 := hV3.hid; clear hV3)
                  go_roundw
                  case rel => exact ⟨pos + 9, _, by omega, by go_num, by simp; omega, HV3.out, HS2.out⟩
                  case measure => simp [intOf]; omega
            · have i1 : ¬ (pos : Int) + 1 + 8 ≤ (len : Int) := by omega
              rw [if_neg (by rw [HLN.out]; exact hp9)] at HRH
              have HS := hidr (rd_stop HPX.out HRH.out HR.out)
              go_wp2
              go_ret2
              rw [HS.out]
              exact ⟨rfl, HV.out.bel⟩
          · by_cases x3 : x = 3
            · subst x3
              have HRH := hidr (rh_3 Hx.out)
              have HT0 : Hid (TQ w wr _ (.slice none 0 0) pre []) := ⟨HV.out, World.ownsRow_nil _ _ _ _⟩
              go_wp2_with fail
              go_loopw [5, 9] (fun i rv wx => ∃ (p : Nat) (rs : List Nat), pos + 1 ≤ p ∧ p ≤ len ∧ i = .int .i64 p ∧ rs.length ≤ p ∧ (∀ r ∈ rs, vr r) ∧ RtS xs (pos + 1) p rs ∧ TQ w wx _ rv pre rs) (fun i _ _ => len - (intOf i).toNat)
              case atStart => exact ⟨pos + 1, [], by omega, by omega, by go_num, by simp, by simp, RtS.start _ _, HT0.out⟩
              case round =>
                clear HT0
                obtain ⟨p, rs, hp0, hpn, rfl, hrsl, hvr, hrt, hT⟩ := hrel
                have HVR := hidr hvr
                have HRT := hidr hrt
                have HT := hidr hT
                clear hvr hrt hT
                by_cases hp3 : p + 3 ≤ len
                · have i1 : ¬ (len : Int) < (p : Int) + 3 := by omega
                  have hpx3 : p + 3 ≤ xs.length := by rw [HLN.out]; exact hp3
                  have HV3 := hidr (valHi3 hpx3)
                  have HP3 := hidr hpx3
                  have d0 := HC.out wr HT.out.vw.bel p (by omega)
                  have d1 := HC.out wr HT.out.vw.bel (p + 1) (by omega)
                  have d2 := HC.out wr HT.out.vw.bel (p + 2) (by omega)
                  obtain ⟨y0, Hy0⟩ : ∃ y, Hid (xs.getD p 0 = y) := ⟨_, hidr rfl⟩
                  obtain ⟨y1, Hy1⟩ : ∃ y, Hid (xs.getD (p + 1) 0 = y) := ⟨_, hidr rfl⟩
                  obtain ⟨y2, Hy2⟩ : ∃ y, Hid (xs.getD (p + 2) 0 = y) := ⟨_, hidr rfl⟩
                  have b0 : y0 < 256 := by rw [← Hy0.out]; exact byteAt HBY.out _
                  have b1 : y1 < 256 := by rw [← Hy1.out]; exact byteAt HBY.out _
                  have b2 : y2 < 256 := by rw [← Hy2.out]; exact byteAt HBY.out _
                  rw [Hy0.out] at d0
                  rw [Hy1.out] at d1
                  rw [Hy2.out] at d2
                  rw [Hy0.out, Hy1.out, Hy2.out] at HV3
                  have q1 := i32_join1 b0 b1
                  have q2 := i32_join2 b0 b1 b2
                  obtain ⟨V, hVd⟩ : ∃ V, V = y0 * 65536 + y1 * 256 + y2 := ⟨_, rfl⟩
                  have q3 : (y0 : Int) * 65536 + (y1 : Int) * 256 + (y2 : Int) = (V : Int) := by omega
                  rw [q3] at q2
                  rw [← hVd] at HV3
                  have hVb : V < 16777216 := by omega
                  have hVI : (V : Int) < 16777216 := by omega
                  clear hVd hpx3
                  go_wp2_with fail
                  go_quiet (fail)
                  have HTq := hidr (HT.out.later (below_drewN (Below.refl _ _) nq))
                  clear d0 d1 d2 q1 q2 q3 b0 b1 b2
                  by_cases hz : V = 0
                  · have HRS := hidr (HRT.out.stop HP3.out HV3.out hz)
                    rw [HRS.out, Option.map_some] at HRH
                    have HS := hidr (rd_step HPX.out HRH.out HR.out)
                    have HS2 : Hid (rd xs = (rd (xs.drop (p + 3))).map ((pre ++ [(2, 0, ⟨(encs rs).toArray⟩)]) ++ ·)) := by
                      have e : pos + (3 + (p - (pos + 1)) + 1) = p + 3 := by omega
                      have := HS.out
                      simp only at this
                      rw [e] at this
                      exact this
                    subst hz
                    clear hVb hVI
                    go_wp2_with fail
                    refine (encode_any _ rs _ (by omega) (HTq.out.rr HVR.out)).mono ?_
                    rintro e w4 ⟨rfl, hb4⟩
                    have HV4 := (HTq.out.vw.later hb4).hid
                    clear hb4
                    go_wp2_with (at_builtin; refine wpList_append_v rfl (.tmp 139) (.tmp 143) rfl w _ pre rfl 2 0 ⟨(encs rs).toArray⟩ HV4.out rfl (by omega) ?_; intro v5 w5 hV5; have HV5 := hV5.hid; clear hV5)
                    go_roundw
                    case rel => exact ⟨p + 3, _, by omega, by go_num, by simp; omega, HV5.out, HS2.out⟩
                    case measure => simp [intOf]; omega
                  · have z1 : ((V : Int) == 0) = false := by simp; omega
                    obtain ⟨U, hU⟩ : ∃ U : Nat, V = U + 1 := ⟨V - 1, by omega⟩
                    have z2 : (V : Int) - 1 = (U : Int) := by omega
                    have hUb : (U : Int) < 16777216 := by omega
                    have HU := hidr hU
                    have HZ := hidr hz
                    by_cases hv : vr U
                    · have HST := hidr (HRT.out.step HP3.out hp0 HV3.out hz (by rw [hU]; exact hv))
                      rw [HU.out, Nat.add_sub_cancel] at HST
                      have HV1 := hidr hv
                      have hU1 : (U : Int) ≤ 1114111 := by unfold vr at hv; omega
                      have j1 : ¬ (1114111 : Int) < (U : Int) := by omega
                      clear hU hz
                      by_cases hs1 : (55296 : Int) ≤ (U : Int)
                      · have j3 : ¬ (U : Int) < 57344 := by unfold vr at hv; omega
                        clear hv
                        have HTb := hidr (HTq.out.later (below_boxK _ (.cells #[.int .i32 (U : Int)] 21)))
                        go_wp2_with (at_builtin; refine wpList_append_own_at _ rfl (.tmp 135) (.tmp 137) 51 rfl w.heap.size 21 i0 (.int .i32 0) 1 4 Tryd.underlying51 hi hz0 hz1 hz2 rfl (by omega) _ rs.length (rcells rs) rfl HTb.out.row ⟨wr.heap.size, 0, none⟩ 1 1 [.int .i32 (U : Int)] rfl rfl (news_one _ _ _) (one_i32 _) (by unfold maxLen; omega) (by omega) HTb.out.vw.bel.size ?_; intro v5 w5 h5 g5 _ _; have HT5 := hidr (HTb.out.push h5 g5); clear h5 g5)
                        go_roundw
                        case rel =>
                          refine ⟨p + 3, rs ++ [U], by omega, by omega, by go_num, by simp; omega, ?_, HST.out, HT5.out⟩
                          intro r hr
                          rcases List.mem_append.1 hr with q | q
                          · exact HVR.out r q
                          · rw [List.mem_singleton] at q; rw [q]; exact HV1.out
                        case measure => simp [intOf]; omega
                      · clear hv
                        have HTb := hidr (HTq.out.later (below_boxK _ (.cells #[.int .i32 (U : Int)] 21)))
                        go_wp2_with (at_builtin; refine wpList_append_own_at _ rfl (.tmp 135) (.tmp 137) 51 rfl w.heap.size 21 i0 (.int .i32 0) 1 4 Tryd.underlying51 hi hz0 hz1 hz2 rfl (by omega) _ rs.length (rcells rs) rfl HTb.out.row ⟨wr.heap.size, 0, none⟩ 1 1 [.int .i32 (U : Int)] rfl rfl (news_one _ _ _) (one_i32 _) (by unfold maxLen; omega) (by omega) HTb.out.vw.bel.size ?_; intro v5 w5 h5 g5 _ _; have HT5 := hidr (HTb.out.push h5 g5); clear h5 g5)
                        go_roundw
                        case rel =>
                          refine ⟨p + 3, rs ++ [U], by omega, by omega, by go_num, by simp; omega, ?_, HST.out, HT5.out⟩
                          intro r hr
                          rcases List.mem_append.1 hr with q | q
                          · exact HVR.out r q
                          · rw [List.mem_singleton] at q; rw [q]; exact HV1.out
                        case measure => simp [intOf]; omega
                    · have HST := hidr (HRT.out.none (rt_bad HP3.out HV3.out hz (by rw [hU]; exact hv)))
                      rw [HST.out, Option.map_none] at HRH
                      have HS := hidr (rd_stop HPX.out HRH.out HR.out)
                      clear hz
                      by_cases j1 : (1114111 : Int) < (U : Int)
                      · clear hv hU
                        go_wp2
                        go_ret2
                        rw [HS.out]
                        exact ⟨rfl, HTq.out.vw.bel⟩
                      · have j2 : (55296 : Int) ≤ (U : Int) := by unfold vr at hv; omega
                        have j3 : (U : Int) < 57344 := by unfold vr at hv; omega
                        clear hv hU
                        go_wp2
                        go_ret2
                        rw [HS.out]
                        exact ⟨rfl, HTq.out.vw.bel⟩
                · have i1 : (len : Int) < (p : Int) + 3 := by omega
                  have HST := hidr (HRT.out.none (rt_short (by rw [HLN.out]; exact hp3)))
                  rw [HST.out, Option.map_none] at HRH
                  have HS := hidr (rd_stop HPX.out HRH.out HR.out)
                  go_wp2
                  go_ret2
                  rw [HS.out]
                  exact ⟨rfl, HT.out.vw.bel⟩
            · have HRH := hidr (rh_0 (xs := xs) (p := pos) (by rw [Hx.out]; exact x1) (by rw [Hx.out]; exact x2) (by rw [Hx.out]; exact x3) (by rw [Hx.out]; exact x4))
              have HS := hidr (rd_stop HPX.out HRH.out HR.out)
              have q0 : ((x : Int) - 1 == 0) = false := by simp; omega
              have q3 : ((x : Int) - 1 == 3) = false := by simp; omega
              have q1 : ((x : Int) - 1 == 1) = false := by simp; omega
              have q2 : ((x : Int) - 1 == 2) = false := by simp; omega
              clear x1 x2 x3 x4
              go_wp2
              go_ret2
              rw [HS.out]
              exact ⟨rfl, HV.out.bel⟩
    · go_wp2
      go_ret2
      have e : xs.drop pos = [] := List.drop_eq_nil_of_le (by rw [HLN.out]; omega)
      rw [HR.out, e, rd_nil]
      refine ⟨?_, HV.out.bel⟩
      simp only [Option.map_some, List.append_nil, RdR]
      exact ⟨_, rfl, HV.out.own⟩
end Go.Proofs.YtadkmnckjennoaaDoor
