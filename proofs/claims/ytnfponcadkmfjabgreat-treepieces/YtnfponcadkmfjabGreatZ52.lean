/- The law TreePieces holds for every input: called with whatever values of its parameters' types it returns true, and each argument reads afterwards as it read before. No condition beyond the form's own reach. -/
import Derived.Test.YtnfponcadkmfjabGreatZ51
import Derived.Test.YtnfponcadkmfjabGreatZ46
import Derived.Test.YtnfponcadkmfjabGreatZ24
import Derived.Test.YtnfponcadkmfjabGreatZ17
set_option linter.unusedVariables false
namespace Go.Proofs.YtnfponcadkmfjabGreat
open Go.RowKit
def PLI [Gd] (B p q g : Nat) (st0 : StT) (j : Nat) (W wx : World) : Prop := ∃ (s : DS) (t : PS) (now : StT) (left : Int) (l : List It), TM B p q g s t now st0 (.slice none 0 0) left wx ∧ Tr s t now l ∧ l.length ≤ j ∧ s.m ≤ 9 * j ∧ 698 ≤ cntF t.st + 9 * j ∧ Below B W wx
theorem PLI.put [Gd] {B p q g : Nat} {st0 : StT} {j : Nat} {W wx wy : World} {s : DS} {t : PS} {now : StT} {left : Int} {l : List It} (hM : TM B p q g s t now st0 (.slice none 0 0) left wx) (hT : Tr s t now l) (h1 : l.length ≤ j) (h2 : s.m ≤ 9 * j) (h3 : 698 ≤ cntF t.st + 9 * j) (h4 : Below B W wx) (hj : j ≤ 40) {it : It} (h : PutT B p q g s t now st0 (.slice none 0 0) l it wx wy) : PLI B p q g st0 (j + 1) W wy := by
  obtain ⟨s', t', now', L, k1, k2, k3, k4, k5⟩ := h
  have hd := hT.depth80 (by omega)
  have h5 := k1.m
  have h6 := k1.cnt
  have h7 := putL_len l it
  refine ⟨s', t', now', _, putL l it, k2, k3, ?_, ?_, ?_, h4.trans k5.1⟩
  · rw [h7]; split <;> omega
  · omega
  · omega
def lenV : Value → Nat | .slice _ n _ => n | _ => 0
def PCI (B Bo : Nat) (wL : World) (l : List It) (k : Nat) (vo vl : Value) (wx : World) : Prop := ∃ lo : List Nat, PRW B Bo wx vo (l.take k) ∧ KV B wx vl lo ∧ lo.length ≤ 64 ∧ frm l lo = l.drop k ∧ k ≤ l.length ∧ Below Bo wL wx
set_option maxRecDepth 100000 in
set_option maxHeartbeats 16000000 in
theorem treePieces_walk (a0 : Option Addr) (T cap0 b0 o0 : Nat) (A : Nat → Option Addr) (L C : Nat → Nat) (tf : Nat → List Nat) (a1 : Option Addr) (n1 c1 : Nat) (xs : List Nat) (a2 : Int) (W : World) (h0 : TXS W a0 T 64 b0 o0 A L C tf) (h1 : BS W a1 n1 c1 xs) :
    Calls Tryz.prog 3 #[.slice a0 T cap0, .slice a1 n1 c1, .int .i64 a2] W fun e w' => e = .returned (.bool true) ∧ Below W.heap.size W w' := by
  letI : Gd := ⟨none⟩
  have hg0 : Hid (Gd.g = none) := rfl
  have H0 := hide h0
  have H1 := hide h1
  have hT63 := h0.hl
  have HOP := hide (open_any (n := 700) hg0.out W (by decide) (by decide))
  clear h0 h1
  generalize hB : W.heap.size = B at *
  go_enter Tryz.func3, Tryz.ntmps3
  go_wp2_with fail
  refine HOP.out.mono ?_
  rintro e w1 ⟨p, g, rfl, hgB, ⟨q, s0, t0, st0, hM, hTr, hdp, hn, hm, hc, hnum, hs0, hs1⟩, hb1⟩
  have HP0 : Hid (PLI B p q g st0 0 W w1) := ⟨s0, t0, st0, _, [], hM, hTr, Nat.le_refl _, by omega, by omega, hb1⟩
  clear hgB hM hTr hdp hn hm hc hnum hs0 hs1 hb1 HOP
  go_wp2_with fail
  go_loopw [9] (fun i wx => ∃ j : Nat, j ≤ 40 ∧ i = .int .i64 j ∧ PLI B p q g st0 j W wx) (fun i _ => 40 - (intOf i).toNat)
  case atStart => exact ⟨0, by omega, rfl, HP0.out⟩
  case round =>
    obtain ⟨j, hj, rfl, hP⟩ := hrel
    have HP := hide hP
    clear hP
    obtain ⟨cb, hcb⟩ : ∃ cb, cb = decide (j < T ∧ j < 40) := ⟨_, rfl⟩
    go_upto_region 5 with fail
    go_cut [33] from 26 to 51 (fun c wx => c = .bool cb ∧ wr = wx)
    case first =>
      have HCB := hide hcb
      clear hcb
      by_cases q1 : j < T
      · have i1 : (j : Int) < (T : Int) := by omega
        have d1 : decide ((j : Int) < (T : Int)) = true := by simp; omega
        by_cases q2 : j < 40
        · have i2 : (j : Int) < 40 := by omega
          go_wp2
          go_meet
          exact ⟨by rw [HCB.out]; simp [q1, q2], rfl⟩
        · have i2 : ¬ (j : Int) < 40 := by omega
          go_wp2
          go_meet
          exact ⟨by rw [HCB.out]; simp [q1, q2], rfl⟩
      · have i1 : ¬ (j : Int) < (T : Int) := by omega
        have d1 : decide ((j : Int) < (T : Int)) = false := by simp; omega
        go_wp2
        go_meet
        exact ⟨by rw [HCB.out]; simp [q1], rfl⟩
    case rest =>
      obtain ⟨rfl, rfl⟩ := hcut
      cases cb with
      | true =>
        have hjj : j < T ∧ j < 40 := by simpa using hcb.symm
        obtain rfl : a0 = some ⟨b0, o0, none⟩ := H0.out.place (by omega)
        have HC0 := hide (H0.out.cell j hjj.1)
        have hcp := H0.out.cap j hjj.1
        have HBS := hide (H0.out.bs j hjj.1)
        have i1 : (j : Int) < (T : Int) := by omega
        generalize A j = aa at *
        generalize L j = ll at *
        generalize C j = cc at *
        generalize tf j = ys at *
        obtain ⟨m, hm⟩ : ∃ m, m = min ll 64 := ⟨_, rfl⟩
        rw [← hm] at HBS
        have e0 : (if (64 : Int) < (ll : Int) then (64 : Int) else (ll : Int)) = (m : Int) := by split <;> omega
        have em : min (ll : Int) 64 = (m : Int) := by omega
        have u0 : (0 : Int) ≤ (m : Int) := by omega
        have v0 : (m : Int) ≤ (cc : Int) := by omega
        have m64 : m ≤ 64 := by omega
        have y0 : (cc : Int) ≤ 9223372036854775807 := by omega
        have j40 : j < 40 := hjj.2
        have ew : IntKind.u8.wrap (j : Int) = (j : Int) := by rw [IntKind.wrap_u8]; omega
        obtain ⟨s, t, now, left, l, hM, hTr, hl1, hm1, hc1, hbW⟩ := HP.out
        have HM := hide hM
        have HTR := hide hTr
        have HBW := hide hbW
        have HC1 : Hid (wr.cell? ⟨b0, o0 + j, none⟩ = some (.slice aa ll cc)) := (hbW.cell (p := ⟨b0, o0 + j, none⟩) (by rw [← hB]; exact block_lt_of_cell HC0.out)).trans HC0.out
        have HX0 : Hid ((fun wx => wx.cell? ⟨b0, o0 + j, none⟩ = some (.slice aa ll cc)) wr.drew) := HC1.out
        have HBX : Hid (Below wr.heap.size wr (wr.alloc (.cells #[.int .u8 (j : Int)] 5)).drew) := (below_box wr _).drew
        have HVX : Hid ((wr.alloc (.cells #[.int .u8 (j : Int)] 5)).drew.heap[wr.heap.size]? = some (.cells #[.int .u8 (j : Int)] 5 (0, 0))) := heap_alloc_new wr _
        have HX1 : Hid ((fun wx => wx.cell? ⟨b0, o0 + j, none⟩ = some (.slice aa ll cc)) (wr.alloc (.cells #[.int .u8 (j : Int)] 5)).drew) := (HBX.out.cell (p := ⟨b0, o0 + j, none⟩) (block_lt_of_cell HC1.out)).trans HC1.out
        have hd := hTr.depth80 (by omega)
        have HD := hide hd
        have HPU : Hid (Calls Tryz.prog 8 #[.pointer (some ⟨g, 0, none⟩), .slice aa m cc, .slice (some ⟨wr.heap.size, 0, none⟩) 1 1] (wr.alloc (.cells #[.int .u8 (j : Int)] 5)).drew fun e w' => ∃ r : Int, e = .returned (.int .i64 r) ∧ PLI B p q g st0 (j + 1) W w') := by
          have hM1 := hM.later HBX.out
          by_cases hm0 : m = 0
          · refine (Put_arg hM1 aa (some ⟨wr.heap.size, 0, none⟩) m cc 1 1 (Or.inl hm0)).mono ?_
            rintro e w' ⟨rfl, hb⟩
            exact ⟨_, rfl, s, t, now, left, l, hM1.later hb, hTr, by omega, by omega, by omega, hbW.trans ((HBX.out.trans (hb.mono HBX.out.size)).mono hM.bw)⟩
          · have hkb : BK B (wr.alloc (.cells #[.int .u8 (j : Int)] 5)).drew aa m cc ys := by
              have hbs := HBS.out.later (hbW.trans (HBX.out.mono hM.bw)) (by rw [hB]; exact Nat.le_refl B)
              refine ⟨hbs, fun x hx => Or.inl ?_⟩
              subst hx
              obtain ⟨bb, ob, e1, e2, e3⟩ := HBS.out.place (by omega)
              simp only [Option.some.injEq] at e1
              subst e1
              rw [← hB]
              exact block_lt_of_cell (e3 0 (by omega))
            refine (Put_ok hg0.out hM1 hTr (by omega) (ys, [j]) ⟨?_, ?_, ?_, ?_, ?_⟩ (kn := m) (vn := 1) HBS.out.hlen rfl hkb (bk_const HVX.out (by omega)) (by omega) (by omega) (by omega)).mono ?_
            · intro q9
              have := HBS.out.hlen
              have q9 : ys = [] := q9
              rw [q9] at this
              simp at this
              omega
            · show ys.length ≤ 64
              rw [HBS.out.hlen]; exact m64
            · show (1 : Nat) ≤ 1800
              decide
            · exact HBS.out.hbyte
            · intro c hc
              simp only [List.mem_singleton] at hc
              subst hc
              omega
            · rintro e w' ⟨rfl, hp⟩
              exact ⟨0, rfl, PLI.put hM1 hTr hl1 hm1 hc1 (hbW.trans (HBX.out.mono hM.bw)) hj hp⟩
        clear hM hTr hbW hcp hm hcb hjj hd
        go_upto_region 7 with fail
        refine wp_region_noPanic ?_
        refine wp_region_held_drew (S := fun wx => wx.cell? ⟨b0, o0 + j, none⟩ = some (.slice aa ll cc)) (by kernel_rfl) HX0.out (fun hHeld => ?_)
        refine wpAnyH_tk 0 36 (v := ?va0) ?hya0 ?_
        case hya0 => intro oi ho; simp only [List.getElem?_toArray, List.getElem?_cons_zero, Option.some.injEq] at ho; subst ho; refine Or.inl ⟨by rfl, ?_⟩; intro wx hSw; (try dsimp only at hSw); go_simp; try rfl
        try simp only [Act.put, List.setIfInBounds_toArray, List.set_cons_zero, List.set_cons_succ]
        refine wpAnyH_tk 1 37 (v := ?va1) ?hya1 ?_
        case hya1 => intro oi ho; simp only [List.getElem?_toArray, List.getElem?_cons_succ, List.getElem?_cons_zero, Option.some.injEq] at ho; subst ho; refine Or.inl ⟨by rfl, ?_⟩; intro wx hSw; (try dsimp only at hSw); go_simp; try rfl
        try simp only [Act.put, List.setIfInBounds_toArray, List.set_cons_zero, List.set_cons_succ]
        refine wpAnyH_tk 2 38 (v := ?va2) ?hya2 ?_
        case hya2 => intro oi ho; simp only [List.getElem?_toArray, List.getElem?_cons_succ, List.getElem?_cons_zero, Option.some.injEq] at ho; subst ho; refine Or.inl ⟨by rfl, ?_⟩; intro wx hSw; (try dsimp only at hSw); go_simp; try rfl
        try simp only [Act.put, List.setIfInBounds_toArray, List.set_cons_zero, List.set_cons_succ]
        refine wpAnyH_tk 3 39 (v := ?va3) ?hya3 ?_
        case hya3 => intro oi ho; simp only [List.getElem?_toArray, List.getElem?_cons_succ, List.getElem?_cons_zero, Option.some.injEq] at ho; subst ho; refine Or.inl ⟨by rfl, ?_⟩; intro wx hSw; (try dsimp only at hSw); go_simp; try rfl
        try simp only [Act.put, List.setIfInBounds_toArray, List.set_cons_zero, List.set_cons_succ]
        refine wpAnyH_tk 4 40 (v := ?va4) ?hya4 ?_
        case hya4 => intro oi ho; simp only [List.getElem?_toArray, List.getElem?_cons_succ, List.getElem?_cons_zero, Option.some.injEq] at ho; subst ho; refine Or.inl ⟨by rfl, ?_⟩; intro wx hSw; (try dsimp only at hSw); go_simp; try rfl
        try simp only [Act.put, List.setIfInBounds_toArray, List.set_cons_zero, List.set_cons_succ]
        refine wpAnyH_tk 5 41 (v := ?va5) ?hya5 ?_
        case hya5 => intro oi ho; simp only [List.getElem?_toArray, List.getElem?_cons_succ, List.getElem?_cons_zero, Option.some.injEq] at ho; subst ho; refine Or.inl ⟨by rfl, ?_⟩; intro wx hSw; (try dsimp only at hSw); go_simp; try rfl
        try simp only [Act.put, List.setIfInBounds_toArray, List.set_cons_zero, List.set_cons_succ]
        refine wpAnyH_tk 6 42 (v := ?va6) ?hya6 ?_
        case hya6 => intro oi ho; simp only [List.getElem?_toArray, List.getElem?_cons_succ, List.getElem?_cons_zero, Option.some.injEq] at ho; subst ho; refine Or.inl ⟨by rfl, ?_⟩; intro wx hSw; (try dsimp only at hSw); go_simp; try rfl
        try simp only [Act.put, List.setIfInBounds_toArray, List.set_cons_zero, List.set_cons_succ]
        refine wpAnyH_tk 7 43 (v := ?va7) ?hya7 ?_
        case hya7 => intro oi ho; simp only [List.getElem?_toArray, List.getElem?_cons_succ, List.getElem?_cons_zero, Option.some.injEq] at ho; subst ho; refine Or.inl ⟨by rfl, ?_⟩; intro wx hSw; (try dsimp only at hSw); go_simp; try rfl
        try simp only [Act.put, List.setIfInBounds_toArray, List.set_cons_zero, List.set_cons_succ]
        refine wpAnyH_tk 8 44 (v := ?va8) ?hya8 ?_
        case hya8 => intro oi ho; simp only [List.getElem?_toArray, List.getElem?_cons_succ, List.getElem?_cons_zero, Option.some.injEq] at ho; subst ho; refine Or.inl ⟨by rfl, ?_⟩; intro wx hSw; (try dsimp only at hSw); go_simp; try rfl
        try simp only [Act.put, List.setIfInBounds_toArray, List.set_cons_zero, List.set_cons_succ]
        refine wpAnyH_tk 9 45 (v := ?va9) ?hya9 ?_
        case hya9 => intro oi ho; simp only [List.getElem?_toArray, List.getElem?_cons_succ, List.getElem?_cons_zero, Option.some.injEq] at ho; subst ho; refine Or.inl ⟨by rfl, ?_⟩; intro wx hSw; (try dsimp only at hSw); go_simp; try rfl
        try simp only [Act.put, List.setIfInBounds_toArray, List.set_cons_zero, List.set_cons_succ]
        refine wpAnyH_tk 10 46 (v := ?va10) ?hya10 ?_
        case hya10 => intro oi ho; simp only [List.getElem?_toArray, List.getElem?_cons_succ, List.getElem?_cons_zero, Option.some.injEq] at ho; subst ho; refine Or.inl ⟨by rfl, ?_⟩; intro wx hSw; (try dsimp only at hSw); go_simp; try rfl
        try simp only [Act.put, List.setIfInBounds_toArray, List.set_cons_zero, List.set_cons_succ]
        refine wpAnyH_tk 11 47 (v := ?va11) ?hya11 ?_
        case hya11 => intro oi ho; simp only [List.getElem?_toArray, List.getElem?_cons_succ, List.getElem?_cons_zero, Option.some.injEq] at ho; subst ho; refine Or.inl ⟨by rfl, ?_⟩; intro wx hSw; (try dsimp only at hSw); go_simp; try rfl
        try simp only [Act.put, List.setIfInBounds_toArray, List.set_cons_zero, List.set_cons_succ]
        refine wpAnyH_tk 12 48 (v := ?va12) ?hya12 ?_
        case hya12 => intro oi ho; simp only [List.getElem?_toArray, List.getElem?_cons_succ, List.getElem?_cons_zero, Option.some.injEq] at ho; subst ho; refine Or.inl ⟨by rfl, ?_⟩; intro wx hSw; (try dsimp only at hSw); go_simp; try rfl
        try simp only [Act.put, List.setIfInBounds_toArray, List.set_cons_zero, List.set_cons_succ]
        refine wpAnyH_tk 13 49 (v := ?va13) ?hya13 ?_
        case hya13 => intro oi ho; simp only [List.getElem?_toArray, List.getElem?_cons_succ, List.getElem?_cons_zero, Option.some.injEq] at ho; subst ho; refine Or.inl ⟨by rfl, ?_⟩; intro wx hSw; (try dsimp only at hSw); go_simp; try rfl
        try simp only [Act.put, List.setIfInBounds_toArray, List.set_cons_zero, List.set_cons_succ]
        refine wpAnyH_cm 14 ?_; intro o ho K hK; simp only [List.getElem?_toArray, List.getElem?_cons_succ, List.getElem?_cons_zero, Option.some.injEq] at ho; subst ho
        go_simp
        clear hHeld
        refine hK.out _ _ HX1.out (fun hHeld => ?_)
        clear hK K
        try simp only [Act.put, List.setIfInBounds_toArray, List.set_cons_zero, List.set_cons_succ]
        refine wpAnyH_cm 15 ?_; intro o ho K hK; simp only [List.getElem?_toArray, List.getElem?_cons_succ, List.getElem?_cons_zero, Option.some.injEq] at ho; subst ho
        go_simp
        refine HPU.out.mono ?_
        rintro e w3 ⟨r3, rfl, hP3⟩
        have HP3 := hide hP3
        have HX3 : Hid ((fun wx => wx.cell? ⟨b0, o0 + j, none⟩ = some (.slice aa ll cc)) w3) := by
          obtain ⟨_, _, _, _, _, _, _, _, _, _, h9⟩ := hP3
          exact (h9.cell (p := ⟨b0, o0 + j, none⟩) (by rw [← hB]; exact block_lt_of_cell HC0.out)).trans HC0.out
        clear hP3 hHeld
        refine hK.out _ _ HX3.out (fun hHeld => ?_)
        clear hK K
        try simp only [Act.put, List.setIfInBounds_toArray, List.set_cons_zero, List.set_cons_succ]
        refine wpAnyH_done (by kernel_rfl) ?_ _
        refine NoPanic.normal ?_
        clear hHeld HX0 HX1 HX3
        go_wp2_with fail
        go_roundw
        case rel => exact ⟨j + 1, by omega, by go_num, HP3.out⟩
        case measure => simp [intOf]; omega
      | false =>
        obtain ⟨s, t, now, left, l, hM, hTr, hl1, hm1, hc1, hbW⟩ := HP.out
        have HM := hide hM
        have HTR := hide hTr
        have HBW := hide hbW
        have hd := hTr.depth80 (by omega)
        have HD : Hid (now.depth < 100000) := by show _ < _; omega
        have HL40 : Hid (l.length ≤ 40) := Nat.le_trans hl1 hj
        clear hM hTr hbW hcb hl1 hm1 hc1 hd HP
        obtain ⟨m, hm⟩ : ∃ m, m = min n1 64 := ⟨_, rfl⟩
        have hcp := H1.out.hcap
        have hmx := H1.out.hmax
        have e0 : (if (64 : Int) < (n1 : Int) then (64 : Int) else (n1 : Int)) = (m : Int) := by split <;> omega
        have em : min (n1 : Int) 64 = (m : Int) := by omega
        have u0 : (0 : Int) ≤ (m : Int) := by omega
        have v0 : (m : Int) ≤ (c1 : Int) := by omega
        have y0 : (c1 : Int) ≤ 9223372036854775807 := by omega
        have m64 : m ≤ 64 := by omega
        have HCT : Hid (0 < m → BK B wr a1 m c1 (xs.take m)) := by
          intro hm0
          have hbs : BS W a1 m c1 (xs.take m) := by
            have h9 := H1.out
            refine ⟨?_, by omega, by have := h9.hroom; omega, h9.hmax, fun n hn => h9.hbyte n (List.mem_of_mem_take hn), h9.hnil, fun x hx i hi => ?_⟩
            · rw [List.length_take, h9.hlen]; omega
            · rw [h9.hcell x hx i (by omega)]
              congr 2
              rw [List.getD_eq_getElem?_getD, List.getD_eq_getElem?_getD, List.getElem?_take, if_pos hi]
          refine ⟨hbs.later HBW.out (by rw [hB]; exact Nat.le_refl B), fun x hx => Or.inl ?_⟩
          subst hx
          obtain ⟨bb, ob, e1, e2, e3⟩ := hbs.place (by omega)
          simp only [Option.some.injEq] at e1
          subst e1
          rw [← hB]
          exact block_lt_of_cell (e3 0 (by omega))
        have HXL : Hid ((xs.take m).length = m) := by show _ = _; rw [List.length_take, H1.out.hlen]; omega
        have HALL : Hid (rngL l [] [] 999 = l) := by
          show _ = _
          rw [rngL_take l [] (by decide), frm_nil, List.take_of_length_le (by have := HL40.out; omega)]
        have HSRT := hide HTR.out.srt
        have HRA := hide (Range_ok (most := 999) (lo := []) (hi := []) HM.out HTR.out HD.out rfl rfl (BK.nil _ _) (BK.nil _ _) (by decide) (by decide) (by decide) (by decide))
        rw [HALL.out] at HRA
        have HBw : Hid (B ≤ wr.heap.size) := HM.out.bw
        clear hm hcp hmx
        generalize xs.take m = cut at *
        go_wp2_with fail
        refine HRA.out.mono ?_
        rintro e w2 ⟨fva, rfl, hpa, hb2⟩
        obtain ⟨faa, fac, hfa⟩ := hpa.form
        subst hfa
        have HPA := hide hpa
        have HB2 := hide hb2
        have HM2 := hide (HM.out.later hb2)
        have HBw2 : Hid (B ≤ w2.heap.size) := Nat.le_trans HBw.out hb2.size
        clear hpa hb2 HRA
        generalize hLL : l.length = LL at *
        go_upto_if 64 with fail
        generalize hcm : decide (0 < m) = cm
        have HCM := hide hcm
        clear hcm
        go_cut [] from 65 to 90 (fun wx => Below w2.heap.size w2 wx)
        case first =>
          cases cm with
          | true =>
            have hm0 : 0 < m := by simpa using HCM.out
            have xm : (0 : Int) < (m : Int) := by omega
            have hct := (HCT.out hm0).later HB2.out HBw.out
            have HK2 := hide hct
            have HR1 := hide (Range_ok (most := 999) (lo := []) (hi := cut) HM2.out HTR.out HD.out rfl HXL.out (BK.nil _ _) hct (by decide) m64 (by decide) (by decide))
            have HCE : Hid (cut ≠ []) := by
              intro q9
              have := HXL.out
              rw [q9] at this
              simp at this
              omega
            clear hct hm0
            go_wp2_with fail
            refine HR1.out.mono ?_
            rintro e w3 ⟨fv3, rfl, hp3, hb3⟩
            have HPL := hide hp3
            have HB3 := hide hb3
            have HM3 := hide (HM2.out.later hb3)
            obtain ⟨f3a, f3c, hf3⟩ := hp3.form
            subst hf3
            have HR2 := hide (Range_ok (most := 999) (lo := cut) (hi := []) HM3.out HTR.out HD.out HXL.out rfl (HK2.out.later hb3 HBw2.out) (BK.nil _ _) m64 (by decide) (by decide) (by decide))
            have HBw3 : Hid (B ≤ w3.heap.size) := Nat.le_trans HBw2.out hb3.size
            clear hp3 hb3 HR1
            generalize hl3 : (rngL l [] cut 999).length = l3 at *
            go_wp2_with fail
            refine HR2.out.mono ?_
            rintro e w4 ⟨fv4, rfl, hp4, hb4⟩
            obtain ⟨f4a, f4c, hf4⟩ := hp4.form
            subst hf4
            have HPH := hide hp4
            have HB4 := hide hb4
            have HPL4 := hide (HPL.out.later hb4 HBw3.out)
            have HPA4 := hide ((HPA.out.later HB3.out HBw2.out).later hb4 HBw3.out)
            have HBw4 : Hid (w2.heap.size ≤ w4.heap.size) := Nat.le_trans HB3.out.size hb4.size
            have HCA : Hid (rngL l [] cut 999 ++ rngL l cut [] 999 = l) := by
              show _ = _
              rw [rngL_take l cut (by decide), rngL, frm_nil, scan_hi cut l [] (by have := HL40.out; simp; omega), List.nil_append, List.take_of_length_le]
              · exact cut_all HCE.out HSRT.out
              · have h9 : (frm l cut).length ≤ l.length := List.length_filter_le _ _
                have := HL40.out
                omega
            clear hp4 hb4 HR2
            generalize hl4 : (rngL l cut [] 999).length = l4 at *
            have HLS : Hid ((rngL l [] cut 999).length + (rngL l cut [] 999).length ≤ 100000) := by
              show _ ≤ _
              rw [← List.length_append, HCA.out]
              have := HL40.out
              omega
            go_wp2_with (at_builtin; refine wpList_append_prw (by rfl) (.tmp 84) (.tmp 85) rfl rfl rfl HPL4.out HPH.out HBw2.out HBw4.out HLS.out ?_; intro v5 w5 hp5 hf5 hb5 hk5; have HP5 := hide hp5; have HF5 := hide hf5; have HB5 := hide hb5; have HK5 := hide hk5; clear hp5 hf5 hb5 hk5; rw [HCA.out] at HP5)
            have HPA5 : Hid (PRW B wr.heap.size w5 (.slice faa LL fac) l) := HPA4.out.keep HF5.out (fun k hk => HB5.out.block k (by
              have := HPA.out.blk hk
              omega))
            have HSM := hide (same_ok HP5.out HPA5.out (by have := HL40.out; omega))
            refine HSM.out.mono ?_
            rintro e w6 ⟨rfl, hb6⟩
            have HB6 : Hid (Below w2.heap.size w2 w6) := ((HB3.out.trans (HB4.out.mono HB3.out.size)).trans HB5.out).trans (hb6.mono (Nat.le_trans HBw4.out HB5.out.size))
            clear hb6
            go_wp2
            go_meet
            exact HB6.out
          | false =>
            go_wp2
            go_meet
            exact Below.refl _ _
        case rest =>
          have HBC := hide hcut
          have HMC := hide (HM2.out.later hcut)
          have HPAC := hide (HPA.out.later hcut HBw2.out)
          have HBwC : Hid (B ≤ wc.heap.size) := Nat.le_trans HBw2.out hcut.size
          have HBWC : Hid (Below B W wc) := HBW.out.trans ((HB2.out.trans (hcut.mono HB2.out.size)).mono HBw.out)
          clear hcut
          obtain ⟨mm, hmm, hm7⟩ : ∃ mm : Nat, bits .and .i64 a2 7 = (mm : Int) ∧ mm ≤ 7 := by
            have h9 := i64_mask a2 3 (by decide) 7 (by decide)
            refine ⟨(a2 % 8).toNat, ?_, ?_⟩
            · rw [h9, Int.toNat_of_nonneg (by omega)]
              rfl
            · omega
          generalize hBo : wc.heap.size = Bo at *
          go_wp2_with fail
          go_loopw [16, 17] (fun vo vl wx => ∃ k, PCI B Bo wc l k vo vl wx) (fun vo _ _ => 41 - lenV vo)
          case atStart => exact ⟨0, [], PRW.nil _ _ _, ⟨none, 0, rfl, BK.nil _ _⟩, by decide, frm_nil l, Nat.zero_le _, Below.refl _ _⟩
          case round =>
            obtain ⟨k, lo, hpr, ⟨la, lc, rfl, hbk⟩, hl64, hfr, hk, hbl⟩ := hrel
            obtain ⟨oa, oc, ho⟩ := hpr.form
            subst ho
            rw [← hBo] at hbl
            have hMr := HMC.out.later hbl
            have HR := hide (Range_ok (most := mm + 1) (lo := lo) (hi := []) hMr HTR.out HD.out rfl rfl hbk (BK.nil _ _) hl64 (by decide) (by omega) (by omega))
            rw [piece (by omega) hfr] at HR
            have HPR := hide hpr
            have HBL := hide hbl
            have HBwr : Hid (B ≤ wr.heap.size) := by
              have h9 := hbl.size
              rw [hBo] at h9
              exact Nat.le_trans HBwC.out h9
            have HKL := hide hk
            have HPN : Hid (((l.drop k).take (mm + 1)).length ≤ mm + 1) := by show _ ≤ _; rw [List.length_take]; omega
            have HTL : Hid ((l.take k).length ≤ 40) := by show _ ≤ _; rw [List.length_take]; have := HL40.out; omega
            have HMO := hide (piece_more (k := k) (most := mm + 1) HSRT.out (by omega))
            have HLS := hide (piece_last (l := l) (k := k) (most := mm + 1))
            have e1 : ((mm : Int) + 1) = ((mm + 1 : Nat) : Int) := by omega
            clear hMr hpr hbl hbk hl64 hfr hk
            generalize hpc : (l.drop k).take (mm + 1) = pc at *
            generalize hto : l.take k = tk at *
            generalize hN3 : pc.length = n3 at *
            generalize hN4 : tk.length = n4 at *
            have HE1 := hide e1
            have HN3 := hide hN3
            have HN4 := hide hN4
            have HPC := hide hpc
            have HTO := hide hto
            clear e1 hN3 hN4 hpc hto
            go_wp2_with fail
            rw [HE1.out]
            refine HR.out.mono ?_
            rintro e w3 ⟨fv3, rfl, hp3, hb3⟩
            obtain ⟨ga, gc, hf3⟩ := hp3.form
            rw [HN3.out] at hf3
            subst hf3
            have HP3 := hide hp3
            have HB3 := hide hb3
            have HPO := hide (HPR.out.later hb3 HBwr.out)
            clear hp3 hb3 HR
            have x1 : ¬ ((n3 : Int) > (mm : Int) + 1) := by have := HPN.out; omega
            have x2 : ¬ ((mm : Int) + 1 < (n3 : Int)) := by have := HPN.out; omega
            have x6 : (n3 : Int) ≤ (mm : Int) + 1 := by omega
            have HLL : Hid (tk.length + pc.length ≤ 100000) := by show _ ≤ _; rw [HN3.out, HN4.out]; have := HPN.out; have := HTL.out; omega
            have HBo3 : Hid (Bo ≤ w3.heap.size) := by show _ ≤ _; rw [← hBo]; exact Nat.le_trans HBL.out.size HB3.out.size
            have HBB : Hid (B ≤ Bo) := HBwC.out
            have HBO := hide hBo
            clear hBo
            have HB3C : Hid (Below wc.heap.size wc w3) := HBL.out.trans (HB3.out.mono HBL.out.size)
            by_cases hlt : n3 < mm + 1
            · have x3 : (n3 : Int) < (mm : Int) + 1 := by omega
              have HLT := hide hlt
              clear hlt
              go_wp2_with (at_builtin; refine wpList_append_prw (by rfl) (.tmp 109) (.tmp 110) rfl rfl rfl HPO.out HP3.out HBB.out HBo3.out HLL.out ?_; intro v5 w5 hp5 hf5 hb5 hk5; obtain ⟨ob, ocb, ho5⟩ := hp5.form; rw [List.length_append, HN3.out, HN4.out] at ho5; subst ho5; have HP5 := hide hp5; have HF5 := hide hf5; have HB5 := hide hb5; have HK5 := hide hk5; clear hp5 hf5 hb5 hk5)
              have HB5C : Hid (Below wc.heap.size wc w5) := HB3C.out.trans (by rw [HBO.out]; exact HB5.out)
              refine (told_any w5).mono ?_
              rintro e w6 ⟨rfl, hb6⟩
              have HP6 := hide (HP5.out.later hb6 (Nat.le_trans HBB.out (Nat.le_trans HBo3.out HF5.out.1.size)))
              rw [HLS.out HLT.out] at HP6
              have HB6C : Hid (Below wc.heap.size wc w6) := HB5C.out.trans (hb6.mono HB5C.out.size)
              have HPA6 := hide (HPAC.out.later HB6C.out (by rw [HBO.out]; exact HBB.out))
              clear hb6
              go_wp2_with fail
              refine (same_ok HP6.out HPA6.out (by have := HL40.out; omega)).mono ?_
              rintro e w7 ⟨rfl, hb7⟩
              have HB7C : Hid (Below wc.heap.size wc w7) := HB6C.out.trans (hb7.mono HB6C.out.size)
              clear hb7
              go_wp2
              go_ret
              exact ⟨rfl, HBWC.out.trans (HB7C.out.mono (by rw [HBO.out]; exact HBB.out))⟩
            · obtain rfl : n3 = mm + 1 := by have := HPN.out; omega
              obtain ⟨x, hx, hf, hle, hmem, hap⟩ := HMO.out rfl
              have HX := hide hx
              have HF := hide hf
              have HLE := hide hle
              have HAP := hide hap
              have HOK := hide (HTR.out.ok x hmem)
              clear hx hf hle hmem hap hlt x1 x2 x6
              go_upto_region 22 with (at_builtin; refine wpList_append_prw (by rfl) (.tmp 109) (.tmp 110) rfl rfl rfl HPO.out HP3.out HBB.out HBo3.out HLL.out ?_; intro v5 w5 hp5 hf5 hb5 hk5; obtain ⟨ob, ocb, ho5⟩ := hp5.form; rw [List.length_append, HN3.out, HN4.out] at ho5; subst ho5; have HP5 := hide hp5; have HF5 := hide hf5; have HB5 := hide hb5; have HK5 := hide hk5; clear hp5 hf5 hb5 hk5)
              have HB5C : Hid (Below wc.heap.size wc w5) := HB3C.out.trans (by rw [HBO.out]; exact HB5.out)
              have HBw5 : Hid (B ≤ w5.heap.size) := Nat.le_trans HBB.out (Nat.le_trans HBo3.out HF5.out.1.size)
              have HPP := hide (HP3.out.keep HF5.out (fun k hk => HK5.out k (HP3.out.blk hk).2 (fun q => by
                have h1 := (HP3.out.blk hk).1
                have h2 := (HPR.out.blk q.symm).2
                omega)))
              obtain ⟨gk, gc', ka, kc, va, vc, ev, _, q1, _, b1, _⟩ := HPP.out.at (j := mm) (it := x) HX.out
              have ega : ga = some ⟨gk, 0, none⟩ := by
                simp only [Value.slice.injEq] at ev
                exact ev.1
              have HB1 := hide b1
              have HK1 : Hid (x.1.length ≤ 64) := HOK.out.k1
              have HCP := hide (copied_any (B := B) b1.1 (by have := HK1.out; omega))
              subst ega
              clear ev b1
              generalize hkn : x.1.length = kn at *
              have HKN := hide hkn
              clear hkn
              go_wp2_with fail
              refine HCP.out.mono ?_
              rintro e w6 ⟨v6, rfl, ho6, hb6⟩
              have HB6 := hide hb6
              have HBA : Hid (Below w6.heap.size w6 (w6.alloc (.cells #[.int .u8 0] 5))) := below_box w6 _
              have HO7 : Hid ((w6.alloc (.cells #[.int .u8 0] 5)).ownsRow w5.heap.size 5 1 v6 kn (cellsOf x.1)) := own_stay ho6 fun k cs _ e2 => (HBA.out.block k (Array.getElem?_eq_some_iff.1 e2).1).trans e2
              have HC7 : Hid ((w6.alloc (.cells #[.int .u8 0] 5)).heap[w6.heap.size]? = some (.cells #[.int .u8 0] 5 (0, 0))) := heap_alloc_new w6 _
              have HS7 : Hid (w5.heap.size ≤ (w6.alloc (.cells #[.int .u8 0] 5)).heap.size) := Nat.le_trans hb6.size HBA.out.size
              have HB7 : Hid (Below w5.heap.size w5 (w6.alloc (.cells #[.int .u8 0] 5))) := hb6.trans (HBA.out.mono hb6.size)
              clear ho6 hb6 HCP
              by_cases h64 : kn + 1 ≤ 64
              · have x7 : ¬ (64 : Int) < (kn : Int) + 1 := by omega
                have x8 : ¬ ((kn : Int) + 1 > 64) := by omega
                have x9 : ¬ 64 < kn + 1 := by omega
                have H64 := hide h64
                clear h64
                go_wp2_with (at_builtin; refine wpList_next (B := B) (by rfl) (.tmp 122) (.tmp 123) rfl rfl rfl HKN.out HO7.out HOK.out.kb (by have := HK1.out; omega) HS7.out HC7.out ?_; intro nb nc w8 hk8 hb8; have HK8 := hide hk8; have HB8 := hide hb8; clear hk8 hb8)
                have HB58 : Hid (Below w5.heap.size w5 w8) := HB7.out.trans HB8.out
                have HPX := hide (HP5.out.later HB58.out HBw5.out)
                rw [HAP.out] at HPX
                have HX9 : Hid ((x.1 ++ [0]).length = kn + 1) := by show _ = _; rw [List.length_append, HKN.out]; rfl
                have HB8C : Hid (Below wc.heap.size wc w8) := HB5C.out.trans (HB58.out.mono HB5C.out.size)
                go_roundw
                case rel => exact ⟨k + (mm + 1), x.1 ++ [0], HPX.out, ⟨nb, nc, by rw [HX9.out], by rw [HX9.out]; exact HK8.out⟩, by rw [HX9.out]; exact H64.out, HF.out, HLE.out, by have h9 := HB8C.out; rw [HBO.out] at h9; exact h9⟩
                case measure =>
                  have := HTL.out
                  simp [lenV]
                  omega
              · have x7 : (64 : Int) < (kn : Int) + 1 := by omega
                have x9 : 64 < kn + 1 := by omega
                clear h64
                go_wp2_with (at_builtin; refine wpList_next (B := B) (by rfl) (.tmp 122) (.tmp 123) rfl rfl rfl HKN.out HO7.out HOK.out.kb (by have := HK1.out; omega) HS7.out HC7.out ?_; intro nb nc w8 hk8 hb8; have HK8 := hide hk8; have HB8 := hide hb8; clear hk8 hb8)
                refine (told_any w8).mono ?_
                rintro e w9 ⟨rfl, hb9⟩
                have HB9C : Hid (Below wc.heap.size wc w9) := (HB5C.out.trans ((HB7.out.trans HB8.out).mono HB5C.out.size)).trans (hb9.mono (Nat.le_trans HB5C.out.size (Nat.le_trans HB7.out.size HB8.out.size)))
                clear hb9
                go_wp2
                go_ret
                exact ⟨rfl, HBWC.out.trans (HB9C.out.mono (by rw [HBO.out]; exact HBB.out))⟩
end Go.Proofs.YtnfponcadkmfjabGreat
namespace Go.Proofs.YtnfponcadkmfjabGreat
open Go.ChangeShapes Go.WideShapes Go.ChangeAt Go.RowKit
set_option linter.unusedVariables false
set_option maxRecDepth 100000 in
theorem treePieces_lifted (os : Os) (started : os.Started) (H : Type) (enc : TypeId × Value → H) :
    ReturnsInHanded {} Tryz.checked os 3 .any (Rows.treePiecesSpec.pre6 enc Tryz.prog Tryz.f3 Rows.treePiecesRow.domain false) (Rows.treePiecesSpec.post enc Tryz.prog Tryz.f3 false true false false) := by
  refine returnsInHanded_of_change_sized (C := Tryz.checked) own started (by kernel_rfl) Tryz.func3
    (ChangeSpec.witness6 (enc := enc) (C := Tryz.checked) false ⟨#[], #[.slice none 0 0, .slice none 0 0, .int .i64 0], []⟩ 8 (by kernel_rfl) (by kernel_rfl) (by kernel_rfl) (by kernel_rfl)) ?_
  intro W base args ds gs before hval0 hW hcnd hsz0 _
  have hval : ∀ (j : Nat) t v, Tryz.f3.params[j]? = some t → args[j]? = some v → Value.okWide Tryz.prog W .any base t v := hval0
  have hsz : (DataW.weightsEach Tryz.prog (Tryz.f3.params.toList ++ Rows.treePiecesSpec.plain.varTypes Tryz.prog) (ds ++ gs)).all (· ≤ reachBytes) = true := hsz0
  have hW' := hW
  obtain ⟨p, q, hA0, hV, rfl, hfz, hnd⟩ := hW
  have hA : DataW.TrodAll enc Tryz.prog W 0 (fun _ => true) true Tryz.f3.params.toList args.toList ds p := hA0
  rw [Tryz.params3] at hA hval hsz
  obtain ⟨v0, vs0, d0, ds0, p0, q0, hargs, rfl, rfl, h0, r0⟩ := trodAll_cons hA
  obtain ⟨v1, vs1, d1, ds1, p1, q1, rfl, rfl, rfl, h1, r1⟩ := trodAll_cons r0
  obtain ⟨v2, vs2, d2, ds2, p2, q2, rfl, rfl, rfl, h2, r2⟩ := trodAll_cons r1
  obtain ⟨rfl, rfl, rfl⟩ := trodAll_nil r2
  obtain rfl : args = #[v0, v1, v2] := by cases args; simp_all
  obtain ⟨rfl, rfl⟩ := trodVars_none hV
  obtain ⟨a0, len0, cap0, rfl⟩ := okWide_slice Tryz.underlying22 (hval 0 22 v0 rfl rfl)
  have k0 := h0
  have lt0 : ∀ x ∈ p0, x.block < W.heap.size := by obtain ⟨m, hm⟩ := k0; exact DataW.trod_lt m _ _ _ hm
  obtain ⟨b0, o0, A0, L0, C0, tf0, w0⟩ := open_texts 64 (by omega) h0
  obtain ⟨a1, len1, cap1, rfl⟩ := okWide_slice Tryz.underlying23 (hval 1 23 v1 rfl rfl)
  have k1 := h1
  have lt1 : ∀ x ∈ p1, x.block < W.heap.size := by obtain ⟨m, hm⟩ := k1; exact DataW.trod_lt m _ _ _ hm
  obtain ⟨xs1, w1, s1⟩ := open_bs 1 hsz rfl rfl h1
  obtain ⟨a2, rfl, rfl, rfl, w2⟩ := open_int Tryz.underlying3 (hval 2 3 v2 rfl rfl) h2
  clear hA0 hval0 hsz0
  refine (treePieces_walk a0 len0 cap0 b0 o0 A0 L0 C0 tf0 a1 len1 cap1 xs1 a2 W w0 w1).mono fun e W' ⟨he, bel⟩ => ?_
  subst he
  exact ⟨_, rfl, _, _, _, [], _, [], hW', trodAll_mk1 (shut_bool Tryz.underlying4 _), (trodAll_cons_mk (Below.trod laidOut (by kernel_rfl) (of_decide_eq_true (by kernel_rfl)) k0 bel lt0) (trodAll_cons_mk (Below.trod laidOut (by kernel_rfl) (of_decide_eq_true (by kernel_rfl)) k1 bel lt1) (trodAll_cons_mk (shut_int Tryz.underlying3 w2) trodAll_mk0))), rfl, bel.frame _, fun h => by cases h⟩
theorem treePieces_holds : Rows.TreePiecesSaid :=
  OpenClaim.holds_of_wide 3 Tryz.f3 rfl rfl rfl rfl rfl rfl rfl ⟨rfl, rfl, rfl, rfl, rfl⟩ rfl rfl rfl rfl rfl (by kernel_rfl) Tryz.func3 (by kernel_rfl)
    (of_decide_eq_true (by kernel_rfl)) (by unfold Func.isWrapper; first | (rw [if_pos (by decide +kernel)]; kernel_rfl) | (rw [if_neg (by decide +kernel)]; exact ⟨rfl, rfl⟩))
    (fun os started H enc _ => treePieces_lifted os started H enc)
#print axioms treePieces_holds
end Go.Proofs.YtnfponcadkmfjabGreat
