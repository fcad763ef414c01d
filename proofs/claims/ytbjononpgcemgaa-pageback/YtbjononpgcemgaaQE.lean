/- The walk of the law PageBack: whatever texts, bools and number, it returns true and writes nothing that was there. -/
import Derived.Test.YtbjononpgcemgaaQD
import Derived.Test.YtbjononpgcemgaaF4
import Derived.Deep.CutRange
set_option linter.unusedVariables false
namespace Go.Proofs.Ytbjononpgcemgaa
open Go.RowKit

theorem info_str : (Try.prog.info? 9).map (fun i => (i.zero, i.size, i.bytes)) = some (some (.string ⟨#[]⟩), 1, 16) := by kernel_rfl
theorem show_fresh (n b : Nat) : (DS.new n).show b = [] := by
  have e : (DS.new n).idx b = [] := rfl
  unfold DS.show
  rw [e]
  exact new_K n b
theorem committed_calm (n M N : Nat) : PS.committed ⟨bst n M 0 (fun _ => false), 0, N, 0⟩ 0 = ⟨bst n M 0 (fun _ => false), 0, N + 1, 0⟩ := by
  unfold PS.committed
  rw [bst_calm]
theorem set_put {n M : Nat} (h : 2 + M < n) : PS.set ⟨bst n M 0 (fun _ => false), 0, 0, 0⟩ (2 + M) 2 = ⟨bst n (M + 1) 0 (fun _ => false), 0, 0, 0⟩ := by
  unfold PS.set
  rw [bst_put h]
theorem set_fill {n M C : Nat} (F : Nat → Bool) (h : 2 + M + C < n) : PS.set ⟨bst n M C F, 0, 1, 0⟩ (2 + M + C) 2 = ⟨bst n M (C + 1) F, 0, 1, 0⟩ := by
  unfold PS.set
  rw [bst_fill F h]
theorem set_free {n M k : Nat} {gf : Nat → Bool} (h : 2 + M ≤ n) (hk : k < M) (hg : gf k = true) : PS.set ⟨bst n M 0 (Fk gf k), 0, 1, 0⟩ (2 + k) 3 = ⟨bst n M 0 (Fk gf (k + 1)), 0, 1, 0⟩ := by
  unfold PS.set
  rw [bst_free _ h hk, Fk_yes hg]
theorem of_natB (t : PS) (i : Nat) : t.of (i : Int) = t.st.getD i 0 := by unfold PS.of; rw [if_pos (by omega), Int.toNat_natCast]

set_option maxRecDepth 100000 in
set_option maxHeartbeats 16000000 in
theorem pageBack_walk (a1 : Option Addr) (T cap1 b1 o1 : Nat) (A : Nat → Option Addr) (L C : Nat → Nat) (tf : Nat → List Nat) (a2 : Option Addr) (n2 cap2 : Nat) (gf : Nat → Bool) (bl : Int) (w : World) (h1 : TXS w a1 T 100 b1 o1 A L C tf) (hn2 : n2 ≤ 9223372036854775807) (h2 : 0 < n2 → ∃ b o, a2 = some ⟨b, o, none⟩ ∧ ∀ i, i < n2 → w.cell? ⟨b, o + i, none⟩ = some (.bool (gf i))) :
    Calls Try.prog 5 #[.slice a1 T cap1, .slice a2 n2 cap2, .int .i64 bl] w fun e w' => e = .returned (.bool true) ∧ Below w.heap.size w w' := by
  have HB0 : Hid (w.heap.size ≤ w.heap.size) := Nat.le_refl _
  have H1 := hide h1
  have H2 := hide h2
  have t63 := h1.hl
  obtain ⟨nb, hnb⟩ : ∃ nb : Nat, bl % 16 = (nb : Int) := ⟨(bl % 16).toNat, by omega⟩
  have hmask : bits BinOp.and IntKind.i64 bl 15 = (nb : Int) := by rw [i64_and15]; exact hnb
  have nb16 : nb < 16 := by omega
  obtain ⟨n, hn⟩ : ∃ n, n = nb + 6 := ⟨_, rfl⟩
  have en : (nb : Int) + 6 = (n : Int) := by omega
  have n6 : 6 ≤ n := by omega
  have n21 : n ≤ 21 := by omega
  obtain ⟨s0, hs0⟩ : ∃ s, s = DS.new n := ⟨_, rfl⟩
  have HS0 := hide hs0
  have HBD0 : Hid (BD s0 n 0 0 tf) := by
    have b := bd_start n
    rw [← hs0] at b
    exact ⟨b.nn, b.dn, b.af, b.lf, b.mk2, fun i h => absurd h (Nat.not_lt_zero i)⟩
  have HL0 : Hid (lastH (rdH (pad (s0.show 0)) s0.n) (rdH (pad (s0.show 1)) s0.n) = some (0, 0)) := by
    show _ = _
    rw [hs0, show_fresh, show_fresh, rdH_zero]
    exact lastH_zero
  have HST0 := hide (bst_new n)
  obtain ⟨i0, hi, hz0, hz1, hz2⟩ := info_parts info_int
  obtain ⟨j0, hj, hy0, hy1, hy2⟩ := info_parts info_str
  have w6 : IntKind.i64.wrap ((nb : Int) + 6) = (n : Int) := by rw [IntKind.wrap_i64]; omega
  clear hs0 h1 h2 hnb hn
  go_enter Try.func5, Try.ntmps5
  go_wp2_with fail
  refine (@new_any ⟨none⟩ w.heap.size n w (by omega) (by omega) HB0.out rfl).mono ?_
  rintro e w1 ⟨p, rfl, hD1, hb1⟩
  rw [← HS0.out] at hD1
  have HD1 := hide hD1
  have HB1 := hide hb1
  clear hD1 hb1
  go_wp2_with fail
  refine (@open_ok ⟨none⟩ w.heap.size p s0 0 0 w1 HD1.out HB1.out.size HBD0.out.dn (by rw [HBD0.out.nn]; omega) HL0.out (by omega) (by omega)).mono ?_
  rintro e w2 ⟨q, rfl, hS2, hb2⟩
  rw [HBD0.out.nn, HBD0.out.lf, HST0.out] at hS2
  have HPW0 : Hid (PW p q s0 ⟨bst n 0 0 (fun _ => false), 0, 0, 0⟩ (.slice none 0 0) (.slice none 0 0) 0 (txs tf 0) w w2) := ⟨hS2, HB1.out.trans (hb2.mono HB1.out.size), World.ownsRow_nil _ _ _ _, World.ownsRow_nil _ _ _ _⟩
  clear hS2 hb2 HD1 HB1 HL0 HST0 hmask en w6
  go_wp2_with fail
  go_loopw [13, 11, 12] (fun i vi vs wr => ∃ M : Nat, i = .int .i64 M ∧ M ≤ T ∧ M + 3 ≤ n ∧ ∃ s : DS, PW p q s ⟨bst n M 0 (fun _ => false), 0, 0, 0⟩ vi vs M (txs tf M) w wr ∧ BD s n M M tf) (fun i _ _ _ => n - (intOf i).toNat)
  case atStart => exact ⟨0, rfl, by omega, by omega, s0, HPW0.out, HBD0.out⟩
  case round =>
    clear HPW0 HBD0 HS0 s0
    obtain ⟨M, rfl, hMT, hMn, s, hPW, hBD⟩ := hrel
    obtain ⟨ai, ci, hvi⟩ := own_slice hPW.hi
    obtain ⟨av, cv, hvs⟩ := own_slice hPW.hs
    rw [txs_len] at hvs
    subst hvi hvs
    have HPW := hide hPW
    have HBD := hide hBD
    clear hPW hBD
    obtain ⟨cb, HCB⟩ : ∃ cb, Hid (cb = decide (M < T ∧ M + 3 < n)) := ⟨_, rfl⟩
    go_upto_region 11 with fail
    go_cut [55] from 46 to 91 (fun c wx => c = .bool cb ∧ wx = wr)
    case first =>
      by_cases c1 : M < T
      · have i1 : (M : Int) < (T : Int) := by omega
        by_cases c2 : M + 3 < n
        · have i2 : (M : Int) < (n : Int) - 3 := by omega
          go_wp2
          go_meet
          case rel => exact ⟨by rw [HCB.out]; simp [c1, c2], rfl⟩
        · have i2 : ¬ (M : Int) < (n : Int) - 3 := by omega
          go_wp2
          go_meet
          case rel => exact ⟨by rw [HCB.out]; simp [c1, c2], rfl⟩
      · have i1 : ¬ (M : Int) < (T : Int) := by omega
        go_wp2
        go_meet
        case rel => exact ⟨by rw [HCB.out]; simp [c1], rfl⟩
    case rest =>
      obtain ⟨rfl, rfl⟩ := hcut
      by_cases hgo : M < T ∧ M + 3 < n
      · obtain rfl : cb = true := by rw [HCB.out]; exact decide_eq_true hgo
        obtain rfl : a1 = some ⟨b1, o1, none⟩ := H1.out.place (by omega)
        have i1 : (M : Int) < (T : Int) := by omega
        have HC0 := hide (H1.out.cell M hgo.1)
        have hcp := H1.out.cap M hgo.1
        have HBS := hide (H1.out.bs M hgo.1)
        generalize A M = aa at *
        generalize L M = ll at *
        generalize C M = cc at *
        obtain ⟨ys, HYS⟩ : ∃ ys, Hid (tf M = ys) := ⟨_, rfl⟩
        rw [HYS.out] at HBS
        obtain ⟨m, hm⟩ : ∃ m, m = min ll 100 := ⟨_, rfl⟩
        rw [← hm] at HBS
        have e0 : (if (100 : Int) < (ll : Int) then (100 : Int) else (ll : Int)) = (m : Int) := by split <;> omega
        have em : min (ll : Int) 100 = (m : Int) := by omega
        have u0 : (0 : Int) ≤ (m : Int) := by omega
        have v0 : (m : Int) ≤ (cc : Int) := by omega
        have m100 : m ≤ 100 := by omega
        have y0 : (cc : Int) ≤ 9223372036854775807 := by omega
        obtain ⟨sy, HSY⟩ : ∃ sy, Hid (str (tf M) = sy) := ⟨_, rfl⟩
        have HTX : Hid (∀ wx, Below w.heap.size w wx → (convert 35 9 (.slice aa m cc)).run Try.prog wx = .ok (.string sy) wx) := by
          intro wx hb
          have := run_text (HBS.out.later hb (Nat.le_refl _))
          rw [← HYS.out, HSY.out] at this
          exact this
        obtain ⟨d, hd⟩ : ∃ d, d = 2 + M := ⟨_, rfl⟩
        have HDE := hide hd
        have ed : (2 : Int) + (M : Int) = (d : Int) := by omega
        have d24 : d ≤ 24 := by omega
        have HLOW : Hid (lowF (bst n M 0 (fun _ => false)) = some d) := by show _ = _; rw [hd]; exact bst_low (C := 0) _ (by omega)
        have HDN : Hid (d < n) := by show _ < _; omega
        have M18 : M ≤ 18 := by omega
        have HGO := hide hgo
        have hM2 : M + 1 ≤ T := hgo.1
        have hM3 : M + 1 + 3 ≤ n := hgo.2
        clear hgo hm hcp hd
        have HC1 := (HPW.out.bel.cell (cell_lt HC0.out)).trans HC0.out
        go_wp2_with fail
        go_quiet (fail)
        have HPQ := hide (HPW.out.later (below_drewN (Below.refl _ _) nq))
        have HBSq := hide (HBS.out.later HPQ.out.bel (Nat.le_refl _))
        clear HC1
        go_wp2_with fail
        refine (@put_ok _ _ _ _ _ _ ⟨Value.ownBlock _⟩ aa m cc ys d HPQ.out.st HPQ.out.bel.size HBD.out.lf (by omega) HLOW.out (by rw [HBD.out.nn]; exact HDN.out) HBD.out.dn HBD.out.no1 (by rw [HBD.out.lf]; omega) (by have := HBD.out.mk2; omega) HBSq.out).mono ?_
        rintro e w5 ⟨rfl, hS5, hF5⟩
        have HP5 := hide (HPQ.out.call hS5 hF5)
        have HBD5 := hide HBD.out.lay
        rw [HYS.out, ← HDE.out] at HBD5
        rw [HDE.out, set_put (by omega), ← HDE.out] at HP5
        generalize s.tick.wrote d (laidP ys) = s5 at HP5 HBD5
        clear hS5 hF5 HPQ HBSq
        go_wp2_with fail
        have HP0 := hide (HP5.out.later (Below.refl _ w5).drew)
        refine wp_region_noPanic ?_
        refine wp_region_held_drew (S := fun wx => Below w.heap.size w wx) (by kernel_rfl) HP0.out.bel (fun hHeld => ?_)
        generalize w5.drew = x0 at *
        refine wpAnyH_takeAt (i := 0) (d := 83) (v := ?vz1y0) (by kernel_rfl) (by kernel_rfl) (by kernel_rfl) (by kernel_rfl) (fun _ _ _ h => h) ?hyz1y0 (by assumption) ?restz1y0
        case hyz1y0 =>
          intro oi ho
          simp only [List.getElem?_toArray, List.getElem?_cons_zero, Option.some.injEq] at ho
          subst ho
          refine Or.inl ⟨by rfl, ?_⟩
          intro wx hSw
          try dsimp only at hSw
          go_simp
          try rfl
        try simp only [Act.put, List.setIfInBounds_toArray, List.set_cons_zero, List.set_cons_succ]
        refine wpAnyH_takeAt (i := 1) (d := 84) (v := ?vz1y1) (by kernel_rfl) (by kernel_rfl) (by kernel_rfl) (by kernel_rfl) (fun _ _ _ h => h) ?hyz1y1 (by assumption) ?restz1y1
        case hyz1y1 =>
          intro oi ho
          simp only [List.getElem?_toArray, List.getElem?_cons_succ, List.getElem?_cons_zero, Option.some.injEq] at ho
          subst ho
          refine Or.inl ⟨by rfl, ?_⟩
          intro wx hSw
          try dsimp only at hSw
          go_simp
          try rfl
        try simp only [Act.put, List.setIfInBounds_toArray, List.set_cons_zero, List.set_cons_succ]
        refine wpAnyH_takeAt (i := 4) (d := 87) (v := ?vz1y4) (by kernel_rfl) (by kernel_rfl) (by kernel_rfl) (by kernel_rfl) (fun _ _ _ h => h) ?hyz1y4 (by assumption) ?restz1y4
        case hyz1y4 =>
          intro oi ho
          simp only [List.getElem?_toArray, List.getElem?_cons_succ, List.getElem?_cons_zero, Option.some.injEq] at ho
          subst ho
          refine Or.inl ⟨by rfl, ?_⟩
          intro wx hSw
          try dsimp only at hSw
          go_simp
          try rfl
        try simp only [Act.put, List.setIfInBounds_toArray, List.set_cons_zero, List.set_cons_succ]
        refine wpAnyH_takeAt (i := 5) (d := 88) (v := ?vz1y5) (by kernel_rfl) (by kernel_rfl) (by kernel_rfl) (by kernel_rfl) (fun _ _ _ h => h) ?hyz1y5 (by assumption) ?restz1y5
        case hyz1y5 =>
          intro oi ho
          simp only [List.getElem?_toArray, List.getElem?_cons_succ, List.getElem?_cons_zero, Option.some.injEq] at ho
          subst ho
          refine Or.inl ⟨by rfl, ?_⟩
          intro wx hSw
          try dsimp only at hSw
          go_simp
          try rfl
        try simp only [Act.put, List.setIfInBounds_toArray, List.set_cons_zero, List.set_cons_succ]
        refine wpAnyH_takeAt (i := 6) (d := 89) (v := .string sy) (by kernel_rfl) (by kernel_rfl) (by kernel_rfl) (by kernel_rfl) (fun _ _ _ h => h) ?hycz1y (by assumption) ?restz1y
        case hycz1y =>
          intro oi ho
          simp only [List.getElem?_toArray, List.getElem?_cons_succ, List.getElem?_cons_zero, Option.some.injEq] at ho
          subst ho
          refine Or.inl ⟨by rfl, ?_⟩
          intro wx hSw
          have tx := HTX.out wx hSw
          go_simp
          try rfl
        try simp only [Act.put, List.setIfInBounds_toArray, List.set_cons_zero, List.set_cons_succ]
        refine wpAnyH_comes2At (i := 2) (j := 7) (by kernel_rfl) (by kernel_rfl) (by kernel_rfl) ?z2ya ?z2yb
        case z2ya =>
          intro o ho K hK
          simp only [List.getElem?_toArray, List.getElem?_cons_succ, List.getElem?_cons_zero, Option.some.injEq] at ho
          subst ho
          have hbx := below_box x0 (.cells #[.int .i64 (d : Int)] 3)
          have HP1 := hide (HP0.out.later hbx)
          have HNI1 : Hid ((x0.alloc (.cells #[.int .i64 (d : Int)] 3)).heap[x0.heap.size]? = some (.cells #[.int .i64 (d : Int)] 3 (0, 0))) := heap_alloc_new x0 _
          go_simp
          clear hHeld hbx
          refine hK.out _ _ HP1.out.bel (fun hHeld => ?_)
          generalize x0.alloc (.cells #[.int .i64 (d : Int)] 3) = x1 at *
          clear hK K
          try simp only [Act.put, List.setIfInBounds_toArray, List.set_cons_zero, List.set_cons_succ]
          refine wpAnyH_comes2At (i := 3) (j := 7) (by kernel_rfl) (by kernel_rfl) (by kernel_rfl) ?z3ya ?z3yb
          case z3ya =>
            intro o ho K hK
            simp only [List.getElem?_toArray, List.getElem?_cons_succ, List.getElem?_cons_zero, Option.some.injEq] at ho
            subst ho
            rw [if_pos (by rfl)]
            refine wp_append_at (.tmp 83) (.tmp 85) 51 rfl w.heap.size 3 i0 (.int .i64 0) 1 8 Try.underlying51 hi hz0 hz1 hz2 rfl (by omega) (.slice ai M ci) M _ rfl HP1.out.hi ⟨x0.heap.size, 0, none⟩ 1 1 [.int .i64 (d : Int)] rfl rfl (nb_news HNI1.out) (by intro u hu; simp at hu; subst hu; rfl) (by unfold maxLen; omega) (by omega) HP1.out.bel.size ?_
            intro vi2 x2 ho hg hat
            have HP2 := hide (HP1.out.pushI (by rw [← HDE.out]; exact ho) hg hat)
            clear ho hg hat hHeld
            refine hK.out _ _ HP2.out.bel (fun hHeld => ?_)
            clear hK K
            try simp only [Act.put, List.setIfInBounds_toArray, List.set_cons_zero, List.set_cons_succ]
            refine wpAnyH_comesAt (i := 7) (by kernel_rfl) (by kernel_rfl) ?_
            intro o ho K hK
            simp only [List.getElem?_toArray, List.getElem?_cons_succ, List.getElem?_cons_zero, Option.some.injEq] at ho
            subst ho
            have hbx := below_box x2 (.cells #[.string sy] 9)
            have HP3 := hide (HP2.out.later hbx)
            have HNS3 : Hid ((x2.alloc (.cells #[.string sy] 9)).heap[x2.heap.size]? = some (.cells #[.string sy] 9 (0, 0))) := heap_alloc_new x2 _
            go_simp
            clear hHeld hbx
            refine hK.out _ _ HP3.out.bel (fun hHeld => ?_)
            generalize x2.alloc (.cells #[.string sy] 9) = x3 at *
            clear hK K
            try simp only [Act.put, List.setIfInBounds_toArray, List.set_cons_zero, List.set_cons_succ]
            refine wpAnyH_comesAt (i := 8) (by kernel_rfl) (by kernel_rfl) ?_
            intro o ho K hK
            simp only [List.getElem?_toArray, List.getElem?_cons_succ, List.getElem?_cons_zero, Option.some.injEq] at ho
            subst ho
            rw [if_pos (by rfl)]
            refine wp_append_at (.tmp 87) (.tmp 90) 52 rfl w.heap.size 9 j0 (.string ⟨#[]⟩) 1 16 Try.underlying52 hj hy0 hy1 hy2 rfl (by omega) (.slice av M cv) _ _ rfl HP3.out.hs ⟨x2.heap.size, 0, none⟩ 1 1 [.string sy] rfl rfl (nb_news HNS3.out) (by intro u hu; simp at hu; subst hu; rfl) (by rw [txs_len]; unfold maxLen; omega) (by rw [txs_len]; omega) HP3.out.bel.size ?_
            intro vs4 x4 ho hg hat
            have HP4 := hide (HP3.out.pushS ho hg)
            clear ho hg hat hHeld
            refine hK.out _ _ HP4.out.bel (fun hHeld => ?_)
            clear hK K
            try simp only [Act.put, List.setIfInBounds_toArray, List.set_cons_zero, List.set_cons_succ]
            refine wpAnyH_takeAt (i := 9) (d := 11) (v := ?vz4y9) (by kernel_rfl) (by kernel_rfl) (by kernel_rfl) (by kernel_rfl) (fun _ _ _ h => h) ?hyz4y9 (by assumption) ?restz4y9
            case hyz4y9 =>
              intro oi ho
              simp only [List.getElem?_toArray, List.getElem?_cons_succ, List.getElem?_cons_zero, Option.some.injEq] at ho
              subst ho
              refine Or.inl ⟨by rfl, ?_⟩
              intro wx hSw
              try dsimp only at hSw
              go_simp
              try rfl
            try simp only [Act.put, List.setIfInBounds_toArray, List.set_cons_zero, List.set_cons_succ]
            refine wpAnyH_takeAt (i := 10) (d := 12) (v := ?vz4y10) (by kernel_rfl) (by kernel_rfl) (by kernel_rfl) (by kernel_rfl) (fun _ _ _ h => h) ?hyz4y10 (by assumption) ?restz4y10
            case hyz4y10 =>
              intro oi ho
              simp only [List.getElem?_toArray, List.getElem?_cons_succ, List.getElem?_cons_zero, Option.some.injEq] at ho
              subst ho
              refine Or.inl ⟨by rfl, ?_⟩
              intro wx hSw
              try dsimp only at hSw
              go_simp
              try rfl
            try simp only [Act.put, List.setIfInBounds_toArray, List.set_cons_zero, List.set_cons_succ]
            refine wpAnyH_done (by kernel_rfl) ?_ _
            refine NoPanic.normal ?_
            have HPF : Hid (PW p q s5 ⟨bst n (M + 1) 0 (fun _ => false), 0, 0, 0⟩ vi2 vs4 (M + 1) (txs tf (M + 1)) w x4) := by
              show PW _ _ _ _ _ _ _ _ _ _
              rw [txs_succ, HSY.out]
              exact HP4.out
            go_wp2
            go_roundw
            case rel => exact ⟨M + 1, by go_num, by omega, by omega, s5, HPF.out, HBD5.out⟩
            case measure => simp [intOf]; omega
          case z3yb =>
            intro o ho K hK
            simp only [List.getElem?_toArray, List.getElem?_cons_succ, List.getElem?_cons_zero, Option.some.injEq] at ho
            subst ho
            have hbx := below_box x1 (.cells #[.string sy] 9)
            have HP2 := hide (HP1.out.later hbx)
            have HNS2 : Hid ((x1.alloc (.cells #[.string sy] 9)).heap[x1.heap.size]? = some (.cells #[.string sy] 9 (0, 0))) := heap_alloc_new x1 _
            have HNI2 := hide ((hbx.block _ (Array.getElem?_eq_some_iff.1 HNI1.out).1).trans HNI1.out)
            go_simp
            clear hHeld hbx
            refine hK.out _ _ HP2.out.bel (fun hHeld => ?_)
            generalize x1.alloc (.cells #[.string sy] 9) = x2 at *
            clear hK K
            try simp only [Act.put, List.setIfInBounds_toArray, List.set_cons_zero, List.set_cons_succ]
            refine wpAnyH_comesAt (i := 3) (by kernel_rfl) (by kernel_rfl) ?_
            intro o ho K hK
            simp only [List.getElem?_toArray, List.getElem?_cons_succ, List.getElem?_cons_zero, Option.some.injEq] at ho
            subst ho
            rw [if_pos (by rfl)]
            refine wp_append_at (.tmp 83) (.tmp 85) 51 rfl w.heap.size 3 i0 (.int .i64 0) 1 8 Try.underlying51 hi hz0 hz1 hz2 rfl (by omega) (.slice ai M ci) M _ rfl HP2.out.hi ⟨x0.heap.size, 0, none⟩ 1 1 [.int .i64 (d : Int)] rfl rfl (nb_news HNI2.out) (by intro u hu; simp at hu; subst hu; rfl) (by unfold maxLen; omega) (by omega) HP2.out.bel.size ?_
            intro vi3 x3 ho hg hat
            have HP3 := hide (HP2.out.pushI (by rw [← HDE.out]; exact ho) hg hat)
            have HNS3 := hide (grown_stay HP2.out.hi hg HNS2.out (by decide))
            clear ho hg hat hHeld
            refine hK.out _ _ HP3.out.bel (fun hHeld => ?_)
            clear hK K
            try simp only [Act.put, List.setIfInBounds_toArray, List.set_cons_zero, List.set_cons_succ]
            refine wpAnyH_comesAt (i := 8) (by kernel_rfl) (by kernel_rfl) ?_
            intro o ho K hK
            simp only [List.getElem?_toArray, List.getElem?_cons_succ, List.getElem?_cons_zero, Option.some.injEq] at ho
            subst ho
            rw [if_pos (by rfl)]
            refine wp_append_at (.tmp 87) (.tmp 90) 52 rfl w.heap.size 9 j0 (.string ⟨#[]⟩) 1 16 Try.underlying52 hj hy0 hy1 hy2 rfl (by omega) (.slice av M cv) _ _ rfl HP3.out.hs ⟨x1.heap.size, 0, none⟩ 1 1 [.string sy] rfl rfl (nb_news HNS3.out) (by intro u hu; simp at hu; subst hu; rfl) (by rw [txs_len]; unfold maxLen; omega) (by rw [txs_len]; omega) HP3.out.bel.size ?_
            intro vs4 x4 ho hg hat
            have HP4 := hide (HP3.out.pushS ho hg)
            clear ho hg hat hHeld
            refine hK.out _ _ HP4.out.bel (fun hHeld => ?_)
            clear hK K
            try simp only [Act.put, List.setIfInBounds_toArray, List.set_cons_zero, List.set_cons_succ]
            refine wpAnyH_takeAt (i := 9) (d := 11) (v := ?vz5y9) (by kernel_rfl) (by kernel_rfl) (by kernel_rfl) (by kernel_rfl) (fun _ _ _ h => h) ?hyz5y9 (by assumption) ?restz5y9
            case hyz5y9 =>
              intro oi ho
              simp only [List.getElem?_toArray, List.getElem?_cons_succ, List.getElem?_cons_zero, Option.some.injEq] at ho
              subst ho
              refine Or.inl ⟨by rfl, ?_⟩
              intro wx hSw
              try dsimp only at hSw
              go_simp
              try rfl
            try simp only [Act.put, List.setIfInBounds_toArray, List.set_cons_zero, List.set_cons_succ]
            refine wpAnyH_takeAt (i := 10) (d := 12) (v := ?vz5y10) (by kernel_rfl) (by kernel_rfl) (by kernel_rfl) (by kernel_rfl) (fun _ _ _ h => h) ?hyz5y10 (by assumption) ?restz5y10
            case hyz5y10 =>
              intro oi ho
              simp only [List.getElem?_toArray, List.getElem?_cons_succ, List.getElem?_cons_zero, Option.some.injEq] at ho
              subst ho
              refine Or.inl ⟨by rfl, ?_⟩
              intro wx hSw
              try dsimp only at hSw
              go_simp
              try rfl
            try simp only [Act.put, List.setIfInBounds_toArray, List.set_cons_zero, List.set_cons_succ]
            refine wpAnyH_done (by kernel_rfl) ?_ _
            refine NoPanic.normal ?_
            have HPF : Hid (PW p q s5 ⟨bst n (M + 1) 0 (fun _ => false), 0, 0, 0⟩ vi3 vs4 (M + 1) (txs tf (M + 1)) w x4) := by
              show PW _ _ _ _ _ _ _ _ _ _
              rw [txs_succ, HSY.out]
              exact HP4.out
            go_wp2
            go_roundw
            case rel => exact ⟨M + 1, by go_num, by omega, by omega, s5, HPF.out, HBD5.out⟩
            case measure => simp [intOf]; omega
        case z2yb =>
          intro o ho K hK
          simp only [List.getElem?_toArray, List.getElem?_cons_succ, List.getElem?_cons_zero, Option.some.injEq] at ho
          subst ho
          have hbx := below_box x0 (.cells #[.string sy] 9)
          have HP1 := hide (HP0.out.later hbx)
          have HNS1 : Hid ((x0.alloc (.cells #[.string sy] 9)).heap[x0.heap.size]? = some (.cells #[.string sy] 9 (0, 0))) := heap_alloc_new x0 _
          go_simp
          clear hHeld hbx
          refine hK.out _ _ HP1.out.bel (fun hHeld => ?_)
          generalize x0.alloc (.cells #[.string sy] 9) = x1 at *
          clear hK K
          try simp only [Act.put, List.setIfInBounds_toArray, List.set_cons_zero, List.set_cons_succ]
          refine wpAnyH_comesAt (i := 2) (by kernel_rfl) (by kernel_rfl) ?_
          intro o ho K hK
          simp only [List.getElem?_toArray, List.getElem?_cons_succ, List.getElem?_cons_zero, Option.some.injEq] at ho
          subst ho
          have hbx := below_box x1 (.cells #[.int .i64 (d : Int)] 3)
          have HP2 := hide (HP1.out.later hbx)
          have HNI2 : Hid ((x1.alloc (.cells #[.int .i64 (d : Int)] 3)).heap[x1.heap.size]? = some (.cells #[.int .i64 (d : Int)] 3 (0, 0))) := heap_alloc_new x1 _
          have HNS2 := hide ((hbx.block _ (Array.getElem?_eq_some_iff.1 HNS1.out).1).trans HNS1.out)
          go_simp
          clear hHeld hbx
          refine hK.out _ _ HP2.out.bel (fun hHeld => ?_)
          generalize x1.alloc (.cells #[.int .i64 (d : Int)] 3) = x2 at *
          clear hK K
          try simp only [Act.put, List.setIfInBounds_toArray, List.set_cons_zero, List.set_cons_succ]
          refine wpAnyH_comesAt (i := 3) (by kernel_rfl) (by kernel_rfl) ?_
          intro o ho K hK
          simp only [List.getElem?_toArray, List.getElem?_cons_succ, List.getElem?_cons_zero, Option.some.injEq] at ho
          subst ho
          rw [if_pos (by rfl)]
          refine wp_append_at (.tmp 83) (.tmp 85) 51 rfl w.heap.size 3 i0 (.int .i64 0) 1 8 Try.underlying51 hi hz0 hz1 hz2 rfl (by omega) (.slice ai M ci) M _ rfl HP2.out.hi ⟨x1.heap.size, 0, none⟩ 1 1 [.int .i64 (d : Int)] rfl rfl (nb_news HNI2.out) (by intro u hu; simp at hu; subst hu; rfl) (by unfold maxLen; omega) (by omega) HP2.out.bel.size ?_
          intro vi3 x3 ho hg hat
          have HP3 := hide (HP2.out.pushI (by rw [← HDE.out]; exact ho) hg hat)
          have HNS3 := hide (grown_stay HP2.out.hi hg HNS2.out (by decide))
          clear ho hg hat hHeld
          refine hK.out _ _ HP3.out.bel (fun hHeld => ?_)
          clear hK K
          try simp only [Act.put, List.setIfInBounds_toArray, List.set_cons_zero, List.set_cons_succ]
          refine wpAnyH_comesAt (i := 8) (by kernel_rfl) (by kernel_rfl) ?_
          intro o ho K hK
          simp only [List.getElem?_toArray, List.getElem?_cons_succ, List.getElem?_cons_zero, Option.some.injEq] at ho
          subst ho
          rw [if_pos (by rfl)]
          refine wp_append_at (.tmp 87) (.tmp 90) 52 rfl w.heap.size 9 j0 (.string ⟨#[]⟩) 1 16 Try.underlying52 hj hy0 hy1 hy2 rfl (by omega) (.slice av M cv) _ _ rfl HP3.out.hs ⟨x0.heap.size, 0, none⟩ 1 1 [.string sy] rfl rfl (nb_news HNS3.out) (by intro u hu; simp at hu; subst hu; rfl) (by rw [txs_len]; unfold maxLen; omega) (by rw [txs_len]; omega) HP3.out.bel.size ?_
          intro vs4 x4 ho hg hat
          have HP4 := hide (HP3.out.pushS ho hg)
          clear ho hg hat hHeld
          refine hK.out _ _ HP4.out.bel (fun hHeld => ?_)
          clear hK K
          try simp only [Act.put, List.setIfInBounds_toArray, List.set_cons_zero, List.set_cons_succ]
          refine wpAnyH_takeAt (i := 9) (d := 11) (v := ?vz6y9) (by kernel_rfl) (by kernel_rfl) (by kernel_rfl) (by kernel_rfl) (fun _ _ _ h => h) ?hyz6y9 (by assumption) ?restz6y9
          case hyz6y9 =>
            intro oi ho
            simp only [List.getElem?_toArray, List.getElem?_cons_succ, List.getElem?_cons_zero, Option.some.injEq] at ho
            subst ho
            refine Or.inl ⟨by rfl, ?_⟩
            intro wx hSw
            try dsimp only at hSw
            go_simp
            try rfl
          try simp only [Act.put, List.setIfInBounds_toArray, List.set_cons_zero, List.set_cons_succ]
          refine wpAnyH_takeAt (i := 10) (d := 12) (v := ?vz6y10) (by kernel_rfl) (by kernel_rfl) (by kernel_rfl) (by kernel_rfl) (fun _ _ _ h => h) ?hyz6y10 (by assumption) ?restz6y10
          case hyz6y10 =>
            intro oi ho
            simp only [List.getElem?_toArray, List.getElem?_cons_succ, List.getElem?_cons_zero, Option.some.injEq] at ho
            subst ho
            refine Or.inl ⟨by rfl, ?_⟩
            intro wx hSw
            try dsimp only at hSw
            go_simp
            try rfl
          try simp only [Act.put, List.setIfInBounds_toArray, List.set_cons_zero, List.set_cons_succ]
          refine wpAnyH_done (by kernel_rfl) ?_ _
          refine NoPanic.normal ?_
          have HPF : Hid (PW p q s5 ⟨bst n (M + 1) 0 (fun _ => false), 0, 0, 0⟩ vi3 vs4 (M + 1) (txs tf (M + 1)) w x4) := by
            show PW _ _ _ _ _ _ _ _ _ _
            rw [txs_succ, HSY.out]
            exact HP4.out
          go_wp2
          go_roundw
          case rel => exact ⟨M + 1, by go_num, by omega, by omega, s5, HPF.out, HBD5.out⟩
          case measure => simp [intOf]; omega
      · obtain rfl : cb = false := by rw [HCB.out]; exact decide_eq_false hgo
        have M18 : M ≤ 18 := by omega
        clear hgo
        have HCM := hide (@commit_any _ _ _ _ _ _ ⟨Value.ownBlock _⟩ 0 HPW.out.st HPW.out.bel.size HBD.out.lf HBD.out.dn (by rw [HBD.out.nn]; omega) (by rw [HBD.out.lf]; omega) (Or.inl rfl) (by omega) (by show 0 < _; omega))
        obtain ⟨s1, hc1, hB1⟩ := HBD.out.commit (by omega) 1 0
        have HBD1 := hide hB1
        rw [show (PS.mk (bst n M 0 fun _ => false) 0 0 0).num + 1 = 1 from rfl, hc1] at HCM
        clear hc1 hB1
        go_wp2_with fail
        refine HCM.out.mono ?_
        rintro e w5 ⟨rfl, hS, hF⟩
        simp only [if_true] at hS
        rw [committed_calm] at hS
        have HP1 := hide (HPW.out.call hS hF)
        clear hS hF HCM HPW HBD
        have HZ := hide (Fk_zero gf)
        go_wp2_with fail
        go_loopw [18, 17] (fun i bk wx => ∃ k : Nat, k ≤ M ∧ k ≤ n2 ∧ i = .int .i64 k ∧ bk = .int .i64 (backs gf k : Nat) ∧ PW p q s1 ⟨bst n M 0 (Fk gf k), 0, 1, 0⟩ (.slice ai M ci) (.slice av M cv) M (txs tf M) w wx) (fun i _ _ => M - (intOf i).toNat)
        case atStart => exact ⟨0, by omega, by omega, rfl, rfl, by rw [HZ.out]; exact HP1.out⟩
        case round =>
          clear HP1 HZ
          obtain ⟨k, hkM, hkn, rfl, rfl, hP⟩ := hrel
          have HP := hide hP
          have bk18 : backs gf k ≤ 18 := by have := backs_le gf k; omega
          clear hP
          obtain ⟨cb, HCB⟩ : ∃ cb, Hid (cb = decide (k < M ∧ k < n2)) := ⟨_, rfl⟩
          go_upto_region 22 with fail
          go_cut [104] from 95 to 128 (fun c wx => c = .bool cb ∧ wx = wr)
          case first =>
            by_cases c1 : k < M
            · have i1 : (k : Int) < (M : Int) := by omega
              by_cases c2 : k < n2
              · have i2 : (k : Int) < (n2 : Int) := by omega
                go_wp2
                go_meet
                case rel => exact ⟨by rw [HCB.out]; simp [c1, c2], rfl⟩
              · have i2 : ¬ (k : Int) < (n2 : Int) := by omega
                go_wp2
                go_meet
                case rel => exact ⟨by rw [HCB.out]; simp [c1, c2], rfl⟩
            · have i1 : ¬ (k : Int) < (M : Int) := by omega
              go_wp2
              go_meet
              case rel => exact ⟨by rw [HCB.out]; simp [c1], rfl⟩
          case rest =>
            obtain ⟨rfl, rfl⟩ := hcut
            by_cases hgo : k < M ∧ k < n2
            · obtain rfl : cb = true := by rw [HCB.out]; exact decide_eq_true hgo
              have i1 : (k : Int) < (M : Int) := by omega
              have i2 : (k : Int) < (n2 : Int) := by omega
              obtain ⟨b, o, rfl, hcs⟩ := H2.out (by omega)
              have hc := hcs k hgo.2
              have gc := (HP.out.bel.cell (cell_lt hc)).trans hc
              clear hc hcs
              obtain ⟨g, rfl, _⟩ := own_place HP.out.hi (by omega)
              have ic := (HP.out.hi.cellAt k (by omega)).trans (ids_get hgo.1)
              obtain ⟨d, hd⟩ : ∃ d, d = 2 + k := ⟨_, rfl⟩
              rw [← hd] at ic
              have HDE := hide hd
              have hM2 : k + 1 ≤ M := hgo.1
              have hM3 : k + 1 ≤ n2 := hgo.2
              have hdn : d < n := by omega
              have HKM := hide hgo.1
              have HBS1 := hide (backs_succ gf k)
              clear hgo hd
              cases hgf : gf k with
              | false =>
                have HFN := hide (Fk_no hgf)
                rw [hgf] at gc HBS1
                clear hgf
                go_wp2
                go_roundw
                case rel => exact ⟨k + 1, by omega, by omega, by go_num, by rw [HBS1.out]; rfl, by rw [← HFN.out]; exact HP.out⟩
                case measure => simp [intOf]; omega
              | true =>
                have HSF := hide (set_free (n := n) (by omega) HKM.out hgf)
                have HHD : Hid ((bst n M 0 (Fk gf k)).getD d 0 = 2) := by
                  show _ = _
                  rw [HDE.out, bst_held _ (by omega) HKM.out, Fk_at]
                  rfl
                have HHE : Hid ((bst n M 0 (Fk gf (k + 1))).getD d 0 = 3) := by
                  show _ = _
                  rw [HDE.out, bst_held _ (by omega) HKM.out]
                  simp [Fk, hgf]
                rw [hgf] at gc HBS1
                rw [← HDE.out] at HSF
                clear hgf
                go_wp2_with fail
                refine (@free_ok _ _ _ _ _ _ ⟨Value.ownBlock _⟩ d HP.out.st HP.out.bel.size HBD1.out.lf (by rw [bst_len]; exact hdn) HHD.out).mono ?_
                rintro e w6 ⟨rfl, hS6, hF6⟩
                rw [HSF.out] at hS6
                have HP6 := hide (HP.out.call hS6 hF6)
                clear hS6 hF6
                have ic6 := (HP6.out.hi.cellAt k (by have := HKM.out; omega)).trans (ids_get HKM.out)
                rw [← HDE.out] at ic6
                go_wp2_with fail
                refine (@free_arg _ _ _ _ _ _ ⟨Value.ownBlock _⟩ (d : Int) HP6.out.st HBD1.out.lf (by rw [of_natB, HHE.out]; omega) (by omega)).mono ?_
                rintro e w7 ⟨rfl, hb7⟩
                have HP7 := hide (HP6.out.later hb7)
                clear hb7
                go_wp2
                go_roundw
                case rel => exact ⟨k + 1, by omega, by omega, by go_num, by rw [HBS1.out]; push_cast; rfl, HP7.out⟩
                case measure => simp [intOf]; omega
            · obtain rfl : cb = false := by rw [HCB.out]; exact decide_eq_false hgo
              have HBK : Hid (backs (Fk gf k) M = backs gf k) := by show _ = _; rw [backs_Fk, Nat.min_eq_right hkM]
              clear hgo
              obtain ⟨F, hF⟩ : ∃ F, F = Fk gf k := ⟨_, rfl⟩
              rw [← hF] at HP HBK
              generalize backs gf k = bk at *
              clear hF
              go_wp2_with fail
              go_loopw [19] (fun i wx => ∃ (c : Nat) (s : DS), 2 + M + c ≤ n ∧ i = .int .i64 c ∧ BD s n M c tf ∧ PW p q s ⟨bst n M c F, 0, 1, 0⟩ (.slice ai M ci) (.slice av M cv) M (txs tf M) w wx) (fun i _ => n - (intOf i).toNat)
              case atStart => exact ⟨0, s1, by omega, rfl, HBD1.out, HP.out⟩
              case round =>
                clear HP HBD1
                obtain ⟨c, s2, hcn, rfl, hB2, hP2⟩ := hrel
                have HBD2 := hide hB2
                have HP2 := hide hP2
                clear hB2 hP2
                have c24 : c ≤ 24 := by omega
                have HU : IntKind.u8.wrap (c : Int) = (c : Int) := by rw [IntKind.wrap_u8]; omega
                by_cases hgo : 2 + M + c < n
                · have HLOW := hide (bst_low F hgo)
                  have HSF := hide (set_fill F hgo)
                  have HBD3 := hide (HBD2.out.fill (b := 2 + M + c) (laidP [c]) (Or.inr (by omega)))
                  have hcn2 : 2 + M + (c + 1) ≤ n := by omega
                  have HGO := hide hgo
                  clear hgo
                  go_wp2_with fail
                  refine (@put_lit _ _ _ _ _ _ ⟨Value.ownBlock _⟩ c (2 + M + c) HP2.out.st HP2.out.bel.size HBD2.out.lf HLOW.out (by rw [HBD2.out.nn]; exact HGO.out) HBD2.out.dn HBD2.out.no1 (by rw [HBD2.out.lf]; omega) (by have := HBD2.out.mk2; omega) (by omega)).mono ?_
                  rintro e w6 ⟨rfl, hS6, hF6⟩
                  rw [HSF.out] at hS6
                  have HP6 := hide (HP2.out.call hS6 hF6)
                  generalize s2.tick.wrote (2 + M + c) (laidP [c]) = s3 at HP6 HBD3
                  clear hS6 hF6
                  go_wp2
                  go_roundw
                  case rel => exact ⟨c + 1, s3, hcn2, by go_num, HBD3.out, HP6.out⟩
                  case measure => simp [intOf]; omega
                · have hcn2 : n = 2 + M + c := by omega
                  have HFULL := hide (bst_full F (Nat.le_of_eq hcn2))
                  have HLEFT := hide (bst_left F (Nat.le_of_eq hcn2))
                  have HAFT := hide (bst_after F hcn2)
                  have ec : (n : Int) - 2 - (M : Int) = (c : Int) := by omega
                  have HNE := hide hcn2
                  have HBX := hide (below_box wr (.cells #[.int .u8 (c : Int)] 5))
                  have HP3 := hide (HP2.out.later HBX.out)
                  clear hgo hcn2
                  go_wp2_with fail
                  refine (@put_full _ _ _ _ _ _ ⟨Value.ownBlock _⟩ (some ⟨wr.heap.size, 0, none⟩) 1 1 HP3.out.st HBD2.out.lf (by omega) HFULL.out).mono ?_
                  rintro e w6 ⟨rfl, hb6⟩
                  have HP6 := hide (HP3.out.later hb6)
                  have HLF := hide (@left_any _ _ _ _ _ _ ⟨Value.ownBlock _⟩ HP6.out.st)
                  rw [HLEFT.out] at HLF
                  clear hb6 HP3 HBX HP2
                  go_wp2_with fail
                  refine HLF.out.mono ?_
                  rintro e w7 ⟨rfl, hq⟩
                  have hq := hq.symm
                  subst hq
                  clear HLF HLEFT
                  go_wp2_with fail
                  go_loopw [22] (fun i wx => ∃ k : Nat, k ≤ M ∧ i = .int .i64 k ∧ PW p q s2 ⟨bst n M c F, 0, 1, 0⟩ (.slice ai M ci) (.slice av M cv) M (txs tf M) w wx) (fun i _ => M - (intOf i).toNat)
                  case atStart => exact ⟨0, by omega, rfl, HP6.out⟩
                  case round =>
                    clear HP6
                    obtain ⟨k4, hk4, rfl, hP4⟩ := hrel
                    have HP4 := hide hP4
                    clear hP4
                    by_cases hgo : k4 < M
                    · have i1 : (k4 : Int) < (M : Int) := by omega
                      obtain ⟨g, rfl, _⟩ := own_place HP4.out.hi (by omega)
                      have ic := (HP4.out.hi.cellAt k4 (by omega)).trans (ids_get hgo)
                      obtain ⟨d, hd⟩ : ∃ d, d = 2 + k4 := ⟨_, rfl⟩
                      rw [← hd] at ic
                      have HDE := hide hd
                      have hdn : d < n := by omega
                      have HKM := hide hgo
                      have HMT := hide hMT
                      have HHD : Hid ((bst n M c F).getD d 0 ≠ 0) := by
                        show _ ≠ _
                        rw [hd, bst_held _ (by omega) hgo]
                        split <;> omega
                      have HBS := hide (H1.out.bs k4 (by omega))
                      have HYL : Hid ((tf k4).length ≤ 100) := by show _ ≤ _; rw [HBS.out.hlen]; omega
                      have HYB := hide HBS.out.hbyte
                      have HSH : Hid (s2.show d = laidP (tf k4)) := by show _ = _; rw [hd]; exact HBD2.out.sh k4 hgo
                      have HGT := hide (@get_any _ _ _ _ _ _ ⟨Value.ownBlock _⟩ d HP4.out.st HP4.out.bel.size HBD2.out.lf (by rw [HBD2.out.nn]; exact hdn) (by rw [of_natB]; exact HHD.out) HBD2.out.dn)
                      rw [HSH.out, pageOf_laid (tf k4) (by have := HYL.out; omega)] at HGT
                      have hk41 : k4 + 1 ≤ M := hgo
                      clear hgo hd HBS
                      go_wp2_with fail
                      refine HGT.out.mono ?_
                      rintro e w8 ⟨⟨v8, rfl, ho8⟩, hb8⟩
                      obtain ⟨a8, c8, rfl, B8⟩ := bs_row ho8 (by have := HYL.out; omega) HYB.out
                      have HP8 := hide (HP4.out.later hb8)
                      have hs8 := HP8.out.hs
                      rw [txs_len] at hs8
                      obtain ⟨g2, rfl, _⟩ := own_place hs8 (by have := HKM.out; omega)
                      have sc := (hs8.cellAt k4 (by have := HKM.out; omega)).trans (txs_get HKM.out)
                      clear hs8
                      have tx := fun nn => run_text (B8.later (below_drewN (Below.refl w8.heap.size w8) nn) (Nat.le_refl _))
                      obtain ⟨sy, HSY⟩ : ∃ sy, Hid (str (tf k4) = sy) := ⟨_, rfl⟩
                      rw [HSY.out] at sc tx
                      clear ho8 hb8 B8 HGT HP4 HSH HHD ic
                      generalize (tf k4).length = l8 at *
                      go_wp2_with fail
                      go_quiet (fail)
                      have HP9 := hide (HP8.out.later (below_drewN (Below.refl _ _) nq))
                      go_wp2
                      go_roundw
                      case rel => exact ⟨k4 + 1, hk41, by go_num, HP9.out⟩
                      case measure => simp [intOf]; omega
                    · have i1 : ¬ (k4 : Int) < (M : Int) := by omega
                      clear hgo
                      go_wp2_with fail
                      refine (told_any _).mono ?_
                      rintro e w8 ⟨rfl, hb8⟩
                      have HP8 := hide (HP4.out.later hb8)
                      clear hb8 HP4
                      have HCM := hide (@commit_any _ _ _ _ _ _ ⟨Value.ownBlock _⟩ 0 HP8.out.st HP8.out.bel.size HBD2.out.lf HBD2.out.dn (by rw [HBD2.out.nn]; omega) (by rw [HBD2.out.lf]; omega) (Or.inl rfl) (by omega) (by show 1 < _; omega))
                      obtain ⟨s9, hc9, hB9⟩ := HBD2.out.commit (by have := HNE.out; omega) 2 0
                      rw [show (PS.mk (bst n M c F) 0 1 0).num + 1 = 2 from rfl, hc9] at HCM
                      clear hc9
                      go_wp2_with fail
                      refine HCM.out.mono ?_
                      rintro e w9 ⟨rfl, hS9, hF9⟩
                      simp only [if_true] at hS9
                      have HP9 := hide (HP8.out.call hS9 hF9)
                      have HLF := hide (@left_any _ _ _ _ _ _ ⟨Value.ownBlock _⟩ HP9.out.st)
                      have HNM := hide (@number_any _ _ _ _ _ _ ⟨Value.ownBlock _⟩ HP9.out.st)
                      rw [show (PS.committed (PS.mk (bst n M c F) 0 1 0) 0).st = backF (bst n M c F) from rfl, HAFT.out, HBK.out] at HLF
                      rw [show (PS.committed (PS.mk (bst n M c F) 0 1 0) 0).num = 2 from rfl] at HNM
                      clear hS9 hF9 HCM HP8
                      go_wp2_with fail
                      refine HLF.out.mono ?_
                      rintro e wa ⟨rfl, hq⟩
                      have hq := hq.symm
                      subst hq
                      go_wp2_with fail
                      refine HNM.out.mono ?_
                      rintro e wb ⟨rfl, hq⟩
                      have hq := hq.symm
                      subst hq
                      go_wp2
                      go_ret
                      exact ⟨rfl, HP9.out.bel⟩
end Go.Proofs.Ytbjononpgcemgaa
