/- The law SchemaBytes, walked. -/
import Derived.Test.YtcophbkgighepaaI1
import Derived.Test.YtcophbkgighepaaHP
import Derived.Test.YtcophbkgighepaaI4
set_option linter.unusedVariables false
namespace Go.Proofs.Ytcophbkgighepaa
open Go.RowKit

theorem str_nself (xs : List Nat) : (str xs != str xs) = false := ba_nself _
set_option maxRecDepth 100000 in
set_option maxHeartbeats 64000000 in
theorem schemaBytes_walk (s : Sch) (ca : Option Addr) (cl cc : Nat) (xa : Option Addr) (xl xc : Nat) (a : Option Addr) (n c : Nat) (la : List Val) (ba : Option Addr) (bn bc : Nat) (xs : List Nat) (W : World) (hs : SC W ca cl cc xa xl xc s) (ps : SchP s) (ha : SV fV 3 W a n c la) (pa : ∀ x ∈ la, ValP x) (hbs : BS W ba bn bc xs) (hbn : bn ≤ 1048576) :
    Calls Try.prog 4 #[.agg #[.string s.nm, .slice ca cl cc, .slice xa xl xc], .slice a n c, .slice ba bn bc] W fun e W' => e = .returned (.bool true) ∧ Below W.heap.size W W' := by
  have PR : Hid (∀ x ∈ la.take 5, ValP x) := fun x hx => pa x (List.mem_of_mem_take hx)
  have HIP := hide ps.t5
  have HBN := hide hbn
  obtain ⟨v0, hv0⟩ : ∃ v0, v0 = W.alloc (.cells #[.string s.nm, .slice ca cl cc, .slice xa xl xc] 25) := ⟨_, rfl⟩
  obtain ⟨g3, hg3⟩ : ∃ g3, W.heap.size = g3 := ⟨_, rfl⟩
  have hb1 : Below W.heap.size W v0 := by rw [hv0]; exact below_box W _
  have HK0 : Hid (v0.heap[g3]? = some (.cells #[.string s.nm, .slice ca cl cc, .slice xa xl xc] 25 (0, 0))) := by show _ = _; rw [hv0, ← hg3]; exact boxed W _
  have HS0 := hide (hs.later hb1)
  have HA0 := hide (ha.later hb1)
  have HX0 := hide (hbs.later hb1 (Nat.le_refl _))
  have HB0 := hide hb1
  have HW0 := hide hv0
  have HG3 := hide hg3
  clear hs ps ha pa hbs hbn hb1 hv0
  go_enter Try.func4, Try.ntmps4
  go_upto_region 1 with fail
  rw [← HW0.out]
  clear HW0
  have y0 : v0.cell? ⟨g3, 0, none⟩ = some (.string s.nm) := cell_blk HK0.out
  have y1 : v0.cell? ⟨g3, 1, none⟩ = some (.slice ca cl cc) := cell_blk HK0.out
  have y2 : v0.cell? ⟨g3, 2, none⟩ = some (.slice xa xl xc) := cell_blk HK0.out
  have HC := hide (copied5 HS0.out)
  go_wp2_with fail
  refine HC.out.mono ?_
  rintro e v1 ⟨ea, el, ec, za, zl, zc, rfl, hi, h1, h2, hb⟩
  have LI := hide (And.intro h1 h2)
  have HI1 := hide hi
  have HK1 := hide ((hb.block g3 (blk_lt HK0.out)).trans HK0.out)
  have HS1 := hide (HS0.out.later hb)
  have HA1 := hide (HA0.out.later hb)
  have HX1 := hide (HX0.out.later hb (Nat.le_refl _))
  have HB1 := hide (HB0.out.trans (hb.mono HB0.out.size))
  clear hi h1 h2 hb HC HK0 HS0 HA0 HB0 HX0 y0 y1 y2
  have HC := hide (few5 HA1.out)
  go_wp2_with fail
  refine HC.out.mono ?_
  rintro e v2 ⟨ra, rn, rc, rfl, hr, h1, hb⟩
  have LR := hide h1
  obtain ⟨v3, hv3⟩ : ∃ v3, v3 = v2.alloc (.cells #[.string s.t5.nm, .slice ea el ec, .slice za zl zc] 25) := ⟨_, rfl⟩
  obtain ⟨g7, hg7⟩ : ∃ g7, v2.heap.size = g7 := ⟨_, rfl⟩
  have hbx : Below v2.heap.size v2 v3 := by rw [hv3]; exact below_box v2 _
  have HT3 : Hid (TT W g3 g7 s ca cl cc xa xl xc ea el ec za zl zc a n c la ra rn rc v3) := by
    have hk3 := (hb.block g3 (blk_lt HK1.out)).trans HK1.out
    refine ⟨(hbx.block g3 (blk_lt hk3)).trans hk3, ?_, (HS1.out.later hb).later hbx, (HI1.out.later hb).later hbx, (HA1.out.later hb).later hbx, hr.later hbx, (HB1.out.trans (hb.mono HB1.out.size)).trans (hbx.mono (HB1.out.trans (hb.mono HB1.out.size)).size)⟩
    rw [hv3, ← hg7]
    exact boxed v2 _
  have HX3 := hide ((HX1.out.later hb (Nat.le_refl _)).later hbx (Nat.le_refl _))
  have HV3 := hide hv3
  clear hr h1 hb hbx HC HK1 HS1 HA1 HB1 HI1 HX1 hv3
  go_upto_region 2 with fail
  rw [← HV3.out]
  clear HV3
  generalize hzr : rowE (la.take 5) = zr at *
  have HZR := hide hzr
  have dzr : ((zr : Int) != zr) = false := by simp
  clear hzr
  cases hok : s.t5.ok with
  | true =>
    have y0 : v3.cell? ⟨g7, 0, none⟩ = some (.string s.t5.nm) := cell_blk HT3.out.k7
    have y1 : v3.cell? ⟨g7, 1, none⟩ = some (.slice ea el ec) := cell_blk HT3.out.k7
    have y2 : v3.cell? ⟨g7, 2, none⟩ = some (.slice za zl zc) := cell_blk HT3.out.k7
    have HOKS := hide hok
    have HC := hide (encode5 HT3.out.i)
    go_wp2_with fail
    refine HC.out.mono ?_
    rintro e v4 ⟨ua, un, uc, rfl, hx, hb⟩
    have HU4 := hide (hx HOKS.out)
    clear hx
    clear HC
    have HT4 := hide (HT3.out.next hb)
    have HX4 := hide (HX3.out.later hb (Nat.le_refl _))
    clear hb HT3 HX3
    clear y0 y1 y2
    rw [show s.t5.err = 0 from by unfold Sch.err; rw [HOKS.out]; rfl]
    have hl80 : ¬ (80 : Int) < (un : Int) := by have h1 := HU4.out.hlen; have h2 := encS_80 HOKS.out; omega
    clear hok
    have HC := hide (encrow5 HT4.out.r LR.out PR.out)
    go_wp2_with fail
    refine HC.out.mono ?_
    rintro e v5 ⟨va, vn, vc, rfl, hx, hb⟩
    rw [HZR.out]
    rw [HZR.out] at hx
    have HV5 := hide hx
    clear hx
    clear HC
    have HT5 := hide (HT4.out.next hb)
    have HX5 := hide (HX4.out.later hb (Nat.le_refl _))
    have HU5 := hide (HU4.out.later hb (Nat.le_refl _))
    clear hb HT4 HX4 HU4
    have HC := hide (told14 v5)
    go_wp2_with fail
    refine HC.out.mono ?_
    rintro e v6 ⟨rfl, hb⟩
    clear HC
    have HT6 := hide (HT5.out.next hb)
    have HX6 := hide (HX5.out.later hb (Nat.le_refl _))
    have HU6 := hide (HU5.out.later hb (Nat.le_refl _))
    have HV6 := hide (fun q => (HV5.out q).later hb (Nat.le_refl _))
    clear hb HT5 HX5 HU5 HV5
    have y0 : v6.cell? ⟨g7, 0, none⟩ = some (.string s.t5.nm) := cell_blk HT6.out.k7
    have y1 : v6.cell? ⟨g7, 1, none⟩ = some (.slice ea el ec) := cell_blk HT6.out.k7
    have y2 : v6.cell? ⟨g7, 2, none⟩ = some (.slice za zl zc) := cell_blk HT6.out.k7
    have HC := hide (refright14_any HT6.out.i HIP.out)
    go_wp2_with fail
    refine HC.out.mono ?_
    rintro e v7 ⟨rfl, hb⟩
    rw [HOKS.out]
    clear HC
    have HT7 := hide (HT6.out.next hb)
    have HX7 := hide (HX6.out.later hb (Nat.le_refl _))
    have HU7 := hide (HU6.out.later hb (Nat.le_refl _))
    have HV7 := hide (fun q => (HV6.out q).later hb (Nat.le_refl _))
    clear hb HT6 HX6 HU6 HV6
    clear y0 y1 y2
    have HC := hide (rowright_any HT7.out.r (fun x hx => (PR.out x hx).2))
    go_wp2_with fail
    refine HC.out.mono ?_
    rintro e v8 ⟨rfl, hb⟩
    rw [HZR.out]
    clear HC
    have HT8 := hide (HT7.out.next hb)
    have HX8 := hide (HX7.out.later hb (Nat.le_refl _))
    have HU8 := hide (HU7.out.later hb (Nat.le_refl _))
    have HV8 := hide (fun q => (HV7.out q).later hb (Nat.le_refl _))
    clear hb HT7 HX7 HU7 HV7
    have HC := hide (decode_ok HU8.out HOKS.out)
    go_wp2_with fail
    refine HC.out.mono ?_
    rintro e v9 ⟨da0, dc0, ya0, yc0, rfl, hs, hb⟩
    have HE9 := hide hs
    clear hs
    clear HC
    clear HU8
    have HT9 := hide (HT8.out.next hb)
    have HX9 := hide (HX8.out.later hb (Nat.le_refl _))
    have HV9 := hide (fun q => (HV8.out q).later hb (Nat.le_refl _))
    clear hb HT8 HX8 HV8
    have hb := below_box v9 (.cells #[.string s.t5.nm, .slice da0 s.t5.cs.length dc0, .slice ya0 s.t5.xs.length yc0] 25)
    have HG10 : Hid ((v9.alloc (.cells #[.string s.t5.nm, .slice da0 s.t5.cs.length dc0, .slice ya0 s.t5.xs.length yc0] 25)).heap[v9.heap.size]? = some (.cells #[.string s.t5.nm, .slice da0 s.t5.cs.length dc0, .slice ya0 s.t5.xs.length yc0] 25 (0, 0))) := boxed v9 _
    have HT10 := hide (HT9.out.next hb)
    have HX10 := hide (HX9.out.later hb (Nat.le_refl _))
    have HV10 := hide (fun q => (HV9.out q).later hb (Nat.le_refl _))
    have HE10 := hide (HE9.out.later hb)
    clear hb HT9 HX9 HV9 HE9
    go_upto_region 8 with fail
    generalize v9.alloc (.cells #[.string s.t5.nm, .slice da0 s.t5.cs.length dc0, .slice ya0 s.t5.xs.length yc0] 25) = v10 at *
    generalize v9.heap.size = g13 at *
    have z0 : v10.cell? ⟨g13, 0, none⟩ = some (.string s.t5.nm) := cell_blk HG10.out
    have z1 : v10.cell? ⟨g13, 1, none⟩ = some (.slice da0 s.t5.cs.length dc0) := cell_blk HG10.out
    have z2 : v10.cell? ⟨g13, 2, none⟩ = some (.slice ya0 s.t5.xs.length yc0) := cell_blk HG10.out
    have y0 : v10.cell? ⟨g7, 0, none⟩ = some (.string s.t5.nm) := cell_blk HT10.out.k7
    have y1 : v10.cell? ⟨g7, 1, none⟩ = some (.slice ea el ec) := cell_blk HT10.out.k7
    have y2 : v10.cell? ⟨g7, 2, none⟩ = some (.slice za zl zc) := cell_blk HT10.out.k7
    have HC := hide (refsame14_any HE10.out HT10.out.i (by rw [HT10.out.i.c.hl]; have := LI.out.1; omega) (by rw [HT10.out.i.x.hl]; have := LI.out.2; omega))
    go_wp2_with fail
    refine HC.out.mono ?_
    rintro e v11 ⟨rfl, hb⟩
    rw [same_self]
    clear HC
    clear HE10
    clear HG10
    have HT11 := hide (HT10.out.next hb)
    have HX11 := hide (HX10.out.later hb (Nat.le_refl _))
    have HV11 := hide (fun q => (HV10.out q).later hb (Nat.le_refl _))
    clear hb HT10 HX10 HV10
    clear y0 y1 y2 z0 z1 z2
    by_cases h0 : zr = 0
    · have d0 : ((zr : Int) == 0) = true := by simp [h0]
      have HRZ := hide (HZR.out.trans h0)
      have HV11 := hide (HV11.out h0)
      clear h0
      have hl120 : ¬ (120 : Int) < (vn : Int) := by have h1 := HV11.out.hlen; have h2 := rowB_120 HRZ.out; omega
      have HC : Hid (Calls Try.prog 23 #[.slice va vn vc] v11 fun e w' => (∃ a' c', e = .returned (.tuple #[.slice a' rn c', .int .i64 0]) ∧ SV fV 3 w' a' rn c' (la.take 5)) ∧ Below v11.heap.size v11 w') := (decoderow_any HV11.out (by omega)).mono (by
        rintro e w' ⟨hd, hb⟩
        rw [drow_rowB HRZ.out (fun x hx => (PR.out x hx).1)] at hd
        obtain ⟨_, a', c', he, hs⟩ := hd
        rw [HT11.out.r.hl] at he hs
        exact ⟨⟨a', c', he, hs⟩, hb⟩)
      go_wp2_with fail
      refine HC.out.mono ?_
      rintro e v12 ⟨⟨fa0, fc0, rfl, hsv⟩, hb⟩
      have HJ12 := hide hsv
      clear hsv HC
      clear HV11
      have HT12 := hide (HT11.out.next hb)
      have HX12 := hide (HX11.out.later hb (Nat.le_refl _))
      clear hb HT11 HX11
      have HC := hide (refsame2_any HJ12.out HT12.out.r (by have := LR.out; omega))
      rw [decide_eq_true rfl] at HC
      go_wp2_with fail
      refine HC.out.mono ?_
      rintro e v13 ⟨rfl, hb⟩
      clear HC
      clear HJ12
      have HT13 := hide (HT12.out.next hb)
      have HX13 := hide (HX12.out.later hb (Nat.le_refl _))
      clear hb HT12 HX12
      have HC := hide (decodeS_any HX13.out)
      go_wp2_with fail
      refine HC.out.mono ?_
      rintro e v14 ⟨hd, hb⟩
      clear HC
      have HT14 := hide (HT13.out.next hb)
      have HX14 := hide (HX13.out.later hb (Nat.le_refl _))
      clear hb HT13 HX13
      rcases hd with hd | hd
      · subst hd
        have hb := below_box v14 (.cells #[.string ⟨#[]⟩, .slice none 0 0, .slice none 0 0] 25)
        have HZ15 : Hid ((v14.alloc (.cells #[.string ⟨#[]⟩, .slice none 0 0, .slice none 0 0] 25)).heap[v14.heap.size]? = some (.cells #[.string ⟨#[]⟩, .slice none 0 0, .slice none 0 0] 25 (0, 0))) := boxed v14 _
        have HT15 := hide (HT14.out.next hb)
        have HX15 := hide (HX14.out.later hb (Nat.le_refl _))
        clear hb HT14 HX14
        go_upto_region 15 with fail
        generalize v14.alloc (.cells #[.string ⟨#[]⟩, .slice none 0 0, .slice none 0 0] 25) = v15 at *
        generalize v14.heap.size = g17 at *
        have HC := hide (decoderow_any HX15.out HBN.out)
        go_wp2_with fail
        refine HC.out.mono ?_
        rintro e v16 ⟨hd, hb⟩
        clear HC
        unfold DrR at hd
        have HT16 := hide (HT15.out.next hb)
        have HX16 := hide (HX15.out.later hb (Nat.le_refl _))
        have HZ16 := hide ((hb.block g17 (blk_lt HZ15.out)).trans HZ15.out)
        clear hb HT15 HX15 HZ15
        obtain ⟨dr, hdr⟩ : ∃ dr, drow xs = dr := ⟨_, rfl⟩
        rw [hdr] at hd
        cases dr with
        | none =>
          have hd' : e = .returned (.tuple #[.slice none 0 0, .int .i64 11]) := hd
          subst hd'
          clear hd hdr
          go_wp2
          go_ret
          exact ⟨rfl, by first | exact HT16.out.bel | (rw [← HG3.out]; exact HT16.out.bel)⟩
        | some l2 =>
          obtain ⟨hok2, fa, fc, rfl, hsv2⟩ := hd
          have HRE := hide (drow_some hdr).1
          have HRB := hide (drow_some hdr).2
          have HOKL : Hid (∀ x ∈ l2, x.ok) := fun x hx => (hok2 x hx).1
          have HSML : Hid (∀ x ∈ l2, x.2.2.size ≤ 4194304) := fun x hx => (hok2 x hx).2
          have HR16 := hide hsv2
          clear hok2 hsv2 hdr
          have HC := hide (encrow54 HR16.out HOKL.out HSML.out)
          go_wp2_with fail
          refine HC.out.mono ?_
          rintro e v17 ⟨oa, on, oc, rfl, hx, hb⟩
          have HY17 := hide (hx HRE.out)
          clear hx
          clear HC
          have HT17 := hide (HT16.out.next hb)
          have HX17 := hide (HX16.out.later hb (Nat.le_refl _))
          have HZ17 := hide ((hb.block g17 (blk_lt HZ16.out)).trans HZ16.out)
          have HR17 := hide (HR16.out.later hb)
          clear hb HT16 HX16 HZ16 HR16
          rw [HRE.out]
          rw [HRB.out] at HY17
          have tu : (convert 42 9 (.slice oa on oc)).run Try.prog v17 = .ok (.string (str xs)) v17 := run_text HY17.out
          have tv : (convert 42 9 (.slice ba bn bc)).run Try.prog v17 = .ok (.string (str xs)) v17 := run_text HX17.out
          go_wp2
          go_ret
          exact ⟨rfl, by first | exact HT17.out.bel | (rw [← HG3.out]; exact HT17.out.bel)⟩
      · obtain ⟨t, da, dc, ya, yc, rfl, hsc2, hok2, heq2⟩ := hd
        have HD14 := hide hsc2
        have HOK2 := hide hok2
        have HEQ2 := hide heq2
        clear hsc2 hok2 heq2
        have hb := below_box v14 (.cells #[.string t.nm, .slice da t.cs.length dc, .slice ya t.xs.length yc] 25)
        have HZ15 : Hid ((v14.alloc (.cells #[.string t.nm, .slice da t.cs.length dc, .slice ya t.xs.length yc] 25)).heap[v14.heap.size]? = some (.cells #[.string t.nm, .slice da t.cs.length dc, .slice ya t.xs.length yc] 25 (0, 0))) := boxed v14 _
        have HT15 := hide (HT14.out.next hb)
        have HX15 := hide (HX14.out.later hb (Nat.le_refl _))
        have HD15 := hide (HD14.out.later hb)
        clear hb HT14 HX14 HD14
        go_upto_region 15 with fail
        generalize v14.alloc (.cells #[.string t.nm, .slice da t.cs.length dc, .slice ya t.xs.length yc] 25) = v15 at *
        generalize v14.heap.size = g17 at *
        have HC := hide (decoderow_any HX15.out HBN.out)
        go_wp2_with fail
        refine HC.out.mono ?_
        rintro e v16 ⟨hd, hb⟩
        clear HC
        unfold DrR at hd
        have HT16 := hide (HT15.out.next hb)
        have HX16 := hide (HX15.out.later hb (Nat.le_refl _))
        have HD16 := hide (HD15.out.later hb)
        have HZ16 := hide ((hb.block g17 (blk_lt HZ15.out)).trans HZ15.out)
        clear hb HT15 HX15 HD15 HZ15
        obtain ⟨dr, hdr⟩ : ∃ dr, drow xs = dr := ⟨_, rfl⟩
        rw [hdr] at hd
        cases dr with
        | none =>
          have hd' : e = .returned (.tuple #[.slice none 0 0, .int .i64 11]) := hd
          subst hd'
          clear hd hdr
          have y0 : v16.cell? ⟨g17, 0, none⟩ = some (.string t.nm) := cell_blk HZ16.out
          have y1 : v16.cell? ⟨g17, 1, none⟩ = some (.slice da t.cs.length dc) := cell_blk HZ16.out
          have y2 : v16.cell? ⟨g17, 2, none⟩ = some (.slice ya t.xs.length yc) := cell_blk HZ16.out
          have HC := hide (encode5 HD16.out)
          go_wp2_with fail
          refine HC.out.mono ?_
          rintro e v17 ⟨wa, wn, wc, rfl, hx, hb⟩
          have HW17 := hide (hx HOK2.out)
          clear hx
          clear HC
          have HT17 := hide (HT16.out.next hb)
          have HX17 := hide (HX16.out.later hb (Nat.le_refl _))
          have HD17 := hide (HD16.out.later hb)
          have HZ17 := hide ((hb.block g17 (blk_lt HZ16.out)).trans HZ16.out)
          clear hb HT16 HX16 HD16 HZ16
          clear y0 y1 y2
          rw [show t.err = 0 from by unfold Sch.err; rw [HOK2.out]; rfl]
          rw [HEQ2.out] at HW17
          have tx : (convert 42 9 (.slice wa wn wc)).run Try.prog v17 = .ok (.string (str xs)) v17 := run_text HW17.out
          have ty : (convert 42 9 (.slice ba bn bc)).run Try.prog v17 = .ok (.string (str xs)) v17 := run_text HX17.out
          go_wp2
          go_ret
          exact ⟨rfl, by first | exact HT17.out.bel | (rw [← HG3.out]; exact HT17.out.bel)⟩
        | some l2 =>
          obtain ⟨hok2, fa, fc, rfl, hsv2⟩ := hd
          have HRE := hide (drow_some hdr).1
          have HRB := hide (drow_some hdr).2
          have HOKL : Hid (∀ x ∈ l2, x.ok) := fun x hx => (hok2 x hx).1
          have HSML : Hid (∀ x ∈ l2, x.2.2.size ≤ 4194304) := fun x hx => (hok2 x hx).2
          have HR16 := hide hsv2
          clear hok2 hsv2 hdr
          have y0 : v16.cell? ⟨g17, 0, none⟩ = some (.string t.nm) := cell_blk HZ16.out
          have y1 : v16.cell? ⟨g17, 1, none⟩ = some (.slice da t.cs.length dc) := cell_blk HZ16.out
          have y2 : v16.cell? ⟨g17, 2, none⟩ = some (.slice ya t.xs.length yc) := cell_blk HZ16.out
          have HC := hide (encode5 HD16.out)
          go_wp2_with fail
          refine HC.out.mono ?_
          rintro e v17 ⟨wa, wn, wc, rfl, hx, hb⟩
          have HW17 := hide (hx HOK2.out)
          clear hx
          clear HC
          have HT17 := hide (HT16.out.next hb)
          have HX17 := hide (HX16.out.later hb (Nat.le_refl _))
          have HD17 := hide (HD16.out.later hb)
          have HZ17 := hide ((hb.block g17 (blk_lt HZ16.out)).trans HZ16.out)
          have HR17 := hide (HR16.out.later hb)
          clear hb HT16 HX16 HD16 HZ16 HR16
          clear y0 y1 y2
          rw [show t.err = 0 from by unfold Sch.err; rw [HOK2.out]; rfl]
          rw [HEQ2.out] at HW17
          have tx : (convert 42 9 (.slice wa wn wc)).run Try.prog v17 = .ok (.string (str xs)) v17 := run_text HW17.out
          have ty : (convert 42 9 (.slice ba bn bc)).run Try.prog v17 = .ok (.string (str xs)) v17 := run_text HX17.out
          go_upto_region 20 with fail
          clear tx ty
          have HC := hide (encrow54 HR17.out HOKL.out HSML.out)
          go_wp2_with fail
          refine HC.out.mono ?_
          rintro e v18 ⟨oa, on, oc, rfl, hx, hb⟩
          have HY18 := hide (hx HRE.out)
          clear hx
          clear HC
          have HT18 := hide (HT17.out.next hb)
          have HX18 := hide (HX17.out.later hb (Nat.le_refl _))
          have HD18 := hide (HD17.out.later hb)
          have HZ18 := hide ((hb.block g17 (blk_lt HZ17.out)).trans HZ17.out)
          have HR18 := hide (HR17.out.later hb)
          have HW18 := hide (HW17.out.later hb (Nat.le_refl _))
          clear hb HT17 HX17 HD17 HZ17 HR17 HW17
          rw [HRE.out]
          rw [HRB.out] at HY18
          have tu : (convert 42 9 (.slice oa on oc)).run Try.prog v18 = .ok (.string (str xs)) v18 := run_text HY18.out
          have tv : (convert 42 9 (.slice ba bn bc)).run Try.prog v18 = .ok (.string (str xs)) v18 := run_text HX18.out
          go_wp2
          go_ret
          exact ⟨rfl, by first | exact HT18.out.bel | (rw [← HG3.out]; exact HT18.out.bel)⟩
    · have d0 : ((zr : Int) == 0) = false := by simp [h0]
      clear h0 HV11
      have HC := hide (decodeS_any HX11.out)
      go_wp2_with fail
      refine HC.out.mono ?_
      rintro e v12 ⟨hd, hb⟩
      clear HC
      have HT12 := hide (HT11.out.next hb)
      have HX12 := hide (HX11.out.later hb (Nat.le_refl _))
      clear hb HT11 HX11
      rcases hd with hd | hd
      · subst hd
        have hb := below_box v12 (.cells #[.string ⟨#[]⟩, .slice none 0 0, .slice none 0 0] 25)
        have HZ13 : Hid ((v12.alloc (.cells #[.string ⟨#[]⟩, .slice none 0 0, .slice none 0 0] 25)).heap[v12.heap.size]? = some (.cells #[.string ⟨#[]⟩, .slice none 0 0, .slice none 0 0] 25 (0, 0))) := boxed v12 _
        have HT13 := hide (HT12.out.next hb)
        have HX13 := hide (HX12.out.later hb (Nat.le_refl _))
        clear hb HT12 HX12
        go_upto_region 15 with fail
        generalize v12.alloc (.cells #[.string ⟨#[]⟩, .slice none 0 0, .slice none 0 0] 25) = v13 at *
        generalize v12.heap.size = g17 at *
        have HC := hide (decoderow_any HX13.out HBN.out)
        go_wp2_with fail
        refine HC.out.mono ?_
        rintro e v14 ⟨hd, hb⟩
        clear HC
        unfold DrR at hd
        have HT14 := hide (HT13.out.next hb)
        have HX14 := hide (HX13.out.later hb (Nat.le_refl _))
        have HZ14 := hide ((hb.block g17 (blk_lt HZ13.out)).trans HZ13.out)
        clear hb HT13 HX13 HZ13
        obtain ⟨dr, hdr⟩ : ∃ dr, drow xs = dr := ⟨_, rfl⟩
        rw [hdr] at hd
        cases dr with
        | none =>
          have hd' : e = .returned (.tuple #[.slice none 0 0, .int .i64 11]) := hd
          subst hd'
          clear hd hdr
          go_wp2
          go_ret
          exact ⟨rfl, by first | exact HT14.out.bel | (rw [← HG3.out]; exact HT14.out.bel)⟩
        | some l2 =>
          obtain ⟨hok2, fa, fc, rfl, hsv2⟩ := hd
          have HRE := hide (drow_some hdr).1
          have HRB := hide (drow_some hdr).2
          have HOKL : Hid (∀ x ∈ l2, x.ok) := fun x hx => (hok2 x hx).1
          have HSML : Hid (∀ x ∈ l2, x.2.2.size ≤ 4194304) := fun x hx => (hok2 x hx).2
          have HR14 := hide hsv2
          clear hok2 hsv2 hdr
          have HC := hide (encrow54 HR14.out HOKL.out HSML.out)
          go_wp2_with fail
          refine HC.out.mono ?_
          rintro e v15 ⟨oa, on, oc, rfl, hx, hb⟩
          have HY15 := hide (hx HRE.out)
          clear hx
          clear HC
          have HT15 := hide (HT14.out.next hb)
          have HX15 := hide (HX14.out.later hb (Nat.le_refl _))
          have HZ15 := hide ((hb.block g17 (blk_lt HZ14.out)).trans HZ14.out)
          have HR15 := hide (HR14.out.later hb)
          clear hb HT14 HX14 HZ14 HR14
          rw [HRE.out]
          rw [HRB.out] at HY15
          have tu : (convert 42 9 (.slice oa on oc)).run Try.prog v15 = .ok (.string (str xs)) v15 := run_text HY15.out
          have tv : (convert 42 9 (.slice ba bn bc)).run Try.prog v15 = .ok (.string (str xs)) v15 := run_text HX15.out
          go_wp2
          go_ret
          exact ⟨rfl, by first | exact HT15.out.bel | (rw [← HG3.out]; exact HT15.out.bel)⟩
      · obtain ⟨t, da, dc, ya, yc, rfl, hsc2, hok2, heq2⟩ := hd
        have HD12 := hide hsc2
        have HOK2 := hide hok2
        have HEQ2 := hide heq2
        clear hsc2 hok2 heq2
        have hb := below_box v12 (.cells #[.string t.nm, .slice da t.cs.length dc, .slice ya t.xs.length yc] 25)
        have HZ13 : Hid ((v12.alloc (.cells #[.string t.nm, .slice da t.cs.length dc, .slice ya t.xs.length yc] 25)).heap[v12.heap.size]? = some (.cells #[.string t.nm, .slice da t.cs.length dc, .slice ya t.xs.length yc] 25 (0, 0))) := boxed v12 _
        have HT13 := hide (HT12.out.next hb)
        have HX13 := hide (HX12.out.later hb (Nat.le_refl _))
        have HD13 := hide (HD12.out.later hb)
        clear hb HT12 HX12 HD12
        go_upto_region 15 with fail
        generalize v12.alloc (.cells #[.string t.nm, .slice da t.cs.length dc, .slice ya t.xs.length yc] 25) = v13 at *
        generalize v12.heap.size = g17 at *
        have HC := hide (decoderow_any HX13.out HBN.out)
        go_wp2_with fail
        refine HC.out.mono ?_
        rintro e v14 ⟨hd, hb⟩
        clear HC
        unfold DrR at hd
        have HT14 := hide (HT13.out.next hb)
        have HX14 := hide (HX13.out.later hb (Nat.le_refl _))
        have HD14 := hide (HD13.out.later hb)
        have HZ14 := hide ((hb.block g17 (blk_lt HZ13.out)).trans HZ13.out)
        clear hb HT13 HX13 HD13 HZ13
        obtain ⟨dr, hdr⟩ : ∃ dr, drow xs = dr := ⟨_, rfl⟩
        rw [hdr] at hd
        cases dr with
        | none =>
          have hd' : e = .returned (.tuple #[.slice none 0 0, .int .i64 11]) := hd
          subst hd'
          clear hd hdr
          have y0 : v14.cell? ⟨g17, 0, none⟩ = some (.string t.nm) := cell_blk HZ14.out
          have y1 : v14.cell? ⟨g17, 1, none⟩ = some (.slice da t.cs.length dc) := cell_blk HZ14.out
          have y2 : v14.cell? ⟨g17, 2, none⟩ = some (.slice ya t.xs.length yc) := cell_blk HZ14.out
          have HC := hide (encode5 HD14.out)
          go_wp2_with fail
          refine HC.out.mono ?_
          rintro e v15 ⟨wa, wn, wc, rfl, hx, hb⟩
          have HW15 := hide (hx HOK2.out)
          clear hx
          clear HC
          have HT15 := hide (HT14.out.next hb)
          have HX15 := hide (HX14.out.later hb (Nat.le_refl _))
          have HD15 := hide (HD14.out.later hb)
          have HZ15 := hide ((hb.block g17 (blk_lt HZ14.out)).trans HZ14.out)
          clear hb HT14 HX14 HD14 HZ14
          clear y0 y1 y2
          rw [show t.err = 0 from by unfold Sch.err; rw [HOK2.out]; rfl]
          rw [HEQ2.out] at HW15
          have tx : (convert 42 9 (.slice wa wn wc)).run Try.prog v15 = .ok (.string (str xs)) v15 := run_text HW15.out
          have ty : (convert 42 9 (.slice ba bn bc)).run Try.prog v15 = .ok (.string (str xs)) v15 := run_text HX15.out
          go_wp2
          go_ret
          exact ⟨rfl, by first | exact HT15.out.bel | (rw [← HG3.out]; exact HT15.out.bel)⟩
        | some l2 =>
          obtain ⟨hok2, fa, fc, rfl, hsv2⟩ := hd
          have HRE := hide (drow_some hdr).1
          have HRB := hide (drow_some hdr).2
          have HOKL : Hid (∀ x ∈ l2, x.ok) := fun x hx => (hok2 x hx).1
          have HSML : Hid (∀ x ∈ l2, x.2.2.size ≤ 4194304) := fun x hx => (hok2 x hx).2
          have HR14 := hide hsv2
          clear hok2 hsv2 hdr
          have y0 : v14.cell? ⟨g17, 0, none⟩ = some (.string t.nm) := cell_blk HZ14.out
          have y1 : v14.cell? ⟨g17, 1, none⟩ = some (.slice da t.cs.length dc) := cell_blk HZ14.out
          have y2 : v14.cell? ⟨g17, 2, none⟩ = some (.slice ya t.xs.length yc) := cell_blk HZ14.out
          have HC := hide (encode5 HD14.out)
          go_wp2_with fail
          refine HC.out.mono ?_
          rintro e v15 ⟨wa, wn, wc, rfl, hx, hb⟩
          have HW15 := hide (hx HOK2.out)
          clear hx
          clear HC
          have HT15 := hide (HT14.out.next hb)
          have HX15 := hide (HX14.out.later hb (Nat.le_refl _))
          have HD15 := hide (HD14.out.later hb)
          have HZ15 := hide ((hb.block g17 (blk_lt HZ14.out)).trans HZ14.out)
          have HR15 := hide (HR14.out.later hb)
          clear hb HT14 HX14 HD14 HZ14 HR14
          clear y0 y1 y2
          rw [show t.err = 0 from by unfold Sch.err; rw [HOK2.out]; rfl]
          rw [HEQ2.out] at HW15
          have tx : (convert 42 9 (.slice wa wn wc)).run Try.prog v15 = .ok (.string (str xs)) v15 := run_text HW15.out
          have ty : (convert 42 9 (.slice ba bn bc)).run Try.prog v15 = .ok (.string (str xs)) v15 := run_text HX15.out
          go_upto_region 20 with fail
          clear tx ty
          have HC := hide (encrow54 HR15.out HOKL.out HSML.out)
          go_wp2_with fail
          refine HC.out.mono ?_
          rintro e v16 ⟨oa, on, oc, rfl, hx, hb⟩
          have HY16 := hide (hx HRE.out)
          clear hx
          clear HC
          have HT16 := hide (HT15.out.next hb)
          have HX16 := hide (HX15.out.later hb (Nat.le_refl _))
          have HD16 := hide (HD15.out.later hb)
          have HZ16 := hide ((hb.block g17 (blk_lt HZ15.out)).trans HZ15.out)
          have HR16 := hide (HR15.out.later hb)
          have HW16 := hide (HW15.out.later hb (Nat.le_refl _))
          clear hb HT15 HX15 HD15 HZ15 HR15 HW15
          rw [HRE.out]
          rw [HRB.out] at HY16
          have tu : (convert 42 9 (.slice oa on oc)).run Try.prog v16 = .ok (.string (str xs)) v16 := run_text HY16.out
          have tv : (convert 42 9 (.slice ba bn bc)).run Try.prog v16 = .ok (.string (str xs)) v16 := run_text HX16.out
          go_wp2
          go_ret
          exact ⟨rfl, by first | exact HT16.out.bel | (rw [← HG3.out]; exact HT16.out.bel)⟩
  | false =>
    have y0 : v3.cell? ⟨g7, 0, none⟩ = some (.string s.t5.nm) := cell_blk HT3.out.k7
    have y1 : v3.cell? ⟨g7, 1, none⟩ = some (.slice ea el ec) := cell_blk HT3.out.k7
    have y2 : v3.cell? ⟨g7, 2, none⟩ = some (.slice za zl zc) := cell_blk HT3.out.k7
    have HOKS := hide hok
    have HC := hide (encode_no HT3.out.i HOKS.out)
    go_wp2_with fail
    refine HC.out.mono ?_
    rintro e v4 ⟨rfl, hb⟩
    clear HC
    have HT4 := hide (HT3.out.next hb)
    have HX4 := hide (HX3.out.later hb (Nat.le_refl _))
    clear hb HT3 HX3
    clear y0 y1 y2
    clear hok
    have HC := hide (encrow5 HT4.out.r LR.out PR.out)
    go_wp2_with fail
    refine HC.out.mono ?_
    rintro e v5 ⟨va, vn, vc, rfl, hx, hb⟩
    rw [HZR.out]
    rw [HZR.out] at hx
    have HV5 := hide hx
    clear hx
    clear HC
    have HT5 := hide (HT4.out.next hb)
    have HX5 := hide (HX4.out.later hb (Nat.le_refl _))
    clear hb HT4 HX4
    have HC := hide (told14 v5)
    go_wp2_with fail
    refine HC.out.mono ?_
    rintro e v6 ⟨rfl, hb⟩
    clear HC
    have HT6 := hide (HT5.out.next hb)
    have HX6 := hide (HX5.out.later hb (Nat.le_refl _))
    have HV6 := hide (fun q => (HV5.out q).later hb (Nat.le_refl _))
    clear hb HT5 HX5 HV5
    have y0 : v6.cell? ⟨g7, 0, none⟩ = some (.string s.t5.nm) := cell_blk HT6.out.k7
    have y1 : v6.cell? ⟨g7, 1, none⟩ = some (.slice ea el ec) := cell_blk HT6.out.k7
    have y2 : v6.cell? ⟨g7, 2, none⟩ = some (.slice za zl zc) := cell_blk HT6.out.k7
    have HC := hide (refright14_any HT6.out.i HIP.out)
    go_wp2_with fail
    refine HC.out.mono ?_
    rintro e v7 ⟨rfl, hb⟩
    rw [HOKS.out]
    clear HC
    have HT7 := hide (HT6.out.next hb)
    have HX7 := hide (HX6.out.later hb (Nat.le_refl _))
    have HV7 := hide (fun q => (HV6.out q).later hb (Nat.le_refl _))
    clear hb HT6 HX6 HV6
    clear y0 y1 y2
    have HC := hide (rowright_any HT7.out.r (fun x hx => (PR.out x hx).2))
    go_wp2_with fail
    refine HC.out.mono ?_
    rintro e v8 ⟨rfl, hb⟩
    rw [HZR.out]
    clear HC
    have HT8 := hide (HT7.out.next hb)
    have HX8 := hide (HX7.out.later hb (Nat.le_refl _))
    have HV8 := hide (fun q => (HV7.out q).later hb (Nat.le_refl _))
    clear hb HT7 HX7 HV7
    by_cases h0 : zr = 0
    · have d0 : ((zr : Int) == 0) = true := by simp [h0]
      have HRZ := hide (HZR.out.trans h0)
      have HV8 := hide (HV8.out h0)
      clear h0
      have hl120 : ¬ (120 : Int) < (vn : Int) := by have h1 := HV8.out.hlen; have h2 := rowB_120 HRZ.out; omega
      have HC : Hid (Calls Try.prog 23 #[.slice va vn vc] v8 fun e w' => (∃ a' c', e = .returned (.tuple #[.slice a' rn c', .int .i64 0]) ∧ SV fV 3 w' a' rn c' (la.take 5)) ∧ Below v8.heap.size v8 w') := (decoderow_any HV8.out (by omega)).mono (by
        rintro e w' ⟨hd, hb⟩
        rw [drow_rowB HRZ.out (fun x hx => (PR.out x hx).1)] at hd
        obtain ⟨_, a', c', he, hs⟩ := hd
        rw [HT8.out.r.hl] at he hs
        exact ⟨⟨a', c', he, hs⟩, hb⟩)
      go_wp2_with fail
      refine HC.out.mono ?_
      rintro e v9 ⟨⟨fa0, fc0, rfl, hsv⟩, hb⟩
      have HJ9 := hide hsv
      clear hsv HC
      clear HV8
      have HT9 := hide (HT8.out.next hb)
      have HX9 := hide (HX8.out.later hb (Nat.le_refl _))
      clear hb HT8 HX8
      have HC := hide (refsame2_any HJ9.out HT9.out.r (by have := LR.out; omega))
      rw [decide_eq_true rfl] at HC
      go_wp2_with fail
      refine HC.out.mono ?_
      rintro e v10 ⟨rfl, hb⟩
      clear HC
      clear HJ9
      have HT10 := hide (HT9.out.next hb)
      have HX10 := hide (HX9.out.later hb (Nat.le_refl _))
      clear hb HT9 HX9
      have HC := hide (decodeS_any HX10.out)
      go_wp2_with fail
      refine HC.out.mono ?_
      rintro e v11 ⟨hd, hb⟩
      clear HC
      have HT11 := hide (HT10.out.next hb)
      have HX11 := hide (HX10.out.later hb (Nat.le_refl _))
      clear hb HT10 HX10
      rcases hd with hd | hd
      · subst hd
        have hb := below_box v11 (.cells #[.string ⟨#[]⟩, .slice none 0 0, .slice none 0 0] 25)
        have HZ12 : Hid ((v11.alloc (.cells #[.string ⟨#[]⟩, .slice none 0 0, .slice none 0 0] 25)).heap[v11.heap.size]? = some (.cells #[.string ⟨#[]⟩, .slice none 0 0, .slice none 0 0] 25 (0, 0))) := boxed v11 _
        have HT12 := hide (HT11.out.next hb)
        have HX12 := hide (HX11.out.later hb (Nat.le_refl _))
        clear hb HT11 HX11
        go_upto_region 15 with fail
        generalize v11.alloc (.cells #[.string ⟨#[]⟩, .slice none 0 0, .slice none 0 0] 25) = v12 at *
        generalize v11.heap.size = g17 at *
        have HC := hide (decoderow_any HX12.out HBN.out)
        go_wp2_with fail
        refine HC.out.mono ?_
        rintro e v13 ⟨hd, hb⟩
        clear HC
        unfold DrR at hd
        have HT13 := hide (HT12.out.next hb)
        have HX13 := hide (HX12.out.later hb (Nat.le_refl _))
        have HZ13 := hide ((hb.block g17 (blk_lt HZ12.out)).trans HZ12.out)
        clear hb HT12 HX12 HZ12
        obtain ⟨dr, hdr⟩ : ∃ dr, drow xs = dr := ⟨_, rfl⟩
        rw [hdr] at hd
        cases dr with
        | none =>
          have hd' : e = .returned (.tuple #[.slice none 0 0, .int .i64 11]) := hd
          subst hd'
          clear hd hdr
          go_wp2
          go_ret
          exact ⟨rfl, by first | exact HT13.out.bel | (rw [← HG3.out]; exact HT13.out.bel)⟩
        | some l2 =>
          obtain ⟨hok2, fa, fc, rfl, hsv2⟩ := hd
          have HRE := hide (drow_some hdr).1
          have HRB := hide (drow_some hdr).2
          have HOKL : Hid (∀ x ∈ l2, x.ok) := fun x hx => (hok2 x hx).1
          have HSML : Hid (∀ x ∈ l2, x.2.2.size ≤ 4194304) := fun x hx => (hok2 x hx).2
          have HR13 := hide hsv2
          clear hok2 hsv2 hdr
          have HC := hide (encrow54 HR13.out HOKL.out HSML.out)
          go_wp2_with fail
          refine HC.out.mono ?_
          rintro e v14 ⟨oa, on, oc, rfl, hx, hb⟩
          have HY14 := hide (hx HRE.out)
          clear hx
          clear HC
          have HT14 := hide (HT13.out.next hb)
          have HX14 := hide (HX13.out.later hb (Nat.le_refl _))
          have HZ14 := hide ((hb.block g17 (blk_lt HZ13.out)).trans HZ13.out)
          have HR14 := hide (HR13.out.later hb)
          clear hb HT13 HX13 HZ13 HR13
          rw [HRE.out]
          rw [HRB.out] at HY14
          have tu : (convert 42 9 (.slice oa on oc)).run Try.prog v14 = .ok (.string (str xs)) v14 := run_text HY14.out
          have tv : (convert 42 9 (.slice ba bn bc)).run Try.prog v14 = .ok (.string (str xs)) v14 := run_text HX14.out
          go_wp2
          go_ret
          exact ⟨rfl, by first | exact HT14.out.bel | (rw [← HG3.out]; exact HT14.out.bel)⟩
      · obtain ⟨t, da, dc, ya, yc, rfl, hsc2, hok2, heq2⟩ := hd
        have HD11 := hide hsc2
        have HOK2 := hide hok2
        have HEQ2 := hide heq2
        clear hsc2 hok2 heq2
        have hb := below_box v11 (.cells #[.string t.nm, .slice da t.cs.length dc, .slice ya t.xs.length yc] 25)
        have HZ12 : Hid ((v11.alloc (.cells #[.string t.nm, .slice da t.cs.length dc, .slice ya t.xs.length yc] 25)).heap[v11.heap.size]? = some (.cells #[.string t.nm, .slice da t.cs.length dc, .slice ya t.xs.length yc] 25 (0, 0))) := boxed v11 _
        have HT12 := hide (HT11.out.next hb)
        have HX12 := hide (HX11.out.later hb (Nat.le_refl _))
        have HD12 := hide (HD11.out.later hb)
        clear hb HT11 HX11 HD11
        go_upto_region 15 with fail
        generalize v11.alloc (.cells #[.string t.nm, .slice da t.cs.length dc, .slice ya t.xs.length yc] 25) = v12 at *
        generalize v11.heap.size = g17 at *
        have HC := hide (decoderow_any HX12.out HBN.out)
        go_wp2_with fail
        refine HC.out.mono ?_
        rintro e v13 ⟨hd, hb⟩
        clear HC
        unfold DrR at hd
        have HT13 := hide (HT12.out.next hb)
        have HX13 := hide (HX12.out.later hb (Nat.le_refl _))
        have HD13 := hide (HD12.out.later hb)
        have HZ13 := hide ((hb.block g17 (blk_lt HZ12.out)).trans HZ12.out)
        clear hb HT12 HX12 HD12 HZ12
        obtain ⟨dr, hdr⟩ : ∃ dr, drow xs = dr := ⟨_, rfl⟩
        rw [hdr] at hd
        cases dr with
        | none =>
          have hd' : e = .returned (.tuple #[.slice none 0 0, .int .i64 11]) := hd
          subst hd'
          clear hd hdr
          have y0 : v13.cell? ⟨g17, 0, none⟩ = some (.string t.nm) := cell_blk HZ13.out
          have y1 : v13.cell? ⟨g17, 1, none⟩ = some (.slice da t.cs.length dc) := cell_blk HZ13.out
          have y2 : v13.cell? ⟨g17, 2, none⟩ = some (.slice ya t.xs.length yc) := cell_blk HZ13.out
          have HC := hide (encode5 HD13.out)
          go_wp2_with fail
          refine HC.out.mono ?_
          rintro e v14 ⟨wa, wn, wc, rfl, hx, hb⟩
          have HW14 := hide (hx HOK2.out)
          clear hx
          clear HC
          have HT14 := hide (HT13.out.next hb)
          have HX14 := hide (HX13.out.later hb (Nat.le_refl _))
          have HD14 := hide (HD13.out.later hb)
          have HZ14 := hide ((hb.block g17 (blk_lt HZ13.out)).trans HZ13.out)
          clear hb HT13 HX13 HD13 HZ13
          clear y0 y1 y2
          rw [show t.err = 0 from by unfold Sch.err; rw [HOK2.out]; rfl]
          rw [HEQ2.out] at HW14
          have tx : (convert 42 9 (.slice wa wn wc)).run Try.prog v14 = .ok (.string (str xs)) v14 := run_text HW14.out
          have ty : (convert 42 9 (.slice ba bn bc)).run Try.prog v14 = .ok (.string (str xs)) v14 := run_text HX14.out
          go_wp2
          go_ret
          exact ⟨rfl, by first | exact HT14.out.bel | (rw [← HG3.out]; exact HT14.out.bel)⟩
        | some l2 =>
          obtain ⟨hok2, fa, fc, rfl, hsv2⟩ := hd
          have HRE := hide (drow_some hdr).1
          have HRB := hide (drow_some hdr).2
          have HOKL : Hid (∀ x ∈ l2, x.ok) := fun x hx => (hok2 x hx).1
          have HSML : Hid (∀ x ∈ l2, x.2.2.size ≤ 4194304) := fun x hx => (hok2 x hx).2
          have HR13 := hide hsv2
          clear hok2 hsv2 hdr
          have y0 : v13.cell? ⟨g17, 0, none⟩ = some (.string t.nm) := cell_blk HZ13.out
          have y1 : v13.cell? ⟨g17, 1, none⟩ = some (.slice da t.cs.length dc) := cell_blk HZ13.out
          have y2 : v13.cell? ⟨g17, 2, none⟩ = some (.slice ya t.xs.length yc) := cell_blk HZ13.out
          have HC := hide (encode5 HD13.out)
          go_wp2_with fail
          refine HC.out.mono ?_
          rintro e v14 ⟨wa, wn, wc, rfl, hx, hb⟩
          have HW14 := hide (hx HOK2.out)
          clear hx
          clear HC
          have HT14 := hide (HT13.out.next hb)
          have HX14 := hide (HX13.out.later hb (Nat.le_refl _))
          have HD14 := hide (HD13.out.later hb)
          have HZ14 := hide ((hb.block g17 (blk_lt HZ13.out)).trans HZ13.out)
          have HR14 := hide (HR13.out.later hb)
          clear hb HT13 HX13 HD13 HZ13 HR13
          clear y0 y1 y2
          rw [show t.err = 0 from by unfold Sch.err; rw [HOK2.out]; rfl]
          rw [HEQ2.out] at HW14
          have tx : (convert 42 9 (.slice wa wn wc)).run Try.prog v14 = .ok (.string (str xs)) v14 := run_text HW14.out
          have ty : (convert 42 9 (.slice ba bn bc)).run Try.prog v14 = .ok (.string (str xs)) v14 := run_text HX14.out
          go_upto_region 20 with fail
          clear tx ty
          have HC := hide (encrow54 HR14.out HOKL.out HSML.out)
          go_wp2_with fail
          refine HC.out.mono ?_
          rintro e v15 ⟨oa, on, oc, rfl, hx, hb⟩
          have HY15 := hide (hx HRE.out)
          clear hx
          clear HC
          have HT15 := hide (HT14.out.next hb)
          have HX15 := hide (HX14.out.later hb (Nat.le_refl _))
          have HD15 := hide (HD14.out.later hb)
          have HZ15 := hide ((hb.block g17 (blk_lt HZ14.out)).trans HZ14.out)
          have HR15 := hide (HR14.out.later hb)
          have HW15 := hide (HW14.out.later hb (Nat.le_refl _))
          clear hb HT14 HX14 HD14 HZ14 HR14 HW14
          rw [HRE.out]
          rw [HRB.out] at HY15
          have tu : (convert 42 9 (.slice oa on oc)).run Try.prog v15 = .ok (.string (str xs)) v15 := run_text HY15.out
          have tv : (convert 42 9 (.slice ba bn bc)).run Try.prog v15 = .ok (.string (str xs)) v15 := run_text HX15.out
          go_wp2
          go_ret
          exact ⟨rfl, by first | exact HT15.out.bel | (rw [← HG3.out]; exact HT15.out.bel)⟩
    · have d0 : ((zr : Int) == 0) = false := by simp [h0]
      clear h0 HV8
      have HC := hide (decodeS_any HX8.out)
      go_wp2_with fail
      refine HC.out.mono ?_
      rintro e v9 ⟨hd, hb⟩
      clear HC
      have HT9 := hide (HT8.out.next hb)
      have HX9 := hide (HX8.out.later hb (Nat.le_refl _))
      clear hb HT8 HX8
      rcases hd with hd | hd
      · subst hd
        have hb := below_box v9 (.cells #[.string ⟨#[]⟩, .slice none 0 0, .slice none 0 0] 25)
        have HZ10 : Hid ((v9.alloc (.cells #[.string ⟨#[]⟩, .slice none 0 0, .slice none 0 0] 25)).heap[v9.heap.size]? = some (.cells #[.string ⟨#[]⟩, .slice none 0 0, .slice none 0 0] 25 (0, 0))) := boxed v9 _
        have HT10 := hide (HT9.out.next hb)
        have HX10 := hide (HX9.out.later hb (Nat.le_refl _))
        clear hb HT9 HX9
        go_upto_region 15 with fail
        generalize v9.alloc (.cells #[.string ⟨#[]⟩, .slice none 0 0, .slice none 0 0] 25) = v10 at *
        generalize v9.heap.size = g17 at *
        have HC := hide (decoderow_any HX10.out HBN.out)
        go_wp2_with fail
        refine HC.out.mono ?_
        rintro e v11 ⟨hd, hb⟩
        clear HC
        unfold DrR at hd
        have HT11 := hide (HT10.out.next hb)
        have HX11 := hide (HX10.out.later hb (Nat.le_refl _))
        have HZ11 := hide ((hb.block g17 (blk_lt HZ10.out)).trans HZ10.out)
        clear hb HT10 HX10 HZ10
        obtain ⟨dr, hdr⟩ : ∃ dr, drow xs = dr := ⟨_, rfl⟩
        rw [hdr] at hd
        cases dr with
        | none =>
          have hd' : e = .returned (.tuple #[.slice none 0 0, .int .i64 11]) := hd
          subst hd'
          clear hd hdr
          go_wp2
          go_ret
          exact ⟨rfl, by first | exact HT11.out.bel | (rw [← HG3.out]; exact HT11.out.bel)⟩
        | some l2 =>
          obtain ⟨hok2, fa, fc, rfl, hsv2⟩ := hd
          have HRE := hide (drow_some hdr).1
          have HRB := hide (drow_some hdr).2
          have HOKL : Hid (∀ x ∈ l2, x.ok) := fun x hx => (hok2 x hx).1
          have HSML : Hid (∀ x ∈ l2, x.2.2.size ≤ 4194304) := fun x hx => (hok2 x hx).2
          have HR11 := hide hsv2
          clear hok2 hsv2 hdr
          have HC := hide (encrow54 HR11.out HOKL.out HSML.out)
          go_wp2_with fail
          refine HC.out.mono ?_
          rintro e v12 ⟨oa, on, oc, rfl, hx, hb⟩
          have HY12 := hide (hx HRE.out)
          clear hx
          clear HC
          have HT12 := hide (HT11.out.next hb)
          have HX12 := hide (HX11.out.later hb (Nat.le_refl _))
          have HZ12 := hide ((hb.block g17 (blk_lt HZ11.out)).trans HZ11.out)
          have HR12 := hide (HR11.out.later hb)
          clear hb HT11 HX11 HZ11 HR11
          rw [HRE.out]
          rw [HRB.out] at HY12
          have tu : (convert 42 9 (.slice oa on oc)).run Try.prog v12 = .ok (.string (str xs)) v12 := run_text HY12.out
          have tv : (convert 42 9 (.slice ba bn bc)).run Try.prog v12 = .ok (.string (str xs)) v12 := run_text HX12.out
          go_wp2
          go_ret
          exact ⟨rfl, by first | exact HT12.out.bel | (rw [← HG3.out]; exact HT12.out.bel)⟩
      · obtain ⟨t, da, dc, ya, yc, rfl, hsc2, hok2, heq2⟩ := hd
        have HD9 := hide hsc2
        have HOK2 := hide hok2
        have HEQ2 := hide heq2
        clear hsc2 hok2 heq2
        have hb := below_box v9 (.cells #[.string t.nm, .slice da t.cs.length dc, .slice ya t.xs.length yc] 25)
        have HZ10 : Hid ((v9.alloc (.cells #[.string t.nm, .slice da t.cs.length dc, .slice ya t.xs.length yc] 25)).heap[v9.heap.size]? = some (.cells #[.string t.nm, .slice da t.cs.length dc, .slice ya t.xs.length yc] 25 (0, 0))) := boxed v9 _
        have HT10 := hide (HT9.out.next hb)
        have HX10 := hide (HX9.out.later hb (Nat.le_refl _))
        have HD10 := hide (HD9.out.later hb)
        clear hb HT9 HX9 HD9
        go_upto_region 15 with fail
        generalize v9.alloc (.cells #[.string t.nm, .slice da t.cs.length dc, .slice ya t.xs.length yc] 25) = v10 at *
        generalize v9.heap.size = g17 at *
        have HC := hide (decoderow_any HX10.out HBN.out)
        go_wp2_with fail
        refine HC.out.mono ?_
        rintro e v11 ⟨hd, hb⟩
        clear HC
        unfold DrR at hd
        have HT11 := hide (HT10.out.next hb)
        have HX11 := hide (HX10.out.later hb (Nat.le_refl _))
        have HD11 := hide (HD10.out.later hb)
        have HZ11 := hide ((hb.block g17 (blk_lt HZ10.out)).trans HZ10.out)
        clear hb HT10 HX10 HD10 HZ10
        obtain ⟨dr, hdr⟩ : ∃ dr, drow xs = dr := ⟨_, rfl⟩
        rw [hdr] at hd
        cases dr with
        | none =>
          have hd' : e = .returned (.tuple #[.slice none 0 0, .int .i64 11]) := hd
          subst hd'
          clear hd hdr
          have y0 : v11.cell? ⟨g17, 0, none⟩ = some (.string t.nm) := cell_blk HZ11.out
          have y1 : v11.cell? ⟨g17, 1, none⟩ = some (.slice da t.cs.length dc) := cell_blk HZ11.out
          have y2 : v11.cell? ⟨g17, 2, none⟩ = some (.slice ya t.xs.length yc) := cell_blk HZ11.out
          have HC := hide (encode5 HD11.out)
          go_wp2_with fail
          refine HC.out.mono ?_
          rintro e v12 ⟨wa, wn, wc, rfl, hx, hb⟩
          have HW12 := hide (hx HOK2.out)
          clear hx
          clear HC
          have HT12 := hide (HT11.out.next hb)
          have HX12 := hide (HX11.out.later hb (Nat.le_refl _))
          have HD12 := hide (HD11.out.later hb)
          have HZ12 := hide ((hb.block g17 (blk_lt HZ11.out)).trans HZ11.out)
          clear hb HT11 HX11 HD11 HZ11
          clear y0 y1 y2
          rw [show t.err = 0 from by unfold Sch.err; rw [HOK2.out]; rfl]
          rw [HEQ2.out] at HW12
          have tx : (convert 42 9 (.slice wa wn wc)).run Try.prog v12 = .ok (.string (str xs)) v12 := run_text HW12.out
          have ty : (convert 42 9 (.slice ba bn bc)).run Try.prog v12 = .ok (.string (str xs)) v12 := run_text HX12.out
          go_wp2
          go_ret
          exact ⟨rfl, by first | exact HT12.out.bel | (rw [← HG3.out]; exact HT12.out.bel)⟩
        | some l2 =>
          obtain ⟨hok2, fa, fc, rfl, hsv2⟩ := hd
          have HRE := hide (drow_some hdr).1
          have HRB := hide (drow_some hdr).2
          have HOKL : Hid (∀ x ∈ l2, x.ok) := fun x hx => (hok2 x hx).1
          have HSML : Hid (∀ x ∈ l2, x.2.2.size ≤ 4194304) := fun x hx => (hok2 x hx).2
          have HR11 := hide hsv2
          clear hok2 hsv2 hdr
          have y0 : v11.cell? ⟨g17, 0, none⟩ = some (.string t.nm) := cell_blk HZ11.out
          have y1 : v11.cell? ⟨g17, 1, none⟩ = some (.slice da t.cs.length dc) := cell_blk HZ11.out
          have y2 : v11.cell? ⟨g17, 2, none⟩ = some (.slice ya t.xs.length yc) := cell_blk HZ11.out
          have HC := hide (encode5 HD11.out)
          go_wp2_with fail
          refine HC.out.mono ?_
          rintro e v12 ⟨wa, wn, wc, rfl, hx, hb⟩
          have HW12 := hide (hx HOK2.out)
          clear hx
          clear HC
          have HT12 := hide (HT11.out.next hb)
          have HX12 := hide (HX11.out.later hb (Nat.le_refl _))
          have HD12 := hide (HD11.out.later hb)
          have HZ12 := hide ((hb.block g17 (blk_lt HZ11.out)).trans HZ11.out)
          have HR12 := hide (HR11.out.later hb)
          clear hb HT11 HX11 HD11 HZ11 HR11
          clear y0 y1 y2
          rw [show t.err = 0 from by unfold Sch.err; rw [HOK2.out]; rfl]
          rw [HEQ2.out] at HW12
          have tx : (convert 42 9 (.slice wa wn wc)).run Try.prog v12 = .ok (.string (str xs)) v12 := run_text HW12.out
          have ty : (convert 42 9 (.slice ba bn bc)).run Try.prog v12 = .ok (.string (str xs)) v12 := run_text HX12.out
          go_upto_region 20 with fail
          clear tx ty
          have HC := hide (encrow54 HR12.out HOKL.out HSML.out)
          go_wp2_with fail
          refine HC.out.mono ?_
          rintro e v13 ⟨oa, on, oc, rfl, hx, hb⟩
          have HY13 := hide (hx HRE.out)
          clear hx
          clear HC
          have HT13 := hide (HT12.out.next hb)
          have HX13 := hide (HX12.out.later hb (Nat.le_refl _))
          have HD13 := hide (HD12.out.later hb)
          have HZ13 := hide ((hb.block g17 (blk_lt HZ12.out)).trans HZ12.out)
          have HR13 := hide (HR12.out.later hb)
          have HW13 := hide (HW12.out.later hb (Nat.le_refl _))
          clear hb HT12 HX12 HD12 HZ12 HR12 HW12
          rw [HRE.out]
          rw [HRB.out] at HY13
          have tu : (convert 42 9 (.slice oa on oc)).run Try.prog v13 = .ok (.string (str xs)) v13 := run_text HY13.out
          have tv : (convert 42 9 (.slice ba bn bc)).run Try.prog v13 = .ok (.string (str xs)) v13 := run_text HX13.out
          go_wp2
          go_ret
          exact ⟨rfl, by first | exact HT13.out.bel | (rw [← HG3.out]; exact HT13.out.bel)⟩
end Go.Proofs.Ytcophbkgighepaa
