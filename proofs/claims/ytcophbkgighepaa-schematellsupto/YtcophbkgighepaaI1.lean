/- The law SchemaTells, walked. -/
import Derived.Test.YtcophbkgighepaaHP
import Derived.Test.YtcophbkgighepaaHW
import Derived.Deep.CutRange
set_option linter.unusedVariables false
namespace Go.Proofs.Ytcophbkgighepaa
open Go.RowKit

/-- What came in and what was copied lie where they lay. -/
structure TT (W : World) (g3 g7 : Nat) (s : Sch) (ca : Option Addr) (cl cc : Nat) (xa : Option Addr) (xl xc : Nat) (ea : Option Addr) (el ec : Nat) (za : Option Addr) (zl zc : Nat) (a : Option Addr) (n c : Nat) (la : List Val) (ra : Option Addr) (rn rc : Nat) (w : World) : Prop where
  k3 : w.heap[g3]? = some (.cells #[.string s.nm, .slice ca cl cc, .slice xa xl xc] 25 (0, 0))
  k7 : w.heap[g7]? = some (.cells #[.string s.t5.nm, .slice ea el ec, .slice za zl zc] 25 (0, 0))
  sc : SC w ca cl cc xa xl xc s
  i : SC w ea el ec za zl zc s.t5
  a : SV fV 3 w a n c la
  r : SV fV 3 w ra rn rc (la.take 5)
  bel : Below W.heap.size W w
theorem TT.next {W w w' : World} {g3 g7 : Nat} {s : Sch} {ca : Option Addr} {cl cc : Nat} {xa : Option Addr} {xl xc : Nat} {ea : Option Addr} {el ec : Nat} {za : Option Addr} {zl zc : Nat} {a : Option Addr} {n c : Nat} {la : List Val} {ra : Option Addr} {rn rc : Nat} (h : TT W g3 g7 s ca cl cc xa xl xc ea el ec za zl zc a n c la ra rn rc w) (hb : Below w.heap.size w w') : TT W g3 g7 s ca cl cc xa xl xc ea el ec za zl zc a n c la ra rn rc w' :=
  ⟨(hb.block g3 (blk_lt h.k3)).trans h.k3, (hb.block g7 (blk_lt h.k7)).trans h.k7, h.sc.later hb, h.i.later hb, h.a.later hb, h.r.later hb, h.bel.trans (hb.mono h.bel.size)⟩
theorem SchP.t5 {s : Sch} (h : SchP s) : SchP s.t5 := ⟨h.nm, fun x hx => h.cs x (List.mem_of_mem_take hx), fun x hx => h.xs x (List.mem_of_mem_take hx)⟩
set_option maxRecDepth 100000 in
set_option maxHeartbeats 32000000 in
theorem schemaTells_walk (s : Sch) (ca : Option Addr) (cl cc : Nat) (xa : Option Addr) (xl xc : Nat) (a : Option Addr) (n c : Nat) (la : List Val) (nm : ByteArray) (W : World) (hs : SC W ca cl cc xa xl xc s) (ps : SchP s) (ha : SV fV 3 W a n c la) (pa : ∀ x ∈ la, ValP x) (hnm : nm.size ≤ 1048576) :
    Calls Try.prog 3 #[.agg #[.string s.nm, .slice ca cl cc, .slice xa xl xc], .slice a n c, .string nm] W fun e W' => e = .returned (.bool true) ∧ Below W.heap.size W W' := by
  have PR : Hid (∀ x ∈ la.take 5, ValP x) := fun x hx => pa x (List.mem_of_mem_take hx)
  have HIP := hide ps.t5
  have HNMS := hide hnm
  obtain ⟨v0, hv0⟩ : ∃ v0, v0 = W.alloc (.cells #[.string s.nm, .slice ca cl cc, .slice xa xl xc] 25) := ⟨_, rfl⟩
  obtain ⟨g3, hg3⟩ : ∃ g3, W.heap.size = g3 := ⟨_, rfl⟩
  have hb1 : Below W.heap.size W v0 := by rw [hv0]; exact below_box W _
  have HK0 : Hid (v0.heap[g3]? = some (.cells #[.string s.nm, .slice ca cl cc, .slice xa xl xc] 25 (0, 0))) := by show _ = _; rw [hv0, ← hg3]; exact boxed W _
  have HS0 := hide (hs.later hb1)
  have HA0 := hide (ha.later hb1)
  have HB0 := hide hb1
  have HW0 := hide hv0
  have HG3 := hide hg3
  clear hs ps ha pa hnm hb1 hv0
  go_enter Try.func3, Try.ntmps3
  go_upto_region 1 with fail
  rw [← HW0.out]
  clear HW0
  have y0 : v0.cell? ⟨g3, 0, none⟩ = some (.string s.nm) := cell_blk HK0.out
  have y1 : v0.cell? ⟨g3, 1, none⟩ = some (.slice ca cl cc) := cell_blk HK0.out
  have y2 : v0.cell? ⟨g3, 2, none⟩ = some (.slice xa xl xc) := cell_blk HK0.out
  have HC := hide (copied5 HS0.out)
  go_wp2_with fail
  refine HC.out.mono ?_
  rintro e v1 ⟨ea, el, ec, za, zl, zc, rfl, hi, h1, h2, hb⟩
  have LI := hide (And.intro h1 h2)
  have HI1 := hide hi
  have HK1 := hide ((hb.block g3 (blk_lt HK0.out)).trans HK0.out)
  have HS1 := hide (HS0.out.later hb)
  have HA1 := hide (HA0.out.later hb)
  have HB1 := hide (HB0.out.trans (hb.mono HB0.out.size))
  clear hi h1 h2 hb HC HK0 HS0 HA0 HB0 y0 y1 y2
  have HC := hide (few5 HA1.out)
  go_wp2_with fail
  refine HC.out.mono ?_
  rintro e v2 ⟨ra, rn, rc, rfl, hr, h1, hb⟩
  have LR := hide h1
  obtain ⟨v3, hv3⟩ : ∃ v3, v3 = v2.alloc (.cells #[.string s.t5.nm, .slice ea el ec, .slice za zl zc] 25) := ⟨_, rfl⟩
  obtain ⟨g7, hg7⟩ : ∃ g7, v2.heap.size = g7 := ⟨_, rfl⟩
  have hbx : Below v2.heap.size v2 v3 := by rw [hv3]; exact below_box v2 _
  have HT3 : Hid (TT W g3 g7 s ca cl cc xa xl xc ea el ec za zl zc a n c la ra rn rc v3) := by
    have hk3 := (hb.block g3 (blk_lt HK1.out)).trans HK1.out
    refine ⟨(hbx.block g3 (blk_lt hk3)).trans hk3, ?_, (HS1.out.later hb).later hbx, (HI1.out.later hb).later hbx, (HA1.out.later hb).later hbx, hr.later hbx, (HB1.out.trans (hb.mono HB1.out.size)).trans (hbx.mono (HB1.out.trans (hb.mono HB1.out.size)).size)⟩
    rw [hv3, ← hg7]
    exact boxed v2 _
  have HV3 := hide hv3
  clear hr h1 hb hbx HC HK1 HS1 HA1 HB1 HI1 hv3
  go_upto_region 2 with fail
  rw [← HV3.out]
  clear HV3
  have y0 : v3.cell? ⟨g7, 0, none⟩ = some (.string s.t5.nm) := cell_blk HT3.out.k7
  have y1 : v3.cell? ⟨g7, 1, none⟩ = some (.slice ea el ec) := cell_blk HT3.out.k7
  have y2 : v3.cell? ⟨g7, 2, none⟩ = some (.slice za zl zc) := cell_blk HT3.out.k7
  have HC := hide (sright_any HT3.out.i)
  go_wp2_with fail
  refine HC.out.mono ?_
  rintro e v3' ⟨rfl, hb⟩
  have HT3' := hide (HT3.out.next hb)
  clear hb HC HT3 y0 y1 y2
  have y0 : v3'.cell? ⟨g7, 0, none⟩ = some (.string s.t5.nm) := cell_blk HT3'.out.k7
  have y1 : v3'.cell? ⟨g7, 1, none⟩ = some (.slice ea el ec) := cell_blk HT3'.out.k7
  have y2 : v3'.cell? ⟨g7, 2, none⟩ = some (.slice za zl zc) := cell_blk HT3'.out.k7
  have HC : Hid (Calls Try.prog 9 #[.agg #[.string s.t5.nm, .slice ea el ec, .slice za zl zc], .slice ra rn rc] v3' fun e w' => ∃ a' c', e = .returned (.slice a' rn c') ∧ w'.ownsRow v3'.heap.size 39 3 (.slice a' rn c') rn (((la.take 5).map foldV).flatMap fV) ∧ Below v3'.heap.size v3' w') := sfold_own HT3'.out.r (by have := LR.out; omega) (fun x hx => (PR.out x hx).2)
  go_wp2_with fail
  refine HC.out.mono ?_
  rintro e w4 ⟨fa, fc, rfl, ho, hb⟩
  clear HC y0 y1 y2
  obtain ⟨v3, hv3⟩ : ∃ v, v = v3' := ⟨_, rfl⟩
  rw [← hv3] at HT3' ho hb
  clear hv3
  have HT3 := hide HT3'.out
  clear HT3'
  have HOL : Hid (w4.ownsRow v3.heap.size 39 3 (.slice fa rn fc) rn (((la.take 5).map foldV).flatMap fV)) := ho
  have HSVF : Hid (∀ w, w.ownsRow v3.heap.size 39 3 (.slice fa rn fc) rn (((la.take 5).map foldV).flatMap fV) → SV fV 3 w fa rn fc ((la.take 5).map foldV)) := by
    intro w h9
    obtain ⟨a', c', e', hsv⟩ := own_sv fV_len h9 (by rw [List.length_map]; exact HT3.out.r.hl)
    simp only [Value.slice.injEq] at e'
    obtain ⟨rfl, _, rfl⟩ := e'
    exact hsv
  have HT4 := hide (HT3.out.next hb)
  have HB4 : Hid (Below v3.heap.size v3 w4) := hb
  clear ho hb
  generalize he : s.t5.err = ze at *
  have HE := hide he
  clear he
  go_upto_region 4 with fail
  have HT4 : Hid (TT W g3 g7 s ca cl cc xa xl xc ea el ec za zl zc a n c la ra rn rc w4.drew) := HT4.out.next (Below.refl _ w4).drew
  have HB4 : Hid (Below v3.heap.size v3 w4.drew) := HB4.out.drew
  have HO4 : Hid (w4.drew.ownsRow v3.heap.size 39 3 (.slice fa rn fc) rn (((la.take 5).map foldV).flatMap fV)) := HOL.out
  go_cut [11] from 13 to 83 (fun cz wx => cz = .bool true ∧ TT W g3 g7 s ca cl cc xa xl xc ea el ec za zl zc a n c la ra rn rc wx ∧ wx.ownsRow v3.heap.size 39 3 (.slice fa rn fc) rn (((la.take 5).map foldV).flatMap fV) ∧ Below v3.heap.size v3 wx)
  case first =>
    cases hok : s.t5.ok with
    | true =>
      have d1 : (ze == (0 : Int)) = true := by rw [← HE.out]; unfold Sch.err; rw [hok]; rfl
      have HOK := hide hok
      clear hok
      have HX0 : Hid ((fun wx => wx.cell? ⟨g7, 0, none⟩ = some (.string s.t5.nm) ∧ wx.cell? ⟨g7, 1, none⟩ = some (.slice ea el ec) ∧ wx.cell? ⟨g7, 2, none⟩ = some (.slice za zl zc)) w4.drew) := ⟨cell_blk (HT4.out).k7, cell_blk (HT4.out).k7, cell_blk (HT4.out).k7⟩
      refine wp_region_noPanic ?_
      refine wp_region_held_drew (S := fun wx => wx.cell? ⟨g7, 0, none⟩ = some (.string s.t5.nm) ∧ wx.cell? ⟨g7, 1, none⟩ = some (.slice ea el ec) ∧ wx.cell? ⟨g7, 2, none⟩ = some (.slice za zl zc)) (by kernel_rfl) HX0.out (fun hHeld => ?_)
      refine wpAnyH_comesAt (i := 0) (by kernel_rfl) (by kernel_rfl) ?_
      intro o ho K hK
      simp only [List.getElem?_toArray, List.getElem?_cons_zero, Option.some.injEq] at ho
      subst ho
      go_simp
      refine (told14 _).mono ?_
      rintro e v5 ⟨rfl, hb⟩
      clear hHeld
      have HT5 := hide (HT4.out.next hb)
      have HO5 := hide (ownsRow_later HO4.out hb)
      have HB5 : Hid (Below v3.heap.size v3 v5) := HB4.out.trans (hb.mono HB4.out.size)
      clear hb HT4 HO4 HB4
      refine hK.out _ _ ⟨cell_blk (HT5.out).k7, cell_blk (HT5.out).k7, cell_blk (HT5.out).k7⟩ (fun hHeld => ?_)
      clear hK K
      try simp only [Act.put, List.setIfInBounds_toArray, List.set_cons_zero, List.set_cons_succ]
      refine wpAnyH_takeAt (i := 1) (d := 23) (v := ?va1) (by kernel_rfl) (by kernel_rfl) (by kernel_rfl) (by kernel_rfl) (fun _ _ _ h => h) ?hya1 (by assumption) ?resta1
      case hya1 =>
        intro oi ho
        simp only [List.getElem?_toArray, List.getElem?_cons_succ, List.getElem?_cons_zero, Option.some.injEq] at ho
        subst ho
        refine Or.inl ⟨by rfl, ?_⟩
        intro wx hSw
        try dsimp only at hSw
        go_simp
        try rfl
      try simp only [Act.put, List.setIfInBounds_toArray, List.set_cons_zero, List.set_cons_succ]
      refine wpAnyH_takeAt (i := 2) (d := 24) (v := ?va2) (by kernel_rfl) (by kernel_rfl) (by kernel_rfl) (by kernel_rfl) (fun _ _ _ h => h) ?hya2 (by assumption) ?resta2
      case hya2 =>
        intro oi ho
        simp only [List.getElem?_toArray, List.getElem?_cons_succ, List.getElem?_cons_zero, Option.some.injEq] at ho
        subst ho
        refine Or.inl ⟨by rfl, ?_⟩
        intro wx hSw
        try dsimp only at hSw
        go_simp
        try rfl
      try simp only [Act.put, List.setIfInBounds_toArray, List.set_cons_zero, List.set_cons_succ]
      refine wpAnyH_takeAt (i := 3) (d := 25) (v := ?va3) (by kernel_rfl) (by kernel_rfl) (by kernel_rfl) (by kernel_rfl) (fun _ _ _ h => h) ?hya3 (by assumption) ?resta3
      case hya3 =>
        intro oi ho
        simp only [List.getElem?_toArray, List.getElem?_cons_succ, List.getElem?_cons_zero, Option.some.injEq] at ho
        subst ho
        refine Or.inl ⟨by rfl, ?_⟩
        intro wx hSw
        try dsimp only at hSw
        go_simp
        try rfl
      try simp only [Act.put, List.setIfInBounds_toArray, List.set_cons_zero, List.set_cons_succ]
      refine wpAnyH_takeAt (i := 4) (d := 26) (v := ?va4) (by kernel_rfl) (by kernel_rfl) (by kernel_rfl) (by kernel_rfl) (fun _ _ _ h => h) ?hya4 (by assumption) ?resta4
      case hya4 =>
        intro oi ho
        simp only [List.getElem?_toArray, List.getElem?_cons_succ, List.getElem?_cons_zero, Option.some.injEq] at ho
        subst ho
        refine Or.inl ⟨by rfl, ?_⟩
        intro wx hSw
        try dsimp only at hSw
        go_simp
        try rfl
      try simp only [Act.put, List.setIfInBounds_toArray, List.set_cons_zero, List.set_cons_succ]
      refine wpAnyH_comesAt (i := 5) (by kernel_rfl) (by kernel_rfl) ?_
      intro o ho K hK
      simp only [List.getElem?_toArray, List.getElem?_cons_succ, List.getElem?_cons_zero, Option.some.injEq] at ho
      subst ho
      go_simp
      refine (refright14_any HT5.out.i HIP.out).mono ?_
      rintro e v6 ⟨rfl, hb⟩
      rw [HOK.out]
      clear hHeld
      have HT6 := hide (HT5.out.next hb)
      have HO6 := hide (ownsRow_later HO5.out hb)
      have HB6 : Hid (Below v3.heap.size v3 v6) := HB5.out.trans (hb.mono HB5.out.size)
      clear hb HT5 HO5 HB5
      refine hK.out _ _ ⟨cell_blk (HT6.out).k7, cell_blk (HT6.out).k7, cell_blk (HT6.out).k7⟩ (fun hHeld => ?_)
      clear hK K
      try simp only [Act.put, List.setIfInBounds_toArray, List.set_cons_zero, List.set_cons_succ]
      refine wpAnyH_takeAt (i := 6) (d := 28) (v := ?va6) (by kernel_rfl) (by kernel_rfl) (by kernel_rfl) (by kernel_rfl) (fun _ _ _ h => h) ?hya6 (by assumption) ?resta6
      case hya6 =>
        intro oi ho
        simp only [List.getElem?_toArray, List.getElem?_cons_succ, List.getElem?_cons_zero, Option.some.injEq] at ho
        subst ho
        refine Or.inl ⟨by rfl, ?_⟩
        intro wx hSw
        try dsimp only at hSw
        go_simp
        try rfl
      try simp only [Act.put, List.setIfInBounds_toArray, List.set_cons_zero, List.set_cons_succ]
      refine wpAnyH_takeAt (i := 7) (d := 29) (v := ?va7) (by kernel_rfl) (by kernel_rfl) (by kernel_rfl) (by kernel_rfl) (fun _ _ _ h => h) ?hya7 (by assumption) ?resta7
      case hya7 =>
        intro oi ho
        simp only [List.getElem?_toArray, List.getElem?_cons_succ, List.getElem?_cons_zero, Option.some.injEq] at ho
        subst ho
        refine Or.inl ⟨by rfl, ?_⟩
        intro wx hSw
        try dsimp only at hSw
        go_simp
        try rfl
      try simp only [Act.put, List.setIfInBounds_toArray, List.set_cons_zero, List.set_cons_succ]
      refine wpAnyH_takeAt (i := 8) (d := 30) (v := ?va8) (by kernel_rfl) (by kernel_rfl) (by kernel_rfl) (by kernel_rfl) (fun _ _ _ h => h) ?hya8 (by assumption) ?resta8
      case hya8 =>
        intro oi ho
        simp only [List.getElem?_toArray, List.getElem?_cons_succ, List.getElem?_cons_zero, Option.some.injEq] at ho
        subst ho
        refine Or.inl ⟨by rfl, ?_⟩
        intro wx hSw
        try dsimp only at hSw
        go_simp
        try rfl
      try simp only [Act.put, List.setIfInBounds_toArray, List.set_cons_zero, List.set_cons_succ]
      refine wpAnyH_takeAt (i := 9) (d := 31) (v := ?va9) (by kernel_rfl) (by kernel_rfl) (by kernel_rfl) (by kernel_rfl) (fun _ _ _ h => h) ?hya9 (by assumption) ?resta9
      case hya9 =>
        intro oi ho
        simp only [List.getElem?_toArray, List.getElem?_cons_succ, List.getElem?_cons_zero, Option.some.injEq] at ho
        subst ho
        refine Or.inl ⟨by rfl, ?_⟩
        intro wx hSw
        try dsimp only at hSw
        go_simp
        try rfl
      try simp only [Act.put, List.setIfInBounds_toArray, List.set_cons_zero, List.set_cons_succ]
      refine wpAnyH_takeAt (i := 10) (d := 32) (v := ?va10) (by kernel_rfl) (by kernel_rfl) (by kernel_rfl) (by kernel_rfl) (fun _ _ _ h => h) ?hya10 (by assumption) ?resta10
      case hya10 =>
        intro oi ho
        simp only [List.getElem?_toArray, List.getElem?_cons_succ, List.getElem?_cons_zero, Option.some.injEq] at ho
        subst ho
        refine Or.inl ⟨by rfl, ?_⟩
        intro wx hSw
        try dsimp only at hSw
        go_simp
        try rfl
      try simp only [Act.put, List.setIfInBounds_toArray, List.set_cons_zero, List.set_cons_succ]
      refine wpAnyH_takeAt (i := 11) (d := 33) (v := ?va11) (by kernel_rfl) (by kernel_rfl) (by kernel_rfl) (by kernel_rfl) (fun _ _ _ h => h) ?hya11 (by assumption) ?resta11
      case hya11 =>
        intro oi ho
        simp only [List.getElem?_toArray, List.getElem?_cons_succ, List.getElem?_cons_zero, Option.some.injEq] at ho
        subst ho
        refine Or.inl ⟨by rfl, ?_⟩
        intro wx hSw
        try dsimp only at hSw
        go_simp
        try rfl
      try simp only [Act.put, List.setIfInBounds_toArray, List.set_cons_zero, List.set_cons_succ]
      refine wpAnyH_takeAt (i := 12) (d := 34) (v := undef) (by kernel_rfl) (by kernel_rfl) (by kernel_rfl) (by kernel_rfl) (fun _ _ _ h => h) ?hya12 (by assumption) ?resta12
      case hya12 =>
        intro oi ho
        simp only [List.getElem?_toArray, List.getElem?_cons_succ, List.getElem?_cons_zero, Option.some.injEq] at ho
        subst ho
        exact Or.inr ⟨by rfl, rfl⟩
      try simp only [Act.put, List.setIfInBounds_toArray, List.set_cons_zero, List.set_cons_succ]
      refine wpAnyH_takeAt (i := 13) (d := 35) (v := undef) (by kernel_rfl) (by kernel_rfl) (by kernel_rfl) (by kernel_rfl) (fun _ _ _ h => h) ?hya13 (by assumption) ?resta13
      case hya13 =>
        intro oi ho
        simp only [List.getElem?_toArray, List.getElem?_cons_succ, List.getElem?_cons_zero, Option.some.injEq] at ho
        subst ho
        exact Or.inr ⟨by rfl, rfl⟩
      try simp only [Act.put, List.setIfInBounds_toArray, List.set_cons_zero, List.set_cons_succ]
      refine wpAnyH_takeAt (i := 14) (d := 36) (v := ?va14) (by kernel_rfl) (by kernel_rfl) (by kernel_rfl) (by kernel_rfl) (fun _ _ _ h => h) ?hya14 (by assumption) ?resta14
      case hya14 =>
        intro oi ho
        simp only [List.getElem?_toArray, List.getElem?_cons_succ, List.getElem?_cons_zero, Option.some.injEq] at ho
        subst ho
        refine Or.inl ⟨by rfl, ?_⟩
        intro wx hSw
        try dsimp only at hSw
        go_simp
        try rfl
      try simp only [Act.put, List.setIfInBounds_toArray, List.set_cons_zero, List.set_cons_succ]
      refine wpAnyH_takeAt (i := 15) (d := 37) (v := ?va15) (by kernel_rfl) (by kernel_rfl) (by kernel_rfl) (by kernel_rfl) (fun _ _ _ h => h) ?hya15 (by assumption) ?resta15
      case hya15 =>
        intro oi ho
        simp only [List.getElem?_toArray, List.getElem?_cons_succ, List.getElem?_cons_zero, Option.some.injEq] at ho
        subst ho
        refine Or.inl ⟨by rfl, ?_⟩
        intro wx hSw
        try dsimp only at hSw
        go_simp
        try rfl
      try simp only [Act.put, List.setIfInBounds_toArray, List.set_cons_zero, List.set_cons_succ]
      refine wpAnyH_takeAt (i := 16) (d := 38) (v := ?va16) (by kernel_rfl) (by kernel_rfl) (by kernel_rfl) (by kernel_rfl) (fun _ _ _ h => h) ?hya16 (by assumption) ?resta16
      case hya16 =>
        intro oi ho
        simp only [List.getElem?_toArray, List.getElem?_cons_succ, List.getElem?_cons_zero, Option.some.injEq] at ho
        subst ho
        refine Or.inl ⟨by rfl, ?_⟩
        intro wx hSw
        try dsimp only at hSw
        go_simp
        try rfl
      try simp only [Act.put, List.setIfInBounds_toArray, List.set_cons_zero, List.set_cons_succ]
      refine wpAnyH_takeAt (i := 17) (d := 39) (v := ?va17) (by kernel_rfl) (by kernel_rfl) (by kernel_rfl) (by kernel_rfl) (fun _ _ _ h => h) ?hya17 (by assumption) ?resta17
      case hya17 =>
        intro oi ho
        simp only [List.getElem?_toArray, List.getElem?_cons_succ, List.getElem?_cons_zero, Option.some.injEq] at ho
        subst ho
        refine Or.inl ⟨by rfl, ?_⟩
        intro wx hSw
        try dsimp only at hSw
        go_simp
        try rfl
      try simp only [Act.put, List.setIfInBounds_toArray, List.set_cons_zero, List.set_cons_succ]
      refine wpAnyH_takeAt (i := 18) (d := 40) (v := ?va18) (by kernel_rfl) (by kernel_rfl) (by kernel_rfl) (by kernel_rfl) (fun _ _ _ h => h) ?hya18 (by assumption) ?resta18
      case hya18 =>
        intro oi ho
        simp only [List.getElem?_toArray, List.getElem?_cons_succ, List.getElem?_cons_zero, Option.some.injEq] at ho
        subst ho
        refine Or.inl ⟨by rfl, ?_⟩
        intro wx hSw
        try dsimp only at hSw
        go_simp
        try rfl
      try simp only [Act.put, List.setIfInBounds_toArray, List.set_cons_zero, List.set_cons_succ]
      refine wpAnyH_takeAt (i := 20) (d := 42) (v := ?va20) (by kernel_rfl) (by kernel_rfl) (by kernel_rfl) (by kernel_rfl) (fun _ _ _ h => h) ?hya20 (by assumption) ?resta20
      case hya20 =>
        intro oi ho
        simp only [List.getElem?_toArray, List.getElem?_cons_succ, List.getElem?_cons_zero, Option.some.injEq] at ho
        subst ho
        refine Or.inl ⟨by rfl, ?_⟩
        intro wx hSw
        try dsimp only at hSw
        go_simp
        try rfl
      try simp only [Act.put, List.setIfInBounds_toArray, List.set_cons_zero, List.set_cons_succ]
      refine wpAnyH_takeAt (i := 21) (d := 43) (v := ?va21) (by kernel_rfl) (by kernel_rfl) (by kernel_rfl) (by kernel_rfl) (fun _ _ _ h => h) ?hya21 (by assumption) ?resta21
      case hya21 =>
        intro oi ho
        simp only [List.getElem?_toArray, List.getElem?_cons_succ, List.getElem?_cons_zero, Option.some.injEq] at ho
        subst ho
        refine Or.inl ⟨by rfl, ?_⟩
        intro wx hSw
        try dsimp only at hSw
        go_simp
        try rfl
      try simp only [Act.put, List.setIfInBounds_toArray, List.set_cons_zero, List.set_cons_succ]
      refine wpAnyH_comesAt (i := 19) (by kernel_rfl) (by kernel_rfl) ?_
      intro o ho K hK
      simp only [List.getElem?_toArray, List.getElem?_cons_succ, List.getElem?_cons_zero, Option.some.injEq] at ho
      subst ho
      go_simp
      refine (sfits_any HT6.out.i HT6.out.r (fun x hx => (PR.out x hx).2)).mono ?_
      rintro e v7 ⟨rfl, hb⟩
      clear hHeld
      have HT7 := hide (HT6.out.next hb)
      have HO7 := hide (ownsRow_later HO6.out hb)
      have HB7 : Hid (Below v3.heap.size v3 v7) := HB6.out.trans (hb.mono HB6.out.size)
      clear hb HT6 HO6 HB6
      refine hK.out _ _ ⟨cell_blk (HT7.out).k7, cell_blk (HT7.out).k7, cell_blk (HT7.out).k7⟩ (fun hHeld => ?_)
      clear hK K
      try simp only [Act.put, List.setIfInBounds_toArray, List.set_cons_zero, List.set_cons_succ]
      refine wpAnyH_comesAt (i := 22) (by kernel_rfl) (by kernel_rfl) ?_
      intro o ho K hK
      simp only [List.getElem?_toArray, List.getElem?_cons_succ, List.getElem?_cons_zero, Option.some.injEq] at ho
      subst ho
      go_simp
      refine (reffits14_any HT7.out.i HIP.out HT7.out.r (fun x hx => (PR.out x hx).2)).mono ?_
      rintro e v8 ⟨rfl, hb⟩
      clear hHeld
      have HT8 := hide (HT7.out.next hb)
      have HO8 := hide (ownsRow_later HO7.out hb)
      have HB8 : Hid (Below v3.heap.size v3 v8) := HB7.out.trans (hb.mono HB7.out.size)
      clear hb HT7 HO7 HB7
      refine hK.out _ _ ⟨cell_blk (HT8.out).k7, cell_blk (HT8.out).k7, cell_blk (HT8.out).k7⟩ (fun hHeld => ?_)
      clear hK K
      try simp only [Act.put, List.setIfInBounds_toArray, List.set_cons_zero, List.set_cons_succ]
      refine wpAnyH_takeAt (i := 23) (d := 45) (v := ?va23) (by kernel_rfl) (by kernel_rfl) (by kernel_rfl) (by kernel_rfl) (fun _ _ _ h => h) ?hya23 (by assumption) ?resta23
      case hya23 =>
        intro oi ho
        simp only [List.getElem?_toArray, List.getElem?_cons_succ, List.getElem?_cons_zero, Option.some.injEq] at ho
        subst ho
        refine Or.inl ⟨by rfl, ?_⟩
        intro wx hSw
        try dsimp only at hSw
        go_simp
        try rfl
      try simp only [Act.put, List.setIfInBounds_toArray, List.set_cons_zero, List.set_cons_succ]
      refine wpAnyH_takeAt (i := 24) (d := 46) (v := ?va24) (by kernel_rfl) (by kernel_rfl) (by kernel_rfl) (by kernel_rfl) (fun _ _ _ h => h) ?hya24 (by assumption) ?resta24
      case hya24 =>
        intro oi ho
        simp only [List.getElem?_toArray, List.getElem?_cons_succ, List.getElem?_cons_zero, Option.some.injEq] at ho
        subst ho
        refine Or.inl ⟨by rfl, ?_⟩
        intro wx hSw
        try dsimp only at hSw
        go_simp
        try rfl
      try simp only [Act.put, List.setIfInBounds_toArray, List.set_cons_zero, List.set_cons_succ]
      refine wpAnyH_takeAt (i := 25) (d := 47) (v := ?va25) (by kernel_rfl) (by kernel_rfl) (by kernel_rfl) (by kernel_rfl) (fun _ _ _ h => h) ?hya25 (by assumption) ?resta25
      case hya25 =>
        intro oi ho
        simp only [List.getElem?_toArray, List.getElem?_cons_succ, List.getElem?_cons_zero, Option.some.injEq] at ho
        subst ho
        refine Or.inl ⟨by rfl, ?_⟩
        intro wx hSw
        try dsimp only at hSw
        go_simp
        try rfl
      try simp only [Act.put, List.setIfInBounds_toArray, List.set_cons_zero, List.set_cons_succ]
      refine wpAnyH_takeAt (i := 26) (d := 48) (v := ?va26) (by kernel_rfl) (by kernel_rfl) (by kernel_rfl) (by kernel_rfl) (fun _ _ _ h => h) ?hya26 (by assumption) ?resta26
      case hya26 =>
        intro oi ho
        simp only [List.getElem?_toArray, List.getElem?_cons_succ, List.getElem?_cons_zero, Option.some.injEq] at ho
        subst ho
        refine Or.inl ⟨by rfl, ?_⟩
        intro wx hSw
        try dsimp only at hSw
        go_simp
        try rfl
      try simp only [Act.put, List.setIfInBounds_toArray, List.set_cons_zero, List.set_cons_succ]
      refine wpAnyH_takeAt (i := 27) (d := 49) (v := ?va27) (by kernel_rfl) (by kernel_rfl) (by kernel_rfl) (by kernel_rfl) (fun _ _ _ h => h) ?hya27 (by assumption) ?resta27
      case hya27 =>
        intro oi ho
        simp only [List.getElem?_toArray, List.getElem?_cons_succ, List.getElem?_cons_zero, Option.some.injEq] at ho
        subst ho
        refine Or.inl ⟨by rfl, ?_⟩
        intro wx hSw
        try dsimp only at hSw
        go_simp
        try rfl
      try simp only [Act.put, List.setIfInBounds_toArray, List.set_cons_zero, List.set_cons_succ]
      refine wpAnyH_comesAt (i := 28) (by kernel_rfl) (by kernel_rfl) ?_
      intro o ho K hK
      simp only [List.getElem?_toArray, List.getElem?_cons_succ, List.getElem?_cons_zero, Option.some.injEq] at ho
      subst ho
      go_simp
      refine (reffold14_any HT8.out.r (by have := LR.out; omega) (fun x hx => (PR.out x hx).2)).mono ?_
      rintro e v9 ⟨fa2, fc2, rfl, hs2, hb⟩
      have HF9 := hide hs2
      clear hs2
      clear hHeld
      have HT9 := hide (HT8.out.next hb)
      have HO9 := hide (ownsRow_later HO8.out hb)
      have HB9 : Hid (Below v3.heap.size v3 v9) := HB8.out.trans (hb.mono HB8.out.size)
      clear hb HT8 HO8 HB8
      refine hK.out _ _ ⟨cell_blk (HT9.out).k7, cell_blk (HT9.out).k7, cell_blk (HT9.out).k7⟩ (fun hHeld => ?_)
      clear hK K
      try simp only [Act.put, List.setIfInBounds_toArray, List.set_cons_zero, List.set_cons_succ]
      refine wpAnyH_comesAt (i := 29) (by kernel_rfl) (by kernel_rfl) ?_
      intro o ho K hK
      simp only [List.getElem?_toArray, List.getElem?_cons_succ, List.getElem?_cons_zero, Option.some.injEq] at ho
      subst ho
      go_simp
      refine (refsame2_any (HSVF.out _ HO9.out) HF9.out (by have := LR.out; omega)).mono ?_
      rintro e v10 ⟨rfl, hb⟩
      rw [decide_eq_true rfl]
      clear hHeld
      have HT10 := hide (HT9.out.next hb)
      have HO10 := hide (ownsRow_later HO9.out hb)
      have HB10 : Hid (Below v3.heap.size v3 v10) := HB9.out.trans (hb.mono HB9.out.size)
      clear hb HT9 HO9 HB9 HF9
      refine hK.out _ _ ⟨cell_blk (HT10.out).k7, cell_blk (HT10.out).k7, cell_blk (HT10.out).k7⟩ (fun hHeld => ?_)
      clear hK K
      try simp only [Act.put, List.setIfInBounds_toArray, List.set_cons_zero, List.set_cons_succ]
      refine wpAnyH_takeAt (i := 30) (d := 52) (v := ?va30) (by kernel_rfl) (by kernel_rfl) (by kernel_rfl) (by kernel_rfl) (fun _ _ _ h => h) ?hya30 (by assumption) ?resta30
      case hya30 =>
        intro oi ho
        simp only [List.getElem?_toArray, List.getElem?_cons_succ, List.getElem?_cons_zero, Option.some.injEq] at ho
        subst ho
        refine Or.inl ⟨by rfl, ?_⟩
        intro wx hSw
        try dsimp only at hSw
        go_simp
        try rfl
      try simp only [Act.put, List.setIfInBounds_toArray, List.set_cons_zero, List.set_cons_succ]
      refine wpAnyH_takeAt (i := 31) (d := 53) (v := ?va31) (by kernel_rfl) (by kernel_rfl) (by kernel_rfl) (by kernel_rfl) (fun _ _ _ h => h) ?hya31 (by assumption) ?resta31
      case hya31 =>
        intro oi ho
        simp only [List.getElem?_toArray, List.getElem?_cons_succ, List.getElem?_cons_zero, Option.some.injEq] at ho
        subst ho
        refine Or.inl ⟨by rfl, ?_⟩
        intro wx hSw
        try dsimp only at hSw
        go_simp
        try rfl
      try simp only [Act.put, List.setIfInBounds_toArray, List.set_cons_zero, List.set_cons_succ]
      refine wpAnyH_takeAt (i := 32) (d := 54) (v := ?va32) (by kernel_rfl) (by kernel_rfl) (by kernel_rfl) (by kernel_rfl) (fun _ _ _ h => h) ?hya32 (by assumption) ?resta32
      case hya32 =>
        intro oi ho
        simp only [List.getElem?_toArray, List.getElem?_cons_succ, List.getElem?_cons_zero, Option.some.injEq] at ho
        subst ho
        refine Or.inl ⟨by rfl, ?_⟩
        intro wx hSw
        try dsimp only at hSw
        go_simp
        try rfl
      try simp only [Act.put, List.setIfInBounds_toArray, List.set_cons_zero, List.set_cons_succ]
      refine wpAnyH_takeAt (i := 34) (d := 56) (v := ?va34) (by kernel_rfl) (by kernel_rfl) (by kernel_rfl) (by kernel_rfl) (fun _ _ _ h => h) ?hya34 (by assumption) ?resta34
      case hya34 =>
        intro oi ho
        simp only [List.getElem?_toArray, List.getElem?_cons_succ, List.getElem?_cons_zero, Option.some.injEq] at ho
        subst ho
        refine Or.inl ⟨by rfl, ?_⟩
        intro wx hSw
        try dsimp only at hSw
        go_simp
        try rfl
      try simp only [Act.put, List.setIfInBounds_toArray, List.set_cons_zero, List.set_cons_succ]
      refine wpAnyH_comesAt (i := 33) (by kernel_rfl) (by kernel_rfl) ?_
      intro o ho K hK
      simp only [List.getElem?_toArray, List.getElem?_cons_succ, List.getElem?_cons_zero, Option.some.injEq] at ho
      subst ho
      go_simp
      refine (name_any nm _).mono ?_
      rintro e v11 ⟨rfl, hb⟩
      clear hHeld
      have HT11 := hide (HT10.out.next hb)
      have HO11 := hide (ownsRow_later HO10.out hb)
      have HB11 : Hid (Below v3.heap.size v3 v11) := HB10.out.trans (hb.mono HB10.out.size)
      clear hb HT10 HO10 HB10
      refine hK.out _ _ ⟨cell_blk (HT11.out).k7, cell_blk (HT11.out).k7, cell_blk (HT11.out).k7⟩ (fun hHeld => ?_)
      clear hK K
      try simp only [Act.put, List.setIfInBounds_toArray, List.set_cons_zero, List.set_cons_succ]
      refine wpAnyH_comesAt (i := 35) (by kernel_rfl) (by kernel_rfl) ?_
      intro o ho K hK
      simp only [List.getElem?_toArray, List.getElem?_cons_succ, List.getElem?_cons_zero, Option.some.injEq] at ho
      subst ho
      go_simp
      refine (refname_any nm (by have := HNMS.out; omega) _).mono ?_
      rintro e v9 ⟨rfl, hw⟩
      have hw := hw.symm
      subst hw
      clear hHeld hw
      refine hK.out _ _ ⟨cell_blk (HT11.out).k7, cell_blk (HT11.out).k7, cell_blk (HT11.out).k7⟩ (fun hHeld => ?_)
      clear hK K
      try simp only [Act.put, List.setIfInBounds_toArray, List.set_cons_zero, List.set_cons_succ]
      refine wpAnyH_takeAt (i := 36) (d := 58) (v := ?va36) (by kernel_rfl) (by kernel_rfl) (by kernel_rfl) (by kernel_rfl) (fun _ _ _ h => h) ?hya36 (by assumption) ?resta36
      case hya36 =>
        intro oi ho
        simp only [List.getElem?_toArray, List.getElem?_cons_succ, List.getElem?_cons_zero, Option.some.injEq] at ho
        subst ho
        refine Or.inl ⟨by rfl, ?_⟩
        intro wx hSw
        try dsimp only at hSw
        go_simp
        try rfl
      try simp only [Act.put, List.setIfInBounds_toArray, List.set_cons_zero, List.set_cons_succ]
      refine wpAnyH_takeAt (i := 37) (d := 59) (v := ?va37) (by kernel_rfl) (by kernel_rfl) (by kernel_rfl) (by kernel_rfl) (fun _ _ _ h => h) ?hya37 (by assumption) ?resta37
      case hya37 =>
        intro oi ho
        simp only [List.getElem?_toArray, List.getElem?_cons_succ, List.getElem?_cons_zero, Option.some.injEq] at ho
        subst ho
        refine Or.inl ⟨by rfl, ?_⟩
        intro wx hSw
        try dsimp only at hSw
        go_simp
        try rfl
      try simp only [Act.put, List.setIfInBounds_toArray, List.set_cons_zero, List.set_cons_succ]
      refine wpAnyH_takeAt (i := 38) (d := 11) (v := ?va38) (by kernel_rfl) (by kernel_rfl) (by kernel_rfl) (by kernel_rfl) (fun _ _ _ h => h) ?hya38 (by assumption) ?resta38
      case hya38 =>
        intro oi ho
        simp only [List.getElem?_toArray, List.getElem?_cons_succ, List.getElem?_cons_zero, Option.some.injEq] at ho
        subst ho
        refine Or.inl ⟨by rfl, ?_⟩
        intro wx hSw
        try dsimp only at hSw
        go_simp
        try rfl
      try simp only [Act.put, List.setIfInBounds_toArray, List.set_cons_zero, List.set_cons_succ]
      refine wpAnyH_done (by kernel_rfl) ?_ _
      refine NoPanic.normal ?_
      clear hHeld
      go_wp2
      go_meet
      case rel => exact ⟨rfl, HT11.out, HO11.out, HB11.out⟩
    | false =>
      have d1 : (ze == (0 : Int)) = false := by rw [← HE.out]; unfold Sch.err; rw [hok]; rfl
      have d2 : (ze == (61 : Int)) = true := by rw [← HE.out]; unfold Sch.err; rw [hok]; rfl
      have HOK := hide hok
      clear hok
      have HX0 : Hid ((fun wx => wx.cell? ⟨g7, 0, none⟩ = some (.string s.t5.nm) ∧ wx.cell? ⟨g7, 1, none⟩ = some (.slice ea el ec) ∧ wx.cell? ⟨g7, 2, none⟩ = some (.slice za zl zc)) w4.drew) := ⟨cell_blk (HT4.out).k7, cell_blk (HT4.out).k7, cell_blk (HT4.out).k7⟩
      refine wp_region_noPanic ?_
      refine wp_region_held_drew (S := fun wx => wx.cell? ⟨g7, 0, none⟩ = some (.string s.t5.nm) ∧ wx.cell? ⟨g7, 1, none⟩ = some (.slice ea el ec) ∧ wx.cell? ⟨g7, 2, none⟩ = some (.slice za zl zc)) (by kernel_rfl) HX0.out (fun hHeld => ?_)
      refine wpAnyH_comesAt (i := 0) (by kernel_rfl) (by kernel_rfl) ?_
      intro o ho K hK
      simp only [List.getElem?_toArray, List.getElem?_cons_zero, Option.some.injEq] at ho
      subst ho
      go_simp
      refine (told14 _).mono ?_
      rintro e v5 ⟨rfl, hb⟩
      clear hHeld
      have HT5 := hide (HT4.out.next hb)
      have HO5 := hide (ownsRow_later HO4.out hb)
      have HB5 : Hid (Below v3.heap.size v3 v5) := HB4.out.trans (hb.mono HB4.out.size)
      clear hb HT4 HO4 HB4
      refine hK.out _ _ ⟨cell_blk (HT5.out).k7, cell_blk (HT5.out).k7, cell_blk (HT5.out).k7⟩ (fun hHeld => ?_)
      clear hK K
      try simp only [Act.put, List.setIfInBounds_toArray, List.set_cons_zero, List.set_cons_succ]
      refine wpAnyH_takeAt (i := 1) (d := 23) (v := ?vb1) (by kernel_rfl) (by kernel_rfl) (by kernel_rfl) (by kernel_rfl) (fun _ _ _ h => h) ?hyb1 (by assumption) ?restb1
      case hyb1 =>
        intro oi ho
        simp only [List.getElem?_toArray, List.getElem?_cons_succ, List.getElem?_cons_zero, Option.some.injEq] at ho
        subst ho
        refine Or.inl ⟨by rfl, ?_⟩
        intro wx hSw
        try dsimp only at hSw
        go_simp
        try rfl
      try simp only [Act.put, List.setIfInBounds_toArray, List.set_cons_zero, List.set_cons_succ]
      refine wpAnyH_takeAt (i := 2) (d := 24) (v := ?vb2) (by kernel_rfl) (by kernel_rfl) (by kernel_rfl) (by kernel_rfl) (fun _ _ _ h => h) ?hyb2 (by assumption) ?restb2
      case hyb2 =>
        intro oi ho
        simp only [List.getElem?_toArray, List.getElem?_cons_succ, List.getElem?_cons_zero, Option.some.injEq] at ho
        subst ho
        refine Or.inl ⟨by rfl, ?_⟩
        intro wx hSw
        try dsimp only at hSw
        go_simp
        try rfl
      try simp only [Act.put, List.setIfInBounds_toArray, List.set_cons_zero, List.set_cons_succ]
      refine wpAnyH_takeAt (i := 3) (d := 25) (v := ?vb3) (by kernel_rfl) (by kernel_rfl) (by kernel_rfl) (by kernel_rfl) (fun _ _ _ h => h) ?hyb3 (by assumption) ?restb3
      case hyb3 =>
        intro oi ho
        simp only [List.getElem?_toArray, List.getElem?_cons_succ, List.getElem?_cons_zero, Option.some.injEq] at ho
        subst ho
        refine Or.inl ⟨by rfl, ?_⟩
        intro wx hSw
        try dsimp only at hSw
        go_simp
        try rfl
      try simp only [Act.put, List.setIfInBounds_toArray, List.set_cons_zero, List.set_cons_succ]
      refine wpAnyH_takeAt (i := 4) (d := 26) (v := ?vb4) (by kernel_rfl) (by kernel_rfl) (by kernel_rfl) (by kernel_rfl) (fun _ _ _ h => h) ?hyb4 (by assumption) ?restb4
      case hyb4 =>
        intro oi ho
        simp only [List.getElem?_toArray, List.getElem?_cons_succ, List.getElem?_cons_zero, Option.some.injEq] at ho
        subst ho
        refine Or.inl ⟨by rfl, ?_⟩
        intro wx hSw
        try dsimp only at hSw
        go_simp
        try rfl
      try simp only [Act.put, List.setIfInBounds_toArray, List.set_cons_zero, List.set_cons_succ]
      refine wpAnyH_comesAt (i := 5) (by kernel_rfl) (by kernel_rfl) ?_
      intro o ho K hK
      simp only [List.getElem?_toArray, List.getElem?_cons_succ, List.getElem?_cons_zero, Option.some.injEq] at ho
      subst ho
      go_simp
      refine (refright14_any HT5.out.i HIP.out).mono ?_
      rintro e v6 ⟨rfl, hb⟩
      rw [HOK.out]
      clear hHeld
      have HT6 := hide (HT5.out.next hb)
      have HO6 := hide (ownsRow_later HO5.out hb)
      have HB6 : Hid (Below v3.heap.size v3 v6) := HB5.out.trans (hb.mono HB5.out.size)
      clear hb HT5 HO5 HB5
      refine hK.out _ _ ⟨cell_blk (HT6.out).k7, cell_blk (HT6.out).k7, cell_blk (HT6.out).k7⟩ (fun hHeld => ?_)
      clear hK K
      try simp only [Act.put, List.setIfInBounds_toArray, List.set_cons_zero, List.set_cons_succ]
      refine wpAnyH_takeAt (i := 6) (d := 28) (v := ?vb6) (by kernel_rfl) (by kernel_rfl) (by kernel_rfl) (by kernel_rfl) (fun _ _ _ h => h) ?hyb6 (by assumption) ?restb6
      case hyb6 =>
        intro oi ho
        simp only [List.getElem?_toArray, List.getElem?_cons_succ, List.getElem?_cons_zero, Option.some.injEq] at ho
        subst ho
        refine Or.inl ⟨by rfl, ?_⟩
        intro wx hSw
        try dsimp only at hSw
        go_simp
        try rfl
      try simp only [Act.put, List.setIfInBounds_toArray, List.set_cons_zero, List.set_cons_succ]
      refine wpAnyH_takeAt (i := 7) (d := 29) (v := ?vb7) (by kernel_rfl) (by kernel_rfl) (by kernel_rfl) (by kernel_rfl) (fun _ _ _ h => h) ?hyb7 (by assumption) ?restb7
      case hyb7 =>
        intro oi ho
        simp only [List.getElem?_toArray, List.getElem?_cons_succ, List.getElem?_cons_zero, Option.some.injEq] at ho
        subst ho
        refine Or.inl ⟨by rfl, ?_⟩
        intro wx hSw
        try dsimp only at hSw
        go_simp
        try rfl
      try simp only [Act.put, List.setIfInBounds_toArray, List.set_cons_zero, List.set_cons_succ]
      refine wpAnyH_takeAt (i := 8) (d := 30) (v := ?vb8) (by kernel_rfl) (by kernel_rfl) (by kernel_rfl) (by kernel_rfl) (fun _ _ _ h => h) ?hyb8 (by assumption) ?restb8
      case hyb8 =>
        intro oi ho
        simp only [List.getElem?_toArray, List.getElem?_cons_succ, List.getElem?_cons_zero, Option.some.injEq] at ho
        subst ho
        refine Or.inl ⟨by rfl, ?_⟩
        intro wx hSw
        try dsimp only at hSw
        go_simp
        try rfl
      try simp only [Act.put, List.setIfInBounds_toArray, List.set_cons_zero, List.set_cons_succ]
      refine wpAnyH_takeAt (i := 9) (d := 31) (v := ?vb9) (by kernel_rfl) (by kernel_rfl) (by kernel_rfl) (by kernel_rfl) (fun _ _ _ h => h) ?hyb9 (by assumption) ?restb9
      case hyb9 =>
        intro oi ho
        simp only [List.getElem?_toArray, List.getElem?_cons_succ, List.getElem?_cons_zero, Option.some.injEq] at ho
        subst ho
        refine Or.inl ⟨by rfl, ?_⟩
        intro wx hSw
        try dsimp only at hSw
        go_simp
        try rfl
      try simp only [Act.put, List.setIfInBounds_toArray, List.set_cons_zero, List.set_cons_succ]
      refine wpAnyH_takeAt (i := 10) (d := 32) (v := ?vb10) (by kernel_rfl) (by kernel_rfl) (by kernel_rfl) (by kernel_rfl) (fun _ _ _ h => h) ?hyb10 (by assumption) ?restb10
      case hyb10 =>
        intro oi ho
        simp only [List.getElem?_toArray, List.getElem?_cons_succ, List.getElem?_cons_zero, Option.some.injEq] at ho
        subst ho
        refine Or.inl ⟨by rfl, ?_⟩
        intro wx hSw
        try dsimp only at hSw
        go_simp
        try rfl
      try simp only [Act.put, List.setIfInBounds_toArray, List.set_cons_zero, List.set_cons_succ]
      refine wpAnyH_takeAt (i := 11) (d := 33) (v := ?vb11) (by kernel_rfl) (by kernel_rfl) (by kernel_rfl) (by kernel_rfl) (fun _ _ _ h => h) ?hyb11 (by assumption) ?restb11
      case hyb11 =>
        intro oi ho
        simp only [List.getElem?_toArray, List.getElem?_cons_succ, List.getElem?_cons_zero, Option.some.injEq] at ho
        subst ho
        refine Or.inl ⟨by rfl, ?_⟩
        intro wx hSw
        try dsimp only at hSw
        go_simp
        try rfl
      try simp only [Act.put, List.setIfInBounds_toArray, List.set_cons_zero, List.set_cons_succ]
      refine wpAnyH_takeAt (i := 12) (d := 34) (v := ?vb12) (by kernel_rfl) (by kernel_rfl) (by kernel_rfl) (by kernel_rfl) (fun _ _ _ h => h) ?hyb12 (by assumption) ?restb12
      case hyb12 =>
        intro oi ho
        simp only [List.getElem?_toArray, List.getElem?_cons_succ, List.getElem?_cons_zero, Option.some.injEq] at ho
        subst ho
        refine Or.inl ⟨by rfl, ?_⟩
        intro wx hSw
        try dsimp only at hSw
        go_simp
        try rfl
      try simp only [Act.put, List.setIfInBounds_toArray, List.set_cons_zero, List.set_cons_succ]
      refine wpAnyH_takeAt (i := 13) (d := 35) (v := ?vb13) (by kernel_rfl) (by kernel_rfl) (by kernel_rfl) (by kernel_rfl) (fun _ _ _ h => h) ?hyb13 (by assumption) ?restb13
      case hyb13 =>
        intro oi ho
        simp only [List.getElem?_toArray, List.getElem?_cons_succ, List.getElem?_cons_zero, Option.some.injEq] at ho
        subst ho
        refine Or.inl ⟨by rfl, ?_⟩
        intro wx hSw
        try dsimp only at hSw
        go_simp
        try rfl
      try simp only [Act.put, List.setIfInBounds_toArray, List.set_cons_zero, List.set_cons_succ]
      refine wpAnyH_takeAt (i := 14) (d := 36) (v := ?vb14) (by kernel_rfl) (by kernel_rfl) (by kernel_rfl) (by kernel_rfl) (fun _ _ _ h => h) ?hyb14 (by assumption) ?restb14
      case hyb14 =>
        intro oi ho
        simp only [List.getElem?_toArray, List.getElem?_cons_succ, List.getElem?_cons_zero, Option.some.injEq] at ho
        subst ho
        refine Or.inl ⟨by rfl, ?_⟩
        intro wx hSw
        try dsimp only at hSw
        go_simp
        try rfl
      try simp only [Act.put, List.setIfInBounds_toArray, List.set_cons_zero, List.set_cons_succ]
      refine wpAnyH_takeAt (i := 15) (d := 37) (v := ?vb15) (by kernel_rfl) (by kernel_rfl) (by kernel_rfl) (by kernel_rfl) (fun _ _ _ h => h) ?hyb15 (by assumption) ?restb15
      case hyb15 =>
        intro oi ho
        simp only [List.getElem?_toArray, List.getElem?_cons_succ, List.getElem?_cons_zero, Option.some.injEq] at ho
        subst ho
        refine Or.inl ⟨by rfl, ?_⟩
        intro wx hSw
        try dsimp only at hSw
        go_simp
        try rfl
      try simp only [Act.put, List.setIfInBounds_toArray, List.set_cons_zero, List.set_cons_succ]
      refine wpAnyH_takeAt (i := 16) (d := 38) (v := ?vb16) (by kernel_rfl) (by kernel_rfl) (by kernel_rfl) (by kernel_rfl) (fun _ _ _ h => h) ?hyb16 (by assumption) ?restb16
      case hyb16 =>
        intro oi ho
        simp only [List.getElem?_toArray, List.getElem?_cons_succ, List.getElem?_cons_zero, Option.some.injEq] at ho
        subst ho
        refine Or.inl ⟨by rfl, ?_⟩
        intro wx hSw
        try dsimp only at hSw
        go_simp
        try rfl
      try simp only [Act.put, List.setIfInBounds_toArray, List.set_cons_zero, List.set_cons_succ]
      refine wpAnyH_takeAt (i := 17) (d := 39) (v := ?vb17) (by kernel_rfl) (by kernel_rfl) (by kernel_rfl) (by kernel_rfl) (fun _ _ _ h => h) ?hyb17 (by assumption) ?restb17
      case hyb17 =>
        intro oi ho
        simp only [List.getElem?_toArray, List.getElem?_cons_succ, List.getElem?_cons_zero, Option.some.injEq] at ho
        subst ho
        refine Or.inl ⟨by rfl, ?_⟩
        intro wx hSw
        try dsimp only at hSw
        go_simp
        try rfl
      try simp only [Act.put, List.setIfInBounds_toArray, List.set_cons_zero, List.set_cons_succ]
      refine wpAnyH_takeAt (i := 18) (d := 40) (v := ?vb18) (by kernel_rfl) (by kernel_rfl) (by kernel_rfl) (by kernel_rfl) (fun _ _ _ h => h) ?hyb18 (by assumption) ?restb18
      case hyb18 =>
        intro oi ho
        simp only [List.getElem?_toArray, List.getElem?_cons_succ, List.getElem?_cons_zero, Option.some.injEq] at ho
        subst ho
        refine Or.inl ⟨by rfl, ?_⟩
        intro wx hSw
        try dsimp only at hSw
        go_simp
        try rfl
      try simp only [Act.put, List.setIfInBounds_toArray, List.set_cons_zero, List.set_cons_succ]
      refine wpAnyH_takeAt (i := 20) (d := 42) (v := ?vb20) (by kernel_rfl) (by kernel_rfl) (by kernel_rfl) (by kernel_rfl) (fun _ _ _ h => h) ?hyb20 (by assumption) ?restb20
      case hyb20 =>
        intro oi ho
        simp only [List.getElem?_toArray, List.getElem?_cons_succ, List.getElem?_cons_zero, Option.some.injEq] at ho
        subst ho
        refine Or.inl ⟨by rfl, ?_⟩
        intro wx hSw
        try dsimp only at hSw
        go_simp
        try rfl
      try simp only [Act.put, List.setIfInBounds_toArray, List.set_cons_zero, List.set_cons_succ]
      refine wpAnyH_takeAt (i := 21) (d := 43) (v := ?vb21) (by kernel_rfl) (by kernel_rfl) (by kernel_rfl) (by kernel_rfl) (fun _ _ _ h => h) ?hyb21 (by assumption) ?restb21
      case hyb21 =>
        intro oi ho
        simp only [List.getElem?_toArray, List.getElem?_cons_succ, List.getElem?_cons_zero, Option.some.injEq] at ho
        subst ho
        refine Or.inl ⟨by rfl, ?_⟩
        intro wx hSw
        try dsimp only at hSw
        go_simp
        try rfl
      try simp only [Act.put, List.setIfInBounds_toArray, List.set_cons_zero, List.set_cons_succ]
      refine wpAnyH_comesAt (i := 19) (by kernel_rfl) (by kernel_rfl) ?_
      intro o ho K hK
      simp only [List.getElem?_toArray, List.getElem?_cons_succ, List.getElem?_cons_zero, Option.some.injEq] at ho
      subst ho
      go_simp
      refine (sfits_any HT6.out.i HT6.out.r (fun x hx => (PR.out x hx).2)).mono ?_
      rintro e v7 ⟨rfl, hb⟩
      clear hHeld
      have HT7 := hide (HT6.out.next hb)
      have HO7 := hide (ownsRow_later HO6.out hb)
      have HB7 : Hid (Below v3.heap.size v3 v7) := HB6.out.trans (hb.mono HB6.out.size)
      clear hb HT6 HO6 HB6
      refine hK.out _ _ ⟨cell_blk (HT7.out).k7, cell_blk (HT7.out).k7, cell_blk (HT7.out).k7⟩ (fun hHeld => ?_)
      clear hK K
      try simp only [Act.put, List.setIfInBounds_toArray, List.set_cons_zero, List.set_cons_succ]
      refine wpAnyH_comesAt (i := 22) (by kernel_rfl) (by kernel_rfl) ?_
      intro o ho K hK
      simp only [List.getElem?_toArray, List.getElem?_cons_succ, List.getElem?_cons_zero, Option.some.injEq] at ho
      subst ho
      go_simp
      refine (reffits14_any HT7.out.i HIP.out HT7.out.r (fun x hx => (PR.out x hx).2)).mono ?_
      rintro e v8 ⟨rfl, hb⟩
      clear hHeld
      have HT8 := hide (HT7.out.next hb)
      have HO8 := hide (ownsRow_later HO7.out hb)
      have HB8 : Hid (Below v3.heap.size v3 v8) := HB7.out.trans (hb.mono HB7.out.size)
      clear hb HT7 HO7 HB7
      refine hK.out _ _ ⟨cell_blk (HT8.out).k7, cell_blk (HT8.out).k7, cell_blk (HT8.out).k7⟩ (fun hHeld => ?_)
      clear hK K
      try simp only [Act.put, List.setIfInBounds_toArray, List.set_cons_zero, List.set_cons_succ]
      refine wpAnyH_takeAt (i := 23) (d := 45) (v := ?vb23) (by kernel_rfl) (by kernel_rfl) (by kernel_rfl) (by kernel_rfl) (fun _ _ _ h => h) ?hyb23 (by assumption) ?restb23
      case hyb23 =>
        intro oi ho
        simp only [List.getElem?_toArray, List.getElem?_cons_succ, List.getElem?_cons_zero, Option.some.injEq] at ho
        subst ho
        refine Or.inl ⟨by rfl, ?_⟩
        intro wx hSw
        try dsimp only at hSw
        go_simp
        try rfl
      try simp only [Act.put, List.setIfInBounds_toArray, List.set_cons_zero, List.set_cons_succ]
      refine wpAnyH_takeAt (i := 24) (d := 46) (v := ?vb24) (by kernel_rfl) (by kernel_rfl) (by kernel_rfl) (by kernel_rfl) (fun _ _ _ h => h) ?hyb24 (by assumption) ?restb24
      case hyb24 =>
        intro oi ho
        simp only [List.getElem?_toArray, List.getElem?_cons_succ, List.getElem?_cons_zero, Option.some.injEq] at ho
        subst ho
        refine Or.inl ⟨by rfl, ?_⟩
        intro wx hSw
        try dsimp only at hSw
        go_simp
        try rfl
      try simp only [Act.put, List.setIfInBounds_toArray, List.set_cons_zero, List.set_cons_succ]
      refine wpAnyH_takeAt (i := 25) (d := 47) (v := ?vb25) (by kernel_rfl) (by kernel_rfl) (by kernel_rfl) (by kernel_rfl) (fun _ _ _ h => h) ?hyb25 (by assumption) ?restb25
      case hyb25 =>
        intro oi ho
        simp only [List.getElem?_toArray, List.getElem?_cons_succ, List.getElem?_cons_zero, Option.some.injEq] at ho
        subst ho
        refine Or.inl ⟨by rfl, ?_⟩
        intro wx hSw
        try dsimp only at hSw
        go_simp
        try rfl
      try simp only [Act.put, List.setIfInBounds_toArray, List.set_cons_zero, List.set_cons_succ]
      refine wpAnyH_takeAt (i := 26) (d := 48) (v := ?vb26) (by kernel_rfl) (by kernel_rfl) (by kernel_rfl) (by kernel_rfl) (fun _ _ _ h => h) ?hyb26 (by assumption) ?restb26
      case hyb26 =>
        intro oi ho
        simp only [List.getElem?_toArray, List.getElem?_cons_succ, List.getElem?_cons_zero, Option.some.injEq] at ho
        subst ho
        refine Or.inl ⟨by rfl, ?_⟩
        intro wx hSw
        try dsimp only at hSw
        go_simp
        try rfl
      try simp only [Act.put, List.setIfInBounds_toArray, List.set_cons_zero, List.set_cons_succ]
      refine wpAnyH_takeAt (i := 27) (d := 49) (v := ?vb27) (by kernel_rfl) (by kernel_rfl) (by kernel_rfl) (by kernel_rfl) (fun _ _ _ h => h) ?hyb27 (by assumption) ?restb27
      case hyb27 =>
        intro oi ho
        simp only [List.getElem?_toArray, List.getElem?_cons_succ, List.getElem?_cons_zero, Option.some.injEq] at ho
        subst ho
        refine Or.inl ⟨by rfl, ?_⟩
        intro wx hSw
        try dsimp only at hSw
        go_simp
        try rfl
      try simp only [Act.put, List.setIfInBounds_toArray, List.set_cons_zero, List.set_cons_succ]
      refine wpAnyH_comesAt (i := 28) (by kernel_rfl) (by kernel_rfl) ?_
      intro o ho K hK
      simp only [List.getElem?_toArray, List.getElem?_cons_succ, List.getElem?_cons_zero, Option.some.injEq] at ho
      subst ho
      go_simp
      refine (reffold14_any HT8.out.r (by have := LR.out; omega) (fun x hx => (PR.out x hx).2)).mono ?_
      rintro e v9 ⟨fa2, fc2, rfl, hs2, hb⟩
      have HF9 := hide hs2
      clear hs2
      clear hHeld
      have HT9 := hide (HT8.out.next hb)
      have HO9 := hide (ownsRow_later HO8.out hb)
      have HB9 : Hid (Below v3.heap.size v3 v9) := HB8.out.trans (hb.mono HB8.out.size)
      clear hb HT8 HO8 HB8
      refine hK.out _ _ ⟨cell_blk (HT9.out).k7, cell_blk (HT9.out).k7, cell_blk (HT9.out).k7⟩ (fun hHeld => ?_)
      clear hK K
      try simp only [Act.put, List.setIfInBounds_toArray, List.set_cons_zero, List.set_cons_succ]
      refine wpAnyH_comesAt (i := 29) (by kernel_rfl) (by kernel_rfl) ?_
      intro o ho K hK
      simp only [List.getElem?_toArray, List.getElem?_cons_succ, List.getElem?_cons_zero, Option.some.injEq] at ho
      subst ho
      go_simp
      refine (refsame2_any (HSVF.out _ HO9.out) HF9.out (by have := LR.out; omega)).mono ?_
      rintro e v10 ⟨rfl, hb⟩
      rw [decide_eq_true rfl]
      clear hHeld
      have HT10 := hide (HT9.out.next hb)
      have HO10 := hide (ownsRow_later HO9.out hb)
      have HB10 : Hid (Below v3.heap.size v3 v10) := HB9.out.trans (hb.mono HB9.out.size)
      clear hb HT9 HO9 HB9 HF9
      refine hK.out _ _ ⟨cell_blk (HT10.out).k7, cell_blk (HT10.out).k7, cell_blk (HT10.out).k7⟩ (fun hHeld => ?_)
      clear hK K
      try simp only [Act.put, List.setIfInBounds_toArray, List.set_cons_zero, List.set_cons_succ]
      refine wpAnyH_takeAt (i := 30) (d := 52) (v := ?vb30) (by kernel_rfl) (by kernel_rfl) (by kernel_rfl) (by kernel_rfl) (fun _ _ _ h => h) ?hyb30 (by assumption) ?restb30
      case hyb30 =>
        intro oi ho
        simp only [List.getElem?_toArray, List.getElem?_cons_succ, List.getElem?_cons_zero, Option.some.injEq] at ho
        subst ho
        refine Or.inl ⟨by rfl, ?_⟩
        intro wx hSw
        try dsimp only at hSw
        go_simp
        try rfl
      try simp only [Act.put, List.setIfInBounds_toArray, List.set_cons_zero, List.set_cons_succ]
      refine wpAnyH_takeAt (i := 31) (d := 53) (v := ?vb31) (by kernel_rfl) (by kernel_rfl) (by kernel_rfl) (by kernel_rfl) (fun _ _ _ h => h) ?hyb31 (by assumption) ?restb31
      case hyb31 =>
        intro oi ho
        simp only [List.getElem?_toArray, List.getElem?_cons_succ, List.getElem?_cons_zero, Option.some.injEq] at ho
        subst ho
        refine Or.inl ⟨by rfl, ?_⟩
        intro wx hSw
        try dsimp only at hSw
        go_simp
        try rfl
      try simp only [Act.put, List.setIfInBounds_toArray, List.set_cons_zero, List.set_cons_succ]
      refine wpAnyH_takeAt (i := 32) (d := 54) (v := ?vb32) (by kernel_rfl) (by kernel_rfl) (by kernel_rfl) (by kernel_rfl) (fun _ _ _ h => h) ?hyb32 (by assumption) ?restb32
      case hyb32 =>
        intro oi ho
        simp only [List.getElem?_toArray, List.getElem?_cons_succ, List.getElem?_cons_zero, Option.some.injEq] at ho
        subst ho
        refine Or.inl ⟨by rfl, ?_⟩
        intro wx hSw
        try dsimp only at hSw
        go_simp
        try rfl
      try simp only [Act.put, List.setIfInBounds_toArray, List.set_cons_zero, List.set_cons_succ]
      refine wpAnyH_takeAt (i := 34) (d := 56) (v := ?vb34) (by kernel_rfl) (by kernel_rfl) (by kernel_rfl) (by kernel_rfl) (fun _ _ _ h => h) ?hyb34 (by assumption) ?restb34
      case hyb34 =>
        intro oi ho
        simp only [List.getElem?_toArray, List.getElem?_cons_succ, List.getElem?_cons_zero, Option.some.injEq] at ho
        subst ho
        refine Or.inl ⟨by rfl, ?_⟩
        intro wx hSw
        try dsimp only at hSw
        go_simp
        try rfl
      try simp only [Act.put, List.setIfInBounds_toArray, List.set_cons_zero, List.set_cons_succ]
      refine wpAnyH_comesAt (i := 33) (by kernel_rfl) (by kernel_rfl) ?_
      intro o ho K hK
      simp only [List.getElem?_toArray, List.getElem?_cons_succ, List.getElem?_cons_zero, Option.some.injEq] at ho
      subst ho
      go_simp
      refine (name_any nm _).mono ?_
      rintro e v11 ⟨rfl, hb⟩
      clear hHeld
      have HT11 := hide (HT10.out.next hb)
      have HO11 := hide (ownsRow_later HO10.out hb)
      have HB11 : Hid (Below v3.heap.size v3 v11) := HB10.out.trans (hb.mono HB10.out.size)
      clear hb HT10 HO10 HB10
      refine hK.out _ _ ⟨cell_blk (HT11.out).k7, cell_blk (HT11.out).k7, cell_blk (HT11.out).k7⟩ (fun hHeld => ?_)
      clear hK K
      try simp only [Act.put, List.setIfInBounds_toArray, List.set_cons_zero, List.set_cons_succ]
      refine wpAnyH_comesAt (i := 35) (by kernel_rfl) (by kernel_rfl) ?_
      intro o ho K hK
      simp only [List.getElem?_toArray, List.getElem?_cons_succ, List.getElem?_cons_zero, Option.some.injEq] at ho
      subst ho
      go_simp
      refine (refname_any nm (by have := HNMS.out; omega) _).mono ?_
      rintro e v9 ⟨rfl, hw⟩
      have hw := hw.symm
      subst hw
      clear hHeld hw
      refine hK.out _ _ ⟨cell_blk (HT11.out).k7, cell_blk (HT11.out).k7, cell_blk (HT11.out).k7⟩ (fun hHeld => ?_)
      clear hK K
      try simp only [Act.put, List.setIfInBounds_toArray, List.set_cons_zero, List.set_cons_succ]
      refine wpAnyH_takeAt (i := 36) (d := 58) (v := ?vb36) (by kernel_rfl) (by kernel_rfl) (by kernel_rfl) (by kernel_rfl) (fun _ _ _ h => h) ?hyb36 (by assumption) ?restb36
      case hyb36 =>
        intro oi ho
        simp only [List.getElem?_toArray, List.getElem?_cons_succ, List.getElem?_cons_zero, Option.some.injEq] at ho
        subst ho
        refine Or.inl ⟨by rfl, ?_⟩
        intro wx hSw
        try dsimp only at hSw
        go_simp
        try rfl
      try simp only [Act.put, List.setIfInBounds_toArray, List.set_cons_zero, List.set_cons_succ]
      refine wpAnyH_takeAt (i := 37) (d := 59) (v := ?vb37) (by kernel_rfl) (by kernel_rfl) (by kernel_rfl) (by kernel_rfl) (fun _ _ _ h => h) ?hyb37 (by assumption) ?restb37
      case hyb37 =>
        intro oi ho
        simp only [List.getElem?_toArray, List.getElem?_cons_succ, List.getElem?_cons_zero, Option.some.injEq] at ho
        subst ho
        refine Or.inl ⟨by rfl, ?_⟩
        intro wx hSw
        try dsimp only at hSw
        go_simp
        try rfl
      try simp only [Act.put, List.setIfInBounds_toArray, List.set_cons_zero, List.set_cons_succ]
      refine wpAnyH_takeAt (i := 38) (d := 11) (v := ?vb38) (by kernel_rfl) (by kernel_rfl) (by kernel_rfl) (by kernel_rfl) (fun _ _ _ h => h) ?hyb38 (by assumption) ?restb38
      case hyb38 =>
        intro oi ho
        simp only [List.getElem?_toArray, List.getElem?_cons_succ, List.getElem?_cons_zero, Option.some.injEq] at ho
        subst ho
        refine Or.inl ⟨by rfl, ?_⟩
        intro wx hSw
        try dsimp only at hSw
        go_simp
        try rfl
      try simp only [Act.put, List.setIfInBounds_toArray, List.set_cons_zero, List.set_cons_succ]
      refine wpAnyH_done (by kernel_rfl) ?_ _
      refine NoPanic.normal ?_
      clear hHeld
      go_wp2
      go_meet
      case rel => exact ⟨rfl, HT11.out, HO11.out, HB11.out⟩
  case rest =>
    obtain ⟨rfl, ht, ho, hb⟩ := hcut
    have HB5 : Hid (Below v3.heap.size v3 wc) := hb
    have HO5 := hide ho
    clear ht ho hb HT4 HB4 HO4 HOL HSVF
    go_wp2_with fail
    go_loopg [12] rn (fun gh s12 wx => ∃ (j : Nat) (xs : List Value), j + gh = rn ∧ s12 = .int .i64 (j : Int) ∧ wx.ownsRow v3.heap.size 39 3 (.slice fa rn fc) rn xs ∧ Below v3.heap.size v3 wx)
    case atStart => exact ⟨0, _, by omega, rfl, HO5.out, HB5.out⟩
    case round =>
      obtain ⟨j, xs, hj, rfl, hor, hbr⟩ := hrel
      have HOR := hide hor
      have HBR := hide hbr
      clear hor hbr
      by_cases hjn : j < rn
      · have xj : (j : Int) < (rn : Int) := by omega
        have hrn := LR.out
        obtain ⟨g, e9⟩ : ∃ g, fa = some ⟨g, 0, none⟩ := by
          rcases HOR.out.2 with ⟨e, h0⟩ | ⟨g', cap, cur, e, _⟩
          · omega
          · simp only [Value.slice.injEq] at e
            exact ⟨g', e.1⟩
        subst e9
        obtain ⟨hg, hc⟩ := own_any HOR.out
        obtain ⟨f0, u0, y0⟩ := hc (j * 3) (by omega)
        obtain ⟨f1, u1, y1⟩ := hc (j * 3 + 1) (by omega)
        obtain ⟨f2, u2, y2⟩ := hc (j * 3 + 2) (by omega)
        obtain ⟨ys, hys⟩ := own_put HOR.out hjn (.int .i64 (-9)) (.int .i64 0) (.string ⟨#[]⟩)
        have HYS := hide hys
        have HG := hide hg
        clear hc hys hg
        go_wp2
        go_roundg (gk - 1)
        case measure => omega
        case rel => exact ⟨j + 1, ys, by omega, by go_num, HYS.out, ((HBR.out.setCell (p := ⟨g, j * 3, none⟩) HG.out _).setCell (p := ⟨g, j * 3 + 1, none⟩) HG.out _).setCell (p := ⟨g, j * 3 + 2, none⟩) HG.out _⟩
      · have xj : ¬ (j : Int) < (rn : Int) := by omega
        have HT5 := hide (HT3.out.next HBR.out)
        clear HT3 hj HOR HO5 HB5 HBR
        go_upto_region 9 with fail
        have HT6 : Hid (TT W g3 g7 s ca cl cc xa xl xc ea el ec za zl zc a n c la ra rn rc wr.drew) := HT5.out.next (Below.refl _ wr).drew
        have HX0 : Hid ((fun wx => (wx.cell? ⟨g7, 0, none⟩ = some (.string s.t5.nm) ∧ wx.cell? ⟨g7, 1, none⟩ = some (.slice ea el ec) ∧ wx.cell? ⟨g7, 2, none⟩ = some (.slice za zl zc)) ∧ (wx.cell? ⟨g3, 0, none⟩ = some (.string s.nm) ∧ wx.cell? ⟨g3, 1, none⟩ = some (.slice ca cl cc) ∧ wx.cell? ⟨g3, 2, none⟩ = some (.slice xa xl xc))) wr.drew) := ⟨⟨cell_blk (HT6.out).k7, cell_blk (HT6.out).k7, cell_blk (HT6.out).k7⟩, ⟨cell_blk (HT6.out).k3, cell_blk (HT6.out).k3, cell_blk (HT6.out).k3⟩⟩
        refine wp_region_noPanic ?_
        refine wp_region_held_drew (S := fun wx => (wx.cell? ⟨g7, 0, none⟩ = some (.string s.t5.nm) ∧ wx.cell? ⟨g7, 1, none⟩ = some (.slice ea el ec) ∧ wx.cell? ⟨g7, 2, none⟩ = some (.slice za zl zc)) ∧ (wx.cell? ⟨g3, 0, none⟩ = some (.string s.nm) ∧ wx.cell? ⟨g3, 1, none⟩ = some (.slice ca cl cc) ∧ wx.cell? ⟨g3, 2, none⟩ = some (.slice xa xl xc))) (by kernel_rfl) HX0.out (fun hHeld => ?_)
        refine wpAnyH_takeAt (i := 0) (d := 70) (v := ?vc0) (by kernel_rfl) (by kernel_rfl) (by kernel_rfl) (by kernel_rfl) (fun _ _ _ h => h) ?hyc0 (by assumption) ?restc0
        case hyc0 =>
          intro oi ho
          simp only [List.getElem?_toArray, List.getElem?_cons_zero, Option.some.injEq] at ho
          subst ho
          refine Or.inl ⟨by rfl, ?_⟩
          intro wx hSw
          try dsimp only at hSw
          go_simp
          try rfl
        try simp only [Act.put, List.setIfInBounds_toArray, List.set_cons_zero, List.set_cons_succ]
        refine wpAnyH_takeAt (i := 1) (d := 71) (v := ?vc1) (by kernel_rfl) (by kernel_rfl) (by kernel_rfl) (by kernel_rfl) (fun _ _ _ h => h) ?hyc1 (by assumption) ?restc1
        case hyc1 =>
          intro oi ho
          simp only [List.getElem?_toArray, List.getElem?_cons_succ, List.getElem?_cons_zero, Option.some.injEq] at ho
          subst ho
          refine Or.inl ⟨by rfl, ?_⟩
          intro wx hSw
          try dsimp only at hSw
          go_simp
          try rfl
        try simp only [Act.put, List.setIfInBounds_toArray, List.set_cons_zero, List.set_cons_succ]
        refine wpAnyH_takeAt (i := 2) (d := 72) (v := ?vc2) (by kernel_rfl) (by kernel_rfl) (by kernel_rfl) (by kernel_rfl) (fun _ _ _ h => h) ?hyc2 (by assumption) ?restc2
        case hyc2 =>
          intro oi ho
          simp only [List.getElem?_toArray, List.getElem?_cons_succ, List.getElem?_cons_zero, Option.some.injEq] at ho
          subst ho
          refine Or.inl ⟨by rfl, ?_⟩
          intro wx hSw
          try dsimp only at hSw
          go_simp
          try rfl
        try simp only [Act.put, List.setIfInBounds_toArray, List.set_cons_zero, List.set_cons_succ]
        refine wpAnyH_takeAt (i := 3) (d := 73) (v := ?vc3) (by kernel_rfl) (by kernel_rfl) (by kernel_rfl) (by kernel_rfl) (fun _ _ _ h => h) ?hyc3 (by assumption) ?restc3
        case hyc3 =>
          intro oi ho
          simp only [List.getElem?_toArray, List.getElem?_cons_succ, List.getElem?_cons_zero, Option.some.injEq] at ho
          subst ho
          refine Or.inl ⟨by rfl, ?_⟩
          intro wx hSw
          try dsimp only at hSw
          go_simp
          try rfl
        try simp only [Act.put, List.setIfInBounds_toArray, List.set_cons_zero, List.set_cons_succ]
        refine wpAnyH_comesAt (i := 4) (by kernel_rfl) (by kernel_rfl) ?_
        intro o ho K hK
        simp only [List.getElem?_toArray, List.getElem?_cons_succ, List.getElem?_cons_zero, Option.some.injEq] at ho
        subst ho
        go_simp
        refine (copied5 HT6.out.sc).mono ?_
        rintro e v7 ⟨ia, il, ic, ix, iy, iz, rfl, hs, h1, h2, hb⟩
        have HI7 := hide hs
        clear hs h1 h2
        clear hHeld
        have HT7 := hide (HT6.out.next hb)
        clear hb HT6
        refine hK.out _ _ ⟨⟨cell_blk (HT7.out).k7, cell_blk (HT7.out).k7, cell_blk (HT7.out).k7⟩, ⟨cell_blk (HT7.out).k3, cell_blk (HT7.out).k3, cell_blk (HT7.out).k3⟩⟩ (fun hHeld => ?_)
        clear hK K
        try simp only [Act.put, List.setIfInBounds_toArray, List.set_cons_zero, List.set_cons_succ]
        refine wpAnyH_comesAt (i := 5) (by kernel_rfl) (by kernel_rfl) ?_
        intro o ho K hK
        simp only [List.getElem?_toArray, List.getElem?_cons_succ, List.getElem?_cons_zero, Option.some.injEq] at ho
        subst ho
        go_simp
        refine (refsame14_any HT7.out.i HI7.out (by have := LI.out.1; omega) (by have := LI.out.2; omega)).mono ?_
        rintro e v8 ⟨rfl, hb⟩
        rw [same_self]
        clear hHeld
        have HT8 := hide (HT7.out.next hb)
        clear hb HT7 HI7
        refine hK.out _ _ ⟨⟨cell_blk (HT8.out).k7, cell_blk (HT8.out).k7, cell_blk (HT8.out).k7⟩, ⟨cell_blk (HT8.out).k3, cell_blk (HT8.out).k3, cell_blk (HT8.out).k3⟩⟩ (fun hHeld => ?_)
        clear hK K
        try simp only [Act.put, List.setIfInBounds_toArray, List.set_cons_zero, List.set_cons_succ]
        refine wpAnyH_takeAt (i := 6) (d := 76) (v := ?vc6) (by kernel_rfl) (by kernel_rfl) (by kernel_rfl) (by kernel_rfl) (fun _ _ _ h => h) ?hyc6 (by assumption) ?restc6
        case hyc6 =>
          intro oi ho
          simp only [List.getElem?_toArray, List.getElem?_cons_succ, List.getElem?_cons_zero, Option.some.injEq] at ho
          subst ho
          refine Or.inl ⟨by rfl, ?_⟩
          intro wx hSw
          try dsimp only at hSw
          go_simp
          try rfl
        try simp only [Act.put, List.setIfInBounds_toArray, List.set_cons_zero, List.set_cons_succ]
        refine wpAnyH_takeAt (i := 7) (d := 77) (v := ?vc7) (by kernel_rfl) (by kernel_rfl) (by kernel_rfl) (by kernel_rfl) (fun _ _ _ h => h) ?hyc7 (by assumption) ?restc7
        case hyc7 =>
          intro oi ho
          simp only [List.getElem?_toArray, List.getElem?_cons_succ, List.getElem?_cons_zero, Option.some.injEq] at ho
          subst ho
          refine Or.inl ⟨by rfl, ?_⟩
          intro wx hSw
          try dsimp only at hSw
          go_simp
          try rfl
        try simp only [Act.put, List.setIfInBounds_toArray, List.set_cons_zero, List.set_cons_succ]
        refine wpAnyH_takeAt (i := 8) (d := 78) (v := ?vc8) (by kernel_rfl) (by kernel_rfl) (by kernel_rfl) (by kernel_rfl) (fun _ _ _ h => h) ?hyc8 (by assumption) ?restc8
        case hyc8 =>
          intro oi ho
          simp only [List.getElem?_toArray, List.getElem?_cons_succ, List.getElem?_cons_zero, Option.some.injEq] at ho
          subst ho
          refine Or.inl ⟨by rfl, ?_⟩
          intro wx hSw
          try dsimp only at hSw
          go_simp
          try rfl
        try simp only [Act.put, List.setIfInBounds_toArray, List.set_cons_zero, List.set_cons_succ]
        refine wpAnyH_takeAt (i := 9) (d := 79) (v := ?vc9) (by kernel_rfl) (by kernel_rfl) (by kernel_rfl) (by kernel_rfl) (fun _ _ _ h => h) ?hyc9 (by assumption) ?restc9
        case hyc9 =>
          intro oi ho
          simp only [List.getElem?_toArray, List.getElem?_cons_succ, List.getElem?_cons_zero, Option.some.injEq] at ho
          subst ho
          refine Or.inl ⟨by rfl, ?_⟩
          intro wx hSw
          try dsimp only at hSw
          go_simp
          try rfl
        try simp only [Act.put, List.setIfInBounds_toArray, List.set_cons_zero, List.set_cons_succ]
        refine wpAnyH_comesAt (i := 10) (by kernel_rfl) (by kernel_rfl) ?_
        intro o ho K hK
        simp only [List.getElem?_toArray, List.getElem?_cons_succ, List.getElem?_cons_zero, Option.some.injEq] at ho
        subst ho
        go_simp
        refine (few5 HT8.out.a).mono ?_
        rintro e v9 ⟨ja, jl, jc, rfl, hs, h1, hb⟩
        have HJ9 := hide hs
        clear hs h1
        clear hHeld
        have HT9 := hide (HT8.out.next hb)
        clear hb HT8
        refine hK.out _ _ ⟨⟨cell_blk (HT9.out).k7, cell_blk (HT9.out).k7, cell_blk (HT9.out).k7⟩, ⟨cell_blk (HT9.out).k3, cell_blk (HT9.out).k3, cell_blk (HT9.out).k3⟩⟩ (fun hHeld => ?_)
        clear hK K
        try simp only [Act.put, List.setIfInBounds_toArray, List.set_cons_zero, List.set_cons_succ]
        refine wpAnyH_comesAt (i := 11) (by kernel_rfl) (by kernel_rfl) ?_
        intro o ho K hK
        simp only [List.getElem?_toArray, List.getElem?_cons_succ, List.getElem?_cons_zero, Option.some.injEq] at ho
        subst ho
        go_simp
        refine (refsame2_any HT9.out.r HJ9.out (by have := LR.out; omega)).mono ?_
        rintro e v10 ⟨rfl, hb⟩
        rw [decide_eq_true rfl]
        clear hHeld
        have HT10 := hide (HT9.out.next hb)
        clear hb HT9 HJ9
        refine hK.out _ _ ⟨⟨cell_blk (HT10.out).k7, cell_blk (HT10.out).k7, cell_blk (HT10.out).k7⟩, ⟨cell_blk (HT10.out).k3, cell_blk (HT10.out).k3, cell_blk (HT10.out).k3⟩⟩ (fun hHeld => ?_)
        clear hK K
        try simp only [Act.put, List.setIfInBounds_toArray, List.set_cons_zero, List.set_cons_succ]
        refine wpAnyH_takeAt (i := 12) (d := 82) (v := ?vc12) (by kernel_rfl) (by kernel_rfl) (by kernel_rfl) (by kernel_rfl) (fun _ _ _ h => h) ?hyc12 (by assumption) ?restc12
        case hyc12 =>
          intro oi ho
          simp only [List.getElem?_toArray, List.getElem?_cons_succ, List.getElem?_cons_zero, Option.some.injEq] at ho
          subst ho
          refine Or.inl ⟨by rfl, ?_⟩
          intro wx hSw
          try dsimp only at hSw
          go_simp
          try rfl
        try simp only [Act.put, List.setIfInBounds_toArray, List.set_cons_zero, List.set_cons_succ]
        refine wpAnyH_takeAt (i := 13) (d := 6) (v := ?vc13) (by kernel_rfl) (by kernel_rfl) (by kernel_rfl) (by kernel_rfl) (fun _ _ _ h => h) ?hyc13 (by assumption) ?restc13
        case hyc13 =>
          intro oi ho
          simp only [List.getElem?_toArray, List.getElem?_cons_succ, List.getElem?_cons_zero, Option.some.injEq] at ho
          subst ho
          refine Or.inl ⟨by rfl, ?_⟩
          intro wx hSw
          try dsimp only at hSw
          go_simp
          try rfl
        try simp only [Act.put, List.setIfInBounds_toArray, List.set_cons_zero, List.set_cons_succ]
        refine wpAnyH_done (by kernel_rfl) ?_ _
        refine NoPanic.normal ?_
        clear hHeld
        go_wp2
        go_ret
        exact ⟨rfl, by rw [← HG3.out]; exact HT10.out.bel⟩
end Go.Proofs.Ytcophbkgighepaa
