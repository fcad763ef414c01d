/- Contract of the document's own lose. -/
import Derived.Test.YtnapapgmeghgjaaV3
import Derived.Deep.CutRange
set_option linter.unusedVariables false
namespace Go.Proofs.Ytnapapgmeghgjaa
open Go.RowKit

theorem kb_ltR {xs ys : List Nat} (h : pad xs = pad ys) (hy : ∀ c ∈ ys, c < 256) : ∀ c ∈ xs, c < 256 := by
  intro c hc
  have : c ∈ pad xs := by unfold pad; exact List.mem_append_left _ hc
  rw [h] at this
  exact pad_lt hy c this
theorem kb_lenR {xs : List Nat} (h : xs = [] ∨ xs.length = blk) : xs.length ≤ blk := by
  rcases h with h | h
  · rw [h]; exact Nat.zero_le _
  · rw [h]; exact Nat.le_refl _
theorem headR_lose (gk : Nat) (vo : Value) (t : DS) (keep : Nat) (torn cut : Int) : ([(1, Value.slice none 0 0), (2, .bool true), (3, .int .i64 0), (4, .int .u64 0), (5, .int .i64 0), (6, .int .i64 0), (7, .int .i64 (t.life + 1))].foldl (fun (c : Array Value) (x : Nat × Value) => c.setIfInBounds x.1 x.2) (headR gk vo t)) = headR gk (.slice none 0 0) (t.lose keep torn cut) := by
  unfold headR
  have e : (t.lose keep torn cut).n = t.n := settle_n t keep torn cut
  rw [e]
  rfl

set_option maxRecDepth 100000 in
set_option maxHeartbeats 8000000 in
theorem lose_any [Gc] (b : Nat → Prop) (B p gk : Nat) (vo : Value) (kv wv : Nat → Value) (kb : Nat → List Nat) (t : DS) (a : Int) (keep : Nat) (torn cut : Int) (w : World) (h : RV B p gk vo kv wv kb t w) (hB : B ≤ w.heap.size) (hkeep : keep < 18446744073709551616) (hlf : t.life < 100000) :
    Calls Try.prog 39 #[.pointer (some ⟨p, 0, none⟩), .agg #[.int .i64 a, .int .u64 (keep : Int), .int .i64 torn, .int .i64 cut]] w fun e w' => e = .returned (.tuple #[]) ∧ ∃ kv' kb', RV B p gk (.slice none 0 0) kv' wv kb' (t.lose keep torn cut) w' ∧ Fd b B w w' := by
  have HD := hide h
  have HS := hide (RW.start h hB a keep torn cut b)
  obtain ⟨A, C, hvo⟩ := own_slice h.hw
  have hm := h.ok.mm
  have HOK := hide h.ok
  have HBW := hide hB
  have hL0 := h.ok.life0
  have HN8 : Hid (blk = 8192) := rfl
  have HLF := hide hlf
  obtain ⟨N, HN⟩ : ∃ N, Hid (blk = N) := ⟨_, rfl⟩
  have hN8 : (N : Int) = 8192 := by rw [← HN.out]; rfl
  subst hvo
  clear h
  generalize hM : t.m = m at *
  have HM := hide hM
  clear hM
  go_enter Try.func39, Try.ntmps39
  go_wp2
  go_loopw [4] (fun i wr => ∃ (k : Nat) (kv' : Nat → Value) (kb' : Nat → List Nat), k ≤ m ∧ i = .int .i64 k ∧ RW b B p gk w.heap.size (.slice A m C) wv t a keep torn cut w k kv' kb' wr) (fun i _ => m - (intOf i).toNat)
  case atStart => exact ⟨0, kv, kb, by omega, rfl, HS.out⟩
  case round =>
    obtain ⟨k, kv', kb', hk, rfl, hS⟩ := hrel
    have HS2 := hide hS
    have q9 : wr.cell? ⟨p, 1, none⟩ = some (.slice A m C) := cell_blk hS.hp
    by_cases hlt : k < m
    · have hw' := hS.hw
      rw [HM.out] at hw'
      obtain ⟨g, rfl, hgl, cur, hgc⟩ := own_place hw' (by omega)
      have hkm : k < t.m := by rw [HM.out]; exact hlt
      have HKM := hide hkm
      have r0 := hw'.cellAt (k * 2) (by omega)
      have r1 := hw'.cellAt (k * 2 + 1) (by omega)
      rw [two_get0 _ _ _ _ hlt] at r0
      rw [two_get1 _ _ _ _ hlt] at r1
      clear hw'
      have hat := HOK.out.at_ k hkm
      have HAT := hide hat
      have q0 : wr.cell? ⟨p, 0, none⟩ = some (.slice (some ⟨gk, 0, none⟩) t.n t.n) := cell_blk hS.hp
      have q1 : wr.cell? ⟨gk, t.at_ k, none⟩ = some (kv' (t.at_ k)) := by
        rw [cell_blk hS.hg]
        simpa using krow_get kv' hat
      have HKP := hide (hS.kp (t.at_ k) hat)
      have HKL := hide (kb_lenR HKP.out.2)
      have HKT := hide (kb_ltR HKP.out.1 (setK_lt HOK.out _ _ _ _ _))
      obtain ⟨a1, p1, e1, hbs1⟩ := bs_row (hS.hk (t.at_ k) hat) (by have := HKL.out; have := HN8.out; omega) HKT.out
      have HBS1 := hide hbs1
      clear hbs1
      have hrow2 := hS.hb k hkm
      rw [HN.out] at hrow2
      obtain ⟨a2, p2, e2⟩ := own_slice hrow2
      rw [e2] at hrow2 r1
      obtain ⟨g2, rfl, hg2l, cur2, hg2c⟩ := own_place hrow2 (by omega)
      have HRW2 := hide hrow2
      rw [e1] at q1
      have HE1 := hide e1
      have HE2 := hide e2
      clear e1 e2 hrow2
      have l1 : ∀ i, wr.cell? ⟨w.heap.size, i, none⟩ = (#[Value.int .i64 a, .int .u64 (keep : Int), .int .i64 torn, .int .i64 cut] : Array Value)[i]? := fun i => cell_blk hS.hl
      have hk1 := HOK.out.n2
      have i1 : (0 : Int) ≤ (k : Int) := by omega
      have i2 : (k : Int) < (m : Int) := by omega
      have i3 : (0 : Int) ≤ ((t.at_ k : Nat) : Int) := by omega
      have i4 : ((t.at_ k : Nat) : Int) < ((t.n : Nat) : Int) := by omega
      obtain ⟨n1, hn1⟩ : ∃ n1, n1 = (kb' (t.at_ k)).length := ⟨_, rfl⟩
      rw [← hn1] at q1 HBS1 HKL
      have HN1 := hide hn1
      clear hS hn1
      have HB1 := hide (below_box wr (.cells #[.int .i64 ((t.at_ k : Nat) : Int), .slice (some ⟨g2, 0, none⟩) N p2] 78))
      have hwB : B ≤ wr.heap.size := Nat.le_trans HBW.out HS2.out.fd.bel.size
      have HS3 := hide (HS2.out.later HB1.out hwB)
      have HWB := hide hwB
      have HGB := hide HD.out.gB
      have hpB : p < wr.heap.size := (Array.getElem?_eq_some_iff.1 HS2.out.hp).1
      have hgB : gk < wr.heap.size := (Array.getElem?_eq_some_iff.1 HS2.out.hg).1
      have hlB : w.heap.size < wr.heap.size := (Array.getElem?_eq_some_iff.1 HS2.out.hl).1
      have HNW : Hid ((wr.alloc (.cells #[.int .i64 ((t.at_ k : Nat) : Int), .slice (some ⟨g2, 0, none⟩) N p2] 78)).heap[wr.heap.size]? = some (.cells #[.int .i64 ((t.at_ k : Nat) : Int), .slice (some ⟨g2, 0, none⟩) N p2] 78 (0, 0))) := heap_alloc_new wr _
      have x0 := (HB1.out.cell (p := ⟨p, 0, none⟩) hpB).trans q0
      have x1 := (HB1.out.cell (p := ⟨gk, t.at_ k, none⟩) hgB).trans q1
      have x2 : (wr.alloc (.cells #[.int .i64 ((t.at_ k : Nat) : Int), .slice (some ⟨g2, 0, none⟩) N p2] 78)).cell? ⟨wr.heap.size, 0, none⟩ = some (.int .i64 ((t.at_ k : Nat) : Int)) := cell_blk HNW.out
      have x3 : (wr.alloc (.cells #[.int .i64 ((t.at_ k : Nat) : Int), .slice (some ⟨g2, 0, none⟩) N p2] 78)).cell? ⟨wr.heap.size, 1, none⟩ = some (.slice (some ⟨g2, 0, none⟩) N p2) := cell_blk HNW.out
      have x4 : ∀ i, (wr.alloc (.cells #[.int .i64 ((t.at_ k : Nat) : Int), .slice (some ⟨g2, 0, none⟩) N p2] 78)).cell? ⟨w.heap.size, i, none⟩ = (#[Value.int .i64 a, .int .u64 (keep : Int), .int .i64 torn, .int .i64 cut] : Array Value)[i]? := fun i => (HB1.out.cell (p := ⟨w.heap.size, i, none⟩) hlB).trans (l1 i)
      have y1 := x4 1
      have y2 := x4 2
      have y3 := x4 3
      simp only [List.getElem?_toArray, List.getElem?_cons_zero, List.getElem?_cons_succ] at y1 y2 y3
      clear x4 l1
      go_upto_region 5 with fail
      clear q0 q1 r0 r1 q9
      generalize wr.alloc (.cells #[.int .i64 ((t.at_ k : Nat) : Int), .slice (some ⟨g2, 0, none⟩) N p2] 78) = w1 at *
      have HBK := hide (HBS1.out.later HB1.out (Nat.le_refl _))
      have HR2 := hide (own_later HRW2.out HB1.out)
      have HB1s := hide HB1.out.size
      have hwlt : wr.heap.size < w1.heap.size := (Array.getElem?_eq_some_iff.1 HNW.out).1
      clear HBS1 HRW2 HS2 HB1 hgl hgc hg2l hg2c hpB hgB hlB
      generalize hOW : wr.heap.size = ow at *
      clear hOW
      obtain ⟨ks, HKS⟩ : ∃ ks, Hid (kb' (t.at_ k) = ks) := ⟨_, rfl⟩
      rw [HKS.out] at HBK HKP HKT
      obtain ⟨bs, HBS⟩ : ∃ bs, Hid (pad (t.by_ k) = bs) := ⟨_, rfl⟩
      rw [HBS.out] at HR2
      have HBL : Hid (bs.length = N) := by show _ = _; rw [← HBS.out, pad_len (HOK.out.bl k), HN.out]
      by_cases htn : (k : Int) = torn
      · have t1 : ((k : Int) == torn) = true := by simp [htn]
        obtain ⟨n, hn⟩ : ∃ n : Nat, (n : Int) = min (max cut 0) 8192 := ⟨(min (max cut 0) 8192).toNat, by omega⟩
        have HKN : Hid (keptN keep torn cut k = n) := by
          show _ = _
          unfold keptN
          rw [if_pos htn]
          omega
        have hnN : n ≤ N := by omega
        clear htn
        go_upto_region 6 with fail
        go_cut [6] from 9 to 79 (fun s6 wx => s6 = .int .i64 (n : Int) ∧ wx = w1)
        case first =>
          by_cases c1 : cut < 0
          · have hq : (n : Int) = 0 := by omega
            have HQ := hide hq
            clear hn hnN HKN hq
            go_wp2
            go_meet
            case rel => exact ⟨by rw [HQ.out], rfl⟩
          · by_cases c2 : 8192 < cut
            · have hq : (n : Int) = 8192 := by omega
              have HQ := hide hq
              clear hn hnN HKN hq
              go_wp2
              go_meet
              case rel => exact ⟨by rw [HQ.out], rfl⟩
            · have hq : (n : Int) = cut := by omega
              have HQ := hide hq
              clear hn hnN HKN hq
              go_wp2
              go_meet
              case rel => exact ⟨by rw [HQ.out], rfl⟩
        case rest =>
          obtain ⟨h6, hwc⟩ := hcut
          have hwc := hwc.symm
          subst hwc h6
          have HFU : Hid (∀ ww, BS ww a1 n1 p1 ks → Calls Try.prog 36 #[.slice a1 n1 p1] ww fun e w' => e = .returned (.slice (some ⟨ww.heap.size, 0, none⟩) N N) ∧ w'.ownsRow ww.heap.size 5 1 (.slice (some ⟨ww.heap.size, 0, none⟩) N N) N (cellsOf (pad ks)) ∧ Below ww.heap.size ww w') := by
            intro ww hh
            have := full_any a1 n1 p1 ks ww hh HKL.out
            rw [HN.out] at this
            exact this
          have HX1 : Hid ((fun wx => wx.cell? ⟨p, 0, none⟩ = some (.slice (some ⟨gk, 0, none⟩) t.n t.n) ∧ wx.cell? ⟨ow, 0, none⟩ = some (.int .i64 ((t.at_ k : Nat) : Int)) ∧ wx.cell? ⟨gk, t.at_ k, none⟩ = some (.slice a1 n1 p1)) w1.drew) := ⟨x0, x2, x1⟩
          have HKX : Hid (ks.length ≤ blk) := by show _ ≤ _; rw [← HKS.out]; exact kb_lenR (by rw [HKS.out]; exact HKP.out.2)
          have HPK : Hid ((pad ks).length = N) := by show _ = _; rw [pad_len HKX.out, HN.out]
          have x3' := x3
          clear hn
          go_wp2_with fail
          refine wp_region_noPanic ?_
          refine wp_region_held_drew (S := fun wx => wx.cell? ⟨p, 0, none⟩ = some (.slice (some ⟨gk, 0, none⟩) t.n t.n) ∧ wx.cell? ⟨ow, 0, none⟩ = some (.int .i64 ((t.at_ k : Nat) : Int)) ∧ wx.cell? ⟨gk, t.at_ k, none⟩ = some (.slice a1 n1 p1)) (by kernel_rfl) HX1.out (fun hHeld => ?_)
          refine wpAnyH_takeAt (i := 0) (d := 33) (v := ?va0) (by kernel_rfl) (by kernel_rfl) (by kernel_rfl) (by kernel_rfl) (fun _ _ _ h => h) ?hya0 (by assumption) ?resta0
          case hya0 =>
            intro oi ho
            simp only [List.getElem?_toArray, List.getElem?_cons_zero, Option.some.injEq] at ho
            subst ho
            refine Or.inl ⟨by rfl, ?_⟩
            intro wx hSw
            try dsimp only at hSw
            go_simp
            try rfl
          try simp only [Act.put, List.setIfInBounds_toArray, List.set_cons_zero, List.set_cons_succ]
          refine wpAnyH_takeAt (i := 1) (d := 34) (v := ?va1) (by kernel_rfl) (by kernel_rfl) (by kernel_rfl) (by kernel_rfl) (fun _ _ _ h => h) ?hya1 (by assumption) ?resta1
          case hya1 =>
            intro oi ho
            simp only [List.getElem?_toArray, List.getElem?_cons_succ, List.getElem?_cons_zero, Option.some.injEq] at ho
            subst ho
            refine Or.inl ⟨by rfl, ?_⟩
            intro wx hSw
            try dsimp only at hSw
            go_simp
            try rfl
          try simp only [Act.put, List.setIfInBounds_toArray, List.set_cons_zero, List.set_cons_succ]
          refine wpAnyH_takeAt (i := 2) (d := 35) (v := ?va2) (by kernel_rfl) (by kernel_rfl) (by kernel_rfl) (by kernel_rfl) (fun _ _ _ h => h) ?hya2 (by assumption) ?resta2
          case hya2 =>
            intro oi ho
            simp only [List.getElem?_toArray, List.getElem?_cons_succ, List.getElem?_cons_zero, Option.some.injEq] at ho
            subst ho
            refine Or.inl ⟨by rfl, ?_⟩
            intro wx hSw
            try dsimp only at hSw
            go_simp
            try rfl
          try simp only [Act.put, List.setIfInBounds_toArray, List.set_cons_zero, List.set_cons_succ]
          refine wpAnyH_takeAt (i := 3) (d := 36) (v := ?va3) (by kernel_rfl) (by kernel_rfl) (by kernel_rfl) (by kernel_rfl) (fun _ _ _ h => h) ?hya3 (by assumption) ?resta3
          case hya3 =>
            intro oi ho
            simp only [List.getElem?_toArray, List.getElem?_cons_succ, List.getElem?_cons_zero, Option.some.injEq] at ho
            subst ho
            refine Or.inl ⟨by rfl, ?_⟩
            intro wx hSw
            try dsimp only at hSw
            go_simp
            try rfl
          try simp only [Act.put, List.setIfInBounds_toArray, List.set_cons_zero, List.set_cons_succ]
          refine wpAnyH_takeAt (i := 4) (d := 37) (v := ?va4) (by kernel_rfl) (by kernel_rfl) (by kernel_rfl) (by kernel_rfl) (fun _ _ _ h => h) ?hya4 (by assumption) ?resta4
          case hya4 =>
            intro oi ho
            simp only [List.getElem?_toArray, List.getElem?_cons_succ, List.getElem?_cons_zero, Option.some.injEq] at ho
            subst ho
            refine Or.inl ⟨by rfl, ?_⟩
            intro wx hSw
            try dsimp only at hSw
            go_simp
            try rfl
          try simp only [Act.put, List.setIfInBounds_toArray, List.set_cons_zero, List.set_cons_succ]
          refine wpAnyH_takeAt (i := 5) (d := 38) (v := ?va5) (by kernel_rfl) (by kernel_rfl) (by kernel_rfl) (by kernel_rfl) (fun _ _ _ h => h) ?hya5 (by assumption) ?resta5
          case hya5 =>
            intro oi ho
            simp only [List.getElem?_toArray, List.getElem?_cons_succ, List.getElem?_cons_zero, Option.some.injEq] at ho
            subst ho
            refine Or.inl ⟨by rfl, ?_⟩
            intro wx hSw
            try dsimp only at hSw
            go_simp
            try rfl
          try simp only [Act.put, List.setIfInBounds_toArray, List.set_cons_zero, List.set_cons_succ]
          refine wpAnyH_takeAt (i := 6) (d := 39) (v := ?va6) (by kernel_rfl) (by kernel_rfl) (by kernel_rfl) (by kernel_rfl) (fun _ _ _ h => h) ?hya6 (by assumption) ?resta6
          case hya6 =>
            intro oi ho
            simp only [List.getElem?_toArray, List.getElem?_cons_succ, List.getElem?_cons_zero, Option.some.injEq] at ho
            subst ho
            refine Or.inl ⟨by rfl, ?_⟩
            intro wx hSw
            try dsimp only at hSw
            go_simp
            try rfl
          try simp only [Act.put, List.setIfInBounds_toArray, List.set_cons_zero, List.set_cons_succ]
          refine wpAnyH_takeAt (i := 7) (d := 40) (v := ?va7) (by kernel_rfl) (by kernel_rfl) (by kernel_rfl) (by kernel_rfl) (fun _ _ _ h => h) ?hya7 (by assumption) ?resta7
          case hya7 =>
            intro oi ho
            simp only [List.getElem?_toArray, List.getElem?_cons_succ, List.getElem?_cons_zero, Option.some.injEq] at ho
            subst ho
            refine Or.inl ⟨by rfl, ?_⟩
            intro wx hSw
            try dsimp only at hSw
            go_simp
            try rfl
          try simp only [Act.put, List.setIfInBounds_toArray, List.set_cons_zero, List.set_cons_succ]
          refine wpAnyH_comesAt (i := 8) (by kernel_rfl) (by kernel_rfl) ?_
          intro o ho K hK
          simp only [List.getElem?_toArray, List.getElem?_cons_succ, List.getElem?_cons_zero, Option.some.injEq] at ho
          subst ho
          go_simp
          refine (HFU.out _ (HBK.out.later (Below.refl w1.heap.size w1).drew (Nat.le_refl _))).mono ?_
          rintro e w2 ⟨rfl, ho2, hb2⟩
          have HB2 := hide ((Below.refl w1.heap.size w1).drew.trans hb2)
          have HO2 := hide ho2
          have HX2 : Hid ((fun wx => wx.cell? ⟨p, 0, none⟩ = some (.slice (some ⟨gk, 0, none⟩) t.n t.n) ∧ wx.cell? ⟨ow, 0, none⟩ = some (.int .i64 ((t.at_ k : Nat) : Int)) ∧ wx.cell? ⟨gk, t.at_ k, none⟩ = some (.slice a1 n1 p1)) w2) := ⟨(HB2.out.cell (cell_lt HX1.out.1)).trans HX1.out.1, (HB2.out.cell (cell_lt HX1.out.2.1)).trans HX1.out.2.1, (HB2.out.cell (cell_lt HX1.out.2.2)).trans HX1.out.2.2⟩
          clear ho2 hb2 hHeld
          refine hK.out _ _ HX2.out (fun hHeld => ?_)
          clear hK K
          try simp only [Act.put, List.setIfInBounds_toArray, List.set_cons_zero, List.set_cons_succ]
          refine wpAnyH_takeAt (i := 9) (d := 7) (v := ?va9) (by kernel_rfl) (by kernel_rfl) (by kernel_rfl) (by kernel_rfl) (fun _ _ _ h => h) ?hya9 (by assumption) ?resta9
          case hya9 =>
            intro oi ho
            simp only [List.getElem?_toArray, List.getElem?_cons_succ, List.getElem?_cons_zero, Option.some.injEq] at ho
            subst ho
            refine Or.inl ⟨by rfl, ?_⟩
            intro wx hSw
            try dsimp only at hSw
            go_simp
            try rfl
          try simp only [Act.put, List.setIfInBounds_toArray, List.set_cons_zero, List.set_cons_succ]
          refine wpAnyH_done (by kernel_rfl) ?_ _
          refine NoPanic.normal ?_
          clear hHeld x0 x1 x2 x3 y1 y2 y3
          go_wp2_with fail
          go_loopw [8] (fun i wx => ∃ j : Nat, j ≤ n ∧ i = .int .i64 j ∧ wx.heap[w1.heap.size]? = some (.cells (cellsOf (mix bs (pad ks) j)).toArray 5 (0, 0)) ∧ Below w1.heap.size w1 wx) (fun i _ => n - (intOf i).toNat)
          case atStart =>
            refine ⟨0, by omega, rfl, ?_, HB2.out⟩
            have := (own_whole HO2.out).1
            simpa [mix] using this
          case round =>
            obtain ⟨j, hj, rfl, hr, hbw⟩ := hrel
            have HR := hide hr
            have HB := hide hbw
            clear hr hbw HX1 HX2 HO2 HB2 HFU
            have z3 : wr.cell? ⟨ow, 1, none⟩ = some (.slice (some ⟨g2, 0, none⟩) N p2) := (HB.out.cell (p := ⟨ow, 1, none⟩) hwlt).trans x3'
            by_cases hjn : j < n
            · have rb := (own_later HR2.out HB.out).cellAt j (by omega)
              rw [cellsOf_get bs j (by rw [HBL.out]; omega)] at rb
              have HNX := hide (mix_next HBL.out HPK.out (j := j) (by omega))
              obtain ⟨x, HXX⟩ : ∃ x, Hid (bs.getD j 0 = x) := ⟨_, rfl⟩
              rw [HXX.out] at rb HNX
              have ML := hide (mix_len HBL.out HPK.out (j := j) (by omega))
              have ce : ∃ y, wr.cell? ⟨w1.heap.size, j, none⟩ = some y := by
                rw [cell_blk HR.out]
                exact ⟨_, by simpa using List.getElem?_eq_getElem (by rw [cellsOf_length, ML.out]; omega)⟩
              obtain ⟨y, hy⟩ := ce
              have fz : wr.frozen? ⟨w1.heap.size, j, none⟩ = false := frz_blk HR.out
              have HW2 : Hid ((wr.setCell ⟨w1.heap.size, j, none⟩ (.int .u8 (x : Int))).heap[w1.heap.size]? = some (.cells (cellsOf (mix bs (pad ks) (j + 1))).toArray 5 (0, 0))) := by
                show _ = _
                rw [heap_setCell_same wr w1.heap.size j _ _ _ HR.out, List.setIfInBounds_toArray, HNX.out]
              have HBB := hide (HB.out.setCell (p := ⟨w1.heap.size, j, none⟩) (Nat.le_refl _) (.int .u8 (x : Int)))
              have j1 : (j : Int) < (n : Int) := by omega
              have j2 : (j : Int) < (N : Int) := by omega
              have j0 : (0 : Int) ≤ (j : Int) := by omega
              go_wp2
              go_roundw
              case rel => exact ⟨j + 1, by omega, by go_num, HW2.out, HBB.out⟩
              case measure => simp [intOf]; omega
            · have j1 : ¬ (j : Int) < (n : Int) := by omega
              have ej : j = n := by omega
              subst ej
              have HS4 := hide (HS3.out.later (HB.out.trans ((Below.refl _ wr).drew.mono HB.out.size)) (Nat.le_trans HWB.out HB1s.out))
              have HMP := hide (mix_laid (old := t.setK keep torn cut k (t.at_ k)) (by_ := t.by_ k) (ks := ks) (n := j) (HOK.out.bl k) (setK_len HOK.out _ _ _ _ _) HKP.out.1 (by rw [HN.out]; exact hnN))
              rw [HBS.out] at HMP
              have ML := hide (mix_len HBL.out HPK.out (j := j) hnN)
              have HVR : Hid (wr.drew.ownsRow B 5 1 (.slice (some ⟨w1.heap.size, 0, none⟩) N N) (mix bs (pad ks) j).length (cellsOf (mix bs (pad ks) j))) := by
                show World.ownsRow _ _ _ _ _ _ _
                rw [ML.out]
                exact whole_own HR.out (Nat.le_trans HWB.out HB1s.out) ML.out (by have := HN8.out; have := HN.out; unfold maxLen; omega)
              have HF := hide (HS4.out.step HAT.out HGB.out HVR.out (by rw [HKN.out]; exact HMP.out) (by rw [ML.out, HN.out]) (fun j9 hj9 e9 => by have e7 : w1.heap.size = j9 := Option.some.inj e9; obtain ⟨cs, e6⟩ := (HS3.out.k8 j9 hj9).1; have := (Array.getElem?_eq_some_iff.1 e6).1; omega))
              have hne : gk ≠ ow := by
                intro e
                have h1 := HS3.out.hg
                rw [e, HNW.out] at h1
                simp only [Option.some.injEq, Obj.cells.injEq] at h1
                exact absurd h1.2.1 (by decide)
              have z2 : wr.drew.cell? ⟨ow, 0, none⟩ = some (.int .i64 ((t.at_ k : Nat) : Int)) := (HB.out.cell (p := ⟨ow, 0, none⟩) hwlt).trans (cell_blk HNW.out)
              have HY1 : Hid ((fun wx => wx.cell? ⟨p, 0, none⟩ = some (.slice (some ⟨gk, 0, none⟩) t.n t.n) ∧ wx.cell? ⟨ow, 0, none⟩ = some (.int .i64 ((t.at_ k : Nat) : Int)) ∧ wx.cell? ⟨ow, 1, none⟩ = some (.slice (some ⟨g2, 0, none⟩) N p2)) wr.drew) := ⟨cell_blk HS4.out.hp, z2, z3⟩
              have HY2 : Hid ((fun wx => wx.cell? ⟨p, 0, none⟩ = some (.slice (some ⟨gk, 0, none⟩) t.n t.n) ∧ wx.cell? ⟨ow, 0, none⟩ = some (.int .i64 ((t.at_ k : Nat) : Int)) ∧ wx.cell? ⟨ow, 1, none⟩ = some (.slice (some ⟨g2, 0, none⟩) N p2)) (wr.drew.setCell ⟨gk, t.at_ k, none⟩ (.slice (some ⟨w1.heap.size, 0, none⟩) N N))) := ⟨cell_blk HF.out.hp, (World.cell?_setCell_other _ _ _ _ (fun e => hne (congrArg Addr.block e))).trans z2, (World.cell?_setCell_other _ _ _ _ (fun e => hne (congrArg Addr.block e))).trans z3⟩
              have c4 : wr.drew.cell? ⟨gk, t.at_ k, none⟩ = some (kv' (t.at_ k)) := by
                rw [cell_blk HS4.out.hg]
                simpa using krow_get kv' HAT.out
              have f4 : wr.drew.frozen? ⟨gk, t.at_ k, none⟩ = false := frz_blk HS4.out.hg
              clear z2 z3
              go_wp2_with fail
              refine wp_region_noPanic ?_
              refine wp_region_held_drew (S := fun wx => wx.cell? ⟨p, 0, none⟩ = some (.slice (some ⟨gk, 0, none⟩) t.n t.n) ∧ wx.cell? ⟨ow, 0, none⟩ = some (.int .i64 ((t.at_ k : Nat) : Int)) ∧ wx.cell? ⟨ow, 1, none⟩ = some (.slice (some ⟨g2, 0, none⟩) N p2)) (by kernel_rfl) HY1.out (fun hHeld => ?_)
              refine wpAnyH_takeAt (i := 0) (d := 55) (v := ?vb0) (by kernel_rfl) (by kernel_rfl) (by kernel_rfl) (by kernel_rfl) (fun _ _ _ h => h) ?hyb0 (by assumption) ?restb0
              case hyb0 =>
                intro oi ho
                simp only [List.getElem?_toArray, List.getElem?_cons_zero, Option.some.injEq] at ho
                subst ho
                refine Or.inl ⟨by rfl, ?_⟩
                intro wx hSw
                try dsimp only at hSw
                go_simp
                try rfl
              try simp only [Act.put, List.setIfInBounds_toArray, List.set_cons_zero, List.set_cons_succ]
              refine wpAnyH_takeAt (i := 1) (d := 56) (v := ?vb1) (by kernel_rfl) (by kernel_rfl) (by kernel_rfl) (by kernel_rfl) (fun _ _ _ h => h) ?hyb1 (by assumption) ?restb1
              case hyb1 =>
                intro oi ho
                simp only [List.getElem?_toArray, List.getElem?_cons_succ, List.getElem?_cons_zero, Option.some.injEq] at ho
                subst ho
                refine Or.inl ⟨by rfl, ?_⟩
                intro wx hSw
                try dsimp only at hSw
                go_simp
                try rfl
              try simp only [Act.put, List.setIfInBounds_toArray, List.set_cons_zero, List.set_cons_succ]
              refine wpAnyH_takeAt (i := 2) (d := 57) (v := ?vb2) (by kernel_rfl) (by kernel_rfl) (by kernel_rfl) (by kernel_rfl) (fun _ _ _ h => h) ?hyb2 (by assumption) ?restb2
              case hyb2 =>
                intro oi ho
                simp only [List.getElem?_toArray, List.getElem?_cons_succ, List.getElem?_cons_zero, Option.some.injEq] at ho
                subst ho
                refine Or.inl ⟨by rfl, ?_⟩
                intro wx hSw
                try dsimp only at hSw
                go_simp
                try rfl
              try simp only [Act.put, List.setIfInBounds_toArray, List.set_cons_zero, List.set_cons_succ]
              refine wpAnyH_takeAt (i := 3) (d := 58) (v := ?vb3) (by kernel_rfl) (by kernel_rfl) (by kernel_rfl) (by kernel_rfl) (fun _ _ _ h => h) ?hyb3 (by assumption) ?restb3
              case hyb3 =>
                intro oi ho
                simp only [List.getElem?_toArray, List.getElem?_cons_succ, List.getElem?_cons_zero, Option.some.injEq] at ho
                subst ho
                refine Or.inl ⟨by rfl, ?_⟩
                intro wx hSw
                try dsimp only at hSw
                go_simp
                try rfl
              try simp only [Act.put, List.setIfInBounds_toArray, List.set_cons_zero, List.set_cons_succ]
              refine wpAnyH_takeAt (i := 4) (d := 59) (v := ?vb4) (by kernel_rfl) (by kernel_rfl) (by kernel_rfl) (by kernel_rfl) (fun _ _ _ h => h) ?hyb4 (by assumption) ?restb4
              case hyb4 =>
                intro oi ho
                simp only [List.getElem?_toArray, List.getElem?_cons_succ, List.getElem?_cons_zero, Option.some.injEq] at ho
                subst ho
                refine Or.inl ⟨by rfl, ?_⟩
                intro wx hSw
                try dsimp only at hSw
                go_simp
                try rfl
              try simp only [Act.put, List.setIfInBounds_toArray, List.set_cons_zero, List.set_cons_succ]
              refine wpAnyH_takeAt (i := 5) (d := 60) (v := ?vb5) (by kernel_rfl) (by kernel_rfl) (by kernel_rfl) (by kernel_rfl) (fun _ _ _ h => h) ?hyb5 (by assumption) ?restb5
              case hyb5 =>
                intro oi ho
                simp only [List.getElem?_toArray, List.getElem?_cons_succ, List.getElem?_cons_zero, Option.some.injEq] at ho
                subst ho
                refine Or.inl ⟨by rfl, ?_⟩
                intro wx hSw
                try dsimp only at hSw
                go_simp
                try rfl
              try simp only [Act.put, List.setIfInBounds_toArray, List.set_cons_zero, List.set_cons_succ]
              refine wpAnyH_takeAt (i := 6) (d := 61) (v := ?vb6) (by kernel_rfl) (by kernel_rfl) (by kernel_rfl) (by kernel_rfl) (fun _ _ _ h => h) ?hyb6 (by assumption) ?restb6
              case hyb6 =>
                intro oi ho
                simp only [List.getElem?_toArray, List.getElem?_cons_succ, List.getElem?_cons_zero, Option.some.injEq] at ho
                subst ho
                refine Or.inl ⟨by rfl, ?_⟩
                intro wx hSw
                try dsimp only at hSw
                go_simp
                try rfl
              try simp only [Act.put, List.setIfInBounds_toArray, List.set_cons_zero, List.set_cons_succ]
              refine wpAnyH_takeAt (i := 7) (d := 62) (v := ?vb7) (by kernel_rfl) (by kernel_rfl) (by kernel_rfl) (by kernel_rfl) (fun _ _ _ h => h) ?hyb7 (by assumption) ?restb7
              case hyb7 =>
                intro oi ho
                simp only [List.getElem?_toArray, List.getElem?_cons_succ, List.getElem?_cons_zero, Option.some.injEq] at ho
                subst ho
                refine Or.inl ⟨by rfl, ?_⟩
                intro wx hSw
                try dsimp only at hSw
                go_simp
                try rfl
              try simp only [Act.put, List.setIfInBounds_toArray, List.set_cons_zero, List.set_cons_succ]
              refine wpAnyH_comesAt (i := 8) (by kernel_rfl) (by kernel_rfl) ?_
              intro o ho K hK
              simp only [List.getElem?_toArray, List.getElem?_cons_succ, List.getElem?_cons_zero, Option.some.injEq] at ho
              subst ho
              go_simp
              clear hHeld
              refine hK.out _ _ HY2.out (fun hHeld => ?_)
              clear hK K
              try simp only [Act.put, List.setIfInBounds_toArray, List.set_cons_zero, List.set_cons_succ]
              refine wpAnyH_done (by kernel_rfl) ?_ _
              refine NoPanic.normal ?_
              go_wp2
              go_roundw
              case rel => exact ⟨k + 1, _, _, by omega, by go_num, HF.out⟩
              case measure => simp [intOf]; omega
      · have t1 : ((k : Int) == torn) = false := by simp [htn]
        have hbt := keep_bit keep (k % 64) hkeep
        have HKN : Hid (keptN keep torn cut k = if keep / 2 ^ (k % 64) % 2 = 1 then blk else 0) := by
          show _ = _
          unfold keptN
          rw [if_neg htn]
        generalize hbv : keep / 2 ^ (k % 64) % 2 = bt at hbt HKN
        clear hbv htn
        by_cases hb1 : bt = 1
        · rw [if_pos hb1] at HKN
          subst hb1
          have HS4 := hide (HS3.out.later (Below.refl _ w1).drew (Nat.le_trans HWB.out HB1s.out))
          have HKL2 := hide (keep_laid (old := t.setK keep torn cut k (t.at_ k)) (HOK.out.bl k))
          rw [HBS.out] at HKL2
          have HVR : Hid (w1.drew.ownsRow B 5 1 (.slice (some ⟨g2, 0, none⟩) N p2) bs.length (cellsOf bs)) := by
            show World.ownsRow _ _ _ _ _ _ _
            rw [HBL.out]
            exact HR2.out
          have HF := hide (HS4.out.step HAT.out HGB.out HVR.out (by rw [HKN.out]; exact HKL2.out) (by rw [HBL.out, HN.out]) (fun j9 hj9 => by rw [← HE2.out]; exact (HD.out.h8 j9 hj9).2.2 k HKM.out))
          have hne : gk ≠ ow := by
            intro e
            have h1 := HS3.out.hg
            rw [e, HNW.out] at h1
            simp only [Option.some.injEq, Obj.cells.injEq] at h1
            exact absurd h1.2.1 (by decide)
          have HY1 : Hid ((fun wx => wx.cell? ⟨p, 0, none⟩ = some (.slice (some ⟨gk, 0, none⟩) t.n t.n) ∧ wx.cell? ⟨ow, 0, none⟩ = some (.int .i64 ((t.at_ k : Nat) : Int)) ∧ wx.cell? ⟨ow, 1, none⟩ = some (.slice (some ⟨g2, 0, none⟩) N p2)) w1.drew) := ⟨x0, x2, x3⟩
          have HY2 : Hid ((fun wx => wx.cell? ⟨p, 0, none⟩ = some (.slice (some ⟨gk, 0, none⟩) t.n t.n) ∧ wx.cell? ⟨ow, 0, none⟩ = some (.int .i64 ((t.at_ k : Nat) : Int)) ∧ wx.cell? ⟨ow, 1, none⟩ = some (.slice (some ⟨g2, 0, none⟩) N p2)) (w1.drew.setCell ⟨gk, t.at_ k, none⟩ (.slice (some ⟨g2, 0, none⟩) N p2))) := ⟨cell_blk HF.out.hp, (World.cell?_setCell_other _ _ _ _ (fun e => hne (congrArg Addr.block e))).trans x2, (World.cell?_setCell_other _ _ _ _ (fun e => hne (congrArg Addr.block e))).trans x3⟩
          have c4 : w1.drew.cell? ⟨gk, t.at_ k, none⟩ = some (.slice a1 n1 p1) := x1
          have f4 : w1.drew.frozen? ⟨gk, t.at_ k, none⟩ = false := frz_blk HS4.out.hg
          clear x0 x1 x2 x3
          go_wp2_with fail
          refine wp_region_noPanic ?_
          refine wp_region_held_drew (S := fun wx => wx.cell? ⟨p, 0, none⟩ = some (.slice (some ⟨gk, 0, none⟩) t.n t.n) ∧ wx.cell? ⟨ow, 0, none⟩ = some (.int .i64 ((t.at_ k : Nat) : Int)) ∧ wx.cell? ⟨ow, 1, none⟩ = some (.slice (some ⟨g2, 0, none⟩) N p2)) (by kernel_rfl) HY1.out (fun hHeld => ?_)
          refine wpAnyH_takeAt (i := 0) (d := 71) (v := ?vc0) (by kernel_rfl) (by kernel_rfl) (by kernel_rfl) (by kernel_rfl) (fun _ _ _ h => h) ?hyc0 (by assumption) ?restc0
          case hyc0 =>
            intro oi ho
            simp only [List.getElem?_toArray, List.getElem?_cons_zero, Option.some.injEq] at ho
            subst ho
            refine Or.inl ⟨by rfl, ?_⟩
            intro wx hSw
            try dsimp only at hSw
            go_simp
            try rfl
          try simp only [Act.put, List.setIfInBounds_toArray, List.set_cons_zero, List.set_cons_succ]
          refine wpAnyH_takeAt (i := 1) (d := 72) (v := ?vc1) (by kernel_rfl) (by kernel_rfl) (by kernel_rfl) (by kernel_rfl) (fun _ _ _ h => h) ?hyc1 (by assumption) ?restc1
          case hyc1 =>
            intro oi ho
            simp only [List.getElem?_toArray, List.getElem?_cons_succ, List.getElem?_cons_zero, Option.some.injEq] at ho
            subst ho
            refine Or.inl ⟨by rfl, ?_⟩
            intro wx hSw
            try dsimp only at hSw
            go_simp
            try rfl
          try simp only [Act.put, List.setIfInBounds_toArray, List.set_cons_zero, List.set_cons_succ]
          refine wpAnyH_takeAt (i := 2) (d := 73) (v := ?vc2) (by kernel_rfl) (by kernel_rfl) (by kernel_rfl) (by kernel_rfl) (fun _ _ _ h => h) ?hyc2 (by assumption) ?restc2
          case hyc2 =>
            intro oi ho
            simp only [List.getElem?_toArray, List.getElem?_cons_succ, List.getElem?_cons_zero, Option.some.injEq] at ho
            subst ho
            refine Or.inl ⟨by rfl, ?_⟩
            intro wx hSw
            try dsimp only at hSw
            go_simp
            try rfl
          try simp only [Act.put, List.setIfInBounds_toArray, List.set_cons_zero, List.set_cons_succ]
          refine wpAnyH_takeAt (i := 3) (d := 74) (v := ?vc3) (by kernel_rfl) (by kernel_rfl) (by kernel_rfl) (by kernel_rfl) (fun _ _ _ h => h) ?hyc3 (by assumption) ?restc3
          case hyc3 =>
            intro oi ho
            simp only [List.getElem?_toArray, List.getElem?_cons_succ, List.getElem?_cons_zero, Option.some.injEq] at ho
            subst ho
            refine Or.inl ⟨by rfl, ?_⟩
            intro wx hSw
            try dsimp only at hSw
            go_simp
            try rfl
          try simp only [Act.put, List.setIfInBounds_toArray, List.set_cons_zero, List.set_cons_succ]
          refine wpAnyH_takeAt (i := 4) (d := 75) (v := ?vc4) (by kernel_rfl) (by kernel_rfl) (by kernel_rfl) (by kernel_rfl) (fun _ _ _ h => h) ?hyc4 (by assumption) ?restc4
          case hyc4 =>
            intro oi ho
            simp only [List.getElem?_toArray, List.getElem?_cons_succ, List.getElem?_cons_zero, Option.some.injEq] at ho
            subst ho
            refine Or.inl ⟨by rfl, ?_⟩
            intro wx hSw
            try dsimp only at hSw
            go_simp
            try rfl
          try simp only [Act.put, List.setIfInBounds_toArray, List.set_cons_zero, List.set_cons_succ]
          refine wpAnyH_takeAt (i := 5) (d := 76) (v := ?vc5) (by kernel_rfl) (by kernel_rfl) (by kernel_rfl) (by kernel_rfl) (fun _ _ _ h => h) ?hyc5 (by assumption) ?restc5
          case hyc5 =>
            intro oi ho
            simp only [List.getElem?_toArray, List.getElem?_cons_succ, List.getElem?_cons_zero, Option.some.injEq] at ho
            subst ho
            refine Or.inl ⟨by rfl, ?_⟩
            intro wx hSw
            try dsimp only at hSw
            go_simp
            try rfl
          try simp only [Act.put, List.setIfInBounds_toArray, List.set_cons_zero, List.set_cons_succ]
          refine wpAnyH_takeAt (i := 6) (d := 77) (v := ?vc6) (by kernel_rfl) (by kernel_rfl) (by kernel_rfl) (by kernel_rfl) (fun _ _ _ h => h) ?hyc6 (by assumption) ?restc6
          case hyc6 =>
            intro oi ho
            simp only [List.getElem?_toArray, List.getElem?_cons_succ, List.getElem?_cons_zero, Option.some.injEq] at ho
            subst ho
            refine Or.inl ⟨by rfl, ?_⟩
            intro wx hSw
            try dsimp only at hSw
            go_simp
            try rfl
          try simp only [Act.put, List.setIfInBounds_toArray, List.set_cons_zero, List.set_cons_succ]
          refine wpAnyH_takeAt (i := 7) (d := 78) (v := ?vc7) (by kernel_rfl) (by kernel_rfl) (by kernel_rfl) (by kernel_rfl) (fun _ _ _ h => h) ?hyc7 (by assumption) ?restc7
          case hyc7 =>
            intro oi ho
            simp only [List.getElem?_toArray, List.getElem?_cons_succ, List.getElem?_cons_zero, Option.some.injEq] at ho
            subst ho
            refine Or.inl ⟨by rfl, ?_⟩
            intro wx hSw
            try dsimp only at hSw
            go_simp
            try rfl
          try simp only [Act.put, List.setIfInBounds_toArray, List.set_cons_zero, List.set_cons_succ]
          refine wpAnyH_takeAt (i := 8) (d := 79) (v := ?vc8) (by kernel_rfl) (by kernel_rfl) (by kernel_rfl) (by kernel_rfl) (fun _ _ _ h => h) ?hyc8 (by assumption) ?restc8
          case hyc8 =>
            intro oi ho
            simp only [List.getElem?_toArray, List.getElem?_cons_succ, List.getElem?_cons_zero, Option.some.injEq] at ho
            subst ho
            refine Or.inl ⟨by rfl, ?_⟩
            intro wx hSw
            try dsimp only at hSw
            go_simp
            try rfl
          try simp only [Act.put, List.setIfInBounds_toArray, List.set_cons_zero, List.set_cons_succ]
          refine wpAnyH_comesAt (i := 9) (by kernel_rfl) (by kernel_rfl) ?_
          intro o ho K hK
          simp only [List.getElem?_toArray, List.getElem?_cons_succ, List.getElem?_cons_zero, Option.some.injEq] at ho
          subst ho
          go_simp
          clear hHeld
          refine hK.out _ _ HY2.out (fun hHeld => ?_)
          clear hK K
          try simp only [Act.put, List.setIfInBounds_toArray, List.set_cons_zero, List.set_cons_succ]
          refine wpAnyH_done (by kernel_rfl) ?_ _
          refine NoPanic.normal ?_
          go_wp2
          go_roundw
          case rel => exact ⟨k + 1, _, _, by omega, by go_num, HF.out⟩
          case measure => simp [intOf]; omega
        · rw [if_neg hb1] at HKN
          have HF := hide (HS3.out.skip HKN.out)
          have hb2 : ((bt : Int) == 1) = false := by simp; omega
          clear x0 x1 x2 x3
          go_wp2
          go_roundw
          case rel => exact ⟨k + 1, _, _, by omega, by go_num, HF.out⟩
          case measure => simp [intOf]; omega
    · have ek : k = t.m := by rw [HM.out]; omega
      have HE := HS2.out
      rw [ek, ← HM.out] at HE
      have HEE := hide HE
      have d1 : wr.cell? ⟨p, 1, none⟩ = some (.slice A m C) := cell_blk hS.hp
      have d2 : wr.cell? ⟨p, 2, none⟩ = some (.bool t.down) := cell_blk hS.hp
      have d3 : wr.cell? ⟨p, 3, none⟩ = some (.int .i64 t.after) := cell_blk hS.hp
      have d4 : wr.cell? ⟨p, 4, none⟩ = some (.int .u64 (t.keep : Int)) := cell_blk hS.hp
      have d5 : wr.cell? ⟨p, 5, none⟩ = some (.int .i64 t.torn) := cell_blk hS.hp
      have d6 : wr.cell? ⟨p, 6, none⟩ = some (.int .i64 t.cut) := cell_blk hS.hp
      have d7 : wr.cell? ⟨p, 7, none⟩ = some (.int .i64 t.life) := cell_blk hS.hp
      have fz : ∀ i, wr.frozen? ⟨p, i, none⟩ = false := fun i => frz_blk hS.hp
      clear HE hS ek
      go_wp2
      go_end0
      obtain ⟨h1, h2, h3⟩ := chainR (b := b) HD.out.pB [(1, Value.slice none 0 0), (2, .bool true), (3, .int .i64 0), (4, .int .u64 0), (5, .int .i64 0), (6, .int .i64 0), (7, .int .i64 (t.life + 1))] wr _ HEE.out.hp
      rw [headR_lose gk _ t keep torn cut] at h1
      have HDD := HD.out
      obtain ⟨r1, r2⟩ := HEE.out.done HDD HDD.gB HLF.out h1 h3 h2
      exact ⟨rfl, _, _, r1, r2⟩
end Go.Proofs.Ytnapapgmeghgjaa
