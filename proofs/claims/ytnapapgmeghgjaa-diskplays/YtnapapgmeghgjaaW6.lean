/- The walk of the law DiskPlays: whatever number and acts, it returns true and writes nothing that was there. -/
import Derived.Test.YtnapapgmeghgjaaWA
import Derived.Deep.CutBlock
import Derived.BigQuiet
set_option linter.unusedVariables false
namespace Go.Proofs.Ytnapapgmeghgjaa
open Go.RowKit

/-- What the law looks at behind each act. -/
theorem looks {B p pr n k : Nat} {s : DS} {w : World} (h : PD (fun _ => False) B p pr s w) (hs : SB s n k) :
    Hid (∀ nn, Calls Try.prog 25 #[.pointer (some ⟨p, 0, none⟩)] (w.drewN nn) fun e w' => e = .returned (.bool s.down) ∧ ∃ n, w' = (w.drewN nn).drewN n) ∧ Hid (∀ nn, Calls Try.prog 26 #[.pointer (some ⟨p, 0, none⟩)] (w.drewN nn) fun e w' => e = .returned (.int .i64 s.life) ∧ ∃ n, w' = (w.drewN nn).drewN n) ∧
    Hid (∀ nn, Calls Try.prog 27 #[.pointer (some ⟨p, 0, none⟩)] (w.drewN nn) fun e w' => e = .returned (.int .i64 (s.m : Nat)) ∧ ∃ n, w' = (w.drewN nn).drewN n) ∧ Hid (∀ nn, Calls Try.prog 28 #[.pointer (some ⟨p, 0, none⟩)] (w.drewN nn) fun e w' => e = .returned (.int .i64 (n : Nat)) ∧ ∃ n, w' = (w.drewN nn).drewN n) ∧
    (∃ A C, w.cell? ⟨pr, 1, none⟩ = some (.slice A s.m C)) ∧ w.cell? ⟨pr, 2, none⟩ = some (.bool s.down) ∧ w.cell? ⟨pr, 7, none⟩ = some (.int .i64 s.life) := by
  obtain ⟨gk, vo, kv, wv, kb, hR, hD⟩ := h
  letI : Gc := ⟨fun _ => False⟩
  letI : Gd := ⟨none, fun x => ob wv s.m x ∨ False⟩
  obtain ⟨A, C, hvo⟩ := own_slice hR.hw
  have hl : ∀ nn, DI B p s (w.drewN nn) := fun nn => hD.later (below_drewN (Below.refl _ _) nn)
  refine ⟨fun nn => (down_any B p s _ (hl nn)).mono ?_, fun nn => (life_any B p s _ (hl nn)).mono ?_, fun nn => (open_any B p s _ (hl nn)).mono ?_, fun nn => (blocks_any B p s _ (hl nn)).mono ?_, ⟨A, C, by rw [hR.d.2.1, hvo]⟩, hR.d.2.2.1, hR.d.2.2.2.2.2.2.2⟩
  · rintro e w' ⟨h1, h2⟩
    exact ⟨h1, 0, h2⟩
  · rintro e w' ⟨h1, h2⟩
    exact ⟨h1, 0, h2⟩
  · rintro e w' ⟨h1, h2⟩
    exact ⟨h1, 0, h2⟩
  · rintro e w' ⟨h1, h2⟩
    rw [hs.nn] at h1
    exact ⟨h1, 0, h2⟩

theorem txtN {w : World} {B g N : Nat} {xs : List Nat} (h : w.ownsRow B 5 1 (.slice (some ⟨g, 0, none⟩) N N) N (cellsOf xs)) (hl : xs.length = N) (hN : N ≤ 140737488355328) (hb : ∀ c ∈ xs, c < 256) : (convert 29 9 (.slice (some ⟨g, 0, none⟩) N N)).run Try.prog w = .ok (.string (str xs)) w := by
  subst hl
  exact run_text (BS.ofOwns h hN hb)

set_option maxRecDepth 100000 in
set_option maxHeartbeats 16000000 in
theorem diskPlays_walk (bl : Int) (a0 : Option Addr) (len cap : Nat) (q : Nat → AV) (w : World) (h0 : AS w a0 len q) :
    Calls Try.prog 3 #[.int .i64 bl, .slice a0 len cap] w fun e w' => e = .returned (.bool true) ∧ Below w.heap.size w w' := by
  have HB0 : Hid (w.heap.size ≤ w.heap.size) := Nat.le_refl _
  have H0 := hide h0
  have l63 := h0.hl
  obtain ⟨nb, hnb⟩ : ∃ nb : Nat, bl % 8 = (nb : Int) := ⟨(bl % 8).toNat, by omega⟩
  have hmask : bits BinOp.and IntKind.i64 bl 7 = (nb : Int) := by rw [i64_mask bl 3 (by omega) 7 (by decide)]; exact hnb
  have nb8 : nb < 8 := by omega
  obtain ⟨n, hn⟩ : ∃ n, n = nb + 1 := ⟨_, rfl⟩
  have en : (nb : Int) + 1 = (n : Int) := by omega
  have n1 : 1 ≤ n := by omega
  have n8 : n ≤ 8 := by omega
  have HSB0 : Hid (SB (DS.new n) n 0) := ⟨by simp [DS.n, DS.new], Nat.zero_le _, Int.le_refl _, Int.le_refl _⟩
  clear h0 hnb hn
  go_enter Try.func3, Try.ntmps3
  go_wp2_with fail
  refine (@new_any ⟨none, fun _ => False⟩ w.heap.size n w n1 (by omega) HB0.out rfl (fun _ h => h)).mono ?_
  rintro e w1 ⟨p, rfl, hD1, hb1⟩
  have HD1 := hide hD1
  have HB1 := hide hb1
  clear hD1 hb1
  go_wp2_with fail
  refine (@newR_any ⟨fun _ => False⟩ w.heap.size n w1 n1 (by omega) HB1.out.size (fun _ h => h)).mono ?_
  rintro e w2 ⟨pr, rfl, ⟨gk0, vo0, kv0, wv0, kb0, hR2⟩, hb2⟩
  have HP2 : Hid (PD (fun _ => False) w.heap.size p pr (DS.new n) w2) := ⟨gk0, vo0, kv0, wv0, kb0, hR2, DI.ref HD1.out (Fd.of hb2 HB1.out.size) (fun k hk => by
    rcases hk with ⟨i, hi, _⟩ | hk
    · simp [DS.m, DS.new] at hi
    · exact hk.elim)⟩
  have HB2 := hide (HB1.out.trans (hb2.mono HB1.out.size))
  clear hR2 hb2 HD1 HB1 hmask en
  go_wp2_with fail
  go_loopw [8] (fun i wr => ∃ (k : Nat) (s : DS), k ≤ len ∧ k ≤ 60 ∧ i = .int .i64 k ∧ SB s n k ∧ PD (fun _ => False) w.heap.size p pr s wr ∧ Below w.heap.size w wr) (fun i _ => len - (intOf i).toNat)
  case atStart => exact ⟨0, DS.new n, by omega, by omega, rfl, HSB0.out, HP2.out, HB2.out⟩
  case round =>
    clear HP2 HB2 HSB0
    obtain ⟨k, s, hkl, hk60, rfl, hSB, hPD, hBL⟩ := hrel
    have HSB := hide hSB
    have HPD := hide hPD
    have HBL := hide hBL
    clear hSB hPD hBL
    obtain ⟨cb, HCB⟩ : ∃ cb, Hid (cb = decide (k < len ∧ k < 60)) := ⟨_, rfl⟩
    go_upto_region 7 with fail
    go_cut [45] from 38 to 192 (fun c wx => c = .bool cb ∧ wx = wr)
    case first =>
      by_cases c1 : k < len
      · have i1 : (k : Int) < (len : Int) := by omega
        by_cases c2 : k < 60
        · have i2 : (k : Int) < 60 := by omega
          go_wp2
          go_meet
          case rel => exact ⟨by rw [HCB.out]; simp [c1, c2], rfl⟩
        · have i2 : ¬ (k : Int) < 60 := by omega
          go_wp2
          go_meet
          case rel => exact ⟨by rw [HCB.out]; simp [c1, c2], rfl⟩
      · have i1 : ¬ (k : Int) < (len : Int) := by omega
        go_wp2
        go_meet
        case rel => exact ⟨by rw [HCB.out]; simp [c1], rfl⟩
    case rest =>
      obtain ⟨hc1, hc2⟩ := hcut
      have hc2 := hc2.symm
      subst hc2 hc1
      by_cases hgo : k < len ∧ k < 60
      · obtain rfl : cb = true := by rw [HCB.out]; exact decide_eq_true hgo
        have i1 : (k : Int) < (len : Int) := by omega
        obtain ⟨b, o, rfl, hall⟩ := H0.out.place (by omega)
        obtain ⟨hc, hok⟩ := hall k hgo.1
        generalize q k = av at *
        obtain ⟨kind, at_, bit, va, vl, vc, xs, af, kp, tn, cu⟩ := av
        have HOK := hide hok
        have c0 := (HBL.out.cell (cell_lt hc.c0)).trans hc.c0
        have c1 := (HBL.out.cell (cell_lt hc.c1)).trans hc.c1
        have c2 := (HBL.out.cell (cell_lt hc.c2)).trans hc.c2
        have c3 := (HBL.out.cell (cell_lt hc.c3)).trans hc.c3
        have c4 := (HBL.out.cell (cell_lt hc.c4)).trans hc.c4
        have c5 := (HBL.out.cell (cell_lt hc.c5)).trans hc.c5
        have c6 := (HBL.out.cell (cell_lt hc.c6)).trans hc.c6
        have c7 := (HBL.out.cell (cell_lt hc.c7)).trans hc.c7
        simp only at c0 c1 c2 c3 c4 c5 c6 c7
        clear hc hall hok
        have HBQ := hide (below_box wr (.cells #[.int .i64 kind, .int .i64 at_, .int .i64 bit, .slice va vl vc, .int .i64 af, .int .u64 (kp : Int), .int .i64 tn, .int .i64 cu] 34))
        have HNL : Hid ((wr.alloc (.cells #[.int .i64 kind, .int .i64 at_, .int .i64 bit, .slice va vl vc, .int .i64 af, .int .u64 (kp : Int), .int .i64 tn, .int .i64 cu] 34)).heap[wr.heap.size]? = some (.cells #[.int .i64 kind, .int .i64 at_, .int .i64 bit, .slice va vl vc, .int .i64 af, .int .u64 (kp : Int), .int .i64 tn, .int .i64 cu] 34 (0, 0))) := heap_alloc_new wr _
        have HPX := hide (HPD.out.later HBQ.out)
        have HBX := hide (HBL.out.trans (HBQ.out.mono HBL.out.size))
        go_upto_region 10 with fail
        clear c0 c1 c2 c3 c4 c5 c6 c7 HPD HBL
        generalize wr.alloc (.cells #[.int .i64 kind, .int .i64 at_, .int .i64 bit, .slice va vl vc, .int .i64 af, .int .u64 (kp : Int), .int .i64 tn, .int .i64 cu] 34) = wa at *
        generalize hL : wr.heap.size = L at *
        have e0 : wa.cell? ⟨L, 0, none⟩ = some (.int .i64 kind) := cell_blk HNL.out
        have hk1 : k + 1 ≤ len := hgo.1
        have hk2 : k + 1 ≤ 60 := hgo.2
        clear hgo
        go_upto_block 2 with fail
        go_cut [10, 11, 12, 13, 14, 15, 16] from 38 to 192 (fun _ _ _ _ _ _ _ wx => ∃ s5, SB s5 n (k + 1) ∧ PD (fun _ => False) w.heap.size p pr s5 wx ∧ Below w.heap.size w wx)
        case first =>
          by_cases k1 : kind = 1
          · subst k1
            as_aux_lemma =>
              obtain ⟨gk, vo, kv, wv, kb, hR, hD⟩ := HPX.out
              have HR := hide hR
              have HD := hide hD
              clear hR hD
              go_wp2_with fail
              refine (@flush_any ⟨none, fun x => ob wv s.m x ∨ False⟩ w.heap.size p s _ HD.out HBX.out.size (by have := HSB.out.lk; omega)).mono ?_
              rintro e w3 ⟨rfl, hD3, hF3⟩
              have HD3 := hide hD3
              have HR3 := hide (@RV.fr _ _ _ _ _ _ _ _ _ _ ⟨none, fun x => ob wv s.m x ∨ False⟩ ⟨fun _ => False⟩ HR.out hF3)
              have HB3 := hide (HBX.out.trans (@Fr.bel ⟨none, fun x => ob wv s.m x ∨ False⟩ _ _ _ hF3))
              have HNL3 := hide (@Fr.stay ⟨none, fun x => ob wv s.m x ∨ False⟩ _ _ _ hF3 _ _ _ _ HNL.out (by decide) (by decide) (by decide) (by decide))
              clear hD3 hF3
              go_wp2_with fail
              refine (@flushR_any ⟨fun _ => False⟩ (fun x => ob wv s.m x) _ _ _ _ _ _ _ _ _ HR3.out HB3.out.size (by have := HSB.out.lk; omega)).mono ?_
              rintro e w4 ⟨rfl, vo4, kv4, kb4, hR4, hF4⟩
              have HP4 := hide (PD.same hR4 HD3.out hF4 (flush_m s))
              have HB4 := hide (HB3.out.trans hF4.bel)
              have HSB4 := hide (HSB.out.flush)
              clear hR4 hF4
              generalize s.flush = s5 at HP4 HSB4
              have HP5 := HP4
              have HSB5 := HSB4
              have HBL5 := HB4
              clear HP4 HSB4 HB4
              go_wp2_with fail
              go_meet
              case rel => exact ⟨s5, HSB5.out, HP5.out, HBL5.out⟩
          · by_cases k3 : kind = 3
            · subst k3
              as_aux_lemma =>
                have e4 : wa.cell? ⟨L, 4, none⟩ = some (.int .i64 af) := cell_blk HNL.out
                have e5 : wa.cell? ⟨L, 5, none⟩ = some (.int .u64 (kp : Int)) := cell_blk HNL.out
                have e6 : wa.cell? ⟨L, 6, none⟩ = some (.int .i64 tn) := cell_blk HNL.out
                have e7 : wa.cell? ⟨L, 7, none⟩ = some (.int .i64 cu) := cell_blk HNL.out
                obtain ⟨gk, vo, kv, wv, kb, hR, hD⟩ := HPX.out
                have HR := hide hR
                have HD := hide hD
                clear hR hD
                go_wp2_with fail
                refine (@arm_any ⟨none, fun x => ob wv s.m x ∨ False⟩ w.heap.size p s af kp tn cu _ HD.out HBX.out.size HOK.out.keep HOK.out.after).mono ?_
                rintro e w3 ⟨rfl, hD3, hF3⟩
                have HD3 := hide hD3
                have HR3 := hide (@RV.fr _ _ _ _ _ _ _ _ _ _ ⟨none, fun x => ob wv s.m x ∨ False⟩ ⟨fun _ => False⟩ HR.out hF3)
                have HB3 := hide (HBX.out.trans (@Fr.bel ⟨none, fun x => ob wv s.m x ∨ False⟩ _ _ _ hF3))
                have HNL3 := hide (@Fr.stay ⟨none, fun x => ob wv s.m x ∨ False⟩ _ _ _ hF3 _ _ _ _ HNL.out (by decide) (by decide) (by decide) (by decide))
                clear hD3 hF3
                clear e4 e5 e6 e7
                have z4 : w3.cell? ⟨L, 4, none⟩ = some (.int .i64 af) := cell_blk HNL3.out
                have z5 : w3.cell? ⟨L, 5, none⟩ = some (.int .u64 (kp : Int)) := cell_blk HNL3.out
                have z6 : w3.cell? ⟨L, 6, none⟩ = some (.int .i64 tn) := cell_blk HNL3.out
                have z7 : w3.cell? ⟨L, 7, none⟩ = some (.int .i64 cu) := cell_blk HNL3.out
                go_wp2_with fail
                refine (@armR_any ⟨fun _ => False⟩ (fun x => ob wv s.m x) _ _ _ _ _ _ _ _ _ af kp tn cu HR3.out HB3.out.size HOK.out.keep HOK.out.after).mono ?_
                rintro e w4 ⟨rfl, vo4, kv4, kb4, hR4, hF4⟩
                have HP4 := hide (PD.same hR4 HD3.out hF4 (arm_m s af kp tn cu))
                have HB4 := hide (HB3.out.trans hF4.bel)
                have HSB4 := hide (HSB.out.arm af kp tn cu)
                clear hR4 hF4
                generalize s.arm af kp tn cu = s5 at HP4 HSB4
                have HP5 := HP4
                have HSB5 := HSB4
                have HBL5 := HB4
                clear HP4 HSB4 HB4
                go_wp2_with fail
                go_meet
                case rel => exact ⟨s5, HSB5.out, HP5.out, HBL5.out⟩
            · by_cases k4 : kind = 4
              · subst k4
                as_aux_lemma =>
                  have e4 : wa.cell? ⟨L, 4, none⟩ = some (.int .i64 af) := cell_blk HNL.out
                  have e5 : wa.cell? ⟨L, 5, none⟩ = some (.int .u64 (kp : Int)) := cell_blk HNL.out
                  have e6 : wa.cell? ⟨L, 6, none⟩ = some (.int .i64 tn) := cell_blk HNL.out
                  have e7 : wa.cell? ⟨L, 7, none⟩ = some (.int .i64 cu) := cell_blk HNL.out
                  obtain ⟨gk, vo, kv, wv, kb, hR, hD⟩ := HPX.out
                  have HR := hide hR
                  have HD := hide hD
                  clear hR hD
                  go_wp2_with fail
                  refine (@cut_any ⟨none, fun x => ob wv s.m x ∨ False⟩ w.heap.size p s af kp tn cu _ HD.out HBX.out.size HOK.out.keep (by have := HSB.out.lk; omega)).mono ?_
                  rintro e w3 ⟨rfl, hD3, hF3⟩
                  have HD3 := hide hD3
                  have HR3 := hide (@RV.fr _ _ _ _ _ _ _ _ _ _ ⟨none, fun x => ob wv s.m x ∨ False⟩ ⟨fun _ => False⟩ HR.out hF3)
                  have HB3 := hide (HBX.out.trans (@Fr.bel ⟨none, fun x => ob wv s.m x ∨ False⟩ _ _ _ hF3))
                  have HNL3 := hide (@Fr.stay ⟨none, fun x => ob wv s.m x ∨ False⟩ _ _ _ hF3 _ _ _ _ HNL.out (by decide) (by decide) (by decide) (by decide))
                  clear hD3 hF3
                  clear e4 e5 e6 e7
                  have z4 : w3.cell? ⟨L, 4, none⟩ = some (.int .i64 af) := cell_blk HNL3.out
                  have z5 : w3.cell? ⟨L, 5, none⟩ = some (.int .u64 (kp : Int)) := cell_blk HNL3.out
                  have z6 : w3.cell? ⟨L, 6, none⟩ = some (.int .i64 tn) := cell_blk HNL3.out
                  have z7 : w3.cell? ⟨L, 7, none⟩ = some (.int .i64 cu) := cell_blk HNL3.out
                  go_wp2_with fail
                  refine (@cutR_any ⟨fun _ => False⟩ (fun x => ob wv s.m x) _ _ _ _ _ _ _ _ _ af kp tn cu HR3.out HB3.out.size HOK.out.keep (by have := HSB.out.lk; omega)).mono ?_
                  rintro e w4 ⟨rfl, vo4, kv4, kb4, hR4, hF4⟩
                  have HP4 := hide (PD.same hR4 HD3.out hF4 (cutS_m s kp tn cu))
                  have HB4 := hide (HB3.out.trans hF4.bel)
                  have HSB4 := hide (HSB.out.cutS kp tn cu)
                  clear hR4 hF4
                  generalize s.cutS kp tn cu = s5 at HP4 HSB4
                  have HP5 := HP4
                  have HSB5 := HSB4
                  have HBL5 := HB4
                  clear HP4 HSB4 HB4
                  go_wp2_with fail
                  go_meet
                  case rel => exact ⟨s5, HSB5.out, HP5.out, HBL5.out⟩
              · by_cases k5 : kind = 5
                · subst k5
                  as_aux_lemma =>
                    obtain ⟨gk, vo, kv, wv, kb, hR, hD⟩ := HPX.out
                    have HR := hide hR
                    have HD := hide hD
                    clear hR hD
                    go_wp2_with fail
                    refine (@restart_any ⟨none, fun x => ob wv s.m x ∨ False⟩ w.heap.size p s _ HD.out HBX.out.size).mono ?_
                    rintro e w3 ⟨rfl, hD3, hF3⟩
                    have HR3 := hide (@RV.fr _ _ _ _ _ _ _ _ _ _ ⟨none, fun x => ob wv s.m x ∨ False⟩ ⟨fun _ => False⟩ HR.out hF3)
                    have HB3 := hide (HBX.out.trans (@Fr.bel ⟨none, fun x => ob wv s.m x ∨ False⟩ _ _ _ hF3))
                    have HUP := hide (@RV.up ⟨fun _ => False⟩ (fun x => ob wv s.m x) _ _ _ _ _ _ _ _ _ HR3.out)
                    have u2 : w3.cell? ⟨pr, 2, none⟩ = some (.bool s.down) := (@RV.d ⟨fun _ => False⟩ _ _ _ _ _ _ _ _ _ HR3.out).2.2.1
                    have f2 : w3.frozen? ⟨pr, 2, none⟩ = false := @RV.fz ⟨fun _ => False⟩ _ _ _ _ _ _ _ _ _ HR3.out 2
                    have HP4 := hide (PD.same HUP.out.1 hD3 HUP.out.2 (restart_m s))
                    have HB4 := hide (HB3.out.trans HUP.out.2.bel)
                    have HSB4 := hide HSB.out.restart
                    clear hD3 hF3
                    generalize s.restart = s5 at HP4 HSB4
                    have HP5 := HP4
                    have HSB5 := HSB4
                    have HBL5 := HB4
                    clear HP4 HSB4 HB4
                    go_wp2_with fail
                    go_meet
                    case rel => exact ⟨s5, HSB5.out, HP5.out, HBL5.out⟩
                · by_cases k6 : kind = 6
                  · subst k6
                    by_cases hgd : 0 ≤ at_ ∧ at_ < s.n ∧ 0 ≤ bit ∧ bit < 65536
                    · obtain ⟨A, rfl⟩ : ∃ A : Nat, at_ = (A : Int) := ⟨at_.toNat, by omega⟩
                      obtain ⟨B1, rfl⟩ : ∃ B1 : Nat, bit = (B1 : Int) := ⟨bit.toNat, by omega⟩
                      have hA : A < s.n := by omega
                      have hB1 : B1 < 65536 := by omega
                      have HAx := hide hA
                      have HB1x := hide hB1
                      clear hgd hA hB1
                      as_aux_lemma =>
                        have HX1 : Hid ((fun wx => wx.cell? ⟨L, 1, none⟩ = some (.int .i64 (A : Int)) ∧ wx.cell? ⟨L, 2, none⟩ = some (.int .i64 (B1 : Int))) wa.drew) := ⟨cell_blk HNL.out, cell_blk HNL.out⟩
                        obtain ⟨gk, vo, kv, wv, kb, hR, hD⟩ := (HPX.out.later (Below.refl wa.heap.size wa).drew)
                        have HR := hide hR
                        have HD := hide hD
                        have HBD := hide (HBX.out.trans ((Below.refl wa.heap.size wa).drew.mono HBX.out.size))
                        clear hR hD
                        go_wp2_with fail
                        refine wp_region_noPanic ?_
                        refine wp_region_held_drew (S := fun wx => wx.cell? ⟨L, 1, none⟩ = some (.int .i64 (A : Int)) ∧ wx.cell? ⟨L, 2, none⟩ = some (.int .i64 (B1 : Int))) (by kernel_rfl) HX1.out (fun hHeld => ?_)
                        refine wpAnyH_takeAt (i := 0) (d := 148) (v := ?vfy0) (by kernel_rfl) (by kernel_rfl) (by kernel_rfl) (by kernel_rfl) (fun _ _ _ h => h) ?hyfy0 (by assumption) ?restfy0
                        case hyfy0 =>
                          intro oi ho
                          simp only [List.getElem?_toArray, List.getElem?_cons_zero, Option.some.injEq] at ho
                          subst ho
                          refine Or.inl ⟨by rfl, ?_⟩
                          intro wx hSw
                          try dsimp only at hSw
                          go_simp
                          try rfl
                        try simp only [Act.put, List.setIfInBounds_toArray, List.set_cons_zero, List.set_cons_succ]
                        refine wpAnyH_takeAt (i := 1) (d := 149) (v := ?vfy1) (by kernel_rfl) (by kernel_rfl) (by kernel_rfl) (by kernel_rfl) (fun _ _ _ h => h) ?hyfy1 (by assumption) ?restfy1
                        case hyfy1 =>
                          intro oi ho
                          simp only [List.getElem?_toArray, List.getElem?_cons_succ, List.getElem?_cons_zero, Option.some.injEq] at ho
                          subst ho
                          refine Or.inl ⟨by rfl, ?_⟩
                          intro wx hSw
                          try dsimp only at hSw
                          go_simp
                          try rfl
                        try simp only [Act.put, List.setIfInBounds_toArray, List.set_cons_zero, List.set_cons_succ]
                        refine wpAnyH_takeAt (i := 2) (d := 150) (v := ?vfy2) (by kernel_rfl) (by kernel_rfl) (by kernel_rfl) (by kernel_rfl) (fun _ _ _ h => h) ?hyfy2 (by assumption) ?restfy2
                        case hyfy2 =>
                          intro oi ho
                          simp only [List.getElem?_toArray, List.getElem?_cons_succ, List.getElem?_cons_zero, Option.some.injEq] at ho
                          subst ho
                          refine Or.inl ⟨by rfl, ?_⟩
                          intro wx hSw
                          try dsimp only at hSw
                          go_simp
                          try rfl
                        try simp only [Act.put, List.setIfInBounds_toArray, List.set_cons_zero, List.set_cons_succ]
                        refine wpAnyH_takeAt (i := 3) (d := 151) (v := ?vfy3) (by kernel_rfl) (by kernel_rfl) (by kernel_rfl) (by kernel_rfl) (fun _ _ _ h => h) ?hyfy3 (by assumption) ?restfy3
                        case hyfy3 =>
                          intro oi ho
                          simp only [List.getElem?_toArray, List.getElem?_cons_succ, List.getElem?_cons_zero, Option.some.injEq] at ho
                          subst ho
                          refine Or.inl ⟨by rfl, ?_⟩
                          intro wx hSw
                          try dsimp only at hSw
                          go_simp
                          try rfl
                        try simp only [Act.put, List.setIfInBounds_toArray, List.set_cons_zero, List.set_cons_succ]
                        refine wpAnyH_takeAt (i := 4) (d := 152) (v := ?vfy4) (by kernel_rfl) (by kernel_rfl) (by kernel_rfl) (by kernel_rfl) (fun _ _ _ h => h) ?hyfy4 (by assumption) ?restfy4
                        case hyfy4 =>
                          intro oi ho
                          simp only [List.getElem?_toArray, List.getElem?_cons_succ, List.getElem?_cons_zero, Option.some.injEq] at ho
                          subst ho
                          refine Or.inl ⟨by rfl, ?_⟩
                          intro wx hSw
                          try dsimp only at hSw
                          go_simp
                          try rfl
                        try simp only [Act.put, List.setIfInBounds_toArray, List.set_cons_zero, List.set_cons_succ]
                        refine wpAnyH_takeAt (i := 6) (d := 154) (v := ?vfy6) (by kernel_rfl) (by kernel_rfl) (by kernel_rfl) (by kernel_rfl) (fun _ _ _ h => h) ?hyfy6 (by assumption) ?restfy6
                        case hyfy6 =>
                          intro oi ho
                          simp only [List.getElem?_toArray, List.getElem?_cons_succ, List.getElem?_cons_zero, Option.some.injEq] at ho
                          subst ho
                          refine Or.inl ⟨by rfl, ?_⟩
                          intro wx hSw
                          try dsimp only at hSw
                          go_simp
                          try rfl
                        try simp only [Act.put, List.setIfInBounds_toArray, List.set_cons_zero, List.set_cons_succ]
                        refine wpAnyH_takeAt (i := 7) (d := 155) (v := ?vfy7) (by kernel_rfl) (by kernel_rfl) (by kernel_rfl) (by kernel_rfl) (fun _ _ _ h => h) ?hyfy7 (by assumption) ?restfy7
                        case hyfy7 =>
                          intro oi ho
                          simp only [List.getElem?_toArray, List.getElem?_cons_succ, List.getElem?_cons_zero, Option.some.injEq] at ho
                          subst ho
                          refine Or.inl ⟨by rfl, ?_⟩
                          intro wx hSw
                          try dsimp only at hSw
                          go_simp
                          try rfl
                        try simp only [Act.put, List.setIfInBounds_toArray, List.set_cons_zero, List.set_cons_succ]
                        refine wpAnyH_takeAt (i := 8) (d := 156) (v := ?vfy8) (by kernel_rfl) (by kernel_rfl) (by kernel_rfl) (by kernel_rfl) (fun _ _ _ h => h) ?hyfy8 (by assumption) ?restfy8
                        case hyfy8 =>
                          intro oi ho
                          simp only [List.getElem?_toArray, List.getElem?_cons_succ, List.getElem?_cons_zero, Option.some.injEq] at ho
                          subst ho
                          refine Or.inl ⟨by rfl, ?_⟩
                          intro wx hSw
                          try dsimp only at hSw
                          go_simp
                          try rfl
                        try simp only [Act.put, List.setIfInBounds_toArray, List.set_cons_zero, List.set_cons_succ]
                        refine wpAnyH_takeAt (i := 9) (d := 157) (v := ?vfy9) (by kernel_rfl) (by kernel_rfl) (by kernel_rfl) (by kernel_rfl) (fun _ _ _ h => h) ?hyfy9 (by assumption) ?restfy9
                        case hyfy9 =>
                          intro oi ho
                          simp only [List.getElem?_toArray, List.getElem?_cons_succ, List.getElem?_cons_zero, Option.some.injEq] at ho
                          subst ho
                          refine Or.inl ⟨by rfl, ?_⟩
                          intro wx hSw
                          try dsimp only at hSw
                          go_simp
                          try rfl
                        try simp only [Act.put, List.setIfInBounds_toArray, List.set_cons_zero, List.set_cons_succ]
                        refine wpAnyH_takeAt (i := 10) (d := 158) (v := ?vfy10) (by kernel_rfl) (by kernel_rfl) (by kernel_rfl) (by kernel_rfl) (fun _ _ _ h => h) ?hyfy10 (by assumption) ?restfy10
                        case hyfy10 =>
                          intro oi ho
                          simp only [List.getElem?_toArray, List.getElem?_cons_succ, List.getElem?_cons_zero, Option.some.injEq] at ho
                          subst ho
                          refine Or.inl ⟨by rfl, ?_⟩
                          intro wx hSw
                          try dsimp only at hSw
                          go_simp
                          try rfl
                        try simp only [Act.put, List.setIfInBounds_toArray, List.set_cons_zero, List.set_cons_succ]
                        refine wpAnyH_comesAt (i := 5) (by kernel_rfl) (by kernel_rfl) ?_
                        intro o ho K hK
                        simp only [List.getElem?_toArray, List.getElem?_cons_succ, List.getElem?_cons_zero, Option.some.injEq] at ho
                        subst ho
                        go_simp
                        refine (@flip_ok ⟨none, fun x => ob wv s.m x ∨ False⟩ w.heap.size p s A B1 _ HD.out HBD.out.size HAx.out HB1x.out).mono ?_
                        rintro e w3 ⟨rfl, hD3, hF3⟩
                        have HD3 := hide hD3
                        have HR3 := hide (@RV.fr _ _ _ _ _ _ _ _ _ _ ⟨none, fun x => ob wv s.m x ∨ False⟩ ⟨fun _ => False⟩ HR.out hF3)
                        have HB3 := hide (HBD.out.trans (@Fr.bel ⟨none, fun x => ob wv s.m x ∨ False⟩ _ _ _ hF3))
                        have HNL3 := hide (@Fr.stay ⟨none, fun x => ob wv s.m x ∨ False⟩ _ _ _ hF3 _ _ _ _ HNL.out (by decide) (by decide) (by decide) (by decide))
                        have HX3 : Hid ((fun wx => wx.cell? ⟨L, 1, none⟩ = some (.int .i64 (A : Int)) ∧ wx.cell? ⟨L, 2, none⟩ = some (.int .i64 (B1 : Int))) w3) := ⟨cell_blk HNL3.out, cell_blk HNL3.out⟩
                        clear hD3 hF3 hHeld
                        refine hK.out _ _ HX3.out (fun hHeld => ?_)
                        clear hK K
                        try simp only [Act.put, List.setIfInBounds_toArray, List.set_cons_zero, List.set_cons_succ]
                        refine wpAnyH_comesAt (i := 11) (by kernel_rfl) (by kernel_rfl) ?_
                        intro o ho K hK
                        simp only [List.getElem?_toArray, List.getElem?_cons_succ, List.getElem?_cons_zero, Option.some.injEq] at ho
                        subst ho
                        go_simp
                        refine (@flipR_ok ⟨fun _ => False⟩ _ _ _ _ _ _ _ _ _ A B1 HR3.out HB3.out.size HAx.out HB1x.out).mono ?_
                        rintro e w4 ⟨rfl, vo4, kv4, kb4, hR4, hF4⟩
                        have HP4 := hide (PD.same hR4 HD3.out hF4 (Nat.le_of_eq (flip_rest s A B1).2.1))
                        have HB4 := hide (HB3.out.trans hF4.bel)
                        have HSB4 := hide (HSB.out.flip A B1)
                        have HNL4 : Hid (w4.heap[L]? = some _) := hF4.stay _ _ _ _ HNL3.out (by decide) (by decide) (by decide) (by
                          rintro ⟨i9, hi9, e9⟩
                          obtain ⟨_, cu9, h9⟩ := own_block (@RV.hb ⟨fun _ => False⟩ _ _ _ _ _ _ _ _ _ HR3.out i9 hi9) e9
                          rw [HNL3.out] at h9
                          simp only [Option.some.injEq, Obj.cells.injEq] at h9
                          exact absurd h9.2.1 (by decide))
                        have HX4 : Hid ((fun wx => wx.cell? ⟨L, 1, none⟩ = some (.int .i64 (A : Int)) ∧ wx.cell? ⟨L, 2, none⟩ = some (.int .i64 (B1 : Int))) w4) := ⟨cell_blk HNL4.out, cell_blk HNL4.out⟩
                        clear hR4 hF4 hHeld
                        refine hK.out _ _ HX4.out (fun hHeld => ?_)
                        clear hK K
                        try simp only [Act.put, List.setIfInBounds_toArray, List.set_cons_zero, List.set_cons_succ]
                        refine wpAnyH_takeAt (i := 12) (d := 160) (v := ?vfy12) (by kernel_rfl) (by kernel_rfl) (by kernel_rfl) (by kernel_rfl) (fun _ _ _ h => h) ?hyfy12 (by assumption) ?restfy12
                        case hyfy12 =>
                          intro oi ho
                          simp only [List.getElem?_toArray, List.getElem?_cons_succ, List.getElem?_cons_zero, Option.some.injEq] at ho
                          subst ho
                          refine Or.inl ⟨by rfl, ?_⟩
                          intro wx hSw
                          try dsimp only at hSw
                          go_simp
                          try rfl
                        try simp only [Act.put, List.setIfInBounds_toArray, List.set_cons_zero, List.set_cons_succ]
                        refine wpAnyH_done (by kernel_rfl) ?_ _
                        refine NoPanic.normal ?_
                        generalize s.flip A B1 = s5 at HP4 HSB4
                        have HP5 := HP4
                        have HSB5 := HSB4
                        have HBL5 := HB4
                        clear HP4 HSB4 HB4 hHeld
                        go_wp2_with fail
                        go_meet
                        case rel => exact ⟨s5, HSB5.out, HP5.out, HBL5.out⟩
                    · have HBAD := hide hgd
                      clear hgd
                      as_aux_lemma =>
                        have HX1 : Hid ((fun wx => wx.cell? ⟨L, 1, none⟩ = some (.int .i64 at_) ∧ wx.cell? ⟨L, 2, none⟩ = some (.int .i64 bit)) wa.drew) := ⟨cell_blk HNL.out, cell_blk HNL.out⟩
                        obtain ⟨gk, vo, kv, wv, kb, hR, hD⟩ := (HPX.out.later (Below.refl wa.heap.size wa).drew)
                        have HR := hide hR
                        have HD := hide hD
                        have HBD := hide (HBX.out.trans ((Below.refl wa.heap.size wa).drew.mono HBX.out.size))
                        clear hR hD
                        go_wp2_with fail
                        refine wp_region_noPanic ?_
                        refine wp_region_held_drew (S := fun wx => wx.cell? ⟨L, 1, none⟩ = some (.int .i64 at_) ∧ wx.cell? ⟨L, 2, none⟩ = some (.int .i64 bit)) (by kernel_rfl) HX1.out (fun hHeld => ?_)
                        refine wpAnyH_takeAt (i := 0) (d := 148) (v := ?vfn0) (by kernel_rfl) (by kernel_rfl) (by kernel_rfl) (by kernel_rfl) (fun _ _ _ h => h) ?hyfn0 (by assumption) ?restfn0
                        case hyfn0 =>
                          intro oi ho
                          simp only [List.getElem?_toArray, List.getElem?_cons_zero, Option.some.injEq] at ho
                          subst ho
                          refine Or.inl ⟨by rfl, ?_⟩
                          intro wx hSw
                          try dsimp only at hSw
                          go_simp
                          try rfl
                        try simp only [Act.put, List.setIfInBounds_toArray, List.set_cons_zero, List.set_cons_succ]
                        refine wpAnyH_takeAt (i := 1) (d := 149) (v := ?vfn1) (by kernel_rfl) (by kernel_rfl) (by kernel_rfl) (by kernel_rfl) (fun _ _ _ h => h) ?hyfn1 (by assumption) ?restfn1
                        case hyfn1 =>
                          intro oi ho
                          simp only [List.getElem?_toArray, List.getElem?_cons_succ, List.getElem?_cons_zero, Option.some.injEq] at ho
                          subst ho
                          refine Or.inl ⟨by rfl, ?_⟩
                          intro wx hSw
                          try dsimp only at hSw
                          go_simp
                          try rfl
                        try simp only [Act.put, List.setIfInBounds_toArray, List.set_cons_zero, List.set_cons_succ]
                        refine wpAnyH_takeAt (i := 2) (d := 150) (v := ?vfn2) (by kernel_rfl) (by kernel_rfl) (by kernel_rfl) (by kernel_rfl) (fun _ _ _ h => h) ?hyfn2 (by assumption) ?restfn2
                        case hyfn2 =>
                          intro oi ho
                          simp only [List.getElem?_toArray, List.getElem?_cons_succ, List.getElem?_cons_zero, Option.some.injEq] at ho
                          subst ho
                          refine Or.inl ⟨by rfl, ?_⟩
                          intro wx hSw
                          try dsimp only at hSw
                          go_simp
                          try rfl
                        try simp only [Act.put, List.setIfInBounds_toArray, List.set_cons_zero, List.set_cons_succ]
                        refine wpAnyH_takeAt (i := 3) (d := 151) (v := ?vfn3) (by kernel_rfl) (by kernel_rfl) (by kernel_rfl) (by kernel_rfl) (fun _ _ _ h => h) ?hyfn3 (by assumption) ?restfn3
                        case hyfn3 =>
                          intro oi ho
                          simp only [List.getElem?_toArray, List.getElem?_cons_succ, List.getElem?_cons_zero, Option.some.injEq] at ho
                          subst ho
                          refine Or.inl ⟨by rfl, ?_⟩
                          intro wx hSw
                          try dsimp only at hSw
                          go_simp
                          try rfl
                        try simp only [Act.put, List.setIfInBounds_toArray, List.set_cons_zero, List.set_cons_succ]
                        refine wpAnyH_takeAt (i := 4) (d := 152) (v := ?vfn4) (by kernel_rfl) (by kernel_rfl) (by kernel_rfl) (by kernel_rfl) (fun _ _ _ h => h) ?hyfn4 (by assumption) ?restfn4
                        case hyfn4 =>
                          intro oi ho
                          simp only [List.getElem?_toArray, List.getElem?_cons_succ, List.getElem?_cons_zero, Option.some.injEq] at ho
                          subst ho
                          refine Or.inl ⟨by rfl, ?_⟩
                          intro wx hSw
                          try dsimp only at hSw
                          go_simp
                          try rfl
                        try simp only [Act.put, List.setIfInBounds_toArray, List.set_cons_zero, List.set_cons_succ]
                        refine wpAnyH_takeAt (i := 6) (d := 154) (v := ?vfn6) (by kernel_rfl) (by kernel_rfl) (by kernel_rfl) (by kernel_rfl) (fun _ _ _ h => h) ?hyfn6 (by assumption) ?restfn6
                        case hyfn6 =>
                          intro oi ho
                          simp only [List.getElem?_toArray, List.getElem?_cons_succ, List.getElem?_cons_zero, Option.some.injEq] at ho
                          subst ho
                          refine Or.inl ⟨by rfl, ?_⟩
                          intro wx hSw
                          try dsimp only at hSw
                          go_simp
                          try rfl
                        try simp only [Act.put, List.setIfInBounds_toArray, List.set_cons_zero, List.set_cons_succ]
                        refine wpAnyH_takeAt (i := 7) (d := 155) (v := ?vfn7) (by kernel_rfl) (by kernel_rfl) (by kernel_rfl) (by kernel_rfl) (fun _ _ _ h => h) ?hyfn7 (by assumption) ?restfn7
                        case hyfn7 =>
                          intro oi ho
                          simp only [List.getElem?_toArray, List.getElem?_cons_succ, List.getElem?_cons_zero, Option.some.injEq] at ho
                          subst ho
                          refine Or.inl ⟨by rfl, ?_⟩
                          intro wx hSw
                          try dsimp only at hSw
                          go_simp
                          try rfl
                        try simp only [Act.put, List.setIfInBounds_toArray, List.set_cons_zero, List.set_cons_succ]
                        refine wpAnyH_takeAt (i := 8) (d := 156) (v := ?vfn8) (by kernel_rfl) (by kernel_rfl) (by kernel_rfl) (by kernel_rfl) (fun _ _ _ h => h) ?hyfn8 (by assumption) ?restfn8
                        case hyfn8 =>
                          intro oi ho
                          simp only [List.getElem?_toArray, List.getElem?_cons_succ, List.getElem?_cons_zero, Option.some.injEq] at ho
                          subst ho
                          refine Or.inl ⟨by rfl, ?_⟩
                          intro wx hSw
                          try dsimp only at hSw
                          go_simp
                          try rfl
                        try simp only [Act.put, List.setIfInBounds_toArray, List.set_cons_zero, List.set_cons_succ]
                        refine wpAnyH_takeAt (i := 9) (d := 157) (v := ?vfn9) (by kernel_rfl) (by kernel_rfl) (by kernel_rfl) (by kernel_rfl) (fun _ _ _ h => h) ?hyfn9 (by assumption) ?restfn9
                        case hyfn9 =>
                          intro oi ho
                          simp only [List.getElem?_toArray, List.getElem?_cons_succ, List.getElem?_cons_zero, Option.some.injEq] at ho
                          subst ho
                          refine Or.inl ⟨by rfl, ?_⟩
                          intro wx hSw
                          try dsimp only at hSw
                          go_simp
                          try rfl
                        try simp only [Act.put, List.setIfInBounds_toArray, List.set_cons_zero, List.set_cons_succ]
                        refine wpAnyH_takeAt (i := 10) (d := 158) (v := ?vfn10) (by kernel_rfl) (by kernel_rfl) (by kernel_rfl) (by kernel_rfl) (fun _ _ _ h => h) ?hyfn10 (by assumption) ?restfn10
                        case hyfn10 =>
                          intro oi ho
                          simp only [List.getElem?_toArray, List.getElem?_cons_succ, List.getElem?_cons_zero, Option.some.injEq] at ho
                          subst ho
                          refine Or.inl ⟨by rfl, ?_⟩
                          intro wx hSw
                          try dsimp only at hSw
                          go_simp
                          try rfl
                        try simp only [Act.put, List.setIfInBounds_toArray, List.set_cons_zero, List.set_cons_succ]
                        refine wpAnyH_comesAt (i := 5) (by kernel_rfl) (by kernel_rfl) ?_
                        intro o ho K hK
                        simp only [List.getElem?_toArray, List.getElem?_cons_succ, List.getElem?_cons_zero, Option.some.injEq] at ho
                        subst ho
                        go_simp
                        refine (@flip_arg ⟨none, fun x => ob wv s.m x ∨ False⟩ w.heap.size p s at_ bit _ HD.out HBAD.out).mono ?_
                        rintro e w3 ⟨rfl, hq⟩
                        have hq := hq.symm
                        subst hq
                        refine hK.out _ _ hHeld (fun hHeld => ?_)
                        clear hK K
                        try simp only [Act.put, List.setIfInBounds_toArray, List.set_cons_zero, List.set_cons_succ]
                        refine wpAnyH_comesAt (i := 11) (by kernel_rfl) (by kernel_rfl) ?_
                        intro o ho K hK
                        simp only [List.getElem?_toArray, List.getElem?_cons_succ, List.getElem?_cons_zero, Option.some.injEq] at ho
                        subst ho
                        go_simp
                        refine (@flipR_arg ⟨fun _ => False⟩ _ _ _ _ _ _ _ _ _ at_ bit HR.out HBAD.out).mono ?_
                        rintro e w4 ⟨rfl, hq⟩
                        have hq := hq.symm
                        subst hq
                        refine hK.out _ _ hHeld (fun hHeld => ?_)
                        clear hK K
                        try simp only [Act.put, List.setIfInBounds_toArray, List.set_cons_zero, List.set_cons_succ]
                        refine wpAnyH_takeAt (i := 12) (d := 160) (v := ?vfn12) (by kernel_rfl) (by kernel_rfl) (by kernel_rfl) (by kernel_rfl) (fun _ _ _ h => h) ?hyfn12 (by assumption) ?restfn12
                        case hyfn12 =>
                          intro oi ho
                          simp only [List.getElem?_toArray, List.getElem?_cons_succ, List.getElem?_cons_zero, Option.some.injEq] at ho
                          subst ho
                          refine Or.inl ⟨by rfl, ?_⟩
                          intro wx hSw
                          try dsimp only at hSw
                          go_simp
                          try rfl
                        try simp only [Act.put, List.setIfInBounds_toArray, List.set_cons_zero, List.set_cons_succ]
                        refine wpAnyH_done (by kernel_rfl) ?_ _
                        refine NoPanic.normal ?_
                        have HP5 := hide (HPX.out.later (Below.refl wa.heap.size wa).drew)
                        have HSB5 := hide HSB.out.up
                        have HBL5 := HBD
                        generalize hs5 : s = s5 at HP5 HSB5
                        clear hHeld hs5 HR HD HX1
                        generalize wa.drew = w4 at *
                        go_wp2_with fail
                        go_meet
                        case rel => exact ⟨s5, HSB5.out, HP5.out, HBL5.out⟩
                  · by_cases k0 : kind = 0
                    · subst k0
                      as_aux_lemma =>
                        have e4 : wa.cell? ⟨L, 4, none⟩ = some (.int .i64 af) := cell_blk HNL.out
                        have e5 : wa.cell? ⟨L, 5, none⟩ = some (.int .u64 (kp : Int)) := cell_blk HNL.out
                        have e6 : wa.cell? ⟨L, 6, none⟩ = some (.int .i64 tn) := cell_blk HNL.out
                        have e7 : wa.cell? ⟨L, 7, none⟩ = some (.int .i64 cu) := cell_blk HNL.out
                        have e1 : wa.cell? ⟨L, 1, none⟩ = some (.int .i64 at_) := cell_blk HNL.out
                        have e2 : wa.cell? ⟨L, 2, none⟩ = some (.int .i64 bit) := cell_blk HNL.out
                        have e3 : wa.cell? ⟨L, 3, none⟩ = some (.slice va vl vc) := cell_blk HNL.out
                        have HBS0 := hide (HOK.out.bs.later HBX.out (Nat.le_refl _))
                        obtain ⟨ys, HYS⟩ : ∃ ys, Hid (lawB at_ bit xs = ys) := ⟨_, rfl⟩
                        have hlf : s.life < 100000 := by have := HSB.out.lk; omega
                        have hmm : s.m < 100000 := by have := HSB.out.mm; omega
                        have HLF := hide hlf
                        have HMM := hide hmm
                        clear hlf hmm
                        go_wp2_with fail
                        refine (bytes_any 0 at_ bit va vl vc xs af kp tn cu wa HBS0.out HOK.out.lc HOK.out.cm).mono ?_
                        rintro e w3 ⟨v3, rfl, hv3, hb3⟩
                        rw [HYS.out] at hv3
                        have HL3 := hide (Array.getElem?_eq_some_iff.1 HNL.out).1
                        have HNL3 : Hid (w3.heap[L]? = some _) := hide ((hb3.block L HL3.out).trans HNL.out)
                        have HB3 := hide (HBX.out.trans (hb3.mono HBX.out.size))
                        have HPc := hide (HPX.out.reC (c2 := fun k => v3.ownBlock = some k) HBX.out.size hb3 (fun k hk => ⟨Or.inr (by have := (own_block hv3.1 hk).1; omega), (own_block hv3.1 hk).2⟩))
                        have HV3 := hide (show OwnB w.heap.size v3 ys w3 from ⟨own_base hv3.1 (by have := HBX.out.size; omega), hv3.2⟩)
                        clear hv3 hb3 e0 e1 e2 e3 e4 e5 e6 e7
                        obtain ⟨a3, c3, rfl, hbs3⟩ := HV3.out.slice
                        clear hbs3
                        have HX3 : Hid ((fun wx => wx.cell? ⟨L, 0, none⟩ = some (.int .i64 0) ∧ wx.cell? ⟨L, 1, none⟩ = some (.int .i64 at_) ∧ wx.cell? ⟨L, 2, none⟩ = some (.int .i64 bit) ∧ wx.cell? ⟨L, 3, none⟩ = some (.slice va vl vc) ∧ wx.cell? ⟨L, 4, none⟩ = some (.int .i64 af) ∧ wx.cell? ⟨L, 5, none⟩ = some (.int .u64 (kp : Int)) ∧ wx.cell? ⟨L, 6, none⟩ = some (.int .i64 tn) ∧ wx.cell? ⟨L, 7, none⟩ = some (.int .i64 cu)) w3.drew) := ⟨cell_blk HNL3.out, cell_blk HNL3.out, cell_blk HNL3.out, cell_blk HNL3.out, cell_blk HNL3.out, cell_blk HNL3.out, cell_blk HNL3.out, cell_blk HNL3.out⟩
                        have HPd := hide (HPc.out.later (Below.refl w3.heap.size w3).drew)
                        have HBd := hide (HB3.out.trans ((Below.refl w3.heap.size w3).drew.mono HB3.out.size))
                        have HVd : Hid (OwnB w.heap.size (.slice a3 ys.length c3) ys w3.drew) := ⟨own_later HV3.out.1 (Below.refl w3.heap.size w3).drew, HV3.out.2⟩
                        have hN8 : ys.length ≤ 8193 := HV3.out.2.2
                        generalize hNY : ys.length = N at *
                        have HNY := hide hNY
                        clear hNY
                        go_wp2_with fail
                        refine wp_region_noPanic ?_
                        refine wp_region_held_drew (S := fun wx => wx.cell? ⟨L, 0, none⟩ = some (.int .i64 0) ∧ wx.cell? ⟨L, 1, none⟩ = some (.int .i64 at_) ∧ wx.cell? ⟨L, 2, none⟩ = some (.int .i64 bit) ∧ wx.cell? ⟨L, 3, none⟩ = some (.slice va vl vc) ∧ wx.cell? ⟨L, 4, none⟩ = some (.int .i64 af) ∧ wx.cell? ⟨L, 5, none⟩ = some (.int .u64 (kp : Int)) ∧ wx.cell? ⟨L, 6, none⟩ = some (.int .i64 tn) ∧ wx.cell? ⟨L, 7, none⟩ = some (.int .i64 cu)) (by kernel_rfl) HX3.out (fun hHeld => ?_)
                        refine wpAnyH_takeAt (i := 0) (d := 91) (v := ?vwr0) (by kernel_rfl) (by kernel_rfl) (by kernel_rfl) (by kernel_rfl) (fun _ _ _ h => h) ?hywr0 (by assumption) ?restwr0
                        case hywr0 =>
                          intro oi ho
                          simp only [List.getElem?_toArray, List.getElem?_cons_zero, Option.some.injEq] at ho
                          subst ho
                          refine Or.inl ⟨by rfl, ?_⟩
                          intro wx hSw
                          try dsimp only at hSw
                          go_simp
                          try rfl
                        try simp only [Act.put, List.setIfInBounds_toArray, List.set_cons_zero, List.set_cons_succ]
                        refine wpAnyH_takeAt (i := 1) (d := 92) (v := ?vwr1) (by kernel_rfl) (by kernel_rfl) (by kernel_rfl) (by kernel_rfl) (fun _ _ _ h => h) ?hywr1 (by assumption) ?restwr1
                        case hywr1 =>
                          intro oi ho
                          simp only [List.getElem?_toArray, List.getElem?_cons_succ, List.getElem?_cons_zero, Option.some.injEq] at ho
                          subst ho
                          refine Or.inl ⟨by rfl, ?_⟩
                          intro wx hSw
                          try dsimp only at hSw
                          go_simp
                          try rfl
                        try simp only [Act.put, List.setIfInBounds_toArray, List.set_cons_zero, List.set_cons_succ]
                        refine wpAnyH_takeAt (i := 2) (d := 93) (v := ?vwr2) (by kernel_rfl) (by kernel_rfl) (by kernel_rfl) (by kernel_rfl) (fun _ _ _ h => h) ?hywr2 (by assumption) ?restwr2
                        case hywr2 =>
                          intro oi ho
                          simp only [List.getElem?_toArray, List.getElem?_cons_succ, List.getElem?_cons_zero, Option.some.injEq] at ho
                          subst ho
                          refine Or.inl ⟨by rfl, ?_⟩
                          intro wx hSw
                          try dsimp only at hSw
                          go_simp
                          try rfl
                        try simp only [Act.put, List.setIfInBounds_toArray, List.set_cons_zero, List.set_cons_succ]
                        refine wpAnyH_takeAt (i := 3) (d := 94) (v := ?vwr3) (by kernel_rfl) (by kernel_rfl) (by kernel_rfl) (by kernel_rfl) (fun _ _ _ h => h) ?hywr3 (by assumption) ?restwr3
                        case hywr3 =>
                          intro oi ho
                          simp only [List.getElem?_toArray, List.getElem?_cons_succ, List.getElem?_cons_zero, Option.some.injEq] at ho
                          subst ho
                          refine Or.inl ⟨by rfl, ?_⟩
                          intro wx hSw
                          try dsimp only at hSw
                          go_simp
                          try rfl
                        try simp only [Act.put, List.setIfInBounds_toArray, List.set_cons_zero, List.set_cons_succ]
                        refine wpAnyH_takeAt (i := 5) (d := 96) (v := ?vwr5) (by kernel_rfl) (by kernel_rfl) (by kernel_rfl) (by kernel_rfl) (fun _ _ _ h => h) ?hywr5 (by assumption) ?restwr5
                        case hywr5 =>
                          intro oi ho
                          simp only [List.getElem?_toArray, List.getElem?_cons_succ, List.getElem?_cons_zero, Option.some.injEq] at ho
                          subst ho
                          refine Or.inl ⟨by rfl, ?_⟩
                          intro wx hSw
                          try dsimp only at hSw
                          go_simp
                          try rfl
                        try simp only [Act.put, List.setIfInBounds_toArray, List.set_cons_zero, List.set_cons_succ]
                        refine wpAnyH_takeAt (i := 6) (d := 97) (v := ?vwr6) (by kernel_rfl) (by kernel_rfl) (by kernel_rfl) (by kernel_rfl) (fun _ _ _ h => h) ?hywr6 (by assumption) ?restwr6
                        case hywr6 =>
                          intro oi ho
                          simp only [List.getElem?_toArray, List.getElem?_cons_succ, List.getElem?_cons_zero, Option.some.injEq] at ho
                          subst ho
                          refine Or.inl ⟨by rfl, ?_⟩
                          intro wx hSw
                          try dsimp only at hSw
                          go_simp
                          try rfl
                        try simp only [Act.put, List.setIfInBounds_toArray, List.set_cons_zero, List.set_cons_succ]
                        refine wpAnyH_takeAt (i := 7) (d := 98) (v := ?vwr7) (by kernel_rfl) (by kernel_rfl) (by kernel_rfl) (by kernel_rfl) (fun _ _ _ h => h) ?hywr7 (by assumption) ?restwr7
                        case hywr7 =>
                          intro oi ho
                          simp only [List.getElem?_toArray, List.getElem?_cons_succ, List.getElem?_cons_zero, Option.some.injEq] at ho
                          subst ho
                          refine Or.inl ⟨by rfl, ?_⟩
                          intro wx hSw
                          try dsimp only at hSw
                          go_simp
                          try rfl
                        try simp only [Act.put, List.setIfInBounds_toArray, List.set_cons_zero, List.set_cons_succ]
                        refine wpAnyH_takeAt (i := 8) (d := 99) (v := ?vwr8) (by kernel_rfl) (by kernel_rfl) (by kernel_rfl) (by kernel_rfl) (fun _ _ _ h => h) ?hywr8 (by assumption) ?restwr8
                        case hywr8 =>
                          intro oi ho
                          simp only [List.getElem?_toArray, List.getElem?_cons_succ, List.getElem?_cons_zero, Option.some.injEq] at ho
                          subst ho
                          refine Or.inl ⟨by rfl, ?_⟩
                          intro wx hSw
                          try dsimp only at hSw
                          go_simp
                          try rfl
                        try simp only [Act.put, List.setIfInBounds_toArray, List.set_cons_zero, List.set_cons_succ]
                        refine wpAnyH_comesAt (i := 4) (by kernel_rfl) (by kernel_rfl) ?_
                        intro o ho K hK
                        simp only [List.getElem?_toArray, List.getElem?_cons_succ, List.getElem?_cons_zero, Option.some.injEq] at ho
                        subst ho
                        go_simp
                        refine (writeP_any at_ _ ys HPd.out HBd.out.size HLF.out HMM.out HVd.out).mono ?_
                        rintro e w4 ⟨rfl, hM4, hF4⟩
                        have HM4 := hide hM4
                        have HF4 := hide hF4
                        have HB4 := hide (HBd.out.trans hF4.1)
                        have HNL4 : Hid (w4.heap[L]? = some _) := hide (hF4.2 L _ _ _ HNL3.out (by decide) (by decide) (by decide) (by decide))
                        have HV4 := hide (hF4.own HVd.out.1 (by decide) (by decide) (by decide) (by decide))
                        have HX4 : Hid ((fun wx => wx.cell? ⟨L, 0, none⟩ = some (.int .i64 0) ∧ wx.cell? ⟨L, 1, none⟩ = some (.int .i64 at_) ∧ wx.cell? ⟨L, 2, none⟩ = some (.int .i64 bit) ∧ wx.cell? ⟨L, 3, none⟩ = some (.slice va vl vc) ∧ wx.cell? ⟨L, 4, none⟩ = some (.int .i64 af) ∧ wx.cell? ⟨L, 5, none⟩ = some (.int .u64 (kp : Int)) ∧ wx.cell? ⟨L, 6, none⟩ = some (.int .i64 tn) ∧ wx.cell? ⟨L, 7, none⟩ = some (.int .i64 cu)) w4) := ⟨cell_blk HNL4.out, cell_blk HNL4.out, cell_blk HNL4.out, cell_blk HNL4.out, cell_blk HNL4.out, cell_blk HNL4.out, cell_blk HNL4.out, cell_blk HNL4.out⟩
                        have HBS4 := hide (HOK.out.bs.later HB4.out (Nat.le_refl _))
                        clear hM4 hF4 hHeld
                        refine hK.out _ _ HX4.out (fun hHeld => ?_)
                        clear hK K
                        try simp only [Act.put, List.setIfInBounds_toArray, List.set_cons_zero, List.set_cons_succ]
                        refine wpAnyH_comesAt (i := 9) (by kernel_rfl) (by kernel_rfl) ?_
                        intro o ho K hK
                        simp only [List.getElem?_toArray, List.getElem?_cons_succ, List.getElem?_cons_zero, Option.some.injEq] at ho
                        subst ho
                        go_simp
                        refine (bytes_any 0 at_ bit va vl vc xs af kp tn cu w4 HBS4.out HOK.out.lc HOK.out.cm).mono ?_
                        rintro e w5 ⟨v5, rfl, hv5, hb5⟩
                        rw [HYS.out] at hv5
                        have HV5 := hide hv5
                        have HB5 := hide hb5
                        have HNL5 : Hid (w5.heap[L]? = some _) := hide ((hb5.block L (Array.getElem?_eq_some_iff.1 HNL4.out).1).trans HNL4.out)
                        have HX5 : Hid ((fun wx => wx.cell? ⟨L, 0, none⟩ = some (.int .i64 0) ∧ wx.cell? ⟨L, 1, none⟩ = some (.int .i64 at_) ∧ wx.cell? ⟨L, 2, none⟩ = some (.int .i64 bit) ∧ wx.cell? ⟨L, 3, none⟩ = some (.slice va vl vc) ∧ wx.cell? ⟨L, 4, none⟩ = some (.int .i64 af) ∧ wx.cell? ⟨L, 5, none⟩ = some (.int .u64 (kp : Int)) ∧ wx.cell? ⟨L, 6, none⟩ = some (.int .i64 tn) ∧ wx.cell? ⟨L, 7, none⟩ = some (.int .i64 cu)) w5) := ⟨cell_blk HNL5.out, cell_blk HNL5.out, cell_blk HNL5.out, cell_blk HNL5.out, cell_blk HNL5.out, cell_blk HNL5.out, cell_blk HNL5.out, cell_blk HNL5.out⟩
                        clear hv5 hb5 hHeld
                        refine hK.out _ _ HX5.out (fun hHeld => ?_)
                        clear hK K
                        try simp only [Act.put, List.setIfInBounds_toArray, List.set_cons_zero, List.set_cons_succ]
                        refine wpAnyH_comesAt (i := 10) (by kernel_rfl) (by kernel_rfl) ?_
                        intro o ho K hK
                        simp only [List.getElem?_toArray, List.getElem?_cons_succ, List.getElem?_cons_zero, Option.some.injEq] at ho
                        subst ho
                        go_simp
                        refine (writeQ_any at_ v5 ys HM4.out HB4.out.size HB5.out HLF.out HMM.out HV5.out (Nat.le_succ _)).mono ?_
                        rintro e w6 ⟨rfl, hP6, hF6⟩
                        have HPZ := hide hP6
                        have HBZ := hide ((HB4.out.trans (HB5.out.mono HB4.out.size)).trans hF6.1)
                        have HNL6 : Hid (w6.heap[L]? = some _) := hide (hF6.2 L _ _ _ HNL5.out (by decide) (by decide) (by decide) (Or.inr (by decide)))
                        have hvz := hF6.own (own_later HV4.out HB5.out) (fun k hk => hk)
                        rw [HNY.out] at hvz
                        have HVZ := hide hvz
                        clear hvz
                        have HX6 : Hid ((fun wx => wx.cell? ⟨L, 0, none⟩ = some (.int .i64 0) ∧ wx.cell? ⟨L, 1, none⟩ = some (.int .i64 at_) ∧ wx.cell? ⟨L, 2, none⟩ = some (.int .i64 bit) ∧ wx.cell? ⟨L, 3, none⟩ = some (.slice va vl vc) ∧ wx.cell? ⟨L, 4, none⟩ = some (.int .i64 af) ∧ wx.cell? ⟨L, 5, none⟩ = some (.int .u64 (kp : Int)) ∧ wx.cell? ⟨L, 6, none⟩ = some (.int .i64 tn) ∧ wx.cell? ⟨L, 7, none⟩ = some (.int .i64 cu)) w6) := ⟨cell_blk HNL6.out, cell_blk HNL6.out, cell_blk HNL6.out, cell_blk HNL6.out, cell_blk HNL6.out, cell_blk HNL6.out, cell_blk HNL6.out, cell_blk HNL6.out⟩
                        clear hP6 hF6 hHeld
                        refine hK.out _ _ HX6.out (fun hHeld => ?_)
                        clear hK K
                        try simp only [Act.put, List.setIfInBounds_toArray, List.set_cons_zero, List.set_cons_succ]
                        refine wpAnyH_takeAt (i := 11) (d := 102) (v := ?vwr11) (by kernel_rfl) (by kernel_rfl) (by kernel_rfl) (by kernel_rfl) (fun _ _ _ h => h) ?hywr11 (by assumption) ?restwr11
                        case hywr11 =>
                          intro oi ho
                          simp only [List.getElem?_toArray, List.getElem?_cons_succ, List.getElem?_cons_zero, Option.some.injEq] at ho
                          subst ho
                          refine Or.inl ⟨by rfl, ?_⟩
                          intro wx hSw
                          try dsimp only at hSw
                          go_simp
                          try rfl
                        try simp only [Act.put, List.setIfInBounds_toArray, List.set_cons_zero, List.set_cons_succ]
                        refine wpAnyH_done (by kernel_rfl) ?_ _
                        refine NoPanic.normal ?_
                        have HSB5 := hide (HSB.out.wr at_ ys)
                        generalize s.wr at_ ys = s5 at HPZ HSB5
                        clear hHeld HM4 HX3 HX4 HX5 HX6 HPX HPc HPd
                        go_wp2_with fail
                        go_loopw [11] (fun i wx => ∃ (j : Nat) (zs : List Nat), j ≤ N ∧ zs.length = N ∧ i = .int .i64 j ∧ wx.ownsRow w.heap.size 5 1 (.slice a3 N c3) N (cellsOf zs) ∧ PD (fun k => Value.ownBlock (.slice a3 N c3) = some k) w.heap.size p pr s5 wx ∧ Below w.heap.size w wx) (fun i _ => N - (intOf i).toNat)
                        case atStart => exact ⟨0, ys, by omega, HNY.out, rfl, HVZ.out, HPZ.out, HBZ.out⟩
                        case round =>
                          clear HPZ HBZ HVZ HNY
                          obtain ⟨j, zs, hj, hzs, rfl, hO, hP, hBB⟩ := hrel
                          have HO := hide hO
                          have HP := hide hP
                          have HBB := hide hBB
                          clear hO hP hBB
                          by_cases hjn : j < N
                          · have x1 : (j : Int) < (N : Int) := by omega
                            obtain ⟨g, cp, e, hnc, hcm, hBg, hg, hfz, hcell, hset⟩ := own_slot HO.out (by omega)
                            simp only [Value.slice.injEq] at e
                            obtain ⟨rfl, -, rfl⟩ := e
                            have fz := hfz j
                            have hc := hcell j hjn
                            have HST := hide (hset j 9 hjn)
                            obtain ⟨cs9, h9⟩ := (own_block HO.out rfl).2
                            have HPW := hide (HP.out.wr (o := j) (u := .int .u8 9) rfl h9)
                            have HBW := hide (HBB.out.setCell (p := ⟨g, j, none⟩) hBg (.int .u8 9))
                            clear hset hcell hfz h9
                            go_wp2
                            go_roundw
                            case rel => exact ⟨j + 1, zs.set j 9, by omega, by rw [List.length_set]; exact hzs, by go_num, HST.out, HPW.out, HBW.out⟩
                            case measure => simp [intOf]; omega
                          · have x1 : ¬ (j : Int) < (N : Int) := by omega
                            go_wp2_with fail
                            go_meet
                            case rel => exact ⟨s5, HSB5.out, HP.out.reC HBB.out.size (Below.refl _ _) (fun _ hk => hk.elim), HBB.out⟩
                    · as_aux_lemma =>
                        have k1b : (kind == 1) = false := by simp [k1]
                        have k3b : (kind == 3) = false := by simp [k3]
                        have k4b : (kind == 4) = false := by simp [k4]
                        have k5b : (kind == 5) = false := by simp [k5]
                        have k6b : (kind == 6) = false := by simp [k6]
                        have k0b : (kind == 0) = false := by simp [k0]
                        obtain ⟨E, HE⟩ : ∃ E, Hid (s.rdE at_ = E) := ⟨_, rfl⟩
                        obtain ⟨ys, HYS⟩ : ∃ ys, Hid (s.rdY at_ = ys) := ⟨_, rfl⟩
                        have e1 : wa.cell? ⟨L, 1, none⟩ = some (.int .i64 at_) := cell_blk HNL.out
                        go_wp2_with fail
                        refine (readP_any at_ HPX.out HBX.out.size).mono ?_
                        rintro e w3 ⟨v3, rfl, hv3, hb3⟩
                        rw [HYS.out] at hv3
                        rw [HE.out]
                        have HL3 := hide (Array.getElem?_eq_some_iff.1 HNL.out).1
                        have HNL3 : Hid (w3.heap[L]? = some _) := hide ((hb3.block L HL3.out).trans HNL.out)
                        have z1 : w3.cell? ⟨L, 1, none⟩ = some (.int .i64 at_) := cell_blk HNL3.out
                        have HB3 := hide hb3
                        have HV3 := hide hv3
                        clear hv3 hb3 e0 e1
                        obtain ⟨a3, c3, rfl, hbs3⟩ := HV3.out.slice
                        clear hbs3
                        go_wp2_with fail
                        refine (readQ_any at_ (HPX.out.later HB3.out) (Nat.le_trans HBX.out.size HB3.out.size)).mono ?_
                        rintro e w4 ⟨v4, rfl, hv4, hb4⟩
                        rw [HYS.out] at hv4
                        rw [HE.out]
                        have t4 := hv4.text
                        have hv3 : OwnB wa.heap.size (.slice a3 ys.length c3) ys w4 := ⟨own_later HV3.out.1 hb4, HV3.out.2⟩
                        have t3 := hv3.text
                        have HB4 := hide (HB3.out.trans (hb4.mono HB3.out.size))
                        obtain ⟨a4, c4, rfl, hbs4⟩ := hv4.slice
                        have HPZ := hide (HPX.out.reC (c2 := fun k => Value.ownBlock (.slice a3 ys.length c3) = some k) HBX.out.size HB4.out (fun k hk => ⟨Or.inr (own_block hv3.1 hk).1, (own_block hv3.1 hk).2⟩))
                        have HBZ := hide (HBX.out.trans (HB4.out.mono HBX.out.size))
                        have HVZ := hide (own_base hv3.1 HBX.out.size)
                        have HSB5 := hide HSB.out.up
                        generalize hs5 : s = s5 at HPZ HSB5
                        clear hv3 hv4 hb4 hbs4 HPX HB3 hs5 z1
                        generalize str ys = sx at t3 t4
                        have hN8 : ys.length ≤ 8193 := HV3.out.2.2
                        generalize hNY : ys.length = N at *
                        have HNY := hide hNY
                        clear hNY
                        go_wp2_with fail
                        go_loopw [16] (fun i wx => ∃ (j : Nat) (zs : List Nat), j ≤ N ∧ zs.length = N ∧ i = .int .i64 j ∧ wx.ownsRow w.heap.size 5 1 (.slice a3 N c3) N (cellsOf zs) ∧ PD (fun k => Value.ownBlock (.slice a3 N c3) = some k) w.heap.size p pr s5 wx ∧ Below w.heap.size w wx) (fun i _ => N - (intOf i).toNat)
                        case atStart => exact ⟨0, ys, by omega, HNY.out, rfl, HVZ.out, HPZ.out, HBZ.out⟩
                        case round =>
                          clear HPZ HBZ HVZ HNY
                          obtain ⟨j, zs, hj, hzs, rfl, hO, hP, hBB⟩ := hrel
                          have HO := hide hO
                          have HP := hide hP
                          have HBB := hide hBB
                          clear hO hP hBB
                          by_cases hjn : j < N
                          · have x1 : (j : Int) < (N : Int) := by omega
                            obtain ⟨g, cp, e, hnc, hcm, hBg, hg, hfz, hcell, hset⟩ := own_slot HO.out (by omega)
                            simp only [Value.slice.injEq] at e
                            obtain ⟨rfl, -, rfl⟩ := e
                            have fz := hfz j
                            have hc := hcell j hjn
                            have HST := hide (hset j 9 hjn)
                            obtain ⟨cs9, h9⟩ := (own_block HO.out rfl).2
                            have HPW := hide (HP.out.wr (o := j) (u := .int .u8 9) rfl h9)
                            have HBW := hide (HBB.out.setCell (p := ⟨g, j, none⟩) hBg (.int .u8 9))
                            clear hset hcell hfz h9
                            go_wp2
                            go_roundw
                            case rel => exact ⟨j + 1, zs.set j 9, by omega, by rw [List.length_set]; exact hzs, by go_num, HST.out, HPW.out, HBW.out⟩
                            case measure => simp [intOf]; omega
                          · have x1 : ¬ (j : Int) < (N : Int) := by omega
                            go_wp2_with fail
                            go_meet
                            case rel => exact ⟨s5, HSB5.out, HP.out.reC HBB.out.size (Below.refl _ _) (fun _ hk => hk.elim), HBB.out⟩
        case rest =>
          as_aux_lemma =>
            obtain ⟨s5, hSB5, hP5, hBL5⟩ := hcut
            have HSB5 := hide hSB5
            have HP5 := hide hP5
            have HBL5 := hide hBL5
            clear hSB5 hP5 hBL5 HPX HBX HNL HOK HBQ e0
            obtain ⟨HDn, HLf, HOp, HBk, g1, g2, g7⟩ := looks HP5.out HSB5.out
            obtain ⟨gA, gC, g1⟩ := g1
            cases hdn : s5.down with
            | true =>
              rw [hdn] at g2 HDn
              go_wp2_with fail
              go_quiet ((first | (go_at_call 25; refine Calls.quiet_of (HDn.out _)) | (go_at_call 26; refine Calls.quiet_of (HLf.out _)) | (go_at_call 27; refine Calls.quiet_of (HOp.out _)) | (go_at_call 28; refine Calls.quiet_of (HBk.out _))))
              go_wp2
              go_roundw
              case rel => exact ⟨k + 1, s5, by omega, by omega, by go_num, HSB5.out, HP5.out.later (below_drewN (Below.refl _ _) _), HBL5.out.trans (below_drewN (Below.refl _ _) _)⟩
              case measure => simp [intOf]; omega
            | false =>
              rw [hdn] at g2 HDn
              go_wp2_with fail
              go_quiet ((first | (go_at_call 25; refine Calls.quiet_of (HDn.out _)) | (go_at_call 26; refine Calls.quiet_of (HLf.out _)) | (go_at_call 27; refine Calls.quiet_of (HOp.out _)) | (go_at_call 28; refine Calls.quiet_of (HBk.out _))))
              go_wp2
              go_roundw
              case rel => exact ⟨k + 1, s5, by omega, by omega, by go_num, HSB5.out, HP5.out.later (below_drewN (Below.refl _ _) _), HBL5.out.trans (below_drewN (Below.refl _ _) _)⟩
              case measure => simp [intOf]; omega
      · obtain rfl : cb = false := by rw [HCB.out]; exact decide_eq_false hgo
        as_aux_lemma =>
          obtain ⟨gk, vo, kv, wv, kb, hR, hD⟩ := HPD.out
          have HR := hide hR
          have HD := hide hD
          clear hR hD
          go_wp2_with fail
          refine (@restart_any ⟨none, fun x => ob wv s.m x ∨ False⟩ w.heap.size p s _ HD.out HBL.out.size).mono ?_
          rintro e w3 ⟨rfl, hD3, hF3⟩
          have HR3 := hide (@RV.fr _ _ _ _ _ _ _ _ _ _ ⟨none, fun x => ob wv s.m x ∨ False⟩ ⟨fun _ => False⟩ HR.out hF3)
          have HB3 := hide (HBL.out.trans (@Fr.bel ⟨none, fun x => ob wv s.m x ∨ False⟩ _ _ _ hF3))
          have HUP := hide (@RV.up ⟨fun _ => False⟩ (fun x => ob wv s.m x) _ _ _ _ _ _ _ _ _ HR3.out)
          have u2 : w3.cell? ⟨pr, 2, none⟩ = some (.bool s.down) := (@RV.d ⟨fun _ => False⟩ _ _ _ _ _ _ _ _ _ HR3.out).2.2.1
          have f2 : w3.frozen? ⟨pr, 2, none⟩ = false := @RV.fz ⟨fun _ => False⟩ _ _ _ _ _ _ _ _ _ HR3.out 2
          have HP4 := hide (PD.same HUP.out.1 hD3 HUP.out.2 (restart_m s))
          have HB4 := hide (HB3.out.trans HUP.out.2.bel)
          have HSB4 := hide HSB.out.restart
          have HUD : Hid (s.restart.down = false) := by
            show _ = _
            unfold DS.restart
            split
            · rfl
            · rename_i hx; simpa using hx
          clear hD3 hF3
          go_upto_region 46 with fail
          generalize s.restart = s5 at HP4 HSB4 HUD
          clear u2 f2 HUP
          generalize w3.setCell ⟨pr, 2, none⟩ (.bool false) = w4 at *
          obtain ⟨N, HN⟩ : ∃ N, Hid (blk = N) := ⟨_, rfl⟩
          go_wp2_with fail
          go_loopw [17] (fun i wx => ∃ j : Nat, j ≤ n ∧ i = .int .i64 j ∧ PD (fun _ => False) w.heap.size p pr s5 wx ∧ Below w.heap.size w wx) (fun i _ => n - (intOf i).toNat)
          case atStart => exact ⟨0, by omega, rfl, HP4.out, HB4.out⟩
          case round =>
            clear HP4 HB4
            obtain ⟨j, hj, rfl, hP, hBB⟩ := hrel
            have HP := hide hP
            have HBB := hide hBB
            clear hP hBB
            by_cases hjn : j < n
            · have x1 : (j : Int) < (n : Int) := by omega
              obtain ⟨gk, vo, kv, wv, kb, hR, hD⟩ := HP.out
              have hjs : j < s5.n := by rw [HSB4.out.nn]; exact hjn
              have HC1 := hide (@read_ok ⟨none, fun x => ob wv s5.m x ∨ False⟩ w.heap.size p s5 j _ hD HBB.out.size HUD.out hjs)
              have HC2 := hide (fun ww (hb : Below wr.heap.size wr ww) => @readR_ok ⟨fun _ => False⟩ _ _ _ _ _ _ _ _ _ j (@RV.later _ _ _ _ _ _ _ _ _ _ ⟨fun _ => False⟩ hR hb) (Nat.le_trans HBB.out.size hb.size) HUD.out hjs)
              rw [HN.out] at HC1 HC2
              have HSL := hide (pad_len (show_len HP.out.ok j))
              have HST := hide (pad_lt (show_lt HP.out.ok j))
              rw [HN.out] at HSL
              have hN47 : N ≤ 140737488355328 := by rw [← HN.out]; unfold blk; omega
              clear hR hD
              go_wp2_with fail
              refine HC1.out.mono ?_
              rintro e w5 ⟨g1, rfl, ho5, hb5⟩
              have HB5 := hide hb5
              have HO5 := hide ho5
              clear ho5 hb5
              go_wp2_with fail
              refine (HC2.out _ HB5.out).mono ?_
              rintro e w6 ⟨g2, rfl, ho6, hb6⟩
              have t5 := txtN (own_later HO5.out hb6) HSL.out hN47 HST.out
              have t6 := txtN ho6 HSL.out hN47 HST.out
              have HB6 := hide (HB5.out.trans (hb6.mono HB5.out.size))
              clear ho6 hb6
              generalize str (pad (s5.show j)) = sx at *
              go_wp2
              go_roundw
              case rel => exact ⟨j + 1, by omega, by go_num, HP.out.later HB6.out, HBB.out.trans (HB6.out.mono HBB.out.size)⟩
              case measure => simp [intOf]; omega
            · have x1 : ¬ (j : Int) < (n : Int) := by omega
              go_wp2_with fail
              refine (told_any _).mono ?_
              rintro e w5 ⟨rfl, hb5⟩
              have HB5 := hide (HBB.out.trans (hb5.mono HBB.out.size))
              clear hb5
              go_wp2
              go_ret
              exact ⟨rfl, HB5.out⟩
end Go.Proofs.Ytnapapgmeghgjaa
