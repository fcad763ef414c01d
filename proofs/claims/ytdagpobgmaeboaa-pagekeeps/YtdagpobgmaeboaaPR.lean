/- Contract of Hold of one page. -/
import Derived.Test.YtdagpobgmaeboaaPK
import Derived.Test.YtdagpobgmaeboaaPI
set_option linter.unusedVariables false
namespace Go.Proofs.Ytdagpobgmaeboaa
open Go.RowKit
set_option maxRecDepth 100000 in
set_option maxHeartbeats 1000000 in
theorem hold_one {B p q : Nat} {s : DS} {t : PS} {w : World} (R : Nat) (h : ST B p q s t w) (hB : B ≤ w.heap.size) (hl : s.life = t.life) (hR : R < t.st.length) (ho : t.st.getD R 0 ≠ 0) :
    Calls Try.prog 17 #[.pointer (some ⟨q, 0, none⟩), .slice (some ⟨w.heap.size, 0, none⟩) 1 1] (w.alloc (.cells #[.int .i64 (R : Int)] 3)) fun e w' => e = .returned (.int .i64 0) ∧ ST B p q s (t.set R 2) w' ∧ Fp B w w' := by
  have HB0 := hide (below_box w (.cells #[.int .i64 (R : Int)] 3))
  have HS0 := hide (h.later HB0.out)
  have HD := hide (dead_no HS0.out hl)
  have HC0 : Hid ((w.alloc (.cells #[.int .i64 (R : Int)] 3)).cell? ⟨w.heap.size, 0, none⟩ = some (.int .i64 (R : Int))) := cell_blk (heap_alloc_new w _)
  have HF0 := hide (Fp.of HB0.out hB)
  have hsl : t.st.length ≤ 4096 := by obtain ⟨_, gs, hS⟩ := h; exact hS.ok.sl
  have r4 : (R : Int) < 4096 := by omega
  have HE : Hid (t.of (R : Int) = t.st.getD R 0) := by show _ = _; unfold PS.of; rw [if_pos (by omega), Int.toNat_natCast]
  have q1 : (((t.st.getD R 0 : Nat) : Int) == 0) = false := beq_eq_false_iff_ne.2 (by omega)
  have HRL := hide hR
  generalize hod : t.st.getD R 0 = od at *
  clear h hl ho hod hsl
  generalize w.alloc (.cells #[.int .i64 (R : Int)] 3) = wl at *
  go_enter Try.func17, Try.ntmps17
  go_wp2_with fail
  refine HD.out.mono ?_
  rintro e w1 ⟨rfl, hb1⟩
  have HB1 := hide hb1
  have HS1 := hide (HS0.out.later hb1)
  have HF1 := hide (HF0.out.trans (Fp.of hb1 (Nat.le_trans hB HF0.out.bel.size)))
  have HC1 := hide ((hb1.cell (cell_lt HC0.out)).trans HC0.out)
  clear hb1 HD HS0 HF0 HB0
  go_wp2_with fail
  go_loopw [13] (fun i wr => ∃ n : Nat, n ≤ 1 ∧ i = .int .i64 n ∧ wr = w1) (fun i _ => 1 - (intOf i).toNat)
  case atStart => exact ⟨0, by omega, rfl, rfl⟩
  case round =>
    obtain ⟨n, hn, rfl, rfl⟩ := hrel
    rcases (by omega : n = 0 ∨ n = 1) with rfl | hn1
    · have cc := HC1.out
      obtain ⟨_, gs, hS⟩ := HS1.out
      have HO := hide (of_any (R : Int) hS (by omega))
      rw [HE.out] at HO
      clear hS
      go_wp2_with fail
      refine HO.out.mono ?_
      rintro e w2 ⟨rfl, hq⟩
      have hq := hq.symm
      subst hq
      go_wp2
      exact ⟨⟨1, by omega, by go_num, trivial⟩, by simp [intOf]⟩
    · have i1 : ¬ (n : Int) < 1 := by omega
      clear hn1 hn
      go_wp2_with fail
      go_loopw [26] (fun i wx => ∃ n : Nat, n ≤ 1 ∧ i = .int .i64 n ∧ (n = 0 → wx = wr) ∧ (n = 1 → ST B p q s (t.set R 2) wx ∧ Fp B w wx)) (fun i _ => 1 - (intOf i).toNat)
      case atStart => exact ⟨0, by omega, rfl, fun _ => rfl, fun h => by omega⟩
      case round =>
        obtain ⟨n2, hn, rfl, h0, h1⟩ := hrel
        rcases (by omega : n2 = 0 ∨ n2 = 1) with rfl | rfl
        · have hw := h0 rfl
          clear h0 h1
          have hw := hw.symm
          subst hw
          have cc := HC1.out
          obtain ⟨hDI, gs, hS⟩ := HS1.out
          have HSE := hide (set_any R 2 hS HRL.out (by omega))
          have HSV := hide hS
          have HDI := hide hDI
          clear hS hDI
          go_wp2_with fail
          refine HSE.out.mono ?_
          rintro e w3 ⟨rfl, hS3, hw3⟩
          have HS3 := hide hS3
          have HW3 := hide hw3
          clear hS3 hw3
          go_wp2
          go_roundw
          case rel =>
            refine ⟨1, by omega, by go_num, fun h => by omega, fun _ => ⟨⟨?_, gs, HS3.out⟩, ?_⟩⟩
            · rw [HW3.out]
              exact HDI.out.other HSV.out.hs (by decide) (by decide) (by decide) (by decide) (by decide)
            · rw [HW3.out]
              exact HF1.out.trans (Fp.set HSV.out.hs HSV.out.gB (Or.inr rfl))
          case measure => simp [intOf]
        · have H1 := hide (h1 rfl)
          clear h0 h1
          go_wp2
          go_ret
          exact ⟨rfl, H1.out.1, H1.out.2⟩
end Go.Proofs.Ytdagpobgmaeboaa
