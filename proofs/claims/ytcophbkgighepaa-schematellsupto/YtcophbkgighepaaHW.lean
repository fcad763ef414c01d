/- The document's own Fits. -/
import Derived.Test.YtcophbkgighepaaHV
set_option linter.unusedVariables false
namespace Go.Proofs.Ytcophbkgighepaa
open Go.RowKit

set_option maxRecDepth 100000 in
set_option maxHeartbeats 16000000 in
theorem reffits14_any {w : World} {ca xa : Option Addr} {cl cc xl xc : Nat} {s : Sch} {a : Option Addr} {n cp : Nat} {l : List Val} (h : SC w ca cl cc xa xl xc s) (hp : SchP s) (hv : SV fV 3 w a n cp l) (hs : ∀ x ∈ l, x.2.2.size ≤ 1048576) :
    Calls Try.prog 13 #[.agg #[.string s.nm, .slice ca cl cc, .slice xa xl xc], .slice a n cp] w fun e w' => e = .returned (.int .i64 (s.fits l)) ∧ Below w.heap.size w w' := by
  obtain ⟨w1, hw1⟩ : ∃ w1, w1 = w.alloc (.cells #[.string s.nm, .slice ca cl cc, .slice xa xl xc] 25) := ⟨_, rfl⟩
  obtain ⟨L, hL⟩ : ∃ L, w.heap.size = L := ⟨_, rfl⟩
  have hb1 : Below w.heap.size w w1 := by rw [hw1]; exact below_box w _
  have HR1 : Hid (w1.heap[L]? = some (.cells #[.string s.nm, .slice ca cl cc, .slice xa xl xc] 25 (0, 0))) := by show _ = _; rw [hw1, ← hL]; exact boxed w _
  have HB1 : Hid (Below L w w1) := by show Below L w w1; rw [← hL]; exact hb1
  have HLB0 : Hid (L ≤ w1.heap.size) := by show L ≤ _; have := blk_lt HR1.out; omega
  have H1 := hide (h.later hb1)
  have HV1 := hide (hv.later hb1)
  have HCL := hide h.c.hl
  have HNL := hide hv.hl
  have HS := hide hs
  have HRG := hide (refright14_any (h.later hb1) hp)
  have HW1 := hide hw1
  rw [hL]
  clear h hv hs hb1 hw1 hp
  go_enter Try.func13, Try.ntmps13
  go_upto_region 1 with fail
  rw [← HW1.out]
  try simp only [hL]
  have y0 : w1.cell? ⟨L, 0, none⟩ = some (.string s.nm) := cell_blk HR1.out
  have y1 : w1.cell? ⟨L, 1, none⟩ = some (.slice ca cl cc) := cell_blk HR1.out
  have y2 : w1.cell? ⟨L, 2, none⟩ = some (.slice xa xl xc) := cell_blk HR1.out
  go_wp2_with fail
  refine HRG.out.mono ?_
  rintro e w2 ⟨rfl, hb2⟩
  have HB2 : Hid (Below L w w2) := HB1.out.trans (hb2.mono HLB0.out)
  have HR2 := hide ((hb2.block L (blk_lt HR1.out)).trans HR1.out)
  have H2 := hide (H1.out.later hb2)
  have HV2 := hide (HV1.out.later hb2)
  have z1 : w2.cell? ⟨L, 1, none⟩ = some (.slice ca cl cc) := cell_blk HR2.out
  clear hb2 HRG y0 y1 y2 H1 HV1 HR1
  cases hok : s.ok with
  | false =>
    have HE : Hid (s.fits l = 61) := if_pos hok
    go_wp2
    go_ret
    exact ⟨by rw [HE.out]; rfl, HB2.out⟩
  | true =>
  have HE0 : Hid (s.fits l = if l.length ≠ s.cs.length then 62 else if (l.getD 0 (0, 0, ⟨#[]⟩)).1 = 0 then 62 else if fitsN s l l.length = true then 0 else 62) := if_neg (by rw [hok]; decide)
  have HPT := hide (Sch.parts hok).2.2.2.1
  have HC1 : Hid (1 ≤ cl ∧ cl ≤ 3) := by
    show 1 ≤ cl ∧ cl ≤ 3
    rw [← HCL.out]
    unfold Sch.ok colsOk at hok
    simp only [Bool.and_eq_true, decide_eq_true_eq] at hok
    exact ⟨hok.1.2.1.1, hok.1.2.1.2⟩
  rw [HNL.out, HCL.out] at HE0
  clear hok
  by_cases hln : n = cl
  · subst hln
    rw [if_neg (by simp)] at HE0
    go_wp2_with fail
    clear z1
    go_loopg [5] n (fun gh s5 wx => ∃ j : Nat, j + gh = n ∧ s5 = .int .i64 (j : Int) ∧ fitsN s l j = true ∧ (0 < j → (l.getD 0 (0, 0, ⟨#[]⟩)).1 ≠ 0) ∧ Below w2.heap.size w2 wx)
    case atStart => exact ⟨0, by omega, rfl, rfl, fun q => by omega, Below.refl _ _⟩
    case round =>
      obtain ⟨j, hj, rfl, hyes, hfst, hbr⟩ := hrel
      have HY := hide hyes
      have HFS := hide hfst
      have HBR := hide hbr
      have HRR := hide ((hbr.block L (blk_lt HR2.out)).trans HR2.out)
      have HLB : Hid (L ≤ w2.heap.size) := by show L ≤ _; have := blk_lt HR2.out; omega
      clear hyes hfst hbr
      have y1 : wr.cell? ⟨L, 1, none⟩ = some (.slice ca n cc) := cell_blk HRR.out
      by_cases hjn : j < n
      · have xj : (j : Int) < (n : Int) := by omega
        obtain ⟨v, hvj⟩ : ∃ v, l[j]? = some v := ⟨_, List.getElem?_eq_getElem (by rw [HNL.out]; exact hjn)⟩
        obtain ⟨c, hcj⟩ : ∃ c, s.cs[j]? = some c := ⟨_, List.getElem?_eq_getElem (by rw [HCL.out]; exact hjn)⟩
        obtain ⟨b, o, e0, hb, hcs⟩ := HV2.out.pl (by omega)
        obtain ⟨b', o', e0', hb', hcs'⟩ := H2.out.c.pl (by omega)
        subst e0 e0'
        have q0 : wr.cell? ⟨b, o + j * 3, none⟩ = some (.int .i64 v.1) := (HBR.out.cell hb).trans (hcs j v hvj 0 (by omega))
        have q1 : wr.cell? ⟨b, o + j * 3 + 1, none⟩ = some (.int .i64 v.2.1) := (HBR.out.cell hb).trans (hcs j v hvj 1 (by omega))
        have q2 : wr.cell? ⟨b, o + j * 3 + 2, none⟩ = some (.string v.2.2) := (HBR.out.cell hb).trans (hcs j v hvj 2 (by omega))
        have r0 : wr.cell? ⟨b', o' + j * 3, none⟩ = some (.string c.1) := (HBR.out.cell hb').trans (hcs' j c hcj 0 (by omega))
        have r1 : wr.cell? ⟨b', o' + j * 3 + 1, none⟩ = some (.int .i64 c.2.1) := (HBR.out.cell hb').trans (hcs' j c hcj 1 (by omega))
        have r2 : wr.cell? ⟨b', o' + j * 3 + 2, none⟩ = some (.int .i64 c.2.2) := (HBR.out.cell hb').trans (hcs' j c hcj 2 (by omega))
        clear hcs hcs' hb hb'
        have hlt : ∀ {p : Addr} {x : Value}, wr.cell? p = some x → ∀ A B : Obj, ((wr.alloc A).alloc B).cell? p = some x := fun h9 A B => by
          have hb9 := (below_box wr A).trans ((below_box (wr.alloc A) B).mono (below_box wr A).size)
          exact (hb9.cell (cell_lt h9)).trans h9
        have hl1 : ∀ {p : Addr} {x : Value}, wr.cell? p = some x → ∀ A : Obj, (wr.alloc A).cell? p = some x := fun h9 A => ((below_box wr A).cell (cell_lt h9)).trans h9
        go_upto_region 8 with fail
        go_cut [6, 7] from 23 to 68 (fun a6 a7 wx => ∃ g6 g7, a6 = .pointer (some ⟨g6, 0, none⟩) ∧ a7 = .pointer (some ⟨g7, 0, none⟩) ∧ wx.heap[g6]? = some (.cells #[.int .i64 v.1, .int .i64 v.2.1, .string v.2.2] 39 (0, 0)) ∧ wx.heap[g7]? = some (.cells #[.string c.1, .int .i64 c.2.1, .int .i64 c.2.2] 59 (0, 0)) ∧ Below wr.heap.size wr wx)
        case first =>
          have y1_1 := hlt y1 (.cells #[.string ⟨#[]⟩, .int .i64 0, .int .i64 0] 59) (.cells #[.int .i64 0, .int .i64 0, .string ⟨#[]⟩] 39)
          have q0_1 := hlt q0 (.cells #[.string ⟨#[]⟩, .int .i64 0, .int .i64 0] 59) (.cells #[.int .i64 0, .int .i64 0, .string ⟨#[]⟩] 39)
          have q1_1 := hlt q1 (.cells #[.string ⟨#[]⟩, .int .i64 0, .int .i64 0] 59) (.cells #[.int .i64 0, .int .i64 0, .string ⟨#[]⟩] 39)
          have q2_1 := hlt q2 (.cells #[.string ⟨#[]⟩, .int .i64 0, .int .i64 0] 59) (.cells #[.int .i64 0, .int .i64 0, .string ⟨#[]⟩] 39)
          have r0_1 := hlt r0 (.cells #[.string ⟨#[]⟩, .int .i64 0, .int .i64 0] 59) (.cells #[.int .i64 0, .int .i64 0, .string ⟨#[]⟩] 39)
          have r1_1 := hlt r1 (.cells #[.string ⟨#[]⟩, .int .i64 0, .int .i64 0] 59) (.cells #[.int .i64 0, .int .i64 0, .string ⟨#[]⟩] 39)
          have r2_1 := hlt r2 (.cells #[.string ⟨#[]⟩, .int .i64 0, .int .i64 0] 59) (.cells #[.int .i64 0, .int .i64 0, .string ⟨#[]⟩] 39)
          have y1_2 := hlt y1 (.cells #[.int .i64 0, .int .i64 0, .string ⟨#[]⟩] 39) (.cells #[.string ⟨#[]⟩, .int .i64 0, .int .i64 0] 59)
          have q0_2 := hlt q0 (.cells #[.int .i64 0, .int .i64 0, .string ⟨#[]⟩] 39) (.cells #[.string ⟨#[]⟩, .int .i64 0, .int .i64 0] 59)
          have q1_2 := hlt q1 (.cells #[.int .i64 0, .int .i64 0, .string ⟨#[]⟩] 39) (.cells #[.string ⟨#[]⟩, .int .i64 0, .int .i64 0] 59)
          have q2_2 := hlt q2 (.cells #[.int .i64 0, .int .i64 0, .string ⟨#[]⟩] 39) (.cells #[.string ⟨#[]⟩, .int .i64 0, .int .i64 0] 59)
          have r0_2 := hlt r0 (.cells #[.int .i64 0, .int .i64 0, .string ⟨#[]⟩] 39) (.cells #[.string ⟨#[]⟩, .int .i64 0, .int .i64 0] 59)
          have r1_2 := hlt r1 (.cells #[.int .i64 0, .int .i64 0, .string ⟨#[]⟩] 39) (.cells #[.string ⟨#[]⟩, .int .i64 0, .int .i64 0] 59)
          have r2_2 := hlt r2 (.cells #[.int .i64 0, .int .i64 0, .string ⟨#[]⟩] 39) (.cells #[.string ⟨#[]⟩, .int .i64 0, .int .i64 0] 59)
          have y1_3 := hlt y1 (.cells #[.string ⟨#[]⟩, .int .i64 0, .int .i64 0] 59) (.cells #[.int .i64 v.1, .int .i64 v.2.1, .string v.2.2] 39)
          have q0_3 := hlt q0 (.cells #[.string ⟨#[]⟩, .int .i64 0, .int .i64 0] 59) (.cells #[.int .i64 v.1, .int .i64 v.2.1, .string v.2.2] 39)
          have q1_3 := hlt q1 (.cells #[.string ⟨#[]⟩, .int .i64 0, .int .i64 0] 59) (.cells #[.int .i64 v.1, .int .i64 v.2.1, .string v.2.2] 39)
          have q2_3 := hlt q2 (.cells #[.string ⟨#[]⟩, .int .i64 0, .int .i64 0] 59) (.cells #[.int .i64 v.1, .int .i64 v.2.1, .string v.2.2] 39)
          have r0_3 := hlt r0 (.cells #[.string ⟨#[]⟩, .int .i64 0, .int .i64 0] 59) (.cells #[.int .i64 v.1, .int .i64 v.2.1, .string v.2.2] 39)
          have r1_3 := hlt r1 (.cells #[.string ⟨#[]⟩, .int .i64 0, .int .i64 0] 59) (.cells #[.int .i64 v.1, .int .i64 v.2.1, .string v.2.2] 39)
          have r2_3 := hlt r2 (.cells #[.string ⟨#[]⟩, .int .i64 0, .int .i64 0] 59) (.cells #[.int .i64 v.1, .int .i64 v.2.1, .string v.2.2] 39)
          have y1_4 := hlt y1 (.cells #[.int .i64 v.1, .int .i64 v.2.1, .string v.2.2] 39) (.cells #[.string ⟨#[]⟩, .int .i64 0, .int .i64 0] 59)
          have q0_4 := hlt q0 (.cells #[.int .i64 v.1, .int .i64 v.2.1, .string v.2.2] 39) (.cells #[.string ⟨#[]⟩, .int .i64 0, .int .i64 0] 59)
          have q1_4 := hlt q1 (.cells #[.int .i64 v.1, .int .i64 v.2.1, .string v.2.2] 39) (.cells #[.string ⟨#[]⟩, .int .i64 0, .int .i64 0] 59)
          have q2_4 := hlt q2 (.cells #[.int .i64 v.1, .int .i64 v.2.1, .string v.2.2] 39) (.cells #[.string ⟨#[]⟩, .int .i64 0, .int .i64 0] 59)
          have r0_4 := hlt r0 (.cells #[.int .i64 v.1, .int .i64 v.2.1, .string v.2.2] 39) (.cells #[.string ⟨#[]⟩, .int .i64 0, .int .i64 0] 59)
          have r1_4 := hlt r1 (.cells #[.int .i64 v.1, .int .i64 v.2.1, .string v.2.2] 39) (.cells #[.string ⟨#[]⟩, .int .i64 0, .int .i64 0] 59)
          have r2_4 := hlt r2 (.cells #[.int .i64 v.1, .int .i64 v.2.1, .string v.2.2] 39) (.cells #[.string ⟨#[]⟩, .int .i64 0, .int .i64 0] 59)
          have y1_5 := hlt y1 (.cells #[.string c.1, .int .i64 c.2.1, .int .i64 c.2.2] 59) (.cells #[.int .i64 0, .int .i64 0, .string ⟨#[]⟩] 39)
          have q0_5 := hlt q0 (.cells #[.string c.1, .int .i64 c.2.1, .int .i64 c.2.2] 59) (.cells #[.int .i64 0, .int .i64 0, .string ⟨#[]⟩] 39)
          have q1_5 := hlt q1 (.cells #[.string c.1, .int .i64 c.2.1, .int .i64 c.2.2] 59) (.cells #[.int .i64 0, .int .i64 0, .string ⟨#[]⟩] 39)
          have q2_5 := hlt q2 (.cells #[.string c.1, .int .i64 c.2.1, .int .i64 c.2.2] 59) (.cells #[.int .i64 0, .int .i64 0, .string ⟨#[]⟩] 39)
          have r0_5 := hlt r0 (.cells #[.string c.1, .int .i64 c.2.1, .int .i64 c.2.2] 59) (.cells #[.int .i64 0, .int .i64 0, .string ⟨#[]⟩] 39)
          have r1_5 := hlt r1 (.cells #[.string c.1, .int .i64 c.2.1, .int .i64 c.2.2] 59) (.cells #[.int .i64 0, .int .i64 0, .string ⟨#[]⟩] 39)
          have r2_5 := hlt r2 (.cells #[.string c.1, .int .i64 c.2.1, .int .i64 c.2.2] 59) (.cells #[.int .i64 0, .int .i64 0, .string ⟨#[]⟩] 39)
          have y1_6 := hlt y1 (.cells #[.int .i64 0, .int .i64 0, .string ⟨#[]⟩] 39) (.cells #[.string c.1, .int .i64 c.2.1, .int .i64 c.2.2] 59)
          have q0_6 := hlt q0 (.cells #[.int .i64 0, .int .i64 0, .string ⟨#[]⟩] 39) (.cells #[.string c.1, .int .i64 c.2.1, .int .i64 c.2.2] 59)
          have q1_6 := hlt q1 (.cells #[.int .i64 0, .int .i64 0, .string ⟨#[]⟩] 39) (.cells #[.string c.1, .int .i64 c.2.1, .int .i64 c.2.2] 59)
          have q2_6 := hlt q2 (.cells #[.int .i64 0, .int .i64 0, .string ⟨#[]⟩] 39) (.cells #[.string c.1, .int .i64 c.2.1, .int .i64 c.2.2] 59)
          have r0_6 := hlt r0 (.cells #[.int .i64 0, .int .i64 0, .string ⟨#[]⟩] 39) (.cells #[.string c.1, .int .i64 c.2.1, .int .i64 c.2.2] 59)
          have r1_6 := hlt r1 (.cells #[.int .i64 0, .int .i64 0, .string ⟨#[]⟩] 39) (.cells #[.string c.1, .int .i64 c.2.1, .int .i64 c.2.2] 59)
          have r2_6 := hlt r2 (.cells #[.int .i64 0, .int .i64 0, .string ⟨#[]⟩] 39) (.cells #[.string c.1, .int .i64 c.2.1, .int .i64 c.2.2] 59)
          have y1_7 := hlt y1 (.cells #[.string c.1, .int .i64 c.2.1, .int .i64 c.2.2] 59) (.cells #[.int .i64 v.1, .int .i64 v.2.1, .string v.2.2] 39)
          have q0_7 := hlt q0 (.cells #[.string c.1, .int .i64 c.2.1, .int .i64 c.2.2] 59) (.cells #[.int .i64 v.1, .int .i64 v.2.1, .string v.2.2] 39)
          have q1_7 := hlt q1 (.cells #[.string c.1, .int .i64 c.2.1, .int .i64 c.2.2] 59) (.cells #[.int .i64 v.1, .int .i64 v.2.1, .string v.2.2] 39)
          have q2_7 := hlt q2 (.cells #[.string c.1, .int .i64 c.2.1, .int .i64 c.2.2] 59) (.cells #[.int .i64 v.1, .int .i64 v.2.1, .string v.2.2] 39)
          have r0_7 := hlt r0 (.cells #[.string c.1, .int .i64 c.2.1, .int .i64 c.2.2] 59) (.cells #[.int .i64 v.1, .int .i64 v.2.1, .string v.2.2] 39)
          have r1_7 := hlt r1 (.cells #[.string c.1, .int .i64 c.2.1, .int .i64 c.2.2] 59) (.cells #[.int .i64 v.1, .int .i64 v.2.1, .string v.2.2] 39)
          have r2_7 := hlt r2 (.cells #[.string c.1, .int .i64 c.2.1, .int .i64 c.2.2] 59) (.cells #[.int .i64 v.1, .int .i64 v.2.1, .string v.2.2] 39)
          have y1_8 := hlt y1 (.cells #[.int .i64 v.1, .int .i64 v.2.1, .string v.2.2] 39) (.cells #[.string c.1, .int .i64 c.2.1, .int .i64 c.2.2] 59)
          have q0_8 := hlt q0 (.cells #[.int .i64 v.1, .int .i64 v.2.1, .string v.2.2] 39) (.cells #[.string c.1, .int .i64 c.2.1, .int .i64 c.2.2] 59)
          have q1_8 := hlt q1 (.cells #[.int .i64 v.1, .int .i64 v.2.1, .string v.2.2] 39) (.cells #[.string c.1, .int .i64 c.2.1, .int .i64 c.2.2] 59)
          have q2_8 := hlt q2 (.cells #[.int .i64 v.1, .int .i64 v.2.1, .string v.2.2] 39) (.cells #[.string c.1, .int .i64 c.2.1, .int .i64 c.2.2] 59)
          have r0_8 := hlt r0 (.cells #[.int .i64 v.1, .int .i64 v.2.1, .string v.2.2] 39) (.cells #[.string c.1, .int .i64 c.2.1, .int .i64 c.2.2] 59)
          have r1_8 := hlt r1 (.cells #[.int .i64 v.1, .int .i64 v.2.1, .string v.2.2] 39) (.cells #[.string c.1, .int .i64 c.2.1, .int .i64 c.2.2] 59)
          have r2_8 := hlt r2 (.cells #[.int .i64 v.1, .int .i64 v.2.1, .string v.2.2] 39) (.cells #[.string c.1, .int .i64 c.2.1, .int .i64 c.2.2] 59)
          have y1_21 := hl1 y1 (.cells #[.string ⟨#[]⟩, .int .i64 0, .int .i64 0] 59)
          have q0_21 := hl1 q0 (.cells #[.string ⟨#[]⟩, .int .i64 0, .int .i64 0] 59)
          have q1_21 := hl1 q1 (.cells #[.string ⟨#[]⟩, .int .i64 0, .int .i64 0] 59)
          have q2_21 := hl1 q2 (.cells #[.string ⟨#[]⟩, .int .i64 0, .int .i64 0] 59)
          have r0_21 := hl1 r0 (.cells #[.string ⟨#[]⟩, .int .i64 0, .int .i64 0] 59)
          have r1_21 := hl1 r1 (.cells #[.string ⟨#[]⟩, .int .i64 0, .int .i64 0] 59)
          have r2_21 := hl1 r2 (.cells #[.string ⟨#[]⟩, .int .i64 0, .int .i64 0] 59)
          have y1_22 := hl1 y1 (.cells #[.string c.1, .int .i64 c.2.1, .int .i64 c.2.2] 59)
          have q0_22 := hl1 q0 (.cells #[.string c.1, .int .i64 c.2.1, .int .i64 c.2.2] 59)
          have q1_22 := hl1 q1 (.cells #[.string c.1, .int .i64 c.2.1, .int .i64 c.2.2] 59)
          have q2_22 := hl1 q2 (.cells #[.string c.1, .int .i64 c.2.1, .int .i64 c.2.2] 59)
          have r0_22 := hl1 r0 (.cells #[.string c.1, .int .i64 c.2.1, .int .i64 c.2.2] 59)
          have r1_22 := hl1 r1 (.cells #[.string c.1, .int .i64 c.2.1, .int .i64 c.2.2] 59)
          have r2_22 := hl1 r2 (.cells #[.string c.1, .int .i64 c.2.1, .int .i64 c.2.2] 59)
          have y1_23 := hl1 y1 (.cells #[.int .i64 0, .int .i64 0, .string ⟨#[]⟩] 39)
          have q0_23 := hl1 q0 (.cells #[.int .i64 0, .int .i64 0, .string ⟨#[]⟩] 39)
          have q1_23 := hl1 q1 (.cells #[.int .i64 0, .int .i64 0, .string ⟨#[]⟩] 39)
          have q2_23 := hl1 q2 (.cells #[.int .i64 0, .int .i64 0, .string ⟨#[]⟩] 39)
          have r0_23 := hl1 r0 (.cells #[.int .i64 0, .int .i64 0, .string ⟨#[]⟩] 39)
          have r1_23 := hl1 r1 (.cells #[.int .i64 0, .int .i64 0, .string ⟨#[]⟩] 39)
          have r2_23 := hl1 r2 (.cells #[.int .i64 0, .int .i64 0, .string ⟨#[]⟩] 39)
          have y1_24 := hl1 y1 (.cells #[.int .i64 v.1, .int .i64 v.2.1, .string v.2.2] 39)
          have q0_24 := hl1 q0 (.cells #[.int .i64 v.1, .int .i64 v.2.1, .string v.2.2] 39)
          have q1_24 := hl1 q1 (.cells #[.int .i64 v.1, .int .i64 v.2.1, .string v.2.2] 39)
          have q2_24 := hl1 q2 (.cells #[.int .i64 v.1, .int .i64 v.2.1, .string v.2.2] 39)
          have r0_24 := hl1 r0 (.cells #[.int .i64 v.1, .int .i64 v.2.1, .string v.2.2] 39)
          have r1_24 := hl1 r1 (.cells #[.int .i64 v.1, .int .i64 v.2.1, .string v.2.2] 39)
          have r2_24 := hl1 r2 (.cells #[.int .i64 v.1, .int .i64 v.2.1, .string v.2.2] 39)
          clear hlt hl1
          go_region
          · go_wp2
            go_meet
            refine ⟨_, _, rfl, rfl, ?_, ?_, ?_⟩
            · first | exact heap_alloc2_old wr _ _ | exact heap_alloc2_new wr _ _
            · first | exact heap_alloc2_old wr _ _ | exact heap_alloc2_new wr _ _
            · first | exact ((below_box wr _).trans ((below_box _ _).mono (below_box wr _).size)).drew | exact ((below_box wr _).trans ((below_box _ _).mono (below_box wr _).size))
          · go_wp2
            go_meet
            refine ⟨_, _, rfl, rfl, ?_, ?_, ?_⟩
            · first | exact heap_alloc2_old wr _ _ | exact heap_alloc2_new wr _ _
            · first | exact heap_alloc2_old wr _ _ | exact heap_alloc2_new wr _ _
            · first | exact ((below_box wr _).trans ((below_box _ _).mono (below_box wr _).size)).drew | exact ((below_box wr _).trans ((below_box _ _).mono (below_box wr _).size))
        case rest =>
          obtain ⟨g6, g7, rfl, rfl, h6, h7, hbw⟩ := hcut
          have H62 := hide h6
          have H72 := hide h7
          have HB2' : Hid (Below w2.heap.size w2 wc) := HBR.out.trans (hbw.mono HBR.out.size)
          have HBS : Hid (w2.heap.size ≤ wc.heap.size) := HB2'.out.size
          have HSZ := HS.out v (List.mem_of_getElem? hvj)
          have HRT : Hid (Calls Try.prog 33 #[.agg #[.int .i64 v.1, .int .i64 v.2.1, .string v.2.2]] wc.drew fun e w' => e = .returned (.int .i64 v.err) ∧ Below wc.drew.heap.size wc.drew w') := refRight_any v.1 v.2.1 v.2.2 wc.drew HSZ
          have HRU := hide (fun ww => refRunes_any v.2.2 ww HSZ)
          have HRC : Hid (v.err = 0 → countOf (runes (bl v.2.2)) = (rcn v.2.2 : Int)) := fun q => rcn_text q
          have HZ : Hid (v.err = 0 → v.1 ≠ 2 → rcn v.2.2 = 0) := fun q r => rcn_zero q r
          have HNX : Hid (fitsN s l (j + 1) = fitsB c v) := by
            show (fitsN s l j && (match s.cs[j]?, l[j]? with | some c, some v => fitsB c v | _, _ => true)) = _
            rw [HY.out, hvj, hcj, Bool.true_and]
          have HMX : Hid (0 ≤ c.2.2) := (HPT.out j c hcj).m0
          have HBAD : Hid (fitsB c v = false → s.fits l = 62) := fun q => by
            rw [HE0.out]
            split
            · rfl
            · rw [if_neg]
              rw [fitsN_no (j := j + 1) (by rw [HNX.out, q]) (by omega)]
              simp
          have HB0 : Hid (j = 0 → v.1 = 0 → s.fits l = 62) := fun q r => by
            rw [HE0.out, if_pos]
            rw [List.getD_eq_getElem?_getD, ← q, hvj]
            exact r
          have HF0 : Hid (j = 0 → v.1 ≠ 0 → (l.getD 0 (0, 0, ⟨#[]⟩)).1 ≠ 0) := fun q r => by
            rw [List.getD_eq_getElem?_getD, ← q, hvj]
            exact r
          have HX : Hid ((fun wx => (wx.cell? ⟨g6, 0, none⟩ = some (.int .i64 v.1) ∧ wx.cell? ⟨g6, 1, none⟩ = some (.int .i64 v.2.1) ∧ wx.cell? ⟨g6, 2, none⟩ = some (.string v.2.2)) ∧ wx.cell? ⟨g7, 1, none⟩ = some (.int .i64 c.2.1) ∧ wx.cell? ⟨g7, 2, none⟩ = some (.int .i64 c.2.2)) wc.drew) := ⟨⟨cell_blk H62.out, cell_blk H62.out, cell_blk H62.out⟩, cell_blk H72.out, cell_blk H72.out⟩
          clear h6 h7 hbw HSZ hvj hcj y1 q0 q1 q2 r0 r1 r2 hlt hl1
          go_upto_region 9 with fail
          by_cases h0 : v.err = 0
          · rw [h0] at HRT
            have H0 := hide h0
            clear h0
            by_cases hk1 : v.1 = c.2.1
            · have dk1 : (v.1 != c.2.1) = false := by simp [hk1]
              have HKK : Hid (v.1 = c.2.1 ∨ v.1 = 0) := Or.inl hk1
              clear hk1
              by_cases hj0 : j = 0
              · have dj : ((j : Int) == 0) = true := by simp [hj0]
                by_cases hk0 : v.1 = 0
                · have dk0 : (v.1 == 0) = true := by simp [hk0]
                  have dn0 : (v.1 != 0) = false := by simp [hk0]
                  have HE := hide (HB0.out hj0 hk0)
                  clear hj0 hk0
                  refine wp_region_noPanic ?_
                  refine wp_region_held_drew (S := fun wx => (wx.cell? ⟨g6, 0, none⟩ = some (.int .i64 v.1) ∧ wx.cell? ⟨g6, 1, none⟩ = some (.int .i64 v.2.1) ∧ wx.cell? ⟨g6, 2, none⟩ = some (.string v.2.2)) ∧ wx.cell? ⟨g7, 1, none⟩ = some (.int .i64 c.2.1) ∧ wx.cell? ⟨g7, 2, none⟩ = some (.int .i64 c.2.2)) (by kernel_rfl) HX.out (fun hHeld => ?_)
                  refine wpAnyH_takeAt (i := 0) (d := 32) (v := ?vup0) (by kernel_rfl) (by kernel_rfl) (by kernel_rfl) (by kernel_rfl) (fun _ _ _ h => h) ?hyup0 (by assumption) ?restup0
                  case hyup0 =>
                    intro oi ho
                    simp only [List.getElem?_toArray, List.getElem?_cons_zero, Option.some.injEq] at ho
                    subst ho
                    refine Or.inl ⟨by rfl, ?_⟩
                    intro wx hSw
                    try dsimp only at hSw
                    go_simp
                    try rfl
                  try simp only [Act.put, List.setIfInBounds_toArray, List.set_cons_zero, List.set_cons_succ]
                  refine wpAnyH_comesAt (i := 1) (by kernel_rfl) (by kernel_rfl) ?_
                  intro o ho K hK
                  simp only [List.getElem?_toArray, List.getElem?_cons_succ, List.getElem?_cons_zero, Option.some.injEq] at ho
                  subst ho
                  go_simp
                  refine HRT.out.mono ?_
                  rintro e w3 ⟨rfl, hb⟩
                  have HB3 : Hid (Below wc.drew.heap.size wc.drew w3) := hb
                  have H63 := hide ((hb.block g6 (blk_lt H62.out)).trans H62.out)
                  have H73 := hide ((hb.block g7 (blk_lt H72.out)).trans H72.out)
                  clear hb hHeld
                  refine hK.out _ _ ⟨⟨cell_blk H63.out, cell_blk H63.out, cell_blk H63.out⟩, cell_blk H73.out, cell_blk H73.out⟩ (fun hHeld => ?_)
                  clear hK K
                  try simp only [Act.put, List.setIfInBounds_toArray, List.set_cons_zero, List.set_cons_succ]
                  refine wpAnyH_takeAt (i := 2) (d := 34) (v := ?vup2) (by kernel_rfl) (by kernel_rfl) (by kernel_rfl) (by kernel_rfl) (fun _ _ _ h => h) ?hyup2 (by assumption) ?restup2
                  case hyup2 =>
                    intro oi ho
                    simp only [List.getElem?_toArray, List.getElem?_cons_succ, List.getElem?_cons_zero, Option.some.injEq] at ho
                    subst ho
                    refine Or.inl ⟨by rfl, ?_⟩
                    intro wx hSw
                    try dsimp only at hSw
                    go_simp
                    try rfl
                  try simp only [Act.put, List.setIfInBounds_toArray, List.set_cons_zero, List.set_cons_succ]
                  refine wpAnyH_takeAt (i := 3) (d := 35) (v := ?vup3) (by kernel_rfl) (by kernel_rfl) (by kernel_rfl) (by kernel_rfl) (fun _ _ _ h => h) ?hyup3 (by assumption) ?restup3
                  case hyup3 =>
                    intro oi ho
                    simp only [List.getElem?_toArray, List.getElem?_cons_succ, List.getElem?_cons_zero, Option.some.injEq] at ho
                    subst ho
                    refine Or.inl ⟨by rfl, ?_⟩
                    intro wx hSw
                    try dsimp only at hSw
                    go_simp
                    try rfl
                  try simp only [Act.put, List.setIfInBounds_toArray, List.set_cons_zero, List.set_cons_succ]
                  refine wpAnyH_takeAt (i := 4) (d := 36) (v := ?vup4) (by kernel_rfl) (by kernel_rfl) (by kernel_rfl) (by kernel_rfl) (fun _ _ _ h => h) ?hyup4 (by assumption) ?restup4
                  case hyup4 =>
                    intro oi ho
                    simp only [List.getElem?_toArray, List.getElem?_cons_succ, List.getElem?_cons_zero, Option.some.injEq] at ho
                    subst ho
                    refine Or.inl ⟨by rfl, ?_⟩
                    intro wx hSw
                    try dsimp only at hSw
                    go_simp
                    try rfl
                  try simp only [Act.put, List.setIfInBounds_toArray, List.set_cons_zero, List.set_cons_succ]
                  refine wpAnyH_takeAt (i := 5) (d := 37) (v := ?vup5) (by kernel_rfl) (by kernel_rfl) (by kernel_rfl) (by kernel_rfl) (fun _ _ _ h => h) ?hyup5 (by assumption) ?restup5
                  case hyup5 =>
                    intro oi ho
                    simp only [List.getElem?_toArray, List.getElem?_cons_succ, List.getElem?_cons_zero, Option.some.injEq] at ho
                    subst ho
                    refine Or.inl ⟨by rfl, ?_⟩
                    intro wx hSw
                    try dsimp only at hSw
                    go_simp
                    try rfl
                  try simp only [Act.put, List.setIfInBounds_toArray, List.set_cons_zero, List.set_cons_succ]
                  refine wpAnyH_takeAt (i := 6) (d := 38) (v := ?vup6) (by kernel_rfl) (by kernel_rfl) (by kernel_rfl) (by kernel_rfl) (fun _ _ _ h => h) ?hyup6 (by assumption) ?restup6
                  case hyup6 =>
                    intro oi ho
                    simp only [List.getElem?_toArray, List.getElem?_cons_succ, List.getElem?_cons_zero, Option.some.injEq] at ho
                    subst ho
                    refine Or.inl ⟨by rfl, ?_⟩
                    intro wx hSw
                    try dsimp only at hSw
                    go_simp
                    try rfl
                  try simp only [Act.put, List.setIfInBounds_toArray, List.set_cons_zero, List.set_cons_succ]
                  refine wpAnyH_takeAt (i := 7) (d := 39) (v := ?vup7) (by kernel_rfl) (by kernel_rfl) (by kernel_rfl) (by kernel_rfl) (fun _ _ _ h => h) ?hyup7 (by assumption) ?restup7
                  case hyup7 =>
                    intro oi ho
                    simp only [List.getElem?_toArray, List.getElem?_cons_succ, List.getElem?_cons_zero, Option.some.injEq] at ho
                    subst ho
                    refine Or.inl ⟨by rfl, ?_⟩
                    intro wx hSw
                    try dsimp only at hSw
                    go_simp
                    try rfl
                  try simp only [Act.put, List.setIfInBounds_toArray, List.set_cons_zero, List.set_cons_succ]
                  refine wpAnyH_takeAt (i := 8) (d := 40) (v := ?vup8) (by kernel_rfl) (by kernel_rfl) (by kernel_rfl) (by kernel_rfl) (fun _ _ _ h => h) ?hyup8 (by assumption) ?restup8
                  case hyup8 =>
                    intro oi ho
                    simp only [List.getElem?_toArray, List.getElem?_cons_succ, List.getElem?_cons_zero, Option.some.injEq] at ho
                    subst ho
                    refine Or.inl ⟨by rfl, ?_⟩
                    intro wx hSw
                    try dsimp only at hSw
                    go_simp
                    try rfl
                  try simp only [Act.put, List.setIfInBounds_toArray, List.set_cons_zero, List.set_cons_succ]
                  refine wpAnyH_takeAt (i := 9) (d := 41) (v := ?vup9) (by kernel_rfl) (by kernel_rfl) (by kernel_rfl) (by kernel_rfl) (fun _ _ _ h => h) ?hyup9 (by assumption) ?restup9
                  case hyup9 =>
                    intro oi ho
                    simp only [List.getElem?_toArray, List.getElem?_cons_succ, List.getElem?_cons_zero, Option.some.injEq] at ho
                    subst ho
                    refine Or.inl ⟨by rfl, ?_⟩
                    intro wx hSw
                    try dsimp only at hSw
                    go_simp
                    try rfl
                  try simp only [Act.put, List.setIfInBounds_toArray, List.set_cons_zero, List.set_cons_succ]
                  refine wpAnyH_takeAt (i := 10) (d := 42) (v := undef) (by kernel_rfl) (by kernel_rfl) (by kernel_rfl) (by kernel_rfl) (fun _ _ _ h => h) ?hyup10 (by assumption) ?restup10
                  case hyup10 =>
                    intro oi ho
                    simp only [List.getElem?_toArray, List.getElem?_cons_succ, List.getElem?_cons_zero, Option.some.injEq] at ho
                    subst ho
                    exact Or.inr ⟨by rfl, rfl⟩
                  try simp only [Act.put, List.setIfInBounds_toArray, List.set_cons_zero, List.set_cons_succ]
                  refine wpAnyH_takeAt (i := 11) (d := 43) (v := undef) (by kernel_rfl) (by kernel_rfl) (by kernel_rfl) (by kernel_rfl) (fun _ _ _ h => h) ?hyup11 (by assumption) ?restup11
                  case hyup11 =>
                    intro oi ho
                    simp only [List.getElem?_toArray, List.getElem?_cons_succ, List.getElem?_cons_zero, Option.some.injEq] at ho
                    subst ho
                    exact Or.inr ⟨by rfl, rfl⟩
                  try simp only [Act.put, List.setIfInBounds_toArray, List.set_cons_zero, List.set_cons_succ]
                  refine wpAnyH_takeAt (i := 12) (d := 44) (v := undef) (by kernel_rfl) (by kernel_rfl) (by kernel_rfl) (by kernel_rfl) (fun _ _ _ h => h) ?hyup12 (by assumption) ?restup12
                  case hyup12 =>
                    intro oi ho
                    simp only [List.getElem?_toArray, List.getElem?_cons_succ, List.getElem?_cons_zero, Option.some.injEq] at ho
                    subst ho
                    exact Or.inr ⟨by rfl, rfl⟩
                  try simp only [Act.put, List.setIfInBounds_toArray, List.set_cons_zero, List.set_cons_succ]
                  refine wpAnyH_takeAt (i := 13) (d := 45) (v := ?vup13) (by kernel_rfl) (by kernel_rfl) (by kernel_rfl) (by kernel_rfl) (fun _ _ _ h => h) ?hyup13 (by assumption) ?restup13
                  case hyup13 =>
                    intro oi ho
                    simp only [List.getElem?_toArray, List.getElem?_cons_succ, List.getElem?_cons_zero, Option.some.injEq] at ho
                    subst ho
                    refine Or.inl ⟨by rfl, ?_⟩
                    intro wx hSw
                    try dsimp only at hSw
                    go_simp
                    try rfl
                  try simp only [Act.put, List.setIfInBounds_toArray, List.set_cons_zero, List.set_cons_succ]
                  refine wpAnyH_takeAt (i := 14) (d := 46) (v := ?vup14) (by kernel_rfl) (by kernel_rfl) (by kernel_rfl) (by kernel_rfl) (fun _ _ _ h => h) ?hyup14 (by assumption) ?restup14
                  case hyup14 =>
                    intro oi ho
                    simp only [List.getElem?_toArray, List.getElem?_cons_succ, List.getElem?_cons_zero, Option.some.injEq] at ho
                    subst ho
                    refine Or.inl ⟨by rfl, ?_⟩
                    intro wx hSw
                    try dsimp only at hSw
                    go_simp
                    try rfl
                  try simp only [Act.put, List.setIfInBounds_toArray, List.set_cons_zero, List.set_cons_succ]
                  refine wpAnyH_takeAt (i := 15) (d := 47) (v := ?vup15) (by kernel_rfl) (by kernel_rfl) (by kernel_rfl) (by kernel_rfl) (fun _ _ _ h => h) ?hyup15 (by assumption) ?restup15
                  case hyup15 =>
                    intro oi ho
                    simp only [List.getElem?_toArray, List.getElem?_cons_succ, List.getElem?_cons_zero, Option.some.injEq] at ho
                    subst ho
                    refine Or.inl ⟨by rfl, ?_⟩
                    intro wx hSw
                    try dsimp only at hSw
                    go_simp
                    try rfl
                  try simp only [Act.put, List.setIfInBounds_toArray, List.set_cons_zero, List.set_cons_succ]
                  refine wpAnyH_takeAt (i := 16) (d := 48) (v := ?vup16) (by kernel_rfl) (by kernel_rfl) (by kernel_rfl) (by kernel_rfl) (fun _ _ _ h => h) ?hyup16 (by assumption) ?restup16
                  case hyup16 =>
                    intro oi ho
                    simp only [List.getElem?_toArray, List.getElem?_cons_succ, List.getElem?_cons_zero, Option.some.injEq] at ho
                    subst ho
                    refine Or.inl ⟨by rfl, ?_⟩
                    intro wx hSw
                    try dsimp only at hSw
                    go_simp
                    try rfl
                  try simp only [Act.put, List.setIfInBounds_toArray, List.set_cons_zero, List.set_cons_succ]
                  refine wpAnyH_takeAt (i := 17) (d := 49) (v := ?vup17) (by kernel_rfl) (by kernel_rfl) (by kernel_rfl) (by kernel_rfl) (fun _ _ _ h => h) ?hyup17 (by assumption) ?restup17
                  case hyup17 =>
                    intro oi ho
                    simp only [List.getElem?_toArray, List.getElem?_cons_succ, List.getElem?_cons_zero, Option.some.injEq] at ho
                    subst ho
                    refine Or.inl ⟨by rfl, ?_⟩
                    intro wx hSw
                    try dsimp only at hSw
                    go_simp
                    try rfl
                  try simp only [Act.put, List.setIfInBounds_toArray, List.set_cons_zero, List.set_cons_succ]
                  refine wpAnyH_takeAt (i := 18) (d := 50) (v := ?vup18) (by kernel_rfl) (by kernel_rfl) (by kernel_rfl) (by kernel_rfl) (fun _ _ _ h => h) ?hyup18 (by assumption) ?restup18
                  case hyup18 =>
                    intro oi ho
                    simp only [List.getElem?_toArray, List.getElem?_cons_succ, List.getElem?_cons_zero, Option.some.injEq] at ho
                    subst ho
                    refine Or.inl ⟨by rfl, ?_⟩
                    intro wx hSw
                    try dsimp only at hSw
                    go_simp
                    try rfl
                  try simp only [Act.put, List.setIfInBounds_toArray, List.set_cons_zero, List.set_cons_succ]
                  refine wpAnyH_takeAt (i := 19) (d := 51) (v := ?vup19) (by kernel_rfl) (by kernel_rfl) (by kernel_rfl) (by kernel_rfl) (fun _ _ _ h => h) ?hyup19 (by assumption) ?restup19
                  case hyup19 =>
                    intro oi ho
                    simp only [List.getElem?_toArray, List.getElem?_cons_succ, List.getElem?_cons_zero, Option.some.injEq] at ho
                    subst ho
                    refine Or.inl ⟨by rfl, ?_⟩
                    intro wx hSw
                    try dsimp only at hSw
                    go_simp
                    try rfl
                  try simp only [Act.put, List.setIfInBounds_toArray, List.set_cons_zero, List.set_cons_succ]
                  refine wpAnyH_takeAt (i := 20) (d := 52) (v := ?vup20) (by kernel_rfl) (by kernel_rfl) (by kernel_rfl) (by kernel_rfl) (fun _ _ _ h => h) ?hyup20 (by assumption) ?restup20
                  case hyup20 =>
                    intro oi ho
                    simp only [List.getElem?_toArray, List.getElem?_cons_succ, List.getElem?_cons_zero, Option.some.injEq] at ho
                    subst ho
                    refine Or.inl ⟨by rfl, ?_⟩
                    intro wx hSw
                    try dsimp only at hSw
                    go_simp
                    try rfl
                  try simp only [Act.put, List.setIfInBounds_toArray, List.set_cons_zero, List.set_cons_succ]
                  refine wpAnyH_takeAt (i := 21) (d := 53) (v := ?vup21) (by kernel_rfl) (by kernel_rfl) (by kernel_rfl) (by kernel_rfl) (fun _ _ _ h => h) ?hyup21 (by assumption) ?restup21
                  case hyup21 =>
                    intro oi ho
                    simp only [List.getElem?_toArray, List.getElem?_cons_succ, List.getElem?_cons_zero, Option.some.injEq] at ho
                    subst ho
                    refine Or.inl ⟨by rfl, ?_⟩
                    intro wx hSw
                    try dsimp only at hSw
                    go_simp
                    try rfl
                  try simp only [Act.put, List.setIfInBounds_toArray, List.set_cons_zero, List.set_cons_succ]
                  refine wpAnyH_takeAt (i := 22) (d := 54) (v := ?vup22) (by kernel_rfl) (by kernel_rfl) (by kernel_rfl) (by kernel_rfl) (fun _ _ _ h => h) ?hyup22 (by assumption) ?restup22
                  case hyup22 =>
                    intro oi ho
                    simp only [List.getElem?_toArray, List.getElem?_cons_succ, List.getElem?_cons_zero, Option.some.injEq] at ho
                    subst ho
                    refine Or.inl ⟨by rfl, ?_⟩
                    intro wx hSw
                    try dsimp only at hSw
                    go_simp
                    try rfl
                  try simp only [Act.put, List.setIfInBounds_toArray, List.set_cons_zero, List.set_cons_succ]
                  refine wpAnyH_takeAt (i := 23) (d := 55) (v := ?vup23) (by kernel_rfl) (by kernel_rfl) (by kernel_rfl) (by kernel_rfl) (fun _ _ _ h => h) ?hyup23 (by assumption) ?restup23
                  case hyup23 =>
                    intro oi ho
                    simp only [List.getElem?_toArray, List.getElem?_cons_succ, List.getElem?_cons_zero, Option.some.injEq] at ho
                    subst ho
                    refine Or.inl ⟨by rfl, ?_⟩
                    intro wx hSw
                    try dsimp only at hSw
                    go_simp
                    try rfl
                  try simp only [Act.put, List.setIfInBounds_toArray, List.set_cons_zero, List.set_cons_succ]
                  refine wpAnyH_takeAt (i := 24) (d := 56) (v := ?vup24) (by kernel_rfl) (by kernel_rfl) (by kernel_rfl) (by kernel_rfl) (fun _ _ _ h => h) ?hyup24 (by assumption) ?restup24
                  case hyup24 =>
                    intro oi ho
                    simp only [List.getElem?_toArray, List.getElem?_cons_succ, List.getElem?_cons_zero, Option.some.injEq] at ho
                    subst ho
                    refine Or.inl ⟨by rfl, ?_⟩
                    intro wx hSw
                    try dsimp only at hSw
                    go_simp
                    try rfl
                  try simp only [Act.put, List.setIfInBounds_toArray, List.set_cons_zero, List.set_cons_succ]
                  refine wpAnyH_takeAt (i := 25) (d := 57) (v := undef) (by kernel_rfl) (by kernel_rfl) (by kernel_rfl) (by kernel_rfl) (fun _ _ _ h => h) ?hyup25 (by assumption) ?restup25
                  case hyup25 =>
                    intro oi ho
                    simp only [List.getElem?_toArray, List.getElem?_cons_succ, List.getElem?_cons_zero, Option.some.injEq] at ho
                    subst ho
                    exact Or.inr ⟨by rfl, rfl⟩
                  try simp only [Act.put, List.setIfInBounds_toArray, List.set_cons_zero, List.set_cons_succ]
                  refine wpAnyH_takeAt (i := 26) (d := 58) (v := undef) (by kernel_rfl) (by kernel_rfl) (by kernel_rfl) (by kernel_rfl) (fun _ _ _ h => h) ?hyup26 (by assumption) ?restup26
                  case hyup26 =>
                    intro oi ho
                    simp only [List.getElem?_toArray, List.getElem?_cons_succ, List.getElem?_cons_zero, Option.some.injEq] at ho
                    subst ho
                    exact Or.inr ⟨by rfl, rfl⟩
                  try simp only [Act.put, List.setIfInBounds_toArray, List.set_cons_zero, List.set_cons_succ]
                  refine wpAnyH_takeAt (i := 27) (d := 59) (v := undef) (by kernel_rfl) (by kernel_rfl) (by kernel_rfl) (by kernel_rfl) (fun _ _ _ h => h) ?hyup27 (by assumption) ?restup27
                  case hyup27 =>
                    intro oi ho
                    simp only [List.getElem?_toArray, List.getElem?_cons_succ, List.getElem?_cons_zero, Option.some.injEq] at ho
                    subst ho
                    exact Or.inr ⟨by rfl, rfl⟩
                  try simp only [Act.put, List.setIfInBounds_toArray, List.set_cons_zero, List.set_cons_succ]
                  refine wpAnyH_takeAt (i := 28) (d := 60) (v := undef) (by kernel_rfl) (by kernel_rfl) (by kernel_rfl) (by kernel_rfl) (fun _ _ _ h => h) ?hyup28 (by assumption) ?restup28
                  case hyup28 =>
                    intro oi ho
                    simp only [List.getElem?_toArray, List.getElem?_cons_succ, List.getElem?_cons_zero, Option.some.injEq] at ho
                    subst ho
                    exact Or.inr ⟨by rfl, rfl⟩
                  try simp only [Act.put, List.setIfInBounds_toArray, List.set_cons_zero, List.set_cons_succ]
                  refine wpAnyH_takeAt (i := 29) (d := 61) (v := undef) (by kernel_rfl) (by kernel_rfl) (by kernel_rfl) (by kernel_rfl) (fun _ _ _ h => h) ?hyup29 (by assumption) ?restup29
                  case hyup29 =>
                    intro oi ho
                    simp only [List.getElem?_toArray, List.getElem?_cons_succ, List.getElem?_cons_zero, Option.some.injEq] at ho
                    subst ho
                    exact Or.inr ⟨by rfl, rfl⟩
                  try simp only [Act.put, List.setIfInBounds_toArray, List.set_cons_zero, List.set_cons_succ]
                  refine wpAnyH_takeAt (i := 30) (d := 62) (v := undef) (by kernel_rfl) (by kernel_rfl) (by kernel_rfl) (by kernel_rfl) (fun _ _ _ h => h) ?hyup30 (by assumption) ?restup30
                  case hyup30 =>
                    intro oi ho
                    simp only [List.getElem?_toArray, List.getElem?_cons_succ, List.getElem?_cons_zero, Option.some.injEq] at ho
                    subst ho
                    exact Or.inr ⟨by rfl, rfl⟩
                  try simp only [Act.put, List.setIfInBounds_toArray, List.set_cons_zero, List.set_cons_succ]
                  refine wpAnyH_takeAt (i := 32) (d := 64) (v := undef) (by kernel_rfl) (by kernel_rfl) (by kernel_rfl) (by kernel_rfl) (fun _ _ _ h => h) ?hyup32 (by assumption) ?restup32
                  case hyup32 =>
                    intro oi ho
                    simp only [List.getElem?_toArray, List.getElem?_cons_succ, List.getElem?_cons_zero, Option.some.injEq] at ho
                    subst ho
                    exact Or.inr ⟨by rfl, rfl⟩
                  try simp only [Act.put, List.setIfInBounds_toArray, List.set_cons_zero, List.set_cons_succ]
                  refine wpAnyH_takeAt (i := 33) (d := 65) (v := undef) (by kernel_rfl) (by kernel_rfl) (by kernel_rfl) (by kernel_rfl) (fun _ _ _ h => h) ?hyup33 (by assumption) ?restup33
                  case hyup33 =>
                    intro oi ho
                    simp only [List.getElem?_toArray, List.getElem?_cons_succ, List.getElem?_cons_zero, Option.some.injEq] at ho
                    subst ho
                    exact Or.inr ⟨by rfl, rfl⟩
                  try simp only [Act.put, List.setIfInBounds_toArray, List.set_cons_zero, List.set_cons_succ]
                  refine wpAnyH_takeAt (i := 31) (d := 63) (v := undef) (by kernel_rfl) (by kernel_rfl) (by kernel_rfl) (by kernel_rfl) (fun _ _ _ h => h) ?hyup31 (by assumption) ?restup31
                  case hyup31 =>
                    intro oi ho
                    simp only [List.getElem?_toArray, List.getElem?_cons_succ, List.getElem?_cons_zero, Option.some.injEq] at ho
                    subst ho
                    exact Or.inr ⟨by rfl, rfl⟩
                  try simp only [Act.put, List.setIfInBounds_toArray, List.set_cons_zero, List.set_cons_succ]
                  refine wpAnyH_takeAt (i := 34) (d := 66) (v := undef) (by kernel_rfl) (by kernel_rfl) (by kernel_rfl) (by kernel_rfl) (fun _ _ _ h => h) ?hyup34 (by assumption) ?restup34
                  case hyup34 =>
                    intro oi ho
                    simp only [List.getElem?_toArray, List.getElem?_cons_succ, List.getElem?_cons_zero, Option.some.injEq] at ho
                    subst ho
                    exact Or.inr ⟨by rfl, rfl⟩
                  try simp only [Act.put, List.setIfInBounds_toArray, List.set_cons_zero, List.set_cons_succ]
                  refine wpAnyH_takeAt (i := 35) (d := 67) (v := undef) (by kernel_rfl) (by kernel_rfl) (by kernel_rfl) (by kernel_rfl) (fun _ _ _ h => h) ?hyup35 (by assumption) ?restup35
                  case hyup35 =>
                    intro oi ho
                    simp only [List.getElem?_toArray, List.getElem?_cons_succ, List.getElem?_cons_zero, Option.some.injEq] at ho
                    subst ho
                    exact Or.inr ⟨by rfl, rfl⟩
                  try simp only [Act.put, List.setIfInBounds_toArray, List.set_cons_zero, List.set_cons_succ]
                  refine wpAnyH_takeAt (i := 36) (d := 68) (v := ?vup36) (by kernel_rfl) (by kernel_rfl) (by kernel_rfl) (by kernel_rfl) (fun _ _ _ h => h) ?hyup36 (by assumption) ?restup36
                  case hyup36 =>
                    intro oi ho
                    simp only [List.getElem?_toArray, List.getElem?_cons_succ, List.getElem?_cons_zero, Option.some.injEq] at ho
                    subst ho
                    refine Or.inl ⟨by rfl, ?_⟩
                    intro wx hSw
                    try dsimp only at hSw
                    go_simp
                    try rfl
                  try simp only [Act.put, List.setIfInBounds_toArray, List.set_cons_zero, List.set_cons_succ]
                  refine wpAnyH_done (by kernel_rfl) ?_ _
                  refine NoPanic.normal ?_
                  clear hHeld
                  go_wp2
                  go_ret
                  exact ⟨by rw [HE.out]; rfl, HB2.out.trans ((HB2'.out.drew.trans (HB3.out.mono HBS.out)).mono HLB.out)⟩
                · have dk0 : (v.1 == 0) = false := by simp [hk0]
                  have dn0 : (v.1 != 0) = true := by simp [hk0]
                  have HFN : Hid ((l.getD 0 (0, 0, ⟨#[]⟩)).1 ≠ 0) := HF0.out hj0 hk0
                  clear hk0 hj0
                  by_cases hk2 : v.1 = 2
                  · have k2 : (v.1 == 2) = true := by simp [hk2]
                    rw [HRC.out H0.out] at HRU
                    clear hk2
                    by_cases hm : c.2.2 < (rcn v.2.2 : Int)
                    · have dm : decide (c.2.2 < (rcn v.2.2 : Int)) = true := decide_eq_true hm
                      refine wp_region_noPanic ?_
                      refine wp_region_held_drew (S := fun wx => (wx.cell? ⟨g6, 0, none⟩ = some (.int .i64 v.1) ∧ wx.cell? ⟨g6, 1, none⟩ = some (.int .i64 v.2.1) ∧ wx.cell? ⟨g6, 2, none⟩ = some (.string v.2.2)) ∧ wx.cell? ⟨g7, 1, none⟩ = some (.int .i64 c.2.1) ∧ wx.cell? ⟨g7, 2, none⟩ = some (.int .i64 c.2.2)) (by kernel_rfl) HX.out (fun hHeld => ?_)
                      refine wpAnyH_takeAt (i := 0) (d := 32) (v := ?vuqx0) (by kernel_rfl) (by kernel_rfl) (by kernel_rfl) (by kernel_rfl) (fun _ _ _ h => h) ?hyuqx0 (by assumption) ?restuqx0
                      case hyuqx0 =>
                        intro oi ho
                        simp only [List.getElem?_toArray, List.getElem?_cons_zero, Option.some.injEq] at ho
                        subst ho
                        refine Or.inl ⟨by rfl, ?_⟩
                        intro wx hSw
                        try dsimp only at hSw
                        go_simp
                        try rfl
                      try simp only [Act.put, List.setIfInBounds_toArray, List.set_cons_zero, List.set_cons_succ]
                      refine wpAnyH_comesAt (i := 1) (by kernel_rfl) (by kernel_rfl) ?_
                      intro o ho K hK
                      simp only [List.getElem?_toArray, List.getElem?_cons_succ, List.getElem?_cons_zero, Option.some.injEq] at ho
                      subst ho
                      go_simp
                      refine HRT.out.mono ?_
                      rintro e w3 ⟨rfl, hb⟩
                      have HB3 : Hid (Below wc.drew.heap.size wc.drew w3) := hb
                      have H63 := hide ((hb.block g6 (blk_lt H62.out)).trans H62.out)
                      have H73 := hide ((hb.block g7 (blk_lt H72.out)).trans H72.out)
                      clear hb hHeld
                      refine hK.out _ _ ⟨⟨cell_blk H63.out, cell_blk H63.out, cell_blk H63.out⟩, cell_blk H73.out, cell_blk H73.out⟩ (fun hHeld => ?_)
                      clear hK K
                      try simp only [Act.put, List.setIfInBounds_toArray, List.set_cons_zero, List.set_cons_succ]
                      refine wpAnyH_takeAt (i := 2) (d := 34) (v := ?vuqx2) (by kernel_rfl) (by kernel_rfl) (by kernel_rfl) (by kernel_rfl) (fun _ _ _ h => h) ?hyuqx2 (by assumption) ?restuqx2
                      case hyuqx2 =>
                        intro oi ho
                        simp only [List.getElem?_toArray, List.getElem?_cons_succ, List.getElem?_cons_zero, Option.some.injEq] at ho
                        subst ho
                        refine Or.inl ⟨by rfl, ?_⟩
                        intro wx hSw
                        try dsimp only at hSw
                        go_simp
                        try rfl
                      try simp only [Act.put, List.setIfInBounds_toArray, List.set_cons_zero, List.set_cons_succ]
                      refine wpAnyH_takeAt (i := 3) (d := 35) (v := ?vuqx3) (by kernel_rfl) (by kernel_rfl) (by kernel_rfl) (by kernel_rfl) (fun _ _ _ h => h) ?hyuqx3 (by assumption) ?restuqx3
                      case hyuqx3 =>
                        intro oi ho
                        simp only [List.getElem?_toArray, List.getElem?_cons_succ, List.getElem?_cons_zero, Option.some.injEq] at ho
                        subst ho
                        refine Or.inl ⟨by rfl, ?_⟩
                        intro wx hSw
                        try dsimp only at hSw
                        go_simp
                        try rfl
                      try simp only [Act.put, List.setIfInBounds_toArray, List.set_cons_zero, List.set_cons_succ]
                      refine wpAnyH_takeAt (i := 4) (d := 36) (v := ?vuqx4) (by kernel_rfl) (by kernel_rfl) (by kernel_rfl) (by kernel_rfl) (fun _ _ _ h => h) ?hyuqx4 (by assumption) ?restuqx4
                      case hyuqx4 =>
                        intro oi ho
                        simp only [List.getElem?_toArray, List.getElem?_cons_succ, List.getElem?_cons_zero, Option.some.injEq] at ho
                        subst ho
                        refine Or.inl ⟨by rfl, ?_⟩
                        intro wx hSw
                        try dsimp only at hSw
                        go_simp
                        try rfl
                      try simp only [Act.put, List.setIfInBounds_toArray, List.set_cons_zero, List.set_cons_succ]
                      refine wpAnyH_takeAt (i := 5) (d := 37) (v := ?vuqx5) (by kernel_rfl) (by kernel_rfl) (by kernel_rfl) (by kernel_rfl) (fun _ _ _ h => h) ?hyuqx5 (by assumption) ?restuqx5
                      case hyuqx5 =>
                        intro oi ho
                        simp only [List.getElem?_toArray, List.getElem?_cons_succ, List.getElem?_cons_zero, Option.some.injEq] at ho
                        subst ho
                        refine Or.inl ⟨by rfl, ?_⟩
                        intro wx hSw
                        try dsimp only at hSw
                        go_simp
                        try rfl
                      try simp only [Act.put, List.setIfInBounds_toArray, List.set_cons_zero, List.set_cons_succ]
                      refine wpAnyH_takeAt (i := 6) (d := 38) (v := ?vuqx6) (by kernel_rfl) (by kernel_rfl) (by kernel_rfl) (by kernel_rfl) (fun _ _ _ h => h) ?hyuqx6 (by assumption) ?restuqx6
                      case hyuqx6 =>
                        intro oi ho
                        simp only [List.getElem?_toArray, List.getElem?_cons_succ, List.getElem?_cons_zero, Option.some.injEq] at ho
                        subst ho
                        refine Or.inl ⟨by rfl, ?_⟩
                        intro wx hSw
                        try dsimp only at hSw
                        go_simp
                        try rfl
                      try simp only [Act.put, List.setIfInBounds_toArray, List.set_cons_zero, List.set_cons_succ]
                      refine wpAnyH_takeAt (i := 7) (d := 39) (v := ?vuqx7) (by kernel_rfl) (by kernel_rfl) (by kernel_rfl) (by kernel_rfl) (fun _ _ _ h => h) ?hyuqx7 (by assumption) ?restuqx7
                      case hyuqx7 =>
                        intro oi ho
                        simp only [List.getElem?_toArray, List.getElem?_cons_succ, List.getElem?_cons_zero, Option.some.injEq] at ho
                        subst ho
                        refine Or.inl ⟨by rfl, ?_⟩
                        intro wx hSw
                        try dsimp only at hSw
                        go_simp
                        try rfl
                      try simp only [Act.put, List.setIfInBounds_toArray, List.set_cons_zero, List.set_cons_succ]
                      refine wpAnyH_takeAt (i := 8) (d := 40) (v := ?vuqx8) (by kernel_rfl) (by kernel_rfl) (by kernel_rfl) (by kernel_rfl) (fun _ _ _ h => h) ?hyuqx8 (by assumption) ?restuqx8
                      case hyuqx8 =>
                        intro oi ho
                        simp only [List.getElem?_toArray, List.getElem?_cons_succ, List.getElem?_cons_zero, Option.some.injEq] at ho
                        subst ho
                        refine Or.inl ⟨by rfl, ?_⟩
                        intro wx hSw
                        try dsimp only at hSw
                        go_simp
                        try rfl
                      try simp only [Act.put, List.setIfInBounds_toArray, List.set_cons_zero, List.set_cons_succ]
                      refine wpAnyH_takeAt (i := 9) (d := 41) (v := ?vuqx9) (by kernel_rfl) (by kernel_rfl) (by kernel_rfl) (by kernel_rfl) (fun _ _ _ h => h) ?hyuqx9 (by assumption) ?restuqx9
                      case hyuqx9 =>
                        intro oi ho
                        simp only [List.getElem?_toArray, List.getElem?_cons_succ, List.getElem?_cons_zero, Option.some.injEq] at ho
                        subst ho
                        refine Or.inl ⟨by rfl, ?_⟩
                        intro wx hSw
                        try dsimp only at hSw
                        go_simp
                        try rfl
                      try simp only [Act.put, List.setIfInBounds_toArray, List.set_cons_zero, List.set_cons_succ]
                      refine wpAnyH_takeAt (i := 10) (d := 42) (v := undef) (by kernel_rfl) (by kernel_rfl) (by kernel_rfl) (by kernel_rfl) (fun _ _ _ h => h) ?hyuqx10 (by assumption) ?restuqx10
                      case hyuqx10 =>
                        intro oi ho
                        simp only [List.getElem?_toArray, List.getElem?_cons_succ, List.getElem?_cons_zero, Option.some.injEq] at ho
                        subst ho
                        exact Or.inr ⟨by rfl, rfl⟩
                      try simp only [Act.put, List.setIfInBounds_toArray, List.set_cons_zero, List.set_cons_succ]
                      refine wpAnyH_takeAt (i := 11) (d := 43) (v := undef) (by kernel_rfl) (by kernel_rfl) (by kernel_rfl) (by kernel_rfl) (fun _ _ _ h => h) ?hyuqx11 (by assumption) ?restuqx11
                      case hyuqx11 =>
                        intro oi ho
                        simp only [List.getElem?_toArray, List.getElem?_cons_succ, List.getElem?_cons_zero, Option.some.injEq] at ho
                        subst ho
                        exact Or.inr ⟨by rfl, rfl⟩
                      try simp only [Act.put, List.setIfInBounds_toArray, List.set_cons_zero, List.set_cons_succ]
                      refine wpAnyH_takeAt (i := 12) (d := 44) (v := undef) (by kernel_rfl) (by kernel_rfl) (by kernel_rfl) (by kernel_rfl) (fun _ _ _ h => h) ?hyuqx12 (by assumption) ?restuqx12
                      case hyuqx12 =>
                        intro oi ho
                        simp only [List.getElem?_toArray, List.getElem?_cons_succ, List.getElem?_cons_zero, Option.some.injEq] at ho
                        subst ho
                        exact Or.inr ⟨by rfl, rfl⟩
                      try simp only [Act.put, List.setIfInBounds_toArray, List.set_cons_zero, List.set_cons_succ]
                      refine wpAnyH_takeAt (i := 13) (d := 45) (v := ?vuqx13) (by kernel_rfl) (by kernel_rfl) (by kernel_rfl) (by kernel_rfl) (fun _ _ _ h => h) ?hyuqx13 (by assumption) ?restuqx13
                      case hyuqx13 =>
                        intro oi ho
                        simp only [List.getElem?_toArray, List.getElem?_cons_succ, List.getElem?_cons_zero, Option.some.injEq] at ho
                        subst ho
                        refine Or.inl ⟨by rfl, ?_⟩
                        intro wx hSw
                        try dsimp only at hSw
                        go_simp
                        try rfl
                      try simp only [Act.put, List.setIfInBounds_toArray, List.set_cons_zero, List.set_cons_succ]
                      refine wpAnyH_takeAt (i := 14) (d := 46) (v := ?vuqx14) (by kernel_rfl) (by kernel_rfl) (by kernel_rfl) (by kernel_rfl) (fun _ _ _ h => h) ?hyuqx14 (by assumption) ?restuqx14
                      case hyuqx14 =>
                        intro oi ho
                        simp only [List.getElem?_toArray, List.getElem?_cons_succ, List.getElem?_cons_zero, Option.some.injEq] at ho
                        subst ho
                        refine Or.inl ⟨by rfl, ?_⟩
                        intro wx hSw
                        try dsimp only at hSw
                        go_simp
                        try rfl
                      try simp only [Act.put, List.setIfInBounds_toArray, List.set_cons_zero, List.set_cons_succ]
                      refine wpAnyH_takeAt (i := 15) (d := 47) (v := ?vuqx15) (by kernel_rfl) (by kernel_rfl) (by kernel_rfl) (by kernel_rfl) (fun _ _ _ h => h) ?hyuqx15 (by assumption) ?restuqx15
                      case hyuqx15 =>
                        intro oi ho
                        simp only [List.getElem?_toArray, List.getElem?_cons_succ, List.getElem?_cons_zero, Option.some.injEq] at ho
                        subst ho
                        refine Or.inl ⟨by rfl, ?_⟩
                        intro wx hSw
                        try dsimp only at hSw
                        go_simp
                        try rfl
                      try simp only [Act.put, List.setIfInBounds_toArray, List.set_cons_zero, List.set_cons_succ]
                      refine wpAnyH_takeAt (i := 16) (d := 48) (v := ?vuqx16) (by kernel_rfl) (by kernel_rfl) (by kernel_rfl) (by kernel_rfl) (fun _ _ _ h => h) ?hyuqx16 (by assumption) ?restuqx16
                      case hyuqx16 =>
                        intro oi ho
                        simp only [List.getElem?_toArray, List.getElem?_cons_succ, List.getElem?_cons_zero, Option.some.injEq] at ho
                        subst ho
                        refine Or.inl ⟨by rfl, ?_⟩
                        intro wx hSw
                        try dsimp only at hSw
                        go_simp
                        try rfl
                      try simp only [Act.put, List.setIfInBounds_toArray, List.set_cons_zero, List.set_cons_succ]
                      refine wpAnyH_takeAt (i := 17) (d := 49) (v := ?vuqx17) (by kernel_rfl) (by kernel_rfl) (by kernel_rfl) (by kernel_rfl) (fun _ _ _ h => h) ?hyuqx17 (by assumption) ?restuqx17
                      case hyuqx17 =>
                        intro oi ho
                        simp only [List.getElem?_toArray, List.getElem?_cons_succ, List.getElem?_cons_zero, Option.some.injEq] at ho
                        subst ho
                        refine Or.inl ⟨by rfl, ?_⟩
                        intro wx hSw
                        try dsimp only at hSw
                        go_simp
                        try rfl
                      try simp only [Act.put, List.setIfInBounds_toArray, List.set_cons_zero, List.set_cons_succ]
                      refine wpAnyH_takeAt (i := 18) (d := 50) (v := ?vuqx18) (by kernel_rfl) (by kernel_rfl) (by kernel_rfl) (by kernel_rfl) (fun _ _ _ h => h) ?hyuqx18 (by assumption) ?restuqx18
                      case hyuqx18 =>
                        intro oi ho
                        simp only [List.getElem?_toArray, List.getElem?_cons_succ, List.getElem?_cons_zero, Option.some.injEq] at ho
                        subst ho
                        refine Or.inl ⟨by rfl, ?_⟩
                        intro wx hSw
                        try dsimp only at hSw
                        go_simp
                        try rfl
                      try simp only [Act.put, List.setIfInBounds_toArray, List.set_cons_zero, List.set_cons_succ]
                      refine wpAnyH_takeAt (i := 19) (d := 51) (v := ?vuqx19) (by kernel_rfl) (by kernel_rfl) (by kernel_rfl) (by kernel_rfl) (fun _ _ _ h => h) ?hyuqx19 (by assumption) ?restuqx19
                      case hyuqx19 =>
                        intro oi ho
                        simp only [List.getElem?_toArray, List.getElem?_cons_succ, List.getElem?_cons_zero, Option.some.injEq] at ho
                        subst ho
                        refine Or.inl ⟨by rfl, ?_⟩
                        intro wx hSw
                        try dsimp only at hSw
                        go_simp
                        try rfl
                      try simp only [Act.put, List.setIfInBounds_toArray, List.set_cons_zero, List.set_cons_succ]
                      refine wpAnyH_takeAt (i := 20) (d := 52) (v := ?vuqx20) (by kernel_rfl) (by kernel_rfl) (by kernel_rfl) (by kernel_rfl) (fun _ _ _ h => h) ?hyuqx20 (by assumption) ?restuqx20
                      case hyuqx20 =>
                        intro oi ho
                        simp only [List.getElem?_toArray, List.getElem?_cons_succ, List.getElem?_cons_zero, Option.some.injEq] at ho
                        subst ho
                        refine Or.inl ⟨by rfl, ?_⟩
                        intro wx hSw
                        try dsimp only at hSw
                        go_simp
                        try rfl
                      try simp only [Act.put, List.setIfInBounds_toArray, List.set_cons_zero, List.set_cons_succ]
                      refine wpAnyH_takeAt (i := 21) (d := 53) (v := ?vuqx21) (by kernel_rfl) (by kernel_rfl) (by kernel_rfl) (by kernel_rfl) (fun _ _ _ h => h) ?hyuqx21 (by assumption) ?restuqx21
                      case hyuqx21 =>
                        intro oi ho
                        simp only [List.getElem?_toArray, List.getElem?_cons_succ, List.getElem?_cons_zero, Option.some.injEq] at ho
                        subst ho
                        refine Or.inl ⟨by rfl, ?_⟩
                        intro wx hSw
                        try dsimp only at hSw
                        go_simp
                        try rfl
                      try simp only [Act.put, List.setIfInBounds_toArray, List.set_cons_zero, List.set_cons_succ]
                      refine wpAnyH_takeAt (i := 22) (d := 54) (v := ?vuqx22) (by kernel_rfl) (by kernel_rfl) (by kernel_rfl) (by kernel_rfl) (fun _ _ _ h => h) ?hyuqx22 (by assumption) ?restuqx22
                      case hyuqx22 =>
                        intro oi ho
                        simp only [List.getElem?_toArray, List.getElem?_cons_succ, List.getElem?_cons_zero, Option.some.injEq] at ho
                        subst ho
                        refine Or.inl ⟨by rfl, ?_⟩
                        intro wx hSw
                        try dsimp only at hSw
                        go_simp
                        try rfl
                      try simp only [Act.put, List.setIfInBounds_toArray, List.set_cons_zero, List.set_cons_succ]
                      refine wpAnyH_takeAt (i := 23) (d := 55) (v := ?vuqx23) (by kernel_rfl) (by kernel_rfl) (by kernel_rfl) (by kernel_rfl) (fun _ _ _ h => h) ?hyuqx23 (by assumption) ?restuqx23
                      case hyuqx23 =>
                        intro oi ho
                        simp only [List.getElem?_toArray, List.getElem?_cons_succ, List.getElem?_cons_zero, Option.some.injEq] at ho
                        subst ho
                        refine Or.inl ⟨by rfl, ?_⟩
                        intro wx hSw
                        try dsimp only at hSw
                        go_simp
                        try rfl
                      try simp only [Act.put, List.setIfInBounds_toArray, List.set_cons_zero, List.set_cons_succ]
                      refine wpAnyH_takeAt (i := 24) (d := 56) (v := ?vuqx24) (by kernel_rfl) (by kernel_rfl) (by kernel_rfl) (by kernel_rfl) (fun _ _ _ h => h) ?hyuqx24 (by assumption) ?restuqx24
                      case hyuqx24 =>
                        intro oi ho
                        simp only [List.getElem?_toArray, List.getElem?_cons_succ, List.getElem?_cons_zero, Option.some.injEq] at ho
                        subst ho
                        refine Or.inl ⟨by rfl, ?_⟩
                        intro wx hSw
                        try dsimp only at hSw
                        go_simp
                        try rfl
                      try simp only [Act.put, List.setIfInBounds_toArray, List.set_cons_zero, List.set_cons_succ]
                      refine wpAnyH_takeAt (i := 25) (d := 57) (v := ?vuqx25) (by kernel_rfl) (by kernel_rfl) (by kernel_rfl) (by kernel_rfl) (fun _ _ _ h => h) ?hyuqx25 (by assumption) ?restuqx25
                      case hyuqx25 =>
                        intro oi ho
                        simp only [List.getElem?_toArray, List.getElem?_cons_succ, List.getElem?_cons_zero, Option.some.injEq] at ho
                        subst ho
                        refine Or.inl ⟨by rfl, ?_⟩
                        intro wx hSw
                        try dsimp only at hSw
                        go_simp
                        try rfl
                      try simp only [Act.put, List.setIfInBounds_toArray, List.set_cons_zero, List.set_cons_succ]
                      refine wpAnyH_takeAt (i := 26) (d := 58) (v := ?vuqx26) (by kernel_rfl) (by kernel_rfl) (by kernel_rfl) (by kernel_rfl) (fun _ _ _ h => h) ?hyuqx26 (by assumption) ?restuqx26
                      case hyuqx26 =>
                        intro oi ho
                        simp only [List.getElem?_toArray, List.getElem?_cons_succ, List.getElem?_cons_zero, Option.some.injEq] at ho
                        subst ho
                        refine Or.inl ⟨by rfl, ?_⟩
                        intro wx hSw
                        try dsimp only at hSw
                        go_simp
                        try rfl
                      try simp only [Act.put, List.setIfInBounds_toArray, List.set_cons_zero, List.set_cons_succ]
                      refine wpAnyH_takeAt (i := 27) (d := 59) (v := ?vuqx27) (by kernel_rfl) (by kernel_rfl) (by kernel_rfl) (by kernel_rfl) (fun _ _ _ h => h) ?hyuqx27 (by assumption) ?restuqx27
                      case hyuqx27 =>
                        intro oi ho
                        simp only [List.getElem?_toArray, List.getElem?_cons_succ, List.getElem?_cons_zero, Option.some.injEq] at ho
                        subst ho
                        refine Or.inl ⟨by rfl, ?_⟩
                        intro wx hSw
                        try dsimp only at hSw
                        go_simp
                        try rfl
                      try simp only [Act.put, List.setIfInBounds_toArray, List.set_cons_zero, List.set_cons_succ]
                      refine wpAnyH_takeAt (i := 28) (d := 60) (v := ?vuqx28) (by kernel_rfl) (by kernel_rfl) (by kernel_rfl) (by kernel_rfl) (fun _ _ _ h => h) ?hyuqx28 (by assumption) ?restuqx28
                      case hyuqx28 =>
                        intro oi ho
                        simp only [List.getElem?_toArray, List.getElem?_cons_succ, List.getElem?_cons_zero, Option.some.injEq] at ho
                        subst ho
                        refine Or.inl ⟨by rfl, ?_⟩
                        intro wx hSw
                        try dsimp only at hSw
                        go_simp
                        try rfl
                      try simp only [Act.put, List.setIfInBounds_toArray, List.set_cons_zero, List.set_cons_succ]
                      refine wpAnyH_takeAt (i := 29) (d := 61) (v := ?vuqx29) (by kernel_rfl) (by kernel_rfl) (by kernel_rfl) (by kernel_rfl) (fun _ _ _ h => h) ?hyuqx29 (by assumption) ?restuqx29
                      case hyuqx29 =>
                        intro oi ho
                        simp only [List.getElem?_toArray, List.getElem?_cons_succ, List.getElem?_cons_zero, Option.some.injEq] at ho
                        subst ho
                        refine Or.inl ⟨by rfl, ?_⟩
                        intro wx hSw
                        try dsimp only at hSw
                        go_simp
                        try rfl
                      try simp only [Act.put, List.setIfInBounds_toArray, List.set_cons_zero, List.set_cons_succ]
                      refine wpAnyH_takeAt (i := 30) (d := 62) (v := ?vuqx30) (by kernel_rfl) (by kernel_rfl) (by kernel_rfl) (by kernel_rfl) (fun _ _ _ h => h) ?hyuqx30 (by assumption) ?restuqx30
                      case hyuqx30 =>
                        intro oi ho
                        simp only [List.getElem?_toArray, List.getElem?_cons_succ, List.getElem?_cons_zero, Option.some.injEq] at ho
                        subst ho
                        refine Or.inl ⟨by rfl, ?_⟩
                        intro wx hSw
                        try dsimp only at hSw
                        go_simp
                        try rfl
                      try simp only [Act.put, List.setIfInBounds_toArray, List.set_cons_zero, List.set_cons_succ]
                      refine wpAnyH_takeAt (i := 32) (d := 64) (v := ?vuqx32) (by kernel_rfl) (by kernel_rfl) (by kernel_rfl) (by kernel_rfl) (fun _ _ _ h => h) ?hyuqx32 (by assumption) ?restuqx32
                      case hyuqx32 =>
                        intro oi ho
                        simp only [List.getElem?_toArray, List.getElem?_cons_succ, List.getElem?_cons_zero, Option.some.injEq] at ho
                        subst ho
                        refine Or.inl ⟨by rfl, ?_⟩
                        intro wx hSw
                        try dsimp only at hSw
                        go_simp
                        try rfl
                      try simp only [Act.put, List.setIfInBounds_toArray, List.set_cons_zero, List.set_cons_succ]
                      refine wpAnyH_takeAt (i := 33) (d := 65) (v := ?vuqx33) (by kernel_rfl) (by kernel_rfl) (by kernel_rfl) (by kernel_rfl) (fun _ _ _ h => h) ?hyuqx33 (by assumption) ?restuqx33
                      case hyuqx33 =>
                        intro oi ho
                        simp only [List.getElem?_toArray, List.getElem?_cons_succ, List.getElem?_cons_zero, Option.some.injEq] at ho
                        subst ho
                        refine Or.inl ⟨by rfl, ?_⟩
                        intro wx hSw
                        try dsimp only at hSw
                        go_simp
                        try rfl
                      try simp only [Act.put, List.setIfInBounds_toArray, List.set_cons_zero, List.set_cons_succ]
                      refine wpAnyH_comesAt (i := 31) (by kernel_rfl) (by kernel_rfl) ?_
                      intro o ho K hK
                      simp only [List.getElem?_toArray, List.getElem?_cons_succ, List.getElem?_cons_zero, Option.some.injEq] at ho
                      subst ho
                      go_simp
                      refine (HRU.out w3).mono ?_
                      rintro e w4 ⟨rfl, hb⟩
                      have HB4 : Hid (Below wc.drew.heap.size wc.drew w4) := HB3.out.trans (hb.mono HB3.out.size)
                      have H64 := hide ((hb.block g6 (blk_lt H63.out)).trans H63.out)
                      have H74 := hide ((hb.block g7 (blk_lt H73.out)).trans H73.out)
                      clear hb hHeld
                      refine hK.out _ _ ⟨⟨cell_blk H64.out, cell_blk H64.out, cell_blk H64.out⟩, cell_blk H74.out, cell_blk H74.out⟩ (fun hHeld => ?_)
                      clear hK K
                      try simp only [Act.put, List.setIfInBounds_toArray, List.set_cons_zero, List.set_cons_succ]
                      refine wpAnyH_takeAt (i := 34) (d := 66) (v := ?vuqx34) (by kernel_rfl) (by kernel_rfl) (by kernel_rfl) (by kernel_rfl) (fun _ _ _ h => h) ?hyuqx34 (by assumption) ?restuqx34
                      case hyuqx34 =>
                        intro oi ho
                        simp only [List.getElem?_toArray, List.getElem?_cons_succ, List.getElem?_cons_zero, Option.some.injEq] at ho
                        subst ho
                        refine Or.inl ⟨by rfl, ?_⟩
                        intro wx hSw
                        try dsimp only at hSw
                        go_simp
                        try rfl
                      try simp only [Act.put, List.setIfInBounds_toArray, List.set_cons_zero, List.set_cons_succ]
                      refine wpAnyH_takeAt (i := 35) (d := 67) (v := ?vuqx35) (by kernel_rfl) (by kernel_rfl) (by kernel_rfl) (by kernel_rfl) (fun _ _ _ h => h) ?hyuqx35 (by assumption) ?restuqx35
                      case hyuqx35 =>
                        intro oi ho
                        simp only [List.getElem?_toArray, List.getElem?_cons_succ, List.getElem?_cons_zero, Option.some.injEq] at ho
                        subst ho
                        refine Or.inl ⟨by rfl, ?_⟩
                        intro wx hSw
                        try dsimp only at hSw
                        go_simp
                        try rfl
                      try simp only [Act.put, List.setIfInBounds_toArray, List.set_cons_zero, List.set_cons_succ]
                      refine wpAnyH_takeAt (i := 36) (d := 68) (v := ?vuqx36) (by kernel_rfl) (by kernel_rfl) (by kernel_rfl) (by kernel_rfl) (fun _ _ _ h => h) ?hyuqx36 (by assumption) ?restuqx36
                      case hyuqx36 =>
                        intro oi ho
                        simp only [List.getElem?_toArray, List.getElem?_cons_succ, List.getElem?_cons_zero, Option.some.injEq] at ho
                        subst ho
                        refine Or.inl ⟨by rfl, ?_⟩
                        intro wx hSw
                        try dsimp only at hSw
                        go_simp
                        try rfl
                      try simp only [Act.put, List.setIfInBounds_toArray, List.set_cons_zero, List.set_cons_succ]
                      refine wpAnyH_done (by kernel_rfl) ?_ _
                      refine NoPanic.normal ?_
                      clear hHeld
                      have HE := hide (HBAD.out (by unfold fitsB; rw [decide_eq_false (show ¬ (rcn v.2.2 : Int) ≤ c.2.2 by omega)]; simp))
                      go_wp2
                      go_ret
                      exact ⟨by rw [HE.out]; rfl, HB2.out.trans ((HB2'.out.drew.trans (HB4.out.mono HBS.out)).mono HLB.out)⟩
                    · have dm : decide (c.2.2 < (rcn v.2.2 : Int)) = false := decide_eq_false hm
                      refine wp_region_noPanic ?_
                      refine wp_region_held_drew (S := fun wx => (wx.cell? ⟨g6, 0, none⟩ = some (.int .i64 v.1) ∧ wx.cell? ⟨g6, 1, none⟩ = some (.int .i64 v.2.1) ∧ wx.cell? ⟨g6, 2, none⟩ = some (.string v.2.2)) ∧ wx.cell? ⟨g7, 1, none⟩ = some (.int .i64 c.2.1) ∧ wx.cell? ⟨g7, 2, none⟩ = some (.int .i64 c.2.2)) (by kernel_rfl) HX.out (fun hHeld => ?_)
                      refine wpAnyH_takeAt (i := 0) (d := 32) (v := ?vuqy0) (by kernel_rfl) (by kernel_rfl) (by kernel_rfl) (by kernel_rfl) (fun _ _ _ h => h) ?hyuqy0 (by assumption) ?restuqy0
                      case hyuqy0 =>
                        intro oi ho
                        simp only [List.getElem?_toArray, List.getElem?_cons_zero, Option.some.injEq] at ho
                        subst ho
                        refine Or.inl ⟨by rfl, ?_⟩
                        intro wx hSw
                        try dsimp only at hSw
                        go_simp
                        try rfl
                      try simp only [Act.put, List.setIfInBounds_toArray, List.set_cons_zero, List.set_cons_succ]
                      refine wpAnyH_comesAt (i := 1) (by kernel_rfl) (by kernel_rfl) ?_
                      intro o ho K hK
                      simp only [List.getElem?_toArray, List.getElem?_cons_succ, List.getElem?_cons_zero, Option.some.injEq] at ho
                      subst ho
                      go_simp
                      refine HRT.out.mono ?_
                      rintro e w3 ⟨rfl, hb⟩
                      have HB3 : Hid (Below wc.drew.heap.size wc.drew w3) := hb
                      have H63 := hide ((hb.block g6 (blk_lt H62.out)).trans H62.out)
                      have H73 := hide ((hb.block g7 (blk_lt H72.out)).trans H72.out)
                      clear hb hHeld
                      refine hK.out _ _ ⟨⟨cell_blk H63.out, cell_blk H63.out, cell_blk H63.out⟩, cell_blk H73.out, cell_blk H73.out⟩ (fun hHeld => ?_)
                      clear hK K
                      try simp only [Act.put, List.setIfInBounds_toArray, List.set_cons_zero, List.set_cons_succ]
                      refine wpAnyH_takeAt (i := 2) (d := 34) (v := ?vuqy2) (by kernel_rfl) (by kernel_rfl) (by kernel_rfl) (by kernel_rfl) (fun _ _ _ h => h) ?hyuqy2 (by assumption) ?restuqy2
                      case hyuqy2 =>
                        intro oi ho
                        simp only [List.getElem?_toArray, List.getElem?_cons_succ, List.getElem?_cons_zero, Option.some.injEq] at ho
                        subst ho
                        refine Or.inl ⟨by rfl, ?_⟩
                        intro wx hSw
                        try dsimp only at hSw
                        go_simp
                        try rfl
                      try simp only [Act.put, List.setIfInBounds_toArray, List.set_cons_zero, List.set_cons_succ]
                      refine wpAnyH_takeAt (i := 3) (d := 35) (v := ?vuqy3) (by kernel_rfl) (by kernel_rfl) (by kernel_rfl) (by kernel_rfl) (fun _ _ _ h => h) ?hyuqy3 (by assumption) ?restuqy3
                      case hyuqy3 =>
                        intro oi ho
                        simp only [List.getElem?_toArray, List.getElem?_cons_succ, List.getElem?_cons_zero, Option.some.injEq] at ho
                        subst ho
                        refine Or.inl ⟨by rfl, ?_⟩
                        intro wx hSw
                        try dsimp only at hSw
                        go_simp
                        try rfl
                      try simp only [Act.put, List.setIfInBounds_toArray, List.set_cons_zero, List.set_cons_succ]
                      refine wpAnyH_takeAt (i := 4) (d := 36) (v := ?vuqy4) (by kernel_rfl) (by kernel_rfl) (by kernel_rfl) (by kernel_rfl) (fun _ _ _ h => h) ?hyuqy4 (by assumption) ?restuqy4
                      case hyuqy4 =>
                        intro oi ho
                        simp only [List.getElem?_toArray, List.getElem?_cons_succ, List.getElem?_cons_zero, Option.some.injEq] at ho
                        subst ho
                        refine Or.inl ⟨by rfl, ?_⟩
                        intro wx hSw
                        try dsimp only at hSw
                        go_simp
                        try rfl
                      try simp only [Act.put, List.setIfInBounds_toArray, List.set_cons_zero, List.set_cons_succ]
                      refine wpAnyH_takeAt (i := 5) (d := 37) (v := ?vuqy5) (by kernel_rfl) (by kernel_rfl) (by kernel_rfl) (by kernel_rfl) (fun _ _ _ h => h) ?hyuqy5 (by assumption) ?restuqy5
                      case hyuqy5 =>
                        intro oi ho
                        simp only [List.getElem?_toArray, List.getElem?_cons_succ, List.getElem?_cons_zero, Option.some.injEq] at ho
                        subst ho
                        refine Or.inl ⟨by rfl, ?_⟩
                        intro wx hSw
                        try dsimp only at hSw
                        go_simp
                        try rfl
                      try simp only [Act.put, List.setIfInBounds_toArray, List.set_cons_zero, List.set_cons_succ]
                      refine wpAnyH_takeAt (i := 6) (d := 38) (v := ?vuqy6) (by kernel_rfl) (by kernel_rfl) (by kernel_rfl) (by kernel_rfl) (fun _ _ _ h => h) ?hyuqy6 (by assumption) ?restuqy6
                      case hyuqy6 =>
                        intro oi ho
                        simp only [List.getElem?_toArray, List.getElem?_cons_succ, List.getElem?_cons_zero, Option.some.injEq] at ho
                        subst ho
                        refine Or.inl ⟨by rfl, ?_⟩
                        intro wx hSw
                        try dsimp only at hSw
                        go_simp
                        try rfl
                      try simp only [Act.put, List.setIfInBounds_toArray, List.set_cons_zero, List.set_cons_succ]
                      refine wpAnyH_takeAt (i := 7) (d := 39) (v := ?vuqy7) (by kernel_rfl) (by kernel_rfl) (by kernel_rfl) (by kernel_rfl) (fun _ _ _ h => h) ?hyuqy7 (by assumption) ?restuqy7
                      case hyuqy7 =>
                        intro oi ho
                        simp only [List.getElem?_toArray, List.getElem?_cons_succ, List.getElem?_cons_zero, Option.some.injEq] at ho
                        subst ho
                        refine Or.inl ⟨by rfl, ?_⟩
                        intro wx hSw
                        try dsimp only at hSw
                        go_simp
                        try rfl
                      try simp only [Act.put, List.setIfInBounds_toArray, List.set_cons_zero, List.set_cons_succ]
                      refine wpAnyH_takeAt (i := 8) (d := 40) (v := ?vuqy8) (by kernel_rfl) (by kernel_rfl) (by kernel_rfl) (by kernel_rfl) (fun _ _ _ h => h) ?hyuqy8 (by assumption) ?restuqy8
                      case hyuqy8 =>
                        intro oi ho
                        simp only [List.getElem?_toArray, List.getElem?_cons_succ, List.getElem?_cons_zero, Option.some.injEq] at ho
                        subst ho
                        refine Or.inl ⟨by rfl, ?_⟩
                        intro wx hSw
                        try dsimp only at hSw
                        go_simp
                        try rfl
                      try simp only [Act.put, List.setIfInBounds_toArray, List.set_cons_zero, List.set_cons_succ]
                      refine wpAnyH_takeAt (i := 9) (d := 41) (v := ?vuqy9) (by kernel_rfl) (by kernel_rfl) (by kernel_rfl) (by kernel_rfl) (fun _ _ _ h => h) ?hyuqy9 (by assumption) ?restuqy9
                      case hyuqy9 =>
                        intro oi ho
                        simp only [List.getElem?_toArray, List.getElem?_cons_succ, List.getElem?_cons_zero, Option.some.injEq] at ho
                        subst ho
                        refine Or.inl ⟨by rfl, ?_⟩
                        intro wx hSw
                        try dsimp only at hSw
                        go_simp
                        try rfl
                      try simp only [Act.put, List.setIfInBounds_toArray, List.set_cons_zero, List.set_cons_succ]
                      refine wpAnyH_takeAt (i := 10) (d := 42) (v := undef) (by kernel_rfl) (by kernel_rfl) (by kernel_rfl) (by kernel_rfl) (fun _ _ _ h => h) ?hyuqy10 (by assumption) ?restuqy10
                      case hyuqy10 =>
                        intro oi ho
                        simp only [List.getElem?_toArray, List.getElem?_cons_succ, List.getElem?_cons_zero, Option.some.injEq] at ho
                        subst ho
                        exact Or.inr ⟨by rfl, rfl⟩
                      try simp only [Act.put, List.setIfInBounds_toArray, List.set_cons_zero, List.set_cons_succ]
                      refine wpAnyH_takeAt (i := 11) (d := 43) (v := undef) (by kernel_rfl) (by kernel_rfl) (by kernel_rfl) (by kernel_rfl) (fun _ _ _ h => h) ?hyuqy11 (by assumption) ?restuqy11
                      case hyuqy11 =>
                        intro oi ho
                        simp only [List.getElem?_toArray, List.getElem?_cons_succ, List.getElem?_cons_zero, Option.some.injEq] at ho
                        subst ho
                        exact Or.inr ⟨by rfl, rfl⟩
                      try simp only [Act.put, List.setIfInBounds_toArray, List.set_cons_zero, List.set_cons_succ]
                      refine wpAnyH_takeAt (i := 12) (d := 44) (v := undef) (by kernel_rfl) (by kernel_rfl) (by kernel_rfl) (by kernel_rfl) (fun _ _ _ h => h) ?hyuqy12 (by assumption) ?restuqy12
                      case hyuqy12 =>
                        intro oi ho
                        simp only [List.getElem?_toArray, List.getElem?_cons_succ, List.getElem?_cons_zero, Option.some.injEq] at ho
                        subst ho
                        exact Or.inr ⟨by rfl, rfl⟩
                      try simp only [Act.put, List.setIfInBounds_toArray, List.set_cons_zero, List.set_cons_succ]
                      refine wpAnyH_takeAt (i := 13) (d := 45) (v := ?vuqy13) (by kernel_rfl) (by kernel_rfl) (by kernel_rfl) (by kernel_rfl) (fun _ _ _ h => h) ?hyuqy13 (by assumption) ?restuqy13
                      case hyuqy13 =>
                        intro oi ho
                        simp only [List.getElem?_toArray, List.getElem?_cons_succ, List.getElem?_cons_zero, Option.some.injEq] at ho
                        subst ho
                        refine Or.inl ⟨by rfl, ?_⟩
                        intro wx hSw
                        try dsimp only at hSw
                        go_simp
                        try rfl
                      try simp only [Act.put, List.setIfInBounds_toArray, List.set_cons_zero, List.set_cons_succ]
                      refine wpAnyH_takeAt (i := 14) (d := 46) (v := ?vuqy14) (by kernel_rfl) (by kernel_rfl) (by kernel_rfl) (by kernel_rfl) (fun _ _ _ h => h) ?hyuqy14 (by assumption) ?restuqy14
                      case hyuqy14 =>
                        intro oi ho
                        simp only [List.getElem?_toArray, List.getElem?_cons_succ, List.getElem?_cons_zero, Option.some.injEq] at ho
                        subst ho
                        refine Or.inl ⟨by rfl, ?_⟩
                        intro wx hSw
                        try dsimp only at hSw
                        go_simp
                        try rfl
                      try simp only [Act.put, List.setIfInBounds_toArray, List.set_cons_zero, List.set_cons_succ]
                      refine wpAnyH_takeAt (i := 15) (d := 47) (v := ?vuqy15) (by kernel_rfl) (by kernel_rfl) (by kernel_rfl) (by kernel_rfl) (fun _ _ _ h => h) ?hyuqy15 (by assumption) ?restuqy15
                      case hyuqy15 =>
                        intro oi ho
                        simp only [List.getElem?_toArray, List.getElem?_cons_succ, List.getElem?_cons_zero, Option.some.injEq] at ho
                        subst ho
                        refine Or.inl ⟨by rfl, ?_⟩
                        intro wx hSw
                        try dsimp only at hSw
                        go_simp
                        try rfl
                      try simp only [Act.put, List.setIfInBounds_toArray, List.set_cons_zero, List.set_cons_succ]
                      refine wpAnyH_takeAt (i := 16) (d := 48) (v := ?vuqy16) (by kernel_rfl) (by kernel_rfl) (by kernel_rfl) (by kernel_rfl) (fun _ _ _ h => h) ?hyuqy16 (by assumption) ?restuqy16
                      case hyuqy16 =>
                        intro oi ho
                        simp only [List.getElem?_toArray, List.getElem?_cons_succ, List.getElem?_cons_zero, Option.some.injEq] at ho
                        subst ho
                        refine Or.inl ⟨by rfl, ?_⟩
                        intro wx hSw
                        try dsimp only at hSw
                        go_simp
                        try rfl
                      try simp only [Act.put, List.setIfInBounds_toArray, List.set_cons_zero, List.set_cons_succ]
                      refine wpAnyH_takeAt (i := 17) (d := 49) (v := ?vuqy17) (by kernel_rfl) (by kernel_rfl) (by kernel_rfl) (by kernel_rfl) (fun _ _ _ h => h) ?hyuqy17 (by assumption) ?restuqy17
                      case hyuqy17 =>
                        intro oi ho
                        simp only [List.getElem?_toArray, List.getElem?_cons_succ, List.getElem?_cons_zero, Option.some.injEq] at ho
                        subst ho
                        refine Or.inl ⟨by rfl, ?_⟩
                        intro wx hSw
                        try dsimp only at hSw
                        go_simp
                        try rfl
                      try simp only [Act.put, List.setIfInBounds_toArray, List.set_cons_zero, List.set_cons_succ]
                      refine wpAnyH_takeAt (i := 18) (d := 50) (v := ?vuqy18) (by kernel_rfl) (by kernel_rfl) (by kernel_rfl) (by kernel_rfl) (fun _ _ _ h => h) ?hyuqy18 (by assumption) ?restuqy18
                      case hyuqy18 =>
                        intro oi ho
                        simp only [List.getElem?_toArray, List.getElem?_cons_succ, List.getElem?_cons_zero, Option.some.injEq] at ho
                        subst ho
                        refine Or.inl ⟨by rfl, ?_⟩
                        intro wx hSw
                        try dsimp only at hSw
                        go_simp
                        try rfl
                      try simp only [Act.put, List.setIfInBounds_toArray, List.set_cons_zero, List.set_cons_succ]
                      refine wpAnyH_takeAt (i := 19) (d := 51) (v := ?vuqy19) (by kernel_rfl) (by kernel_rfl) (by kernel_rfl) (by kernel_rfl) (fun _ _ _ h => h) ?hyuqy19 (by assumption) ?restuqy19
                      case hyuqy19 =>
                        intro oi ho
                        simp only [List.getElem?_toArray, List.getElem?_cons_succ, List.getElem?_cons_zero, Option.some.injEq] at ho
                        subst ho
                        refine Or.inl ⟨by rfl, ?_⟩
                        intro wx hSw
                        try dsimp only at hSw
                        go_simp
                        try rfl
                      try simp only [Act.put, List.setIfInBounds_toArray, List.set_cons_zero, List.set_cons_succ]
                      refine wpAnyH_takeAt (i := 20) (d := 52) (v := ?vuqy20) (by kernel_rfl) (by kernel_rfl) (by kernel_rfl) (by kernel_rfl) (fun _ _ _ h => h) ?hyuqy20 (by assumption) ?restuqy20
                      case hyuqy20 =>
                        intro oi ho
                        simp only [List.getElem?_toArray, List.getElem?_cons_succ, List.getElem?_cons_zero, Option.some.injEq] at ho
                        subst ho
                        refine Or.inl ⟨by rfl, ?_⟩
                        intro wx hSw
                        try dsimp only at hSw
                        go_simp
                        try rfl
                      try simp only [Act.put, List.setIfInBounds_toArray, List.set_cons_zero, List.set_cons_succ]
                      refine wpAnyH_takeAt (i := 21) (d := 53) (v := ?vuqy21) (by kernel_rfl) (by kernel_rfl) (by kernel_rfl) (by kernel_rfl) (fun _ _ _ h => h) ?hyuqy21 (by assumption) ?restuqy21
                      case hyuqy21 =>
                        intro oi ho
                        simp only [List.getElem?_toArray, List.getElem?_cons_succ, List.getElem?_cons_zero, Option.some.injEq] at ho
                        subst ho
                        refine Or.inl ⟨by rfl, ?_⟩
                        intro wx hSw
                        try dsimp only at hSw
                        go_simp
                        try rfl
                      try simp only [Act.put, List.setIfInBounds_toArray, List.set_cons_zero, List.set_cons_succ]
                      refine wpAnyH_takeAt (i := 22) (d := 54) (v := ?vuqy22) (by kernel_rfl) (by kernel_rfl) (by kernel_rfl) (by kernel_rfl) (fun _ _ _ h => h) ?hyuqy22 (by assumption) ?restuqy22
                      case hyuqy22 =>
                        intro oi ho
                        simp only [List.getElem?_toArray, List.getElem?_cons_succ, List.getElem?_cons_zero, Option.some.injEq] at ho
                        subst ho
                        refine Or.inl ⟨by rfl, ?_⟩
                        intro wx hSw
                        try dsimp only at hSw
                        go_simp
                        try rfl
                      try simp only [Act.put, List.setIfInBounds_toArray, List.set_cons_zero, List.set_cons_succ]
                      refine wpAnyH_takeAt (i := 23) (d := 55) (v := ?vuqy23) (by kernel_rfl) (by kernel_rfl) (by kernel_rfl) (by kernel_rfl) (fun _ _ _ h => h) ?hyuqy23 (by assumption) ?restuqy23
                      case hyuqy23 =>
                        intro oi ho
                        simp only [List.getElem?_toArray, List.getElem?_cons_succ, List.getElem?_cons_zero, Option.some.injEq] at ho
                        subst ho
                        refine Or.inl ⟨by rfl, ?_⟩
                        intro wx hSw
                        try dsimp only at hSw
                        go_simp
                        try rfl
                      try simp only [Act.put, List.setIfInBounds_toArray, List.set_cons_zero, List.set_cons_succ]
                      refine wpAnyH_takeAt (i := 24) (d := 56) (v := ?vuqy24) (by kernel_rfl) (by kernel_rfl) (by kernel_rfl) (by kernel_rfl) (fun _ _ _ h => h) ?hyuqy24 (by assumption) ?restuqy24
                      case hyuqy24 =>
                        intro oi ho
                        simp only [List.getElem?_toArray, List.getElem?_cons_succ, List.getElem?_cons_zero, Option.some.injEq] at ho
                        subst ho
                        refine Or.inl ⟨by rfl, ?_⟩
                        intro wx hSw
                        try dsimp only at hSw
                        go_simp
                        try rfl
                      try simp only [Act.put, List.setIfInBounds_toArray, List.set_cons_zero, List.set_cons_succ]
                      refine wpAnyH_takeAt (i := 25) (d := 57) (v := ?vuqy25) (by kernel_rfl) (by kernel_rfl) (by kernel_rfl) (by kernel_rfl) (fun _ _ _ h => h) ?hyuqy25 (by assumption) ?restuqy25
                      case hyuqy25 =>
                        intro oi ho
                        simp only [List.getElem?_toArray, List.getElem?_cons_succ, List.getElem?_cons_zero, Option.some.injEq] at ho
                        subst ho
                        refine Or.inl ⟨by rfl, ?_⟩
                        intro wx hSw
                        try dsimp only at hSw
                        go_simp
                        try rfl
                      try simp only [Act.put, List.setIfInBounds_toArray, List.set_cons_zero, List.set_cons_succ]
                      refine wpAnyH_takeAt (i := 26) (d := 58) (v := ?vuqy26) (by kernel_rfl) (by kernel_rfl) (by kernel_rfl) (by kernel_rfl) (fun _ _ _ h => h) ?hyuqy26 (by assumption) ?restuqy26
                      case hyuqy26 =>
                        intro oi ho
                        simp only [List.getElem?_toArray, List.getElem?_cons_succ, List.getElem?_cons_zero, Option.some.injEq] at ho
                        subst ho
                        refine Or.inl ⟨by rfl, ?_⟩
                        intro wx hSw
                        try dsimp only at hSw
                        go_simp
                        try rfl
                      try simp only [Act.put, List.setIfInBounds_toArray, List.set_cons_zero, List.set_cons_succ]
                      refine wpAnyH_takeAt (i := 27) (d := 59) (v := ?vuqy27) (by kernel_rfl) (by kernel_rfl) (by kernel_rfl) (by kernel_rfl) (fun _ _ _ h => h) ?hyuqy27 (by assumption) ?restuqy27
                      case hyuqy27 =>
                        intro oi ho
                        simp only [List.getElem?_toArray, List.getElem?_cons_succ, List.getElem?_cons_zero, Option.some.injEq] at ho
                        subst ho
                        refine Or.inl ⟨by rfl, ?_⟩
                        intro wx hSw
                        try dsimp only at hSw
                        go_simp
                        try rfl
                      try simp only [Act.put, List.setIfInBounds_toArray, List.set_cons_zero, List.set_cons_succ]
                      refine wpAnyH_takeAt (i := 28) (d := 60) (v := ?vuqy28) (by kernel_rfl) (by kernel_rfl) (by kernel_rfl) (by kernel_rfl) (fun _ _ _ h => h) ?hyuqy28 (by assumption) ?restuqy28
                      case hyuqy28 =>
                        intro oi ho
                        simp only [List.getElem?_toArray, List.getElem?_cons_succ, List.getElem?_cons_zero, Option.some.injEq] at ho
                        subst ho
                        refine Or.inl ⟨by rfl, ?_⟩
                        intro wx hSw
                        try dsimp only at hSw
                        go_simp
                        try rfl
                      try simp only [Act.put, List.setIfInBounds_toArray, List.set_cons_zero, List.set_cons_succ]
                      refine wpAnyH_takeAt (i := 29) (d := 61) (v := ?vuqy29) (by kernel_rfl) (by kernel_rfl) (by kernel_rfl) (by kernel_rfl) (fun _ _ _ h => h) ?hyuqy29 (by assumption) ?restuqy29
                      case hyuqy29 =>
                        intro oi ho
                        simp only [List.getElem?_toArray, List.getElem?_cons_succ, List.getElem?_cons_zero, Option.some.injEq] at ho
                        subst ho
                        refine Or.inl ⟨by rfl, ?_⟩
                        intro wx hSw
                        try dsimp only at hSw
                        go_simp
                        try rfl
                      try simp only [Act.put, List.setIfInBounds_toArray, List.set_cons_zero, List.set_cons_succ]
                      refine wpAnyH_takeAt (i := 30) (d := 62) (v := ?vuqy30) (by kernel_rfl) (by kernel_rfl) (by kernel_rfl) (by kernel_rfl) (fun _ _ _ h => h) ?hyuqy30 (by assumption) ?restuqy30
                      case hyuqy30 =>
                        intro oi ho
                        simp only [List.getElem?_toArray, List.getElem?_cons_succ, List.getElem?_cons_zero, Option.some.injEq] at ho
                        subst ho
                        refine Or.inl ⟨by rfl, ?_⟩
                        intro wx hSw
                        try dsimp only at hSw
                        go_simp
                        try rfl
                      try simp only [Act.put, List.setIfInBounds_toArray, List.set_cons_zero, List.set_cons_succ]
                      refine wpAnyH_takeAt (i := 32) (d := 64) (v := ?vuqy32) (by kernel_rfl) (by kernel_rfl) (by kernel_rfl) (by kernel_rfl) (fun _ _ _ h => h) ?hyuqy32 (by assumption) ?restuqy32
                      case hyuqy32 =>
                        intro oi ho
                        simp only [List.getElem?_toArray, List.getElem?_cons_succ, List.getElem?_cons_zero, Option.some.injEq] at ho
                        subst ho
                        refine Or.inl ⟨by rfl, ?_⟩
                        intro wx hSw
                        try dsimp only at hSw
                        go_simp
                        try rfl
                      try simp only [Act.put, List.setIfInBounds_toArray, List.set_cons_zero, List.set_cons_succ]
                      refine wpAnyH_takeAt (i := 33) (d := 65) (v := ?vuqy33) (by kernel_rfl) (by kernel_rfl) (by kernel_rfl) (by kernel_rfl) (fun _ _ _ h => h) ?hyuqy33 (by assumption) ?restuqy33
                      case hyuqy33 =>
                        intro oi ho
                        simp only [List.getElem?_toArray, List.getElem?_cons_succ, List.getElem?_cons_zero, Option.some.injEq] at ho
                        subst ho
                        refine Or.inl ⟨by rfl, ?_⟩
                        intro wx hSw
                        try dsimp only at hSw
                        go_simp
                        try rfl
                      try simp only [Act.put, List.setIfInBounds_toArray, List.set_cons_zero, List.set_cons_succ]
                      refine wpAnyH_comesAt (i := 31) (by kernel_rfl) (by kernel_rfl) ?_
                      intro o ho K hK
                      simp only [List.getElem?_toArray, List.getElem?_cons_succ, List.getElem?_cons_zero, Option.some.injEq] at ho
                      subst ho
                      go_simp
                      refine (HRU.out w3).mono ?_
                      rintro e w4 ⟨rfl, hb⟩
                      have HB4 : Hid (Below wc.drew.heap.size wc.drew w4) := HB3.out.trans (hb.mono HB3.out.size)
                      have H64 := hide ((hb.block g6 (blk_lt H63.out)).trans H63.out)
                      have H74 := hide ((hb.block g7 (blk_lt H73.out)).trans H73.out)
                      clear hb hHeld
                      refine hK.out _ _ ⟨⟨cell_blk H64.out, cell_blk H64.out, cell_blk H64.out⟩, cell_blk H74.out, cell_blk H74.out⟩ (fun hHeld => ?_)
                      clear hK K
                      try simp only [Act.put, List.setIfInBounds_toArray, List.set_cons_zero, List.set_cons_succ]
                      refine wpAnyH_takeAt (i := 34) (d := 66) (v := ?vuqy34) (by kernel_rfl) (by kernel_rfl) (by kernel_rfl) (by kernel_rfl) (fun _ _ _ h => h) ?hyuqy34 (by assumption) ?restuqy34
                      case hyuqy34 =>
                        intro oi ho
                        simp only [List.getElem?_toArray, List.getElem?_cons_succ, List.getElem?_cons_zero, Option.some.injEq] at ho
                        subst ho
                        refine Or.inl ⟨by rfl, ?_⟩
                        intro wx hSw
                        try dsimp only at hSw
                        go_simp
                        try rfl
                      try simp only [Act.put, List.setIfInBounds_toArray, List.set_cons_zero, List.set_cons_succ]
                      refine wpAnyH_takeAt (i := 35) (d := 67) (v := ?vuqy35) (by kernel_rfl) (by kernel_rfl) (by kernel_rfl) (by kernel_rfl) (fun _ _ _ h => h) ?hyuqy35 (by assumption) ?restuqy35
                      case hyuqy35 =>
                        intro oi ho
                        simp only [List.getElem?_toArray, List.getElem?_cons_succ, List.getElem?_cons_zero, Option.some.injEq] at ho
                        subst ho
                        refine Or.inl ⟨by rfl, ?_⟩
                        intro wx hSw
                        try dsimp only at hSw
                        go_simp
                        try rfl
                      try simp only [Act.put, List.setIfInBounds_toArray, List.set_cons_zero, List.set_cons_succ]
                      refine wpAnyH_takeAt (i := 36) (d := 68) (v := ?vuqy36) (by kernel_rfl) (by kernel_rfl) (by kernel_rfl) (by kernel_rfl) (fun _ _ _ h => h) ?hyuqy36 (by assumption) ?restuqy36
                      case hyuqy36 =>
                        intro oi ho
                        simp only [List.getElem?_toArray, List.getElem?_cons_succ, List.getElem?_cons_zero, Option.some.injEq] at ho
                        subst ho
                        refine Or.inl ⟨by rfl, ?_⟩
                        intro wx hSw
                        try dsimp only at hSw
                        go_simp
                        try rfl
                      try simp only [Act.put, List.setIfInBounds_toArray, List.set_cons_zero, List.set_cons_succ]
                      refine wpAnyH_done (by kernel_rfl) ?_ _
                      refine NoPanic.normal ?_
                      clear hHeld
                      have HG := hide ((show fitsB c v = true by unfold fitsB; rw [decide_eq_true H0.out, decide_eq_true (show (rcn v.2.2 : Int) ≤ c.2.2 by omega)]; simp [HKK.out]))
                      have hn3 := HC1.out.2
                      go_wp2
                      go_roundg (gk - 1)
                      case measure => omega
                      case rel => exact ⟨j + 1, by omega, by go_num, HNX.out.trans HG.out, fun _ => HFN.out, HB2'.out.drew.trans (HB4.out.mono HBS.out)⟩
                  · have k2 : (v.1 == 2) = false := by simp [hk2]
                    have HK2 := hide hk2
                    clear hk2
                    refine wp_region_noPanic ?_
                    refine wp_region_held_drew (S := fun wx => (wx.cell? ⟨g6, 0, none⟩ = some (.int .i64 v.1) ∧ wx.cell? ⟨g6, 1, none⟩ = some (.int .i64 v.2.1) ∧ wx.cell? ⟨g6, 2, none⟩ = some (.string v.2.2)) ∧ wx.cell? ⟨g7, 1, none⟩ = some (.int .i64 c.2.1) ∧ wx.cell? ⟨g7, 2, none⟩ = some (.int .i64 c.2.2)) (by kernel_rfl) HX.out (fun hHeld => ?_)
                    refine wpAnyH_takeAt (i := 0) (d := 32) (v := ?vur0) (by kernel_rfl) (by kernel_rfl) (by kernel_rfl) (by kernel_rfl) (fun _ _ _ h => h) ?hyur0 (by assumption) ?restur0
                    case hyur0 =>
                      intro oi ho
                      simp only [List.getElem?_toArray, List.getElem?_cons_zero, Option.some.injEq] at ho
                      subst ho
                      refine Or.inl ⟨by rfl, ?_⟩
                      intro wx hSw
                      try dsimp only at hSw
                      go_simp
                      try rfl
                    try simp only [Act.put, List.setIfInBounds_toArray, List.set_cons_zero, List.set_cons_succ]
                    refine wpAnyH_comesAt (i := 1) (by kernel_rfl) (by kernel_rfl) ?_
                    intro o ho K hK
                    simp only [List.getElem?_toArray, List.getElem?_cons_succ, List.getElem?_cons_zero, Option.some.injEq] at ho
                    subst ho
                    go_simp
                    refine HRT.out.mono ?_
                    rintro e w3 ⟨rfl, hb⟩
                    have HB3 : Hid (Below wc.drew.heap.size wc.drew w3) := hb
                    have H63 := hide ((hb.block g6 (blk_lt H62.out)).trans H62.out)
                    have H73 := hide ((hb.block g7 (blk_lt H72.out)).trans H72.out)
                    clear hb hHeld
                    refine hK.out _ _ ⟨⟨cell_blk H63.out, cell_blk H63.out, cell_blk H63.out⟩, cell_blk H73.out, cell_blk H73.out⟩ (fun hHeld => ?_)
                    clear hK K
                    try simp only [Act.put, List.setIfInBounds_toArray, List.set_cons_zero, List.set_cons_succ]
                    refine wpAnyH_takeAt (i := 2) (d := 34) (v := ?vur2) (by kernel_rfl) (by kernel_rfl) (by kernel_rfl) (by kernel_rfl) (fun _ _ _ h => h) ?hyur2 (by assumption) ?restur2
                    case hyur2 =>
                      intro oi ho
                      simp only [List.getElem?_toArray, List.getElem?_cons_succ, List.getElem?_cons_zero, Option.some.injEq] at ho
                      subst ho
                      refine Or.inl ⟨by rfl, ?_⟩
                      intro wx hSw
                      try dsimp only at hSw
                      go_simp
                      try rfl
                    try simp only [Act.put, List.setIfInBounds_toArray, List.set_cons_zero, List.set_cons_succ]
                    refine wpAnyH_takeAt (i := 3) (d := 35) (v := ?vur3) (by kernel_rfl) (by kernel_rfl) (by kernel_rfl) (by kernel_rfl) (fun _ _ _ h => h) ?hyur3 (by assumption) ?restur3
                    case hyur3 =>
                      intro oi ho
                      simp only [List.getElem?_toArray, List.getElem?_cons_succ, List.getElem?_cons_zero, Option.some.injEq] at ho
                      subst ho
                      refine Or.inl ⟨by rfl, ?_⟩
                      intro wx hSw
                      try dsimp only at hSw
                      go_simp
                      try rfl
                    try simp only [Act.put, List.setIfInBounds_toArray, List.set_cons_zero, List.set_cons_succ]
                    refine wpAnyH_takeAt (i := 4) (d := 36) (v := ?vur4) (by kernel_rfl) (by kernel_rfl) (by kernel_rfl) (by kernel_rfl) (fun _ _ _ h => h) ?hyur4 (by assumption) ?restur4
                    case hyur4 =>
                      intro oi ho
                      simp only [List.getElem?_toArray, List.getElem?_cons_succ, List.getElem?_cons_zero, Option.some.injEq] at ho
                      subst ho
                      refine Or.inl ⟨by rfl, ?_⟩
                      intro wx hSw
                      try dsimp only at hSw
                      go_simp
                      try rfl
                    try simp only [Act.put, List.setIfInBounds_toArray, List.set_cons_zero, List.set_cons_succ]
                    refine wpAnyH_takeAt (i := 5) (d := 37) (v := ?vur5) (by kernel_rfl) (by kernel_rfl) (by kernel_rfl) (by kernel_rfl) (fun _ _ _ h => h) ?hyur5 (by assumption) ?restur5
                    case hyur5 =>
                      intro oi ho
                      simp only [List.getElem?_toArray, List.getElem?_cons_succ, List.getElem?_cons_zero, Option.some.injEq] at ho
                      subst ho
                      refine Or.inl ⟨by rfl, ?_⟩
                      intro wx hSw
                      try dsimp only at hSw
                      go_simp
                      try rfl
                    try simp only [Act.put, List.setIfInBounds_toArray, List.set_cons_zero, List.set_cons_succ]
                    refine wpAnyH_takeAt (i := 6) (d := 38) (v := ?vur6) (by kernel_rfl) (by kernel_rfl) (by kernel_rfl) (by kernel_rfl) (fun _ _ _ h => h) ?hyur6 (by assumption) ?restur6
                    case hyur6 =>
                      intro oi ho
                      simp only [List.getElem?_toArray, List.getElem?_cons_succ, List.getElem?_cons_zero, Option.some.injEq] at ho
                      subst ho
                      refine Or.inl ⟨by rfl, ?_⟩
                      intro wx hSw
                      try dsimp only at hSw
                      go_simp
                      try rfl
                    try simp only [Act.put, List.setIfInBounds_toArray, List.set_cons_zero, List.set_cons_succ]
                    refine wpAnyH_takeAt (i := 7) (d := 39) (v := ?vur7) (by kernel_rfl) (by kernel_rfl) (by kernel_rfl) (by kernel_rfl) (fun _ _ _ h => h) ?hyur7 (by assumption) ?restur7
                    case hyur7 =>
                      intro oi ho
                      simp only [List.getElem?_toArray, List.getElem?_cons_succ, List.getElem?_cons_zero, Option.some.injEq] at ho
                      subst ho
                      refine Or.inl ⟨by rfl, ?_⟩
                      intro wx hSw
                      try dsimp only at hSw
                      go_simp
                      try rfl
                    try simp only [Act.put, List.setIfInBounds_toArray, List.set_cons_zero, List.set_cons_succ]
                    refine wpAnyH_takeAt (i := 8) (d := 40) (v := ?vur8) (by kernel_rfl) (by kernel_rfl) (by kernel_rfl) (by kernel_rfl) (fun _ _ _ h => h) ?hyur8 (by assumption) ?restur8
                    case hyur8 =>
                      intro oi ho
                      simp only [List.getElem?_toArray, List.getElem?_cons_succ, List.getElem?_cons_zero, Option.some.injEq] at ho
                      subst ho
                      refine Or.inl ⟨by rfl, ?_⟩
                      intro wx hSw
                      try dsimp only at hSw
                      go_simp
                      try rfl
                    try simp only [Act.put, List.setIfInBounds_toArray, List.set_cons_zero, List.set_cons_succ]
                    refine wpAnyH_takeAt (i := 9) (d := 41) (v := ?vur9) (by kernel_rfl) (by kernel_rfl) (by kernel_rfl) (by kernel_rfl) (fun _ _ _ h => h) ?hyur9 (by assumption) ?restur9
                    case hyur9 =>
                      intro oi ho
                      simp only [List.getElem?_toArray, List.getElem?_cons_succ, List.getElem?_cons_zero, Option.some.injEq] at ho
                      subst ho
                      refine Or.inl ⟨by rfl, ?_⟩
                      intro wx hSw
                      try dsimp only at hSw
                      go_simp
                      try rfl
                    try simp only [Act.put, List.setIfInBounds_toArray, List.set_cons_zero, List.set_cons_succ]
                    refine wpAnyH_takeAt (i := 10) (d := 42) (v := undef) (by kernel_rfl) (by kernel_rfl) (by kernel_rfl) (by kernel_rfl) (fun _ _ _ h => h) ?hyur10 (by assumption) ?restur10
                    case hyur10 =>
                      intro oi ho
                      simp only [List.getElem?_toArray, List.getElem?_cons_succ, List.getElem?_cons_zero, Option.some.injEq] at ho
                      subst ho
                      exact Or.inr ⟨by rfl, rfl⟩
                    try simp only [Act.put, List.setIfInBounds_toArray, List.set_cons_zero, List.set_cons_succ]
                    refine wpAnyH_takeAt (i := 11) (d := 43) (v := undef) (by kernel_rfl) (by kernel_rfl) (by kernel_rfl) (by kernel_rfl) (fun _ _ _ h => h) ?hyur11 (by assumption) ?restur11
                    case hyur11 =>
                      intro oi ho
                      simp only [List.getElem?_toArray, List.getElem?_cons_succ, List.getElem?_cons_zero, Option.some.injEq] at ho
                      subst ho
                      exact Or.inr ⟨by rfl, rfl⟩
                    try simp only [Act.put, List.setIfInBounds_toArray, List.set_cons_zero, List.set_cons_succ]
                    refine wpAnyH_takeAt (i := 12) (d := 44) (v := undef) (by kernel_rfl) (by kernel_rfl) (by kernel_rfl) (by kernel_rfl) (fun _ _ _ h => h) ?hyur12 (by assumption) ?restur12
                    case hyur12 =>
                      intro oi ho
                      simp only [List.getElem?_toArray, List.getElem?_cons_succ, List.getElem?_cons_zero, Option.some.injEq] at ho
                      subst ho
                      exact Or.inr ⟨by rfl, rfl⟩
                    try simp only [Act.put, List.setIfInBounds_toArray, List.set_cons_zero, List.set_cons_succ]
                    refine wpAnyH_takeAt (i := 13) (d := 45) (v := ?vur13) (by kernel_rfl) (by kernel_rfl) (by kernel_rfl) (by kernel_rfl) (fun _ _ _ h => h) ?hyur13 (by assumption) ?restur13
                    case hyur13 =>
                      intro oi ho
                      simp only [List.getElem?_toArray, List.getElem?_cons_succ, List.getElem?_cons_zero, Option.some.injEq] at ho
                      subst ho
                      refine Or.inl ⟨by rfl, ?_⟩
                      intro wx hSw
                      try dsimp only at hSw
                      go_simp
                      try rfl
                    try simp only [Act.put, List.setIfInBounds_toArray, List.set_cons_zero, List.set_cons_succ]
                    refine wpAnyH_takeAt (i := 14) (d := 46) (v := ?vur14) (by kernel_rfl) (by kernel_rfl) (by kernel_rfl) (by kernel_rfl) (fun _ _ _ h => h) ?hyur14 (by assumption) ?restur14
                    case hyur14 =>
                      intro oi ho
                      simp only [List.getElem?_toArray, List.getElem?_cons_succ, List.getElem?_cons_zero, Option.some.injEq] at ho
                      subst ho
                      refine Or.inl ⟨by rfl, ?_⟩
                      intro wx hSw
                      try dsimp only at hSw
                      go_simp
                      try rfl
                    try simp only [Act.put, List.setIfInBounds_toArray, List.set_cons_zero, List.set_cons_succ]
                    refine wpAnyH_takeAt (i := 15) (d := 47) (v := ?vur15) (by kernel_rfl) (by kernel_rfl) (by kernel_rfl) (by kernel_rfl) (fun _ _ _ h => h) ?hyur15 (by assumption) ?restur15
                    case hyur15 =>
                      intro oi ho
                      simp only [List.getElem?_toArray, List.getElem?_cons_succ, List.getElem?_cons_zero, Option.some.injEq] at ho
                      subst ho
                      refine Or.inl ⟨by rfl, ?_⟩
                      intro wx hSw
                      try dsimp only at hSw
                      go_simp
                      try rfl
                    try simp only [Act.put, List.setIfInBounds_toArray, List.set_cons_zero, List.set_cons_succ]
                    refine wpAnyH_takeAt (i := 16) (d := 48) (v := ?vur16) (by kernel_rfl) (by kernel_rfl) (by kernel_rfl) (by kernel_rfl) (fun _ _ _ h => h) ?hyur16 (by assumption) ?restur16
                    case hyur16 =>
                      intro oi ho
                      simp only [List.getElem?_toArray, List.getElem?_cons_succ, List.getElem?_cons_zero, Option.some.injEq] at ho
                      subst ho
                      refine Or.inl ⟨by rfl, ?_⟩
                      intro wx hSw
                      try dsimp only at hSw
                      go_simp
                      try rfl
                    try simp only [Act.put, List.setIfInBounds_toArray, List.set_cons_zero, List.set_cons_succ]
                    refine wpAnyH_takeAt (i := 17) (d := 49) (v := ?vur17) (by kernel_rfl) (by kernel_rfl) (by kernel_rfl) (by kernel_rfl) (fun _ _ _ h => h) ?hyur17 (by assumption) ?restur17
                    case hyur17 =>
                      intro oi ho
                      simp only [List.getElem?_toArray, List.getElem?_cons_succ, List.getElem?_cons_zero, Option.some.injEq] at ho
                      subst ho
                      refine Or.inl ⟨by rfl, ?_⟩
                      intro wx hSw
                      try dsimp only at hSw
                      go_simp
                      try rfl
                    try simp only [Act.put, List.setIfInBounds_toArray, List.set_cons_zero, List.set_cons_succ]
                    refine wpAnyH_takeAt (i := 18) (d := 50) (v := ?vur18) (by kernel_rfl) (by kernel_rfl) (by kernel_rfl) (by kernel_rfl) (fun _ _ _ h => h) ?hyur18 (by assumption) ?restur18
                    case hyur18 =>
                      intro oi ho
                      simp only [List.getElem?_toArray, List.getElem?_cons_succ, List.getElem?_cons_zero, Option.some.injEq] at ho
                      subst ho
                      refine Or.inl ⟨by rfl, ?_⟩
                      intro wx hSw
                      try dsimp only at hSw
                      go_simp
                      try rfl
                    try simp only [Act.put, List.setIfInBounds_toArray, List.set_cons_zero, List.set_cons_succ]
                    refine wpAnyH_takeAt (i := 19) (d := 51) (v := ?vur19) (by kernel_rfl) (by kernel_rfl) (by kernel_rfl) (by kernel_rfl) (fun _ _ _ h => h) ?hyur19 (by assumption) ?restur19
                    case hyur19 =>
                      intro oi ho
                      simp only [List.getElem?_toArray, List.getElem?_cons_succ, List.getElem?_cons_zero, Option.some.injEq] at ho
                      subst ho
                      refine Or.inl ⟨by rfl, ?_⟩
                      intro wx hSw
                      try dsimp only at hSw
                      go_simp
                      try rfl
                    try simp only [Act.put, List.setIfInBounds_toArray, List.set_cons_zero, List.set_cons_succ]
                    refine wpAnyH_takeAt (i := 20) (d := 52) (v := ?vur20) (by kernel_rfl) (by kernel_rfl) (by kernel_rfl) (by kernel_rfl) (fun _ _ _ h => h) ?hyur20 (by assumption) ?restur20
                    case hyur20 =>
                      intro oi ho
                      simp only [List.getElem?_toArray, List.getElem?_cons_succ, List.getElem?_cons_zero, Option.some.injEq] at ho
                      subst ho
                      refine Or.inl ⟨by rfl, ?_⟩
                      intro wx hSw
                      try dsimp only at hSw
                      go_simp
                      try rfl
                    try simp only [Act.put, List.setIfInBounds_toArray, List.set_cons_zero, List.set_cons_succ]
                    refine wpAnyH_takeAt (i := 21) (d := 53) (v := ?vur21) (by kernel_rfl) (by kernel_rfl) (by kernel_rfl) (by kernel_rfl) (fun _ _ _ h => h) ?hyur21 (by assumption) ?restur21
                    case hyur21 =>
                      intro oi ho
                      simp only [List.getElem?_toArray, List.getElem?_cons_succ, List.getElem?_cons_zero, Option.some.injEq] at ho
                      subst ho
                      refine Or.inl ⟨by rfl, ?_⟩
                      intro wx hSw
                      try dsimp only at hSw
                      go_simp
                      try rfl
                    try simp only [Act.put, List.setIfInBounds_toArray, List.set_cons_zero, List.set_cons_succ]
                    refine wpAnyH_takeAt (i := 22) (d := 54) (v := ?vur22) (by kernel_rfl) (by kernel_rfl) (by kernel_rfl) (by kernel_rfl) (fun _ _ _ h => h) ?hyur22 (by assumption) ?restur22
                    case hyur22 =>
                      intro oi ho
                      simp only [List.getElem?_toArray, List.getElem?_cons_succ, List.getElem?_cons_zero, Option.some.injEq] at ho
                      subst ho
                      refine Or.inl ⟨by rfl, ?_⟩
                      intro wx hSw
                      try dsimp only at hSw
                      go_simp
                      try rfl
                    try simp only [Act.put, List.setIfInBounds_toArray, List.set_cons_zero, List.set_cons_succ]
                    refine wpAnyH_takeAt (i := 23) (d := 55) (v := ?vur23) (by kernel_rfl) (by kernel_rfl) (by kernel_rfl) (by kernel_rfl) (fun _ _ _ h => h) ?hyur23 (by assumption) ?restur23
                    case hyur23 =>
                      intro oi ho
                      simp only [List.getElem?_toArray, List.getElem?_cons_succ, List.getElem?_cons_zero, Option.some.injEq] at ho
                      subst ho
                      refine Or.inl ⟨by rfl, ?_⟩
                      intro wx hSw
                      try dsimp only at hSw
                      go_simp
                      try rfl
                    try simp only [Act.put, List.setIfInBounds_toArray, List.set_cons_zero, List.set_cons_succ]
                    refine wpAnyH_takeAt (i := 24) (d := 56) (v := ?vur24) (by kernel_rfl) (by kernel_rfl) (by kernel_rfl) (by kernel_rfl) (fun _ _ _ h => h) ?hyur24 (by assumption) ?restur24
                    case hyur24 =>
                      intro oi ho
                      simp only [List.getElem?_toArray, List.getElem?_cons_succ, List.getElem?_cons_zero, Option.some.injEq] at ho
                      subst ho
                      refine Or.inl ⟨by rfl, ?_⟩
                      intro wx hSw
                      try dsimp only at hSw
                      go_simp
                      try rfl
                    try simp only [Act.put, List.setIfInBounds_toArray, List.set_cons_zero, List.set_cons_succ]
                    refine wpAnyH_takeAt (i := 25) (d := 57) (v := ?vur25) (by kernel_rfl) (by kernel_rfl) (by kernel_rfl) (by kernel_rfl) (fun _ _ _ h => h) ?hyur25 (by assumption) ?restur25
                    case hyur25 =>
                      intro oi ho
                      simp only [List.getElem?_toArray, List.getElem?_cons_succ, List.getElem?_cons_zero, Option.some.injEq] at ho
                      subst ho
                      refine Or.inl ⟨by rfl, ?_⟩
                      intro wx hSw
                      try dsimp only at hSw
                      go_simp
                      try rfl
                    try simp only [Act.put, List.setIfInBounds_toArray, List.set_cons_zero, List.set_cons_succ]
                    refine wpAnyH_takeAt (i := 26) (d := 58) (v := ?vur26) (by kernel_rfl) (by kernel_rfl) (by kernel_rfl) (by kernel_rfl) (fun _ _ _ h => h) ?hyur26 (by assumption) ?restur26
                    case hyur26 =>
                      intro oi ho
                      simp only [List.getElem?_toArray, List.getElem?_cons_succ, List.getElem?_cons_zero, Option.some.injEq] at ho
                      subst ho
                      refine Or.inl ⟨by rfl, ?_⟩
                      intro wx hSw
                      try dsimp only at hSw
                      go_simp
                      try rfl
                    try simp only [Act.put, List.setIfInBounds_toArray, List.set_cons_zero, List.set_cons_succ]
                    refine wpAnyH_takeAt (i := 27) (d := 59) (v := ?vur27) (by kernel_rfl) (by kernel_rfl) (by kernel_rfl) (by kernel_rfl) (fun _ _ _ h => h) ?hyur27 (by assumption) ?restur27
                    case hyur27 =>
                      intro oi ho
                      simp only [List.getElem?_toArray, List.getElem?_cons_succ, List.getElem?_cons_zero, Option.some.injEq] at ho
                      subst ho
                      refine Or.inl ⟨by rfl, ?_⟩
                      intro wx hSw
                      try dsimp only at hSw
                      go_simp
                      try rfl
                    try simp only [Act.put, List.setIfInBounds_toArray, List.set_cons_zero, List.set_cons_succ]
                    refine wpAnyH_takeAt (i := 28) (d := 60) (v := ?vur28) (by kernel_rfl) (by kernel_rfl) (by kernel_rfl) (by kernel_rfl) (fun _ _ _ h => h) ?hyur28 (by assumption) ?restur28
                    case hyur28 =>
                      intro oi ho
                      simp only [List.getElem?_toArray, List.getElem?_cons_succ, List.getElem?_cons_zero, Option.some.injEq] at ho
                      subst ho
                      refine Or.inl ⟨by rfl, ?_⟩
                      intro wx hSw
                      try dsimp only at hSw
                      go_simp
                      try rfl
                    try simp only [Act.put, List.setIfInBounds_toArray, List.set_cons_zero, List.set_cons_succ]
                    refine wpAnyH_takeAt (i := 29) (d := 61) (v := undef) (by kernel_rfl) (by kernel_rfl) (by kernel_rfl) (by kernel_rfl) (fun _ _ _ h => h) ?hyur29 (by assumption) ?restur29
                    case hyur29 =>
                      intro oi ho
                      simp only [List.getElem?_toArray, List.getElem?_cons_succ, List.getElem?_cons_zero, Option.some.injEq] at ho
                      subst ho
                      exact Or.inr ⟨by rfl, rfl⟩
                    try simp only [Act.put, List.setIfInBounds_toArray, List.set_cons_zero, List.set_cons_succ]
                    refine wpAnyH_takeAt (i := 30) (d := 62) (v := undef) (by kernel_rfl) (by kernel_rfl) (by kernel_rfl) (by kernel_rfl) (fun _ _ _ h => h) ?hyur30 (by assumption) ?restur30
                    case hyur30 =>
                      intro oi ho
                      simp only [List.getElem?_toArray, List.getElem?_cons_succ, List.getElem?_cons_zero, Option.some.injEq] at ho
                      subst ho
                      exact Or.inr ⟨by rfl, rfl⟩
                    try simp only [Act.put, List.setIfInBounds_toArray, List.set_cons_zero, List.set_cons_succ]
                    refine wpAnyH_takeAt (i := 32) (d := 64) (v := undef) (by kernel_rfl) (by kernel_rfl) (by kernel_rfl) (by kernel_rfl) (fun _ _ _ h => h) ?hyur32 (by assumption) ?restur32
                    case hyur32 =>
                      intro oi ho
                      simp only [List.getElem?_toArray, List.getElem?_cons_succ, List.getElem?_cons_zero, Option.some.injEq] at ho
                      subst ho
                      exact Or.inr ⟨by rfl, rfl⟩
                    try simp only [Act.put, List.setIfInBounds_toArray, List.set_cons_zero, List.set_cons_succ]
                    refine wpAnyH_takeAt (i := 33) (d := 65) (v := undef) (by kernel_rfl) (by kernel_rfl) (by kernel_rfl) (by kernel_rfl) (fun _ _ _ h => h) ?hyur33 (by assumption) ?restur33
                    case hyur33 =>
                      intro oi ho
                      simp only [List.getElem?_toArray, List.getElem?_cons_succ, List.getElem?_cons_zero, Option.some.injEq] at ho
                      subst ho
                      exact Or.inr ⟨by rfl, rfl⟩
                    try simp only [Act.put, List.setIfInBounds_toArray, List.set_cons_zero, List.set_cons_succ]
                    refine wpAnyH_takeAt (i := 31) (d := 63) (v := undef) (by kernel_rfl) (by kernel_rfl) (by kernel_rfl) (by kernel_rfl) (fun _ _ _ h => h) ?hyur31 (by assumption) ?restur31
                    case hyur31 =>
                      intro oi ho
                      simp only [List.getElem?_toArray, List.getElem?_cons_succ, List.getElem?_cons_zero, Option.some.injEq] at ho
                      subst ho
                      exact Or.inr ⟨by rfl, rfl⟩
                    try simp only [Act.put, List.setIfInBounds_toArray, List.set_cons_zero, List.set_cons_succ]
                    refine wpAnyH_takeAt (i := 34) (d := 66) (v := undef) (by kernel_rfl) (by kernel_rfl) (by kernel_rfl) (by kernel_rfl) (fun _ _ _ h => h) ?hyur34 (by assumption) ?restur34
                    case hyur34 =>
                      intro oi ho
                      simp only [List.getElem?_toArray, List.getElem?_cons_succ, List.getElem?_cons_zero, Option.some.injEq] at ho
                      subst ho
                      exact Or.inr ⟨by rfl, rfl⟩
                    try simp only [Act.put, List.setIfInBounds_toArray, List.set_cons_zero, List.set_cons_succ]
                    refine wpAnyH_takeAt (i := 35) (d := 67) (v := ?vur35) (by kernel_rfl) (by kernel_rfl) (by kernel_rfl) (by kernel_rfl) (fun _ _ _ h => h) ?hyur35 (by assumption) ?restur35
                    case hyur35 =>
                      intro oi ho
                      simp only [List.getElem?_toArray, List.getElem?_cons_succ, List.getElem?_cons_zero, Option.some.injEq] at ho
                      subst ho
                      refine Or.inl ⟨by rfl, ?_⟩
                      intro wx hSw
                      try dsimp only at hSw
                      go_simp
                      try rfl
                    try simp only [Act.put, List.setIfInBounds_toArray, List.set_cons_zero, List.set_cons_succ]
                    refine wpAnyH_takeAt (i := 36) (d := 68) (v := ?vur36) (by kernel_rfl) (by kernel_rfl) (by kernel_rfl) (by kernel_rfl) (fun _ _ _ h => h) ?hyur36 (by assumption) ?restur36
                    case hyur36 =>
                      intro oi ho
                      simp only [List.getElem?_toArray, List.getElem?_cons_succ, List.getElem?_cons_zero, Option.some.injEq] at ho
                      subst ho
                      refine Or.inl ⟨by rfl, ?_⟩
                      intro wx hSw
                      try dsimp only at hSw
                      go_simp
                      try rfl
                    try simp only [Act.put, List.setIfInBounds_toArray, List.set_cons_zero, List.set_cons_succ]
                    refine wpAnyH_done (by kernel_rfl) ?_ _
                    refine NoPanic.normal ?_
                    clear hHeld
                    have HG := hide ((show fitsB c v = true by unfold fitsB; rw [decide_eq_true H0.out, HZ.out H0.out HK2.out, decide_eq_true (show ((0 : Nat) : Int) ≤ c.2.2 by have := HMX.out; omega)]; simp [HKK.out]))
                    have hn3 := HC1.out.2
                    go_wp2
                    go_roundg (gk - 1)
                    case measure => omega
                    case rel => exact ⟨j + 1, by omega, by go_num, HNX.out.trans HG.out, fun _ => HFN.out, HB2'.out.drew.trans (HB3.out.mono HBS.out)⟩
              · have dj : ((j : Int) == 0) = false := by simp [hj0]
                have HFN : Hid ((l.getD 0 (0, 0, ⟨#[]⟩)).1 ≠ 0) := HFS.out (by omega)
                clear hj0
                by_cases hk2 : v.1 = 2
                · have k2 : (v.1 == 2) = true := by simp [hk2]
                  rw [HRC.out H0.out] at HRU
                  clear hk2
                  by_cases hm : c.2.2 < (rcn v.2.2 : Int)
                  · have dm : decide (c.2.2 < (rcn v.2.2 : Int)) = true := decide_eq_true hm
                    refine wp_region_noPanic ?_
                    refine wp_region_held_drew (S := fun wx => (wx.cell? ⟨g6, 0, none⟩ = some (.int .i64 v.1) ∧ wx.cell? ⟨g6, 1, none⟩ = some (.int .i64 v.2.1) ∧ wx.cell? ⟨g6, 2, none⟩ = some (.string v.2.2)) ∧ wx.cell? ⟨g7, 1, none⟩ = some (.int .i64 c.2.1) ∧ wx.cell? ⟨g7, 2, none⟩ = some (.int .i64 c.2.2)) (by kernel_rfl) HX.out (fun hHeld => ?_)
                    refine wpAnyH_takeAt (i := 0) (d := 32) (v := ?vusx0) (by kernel_rfl) (by kernel_rfl) (by kernel_rfl) (by kernel_rfl) (fun _ _ _ h => h) ?hyusx0 (by assumption) ?restusx0
                    case hyusx0 =>
                      intro oi ho
                      simp only [List.getElem?_toArray, List.getElem?_cons_zero, Option.some.injEq] at ho
                      subst ho
                      refine Or.inl ⟨by rfl, ?_⟩
                      intro wx hSw
                      try dsimp only at hSw
                      go_simp
                      try rfl
                    try simp only [Act.put, List.setIfInBounds_toArray, List.set_cons_zero, List.set_cons_succ]
                    refine wpAnyH_comesAt (i := 1) (by kernel_rfl) (by kernel_rfl) ?_
                    intro o ho K hK
                    simp only [List.getElem?_toArray, List.getElem?_cons_succ, List.getElem?_cons_zero, Option.some.injEq] at ho
                    subst ho
                    go_simp
                    refine HRT.out.mono ?_
                    rintro e w3 ⟨rfl, hb⟩
                    have HB3 : Hid (Below wc.drew.heap.size wc.drew w3) := hb
                    have H63 := hide ((hb.block g6 (blk_lt H62.out)).trans H62.out)
                    have H73 := hide ((hb.block g7 (blk_lt H72.out)).trans H72.out)
                    clear hb hHeld
                    refine hK.out _ _ ⟨⟨cell_blk H63.out, cell_blk H63.out, cell_blk H63.out⟩, cell_blk H73.out, cell_blk H73.out⟩ (fun hHeld => ?_)
                    clear hK K
                    try simp only [Act.put, List.setIfInBounds_toArray, List.set_cons_zero, List.set_cons_succ]
                    refine wpAnyH_takeAt (i := 2) (d := 34) (v := ?vusx2) (by kernel_rfl) (by kernel_rfl) (by kernel_rfl) (by kernel_rfl) (fun _ _ _ h => h) ?hyusx2 (by assumption) ?restusx2
                    case hyusx2 =>
                      intro oi ho
                      simp only [List.getElem?_toArray, List.getElem?_cons_succ, List.getElem?_cons_zero, Option.some.injEq] at ho
                      subst ho
                      refine Or.inl ⟨by rfl, ?_⟩
                      intro wx hSw
                      try dsimp only at hSw
                      go_simp
                      try rfl
                    try simp only [Act.put, List.setIfInBounds_toArray, List.set_cons_zero, List.set_cons_succ]
                    refine wpAnyH_takeAt (i := 3) (d := 35) (v := ?vusx3) (by kernel_rfl) (by kernel_rfl) (by kernel_rfl) (by kernel_rfl) (fun _ _ _ h => h) ?hyusx3 (by assumption) ?restusx3
                    case hyusx3 =>
                      intro oi ho
                      simp only [List.getElem?_toArray, List.getElem?_cons_succ, List.getElem?_cons_zero, Option.some.injEq] at ho
                      subst ho
                      refine Or.inl ⟨by rfl, ?_⟩
                      intro wx hSw
                      try dsimp only at hSw
                      go_simp
                      try rfl
                    try simp only [Act.put, List.setIfInBounds_toArray, List.set_cons_zero, List.set_cons_succ]
                    refine wpAnyH_takeAt (i := 4) (d := 36) (v := ?vusx4) (by kernel_rfl) (by kernel_rfl) (by kernel_rfl) (by kernel_rfl) (fun _ _ _ h => h) ?hyusx4 (by assumption) ?restusx4
                    case hyusx4 =>
                      intro oi ho
                      simp only [List.getElem?_toArray, List.getElem?_cons_succ, List.getElem?_cons_zero, Option.some.injEq] at ho
                      subst ho
                      refine Or.inl ⟨by rfl, ?_⟩
                      intro wx hSw
                      try dsimp only at hSw
                      go_simp
                      try rfl
                    try simp only [Act.put, List.setIfInBounds_toArray, List.set_cons_zero, List.set_cons_succ]
                    refine wpAnyH_takeAt (i := 5) (d := 37) (v := ?vusx5) (by kernel_rfl) (by kernel_rfl) (by kernel_rfl) (by kernel_rfl) (fun _ _ _ h => h) ?hyusx5 (by assumption) ?restusx5
                    case hyusx5 =>
                      intro oi ho
                      simp only [List.getElem?_toArray, List.getElem?_cons_succ, List.getElem?_cons_zero, Option.some.injEq] at ho
                      subst ho
                      refine Or.inl ⟨by rfl, ?_⟩
                      intro wx hSw
                      try dsimp only at hSw
                      go_simp
                      try rfl
                    try simp only [Act.put, List.setIfInBounds_toArray, List.set_cons_zero, List.set_cons_succ]
                    refine wpAnyH_takeAt (i := 6) (d := 38) (v := ?vusx6) (by kernel_rfl) (by kernel_rfl) (by kernel_rfl) (by kernel_rfl) (fun _ _ _ h => h) ?hyusx6 (by assumption) ?restusx6
                    case hyusx6 =>
                      intro oi ho
                      simp only [List.getElem?_toArray, List.getElem?_cons_succ, List.getElem?_cons_zero, Option.some.injEq] at ho
                      subst ho
                      refine Or.inl ⟨by rfl, ?_⟩
                      intro wx hSw
                      try dsimp only at hSw
                      go_simp
                      try rfl
                    try simp only [Act.put, List.setIfInBounds_toArray, List.set_cons_zero, List.set_cons_succ]
                    refine wpAnyH_takeAt (i := 7) (d := 39) (v := ?vusx7) (by kernel_rfl) (by kernel_rfl) (by kernel_rfl) (by kernel_rfl) (fun _ _ _ h => h) ?hyusx7 (by assumption) ?restusx7
                    case hyusx7 =>
                      intro oi ho
                      simp only [List.getElem?_toArray, List.getElem?_cons_succ, List.getElem?_cons_zero, Option.some.injEq] at ho
                      subst ho
                      refine Or.inl ⟨by rfl, ?_⟩
                      intro wx hSw
                      try dsimp only at hSw
                      go_simp
                      try rfl
                    try simp only [Act.put, List.setIfInBounds_toArray, List.set_cons_zero, List.set_cons_succ]
                    refine wpAnyH_takeAt (i := 8) (d := 40) (v := ?vusx8) (by kernel_rfl) (by kernel_rfl) (by kernel_rfl) (by kernel_rfl) (fun _ _ _ h => h) ?hyusx8 (by assumption) ?restusx8
                    case hyusx8 =>
                      intro oi ho
                      simp only [List.getElem?_toArray, List.getElem?_cons_succ, List.getElem?_cons_zero, Option.some.injEq] at ho
                      subst ho
                      refine Or.inl ⟨by rfl, ?_⟩
                      intro wx hSw
                      try dsimp only at hSw
                      go_simp
                      try rfl
                    try simp only [Act.put, List.setIfInBounds_toArray, List.set_cons_zero, List.set_cons_succ]
                    refine wpAnyH_takeAt (i := 9) (d := 41) (v := ?vusx9) (by kernel_rfl) (by kernel_rfl) (by kernel_rfl) (by kernel_rfl) (fun _ _ _ h => h) ?hyusx9 (by assumption) ?restusx9
                    case hyusx9 =>
                      intro oi ho
                      simp only [List.getElem?_toArray, List.getElem?_cons_succ, List.getElem?_cons_zero, Option.some.injEq] at ho
                      subst ho
                      refine Or.inl ⟨by rfl, ?_⟩
                      intro wx hSw
                      try dsimp only at hSw
                      go_simp
                      try rfl
                    try simp only [Act.put, List.setIfInBounds_toArray, List.set_cons_zero, List.set_cons_succ]
                    refine wpAnyH_takeAt (i := 10) (d := 42) (v := undef) (by kernel_rfl) (by kernel_rfl) (by kernel_rfl) (by kernel_rfl) (fun _ _ _ h => h) ?hyusx10 (by assumption) ?restusx10
                    case hyusx10 =>
                      intro oi ho
                      simp only [List.getElem?_toArray, List.getElem?_cons_succ, List.getElem?_cons_zero, Option.some.injEq] at ho
                      subst ho
                      exact Or.inr ⟨by rfl, rfl⟩
                    try simp only [Act.put, List.setIfInBounds_toArray, List.set_cons_zero, List.set_cons_succ]
                    refine wpAnyH_takeAt (i := 11) (d := 43) (v := undef) (by kernel_rfl) (by kernel_rfl) (by kernel_rfl) (by kernel_rfl) (fun _ _ _ h => h) ?hyusx11 (by assumption) ?restusx11
                    case hyusx11 =>
                      intro oi ho
                      simp only [List.getElem?_toArray, List.getElem?_cons_succ, List.getElem?_cons_zero, Option.some.injEq] at ho
                      subst ho
                      exact Or.inr ⟨by rfl, rfl⟩
                    try simp only [Act.put, List.setIfInBounds_toArray, List.set_cons_zero, List.set_cons_succ]
                    refine wpAnyH_takeAt (i := 12) (d := 44) (v := undef) (by kernel_rfl) (by kernel_rfl) (by kernel_rfl) (by kernel_rfl) (fun _ _ _ h => h) ?hyusx12 (by assumption) ?restusx12
                    case hyusx12 =>
                      intro oi ho
                      simp only [List.getElem?_toArray, List.getElem?_cons_succ, List.getElem?_cons_zero, Option.some.injEq] at ho
                      subst ho
                      exact Or.inr ⟨by rfl, rfl⟩
                    try simp only [Act.put, List.setIfInBounds_toArray, List.set_cons_zero, List.set_cons_succ]
                    refine wpAnyH_takeAt (i := 13) (d := 45) (v := ?vusx13) (by kernel_rfl) (by kernel_rfl) (by kernel_rfl) (by kernel_rfl) (fun _ _ _ h => h) ?hyusx13 (by assumption) ?restusx13
                    case hyusx13 =>
                      intro oi ho
                      simp only [List.getElem?_toArray, List.getElem?_cons_succ, List.getElem?_cons_zero, Option.some.injEq] at ho
                      subst ho
                      refine Or.inl ⟨by rfl, ?_⟩
                      intro wx hSw
                      try dsimp only at hSw
                      go_simp
                      try rfl
                    try simp only [Act.put, List.setIfInBounds_toArray, List.set_cons_zero, List.set_cons_succ]
                    refine wpAnyH_takeAt (i := 14) (d := 46) (v := ?vusx14) (by kernel_rfl) (by kernel_rfl) (by kernel_rfl) (by kernel_rfl) (fun _ _ _ h => h) ?hyusx14 (by assumption) ?restusx14
                    case hyusx14 =>
                      intro oi ho
                      simp only [List.getElem?_toArray, List.getElem?_cons_succ, List.getElem?_cons_zero, Option.some.injEq] at ho
                      subst ho
                      refine Or.inl ⟨by rfl, ?_⟩
                      intro wx hSw
                      try dsimp only at hSw
                      go_simp
                      try rfl
                    try simp only [Act.put, List.setIfInBounds_toArray, List.set_cons_zero, List.set_cons_succ]
                    refine wpAnyH_takeAt (i := 15) (d := 47) (v := ?vusx15) (by kernel_rfl) (by kernel_rfl) (by kernel_rfl) (by kernel_rfl) (fun _ _ _ h => h) ?hyusx15 (by assumption) ?restusx15
                    case hyusx15 =>
                      intro oi ho
                      simp only [List.getElem?_toArray, List.getElem?_cons_succ, List.getElem?_cons_zero, Option.some.injEq] at ho
                      subst ho
                      refine Or.inl ⟨by rfl, ?_⟩
                      intro wx hSw
                      try dsimp only at hSw
                      go_simp
                      try rfl
                    try simp only [Act.put, List.setIfInBounds_toArray, List.set_cons_zero, List.set_cons_succ]
                    refine wpAnyH_takeAt (i := 16) (d := 48) (v := ?vusx16) (by kernel_rfl) (by kernel_rfl) (by kernel_rfl) (by kernel_rfl) (fun _ _ _ h => h) ?hyusx16 (by assumption) ?restusx16
                    case hyusx16 =>
                      intro oi ho
                      simp only [List.getElem?_toArray, List.getElem?_cons_succ, List.getElem?_cons_zero, Option.some.injEq] at ho
                      subst ho
                      refine Or.inl ⟨by rfl, ?_⟩
                      intro wx hSw
                      try dsimp only at hSw
                      go_simp
                      try rfl
                    try simp only [Act.put, List.setIfInBounds_toArray, List.set_cons_zero, List.set_cons_succ]
                    refine wpAnyH_takeAt (i := 17) (d := 49) (v := ?vusx17) (by kernel_rfl) (by kernel_rfl) (by kernel_rfl) (by kernel_rfl) (fun _ _ _ h => h) ?hyusx17 (by assumption) ?restusx17
                    case hyusx17 =>
                      intro oi ho
                      simp only [List.getElem?_toArray, List.getElem?_cons_succ, List.getElem?_cons_zero, Option.some.injEq] at ho
                      subst ho
                      refine Or.inl ⟨by rfl, ?_⟩
                      intro wx hSw
                      try dsimp only at hSw
                      go_simp
                      try rfl
                    try simp only [Act.put, List.setIfInBounds_toArray, List.set_cons_zero, List.set_cons_succ]
                    refine wpAnyH_takeAt (i := 18) (d := 50) (v := ?vusx18) (by kernel_rfl) (by kernel_rfl) (by kernel_rfl) (by kernel_rfl) (fun _ _ _ h => h) ?hyusx18 (by assumption) ?restusx18
                    case hyusx18 =>
                      intro oi ho
                      simp only [List.getElem?_toArray, List.getElem?_cons_succ, List.getElem?_cons_zero, Option.some.injEq] at ho
                      subst ho
                      refine Or.inl ⟨by rfl, ?_⟩
                      intro wx hSw
                      try dsimp only at hSw
                      go_simp
                      try rfl
                    try simp only [Act.put, List.setIfInBounds_toArray, List.set_cons_zero, List.set_cons_succ]
                    refine wpAnyH_takeAt (i := 19) (d := 51) (v := undef) (by kernel_rfl) (by kernel_rfl) (by kernel_rfl) (by kernel_rfl) (fun _ _ _ h => h) ?hyusx19 (by assumption) ?restusx19
                    case hyusx19 =>
                      intro oi ho
                      simp only [List.getElem?_toArray, List.getElem?_cons_succ, List.getElem?_cons_zero, Option.some.injEq] at ho
                      subst ho
                      exact Or.inr ⟨by rfl, rfl⟩
                    try simp only [Act.put, List.setIfInBounds_toArray, List.set_cons_zero, List.set_cons_succ]
                    refine wpAnyH_takeAt (i := 20) (d := 52) (v := undef) (by kernel_rfl) (by kernel_rfl) (by kernel_rfl) (by kernel_rfl) (fun _ _ _ h => h) ?hyusx20 (by assumption) ?restusx20
                    case hyusx20 =>
                      intro oi ho
                      simp only [List.getElem?_toArray, List.getElem?_cons_succ, List.getElem?_cons_zero, Option.some.injEq] at ho
                      subst ho
                      exact Or.inr ⟨by rfl, rfl⟩
                    try simp only [Act.put, List.setIfInBounds_toArray, List.set_cons_zero, List.set_cons_succ]
                    refine wpAnyH_takeAt (i := 21) (d := 53) (v := undef) (by kernel_rfl) (by kernel_rfl) (by kernel_rfl) (by kernel_rfl) (fun _ _ _ h => h) ?hyusx21 (by assumption) ?restusx21
                    case hyusx21 =>
                      intro oi ho
                      simp only [List.getElem?_toArray, List.getElem?_cons_succ, List.getElem?_cons_zero, Option.some.injEq] at ho
                      subst ho
                      exact Or.inr ⟨by rfl, rfl⟩
                    try simp only [Act.put, List.setIfInBounds_toArray, List.set_cons_zero, List.set_cons_succ]
                    refine wpAnyH_takeAt (i := 22) (d := 54) (v := ?vusx22) (by kernel_rfl) (by kernel_rfl) (by kernel_rfl) (by kernel_rfl) (fun _ _ _ h => h) ?hyusx22 (by assumption) ?restusx22
                    case hyusx22 =>
                      intro oi ho
                      simp only [List.getElem?_toArray, List.getElem?_cons_succ, List.getElem?_cons_zero, Option.some.injEq] at ho
                      subst ho
                      refine Or.inl ⟨by rfl, ?_⟩
                      intro wx hSw
                      try dsimp only at hSw
                      go_simp
                      try rfl
                    try simp only [Act.put, List.setIfInBounds_toArray, List.set_cons_zero, List.set_cons_succ]
                    refine wpAnyH_takeAt (i := 23) (d := 55) (v := ?vusx23) (by kernel_rfl) (by kernel_rfl) (by kernel_rfl) (by kernel_rfl) (fun _ _ _ h => h) ?hyusx23 (by assumption) ?restusx23
                    case hyusx23 =>
                      intro oi ho
                      simp only [List.getElem?_toArray, List.getElem?_cons_succ, List.getElem?_cons_zero, Option.some.injEq] at ho
                      subst ho
                      refine Or.inl ⟨by rfl, ?_⟩
                      intro wx hSw
                      try dsimp only at hSw
                      go_simp
                      try rfl
                    try simp only [Act.put, List.setIfInBounds_toArray, List.set_cons_zero, List.set_cons_succ]
                    refine wpAnyH_takeAt (i := 24) (d := 56) (v := ?vusx24) (by kernel_rfl) (by kernel_rfl) (by kernel_rfl) (by kernel_rfl) (fun _ _ _ h => h) ?hyusx24 (by assumption) ?restusx24
                    case hyusx24 =>
                      intro oi ho
                      simp only [List.getElem?_toArray, List.getElem?_cons_succ, List.getElem?_cons_zero, Option.some.injEq] at ho
                      subst ho
                      refine Or.inl ⟨by rfl, ?_⟩
                      intro wx hSw
                      try dsimp only at hSw
                      go_simp
                      try rfl
                    try simp only [Act.put, List.setIfInBounds_toArray, List.set_cons_zero, List.set_cons_succ]
                    refine wpAnyH_takeAt (i := 25) (d := 57) (v := ?vusx25) (by kernel_rfl) (by kernel_rfl) (by kernel_rfl) (by kernel_rfl) (fun _ _ _ h => h) ?hyusx25 (by assumption) ?restusx25
                    case hyusx25 =>
                      intro oi ho
                      simp only [List.getElem?_toArray, List.getElem?_cons_succ, List.getElem?_cons_zero, Option.some.injEq] at ho
                      subst ho
                      refine Or.inl ⟨by rfl, ?_⟩
                      intro wx hSw
                      try dsimp only at hSw
                      go_simp
                      try rfl
                    try simp only [Act.put, List.setIfInBounds_toArray, List.set_cons_zero, List.set_cons_succ]
                    refine wpAnyH_takeAt (i := 26) (d := 58) (v := ?vusx26) (by kernel_rfl) (by kernel_rfl) (by kernel_rfl) (by kernel_rfl) (fun _ _ _ h => h) ?hyusx26 (by assumption) ?restusx26
                    case hyusx26 =>
                      intro oi ho
                      simp only [List.getElem?_toArray, List.getElem?_cons_succ, List.getElem?_cons_zero, Option.some.injEq] at ho
                      subst ho
                      refine Or.inl ⟨by rfl, ?_⟩
                      intro wx hSw
                      try dsimp only at hSw
                      go_simp
                      try rfl
                    try simp only [Act.put, List.setIfInBounds_toArray, List.set_cons_zero, List.set_cons_succ]
                    refine wpAnyH_takeAt (i := 27) (d := 59) (v := ?vusx27) (by kernel_rfl) (by kernel_rfl) (by kernel_rfl) (by kernel_rfl) (fun _ _ _ h => h) ?hyusx27 (by assumption) ?restusx27
                    case hyusx27 =>
                      intro oi ho
                      simp only [List.getElem?_toArray, List.getElem?_cons_succ, List.getElem?_cons_zero, Option.some.injEq] at ho
                      subst ho
                      refine Or.inl ⟨by rfl, ?_⟩
                      intro wx hSw
                      try dsimp only at hSw
                      go_simp
                      try rfl
                    try simp only [Act.put, List.setIfInBounds_toArray, List.set_cons_zero, List.set_cons_succ]
                    refine wpAnyH_takeAt (i := 28) (d := 60) (v := ?vusx28) (by kernel_rfl) (by kernel_rfl) (by kernel_rfl) (by kernel_rfl) (fun _ _ _ h => h) ?hyusx28 (by assumption) ?restusx28
                    case hyusx28 =>
                      intro oi ho
                      simp only [List.getElem?_toArray, List.getElem?_cons_succ, List.getElem?_cons_zero, Option.some.injEq] at ho
                      subst ho
                      refine Or.inl ⟨by rfl, ?_⟩
                      intro wx hSw
                      try dsimp only at hSw
                      go_simp
                      try rfl
                    try simp only [Act.put, List.setIfInBounds_toArray, List.set_cons_zero, List.set_cons_succ]
                    refine wpAnyH_takeAt (i := 29) (d := 61) (v := ?vusx29) (by kernel_rfl) (by kernel_rfl) (by kernel_rfl) (by kernel_rfl) (fun _ _ _ h => h) ?hyusx29 (by assumption) ?restusx29
                    case hyusx29 =>
                      intro oi ho
                      simp only [List.getElem?_toArray, List.getElem?_cons_succ, List.getElem?_cons_zero, Option.some.injEq] at ho
                      subst ho
                      refine Or.inl ⟨by rfl, ?_⟩
                      intro wx hSw
                      try dsimp only at hSw
                      go_simp
                      try rfl
                    try simp only [Act.put, List.setIfInBounds_toArray, List.set_cons_zero, List.set_cons_succ]
                    refine wpAnyH_takeAt (i := 30) (d := 62) (v := ?vusx30) (by kernel_rfl) (by kernel_rfl) (by kernel_rfl) (by kernel_rfl) (fun _ _ _ h => h) ?hyusx30 (by assumption) ?restusx30
                    case hyusx30 =>
                      intro oi ho
                      simp only [List.getElem?_toArray, List.getElem?_cons_succ, List.getElem?_cons_zero, Option.some.injEq] at ho
                      subst ho
                      refine Or.inl ⟨by rfl, ?_⟩
                      intro wx hSw
                      try dsimp only at hSw
                      go_simp
                      try rfl
                    try simp only [Act.put, List.setIfInBounds_toArray, List.set_cons_zero, List.set_cons_succ]
                    refine wpAnyH_takeAt (i := 32) (d := 64) (v := ?vusx32) (by kernel_rfl) (by kernel_rfl) (by kernel_rfl) (by kernel_rfl) (fun _ _ _ h => h) ?hyusx32 (by assumption) ?restusx32
                    case hyusx32 =>
                      intro oi ho
                      simp only [List.getElem?_toArray, List.getElem?_cons_succ, List.getElem?_cons_zero, Option.some.injEq] at ho
                      subst ho
                      refine Or.inl ⟨by rfl, ?_⟩
                      intro wx hSw
                      try dsimp only at hSw
                      go_simp
                      try rfl
                    try simp only [Act.put, List.setIfInBounds_toArray, List.set_cons_zero, List.set_cons_succ]
                    refine wpAnyH_takeAt (i := 33) (d := 65) (v := ?vusx33) (by kernel_rfl) (by kernel_rfl) (by kernel_rfl) (by kernel_rfl) (fun _ _ _ h => h) ?hyusx33 (by assumption) ?restusx33
                    case hyusx33 =>
                      intro oi ho
                      simp only [List.getElem?_toArray, List.getElem?_cons_succ, List.getElem?_cons_zero, Option.some.injEq] at ho
                      subst ho
                      refine Or.inl ⟨by rfl, ?_⟩
                      intro wx hSw
                      try dsimp only at hSw
                      go_simp
                      try rfl
                    try simp only [Act.put, List.setIfInBounds_toArray, List.set_cons_zero, List.set_cons_succ]
                    refine wpAnyH_comesAt (i := 31) (by kernel_rfl) (by kernel_rfl) ?_
                    intro o ho K hK
                    simp only [List.getElem?_toArray, List.getElem?_cons_succ, List.getElem?_cons_zero, Option.some.injEq] at ho
                    subst ho
                    go_simp
                    refine (HRU.out w3).mono ?_
                    rintro e w4 ⟨rfl, hb⟩
                    have HB4 : Hid (Below wc.drew.heap.size wc.drew w4) := HB3.out.trans (hb.mono HB3.out.size)
                    have H64 := hide ((hb.block g6 (blk_lt H63.out)).trans H63.out)
                    have H74 := hide ((hb.block g7 (blk_lt H73.out)).trans H73.out)
                    clear hb hHeld
                    refine hK.out _ _ ⟨⟨cell_blk H64.out, cell_blk H64.out, cell_blk H64.out⟩, cell_blk H74.out, cell_blk H74.out⟩ (fun hHeld => ?_)
                    clear hK K
                    try simp only [Act.put, List.setIfInBounds_toArray, List.set_cons_zero, List.set_cons_succ]
                    refine wpAnyH_takeAt (i := 34) (d := 66) (v := ?vusx34) (by kernel_rfl) (by kernel_rfl) (by kernel_rfl) (by kernel_rfl) (fun _ _ _ h => h) ?hyusx34 (by assumption) ?restusx34
                    case hyusx34 =>
                      intro oi ho
                      simp only [List.getElem?_toArray, List.getElem?_cons_succ, List.getElem?_cons_zero, Option.some.injEq] at ho
                      subst ho
                      refine Or.inl ⟨by rfl, ?_⟩
                      intro wx hSw
                      try dsimp only at hSw
                      go_simp
                      try rfl
                    try simp only [Act.put, List.setIfInBounds_toArray, List.set_cons_zero, List.set_cons_succ]
                    refine wpAnyH_takeAt (i := 35) (d := 67) (v := ?vusx35) (by kernel_rfl) (by kernel_rfl) (by kernel_rfl) (by kernel_rfl) (fun _ _ _ h => h) ?hyusx35 (by assumption) ?restusx35
                    case hyusx35 =>
                      intro oi ho
                      simp only [List.getElem?_toArray, List.getElem?_cons_succ, List.getElem?_cons_zero, Option.some.injEq] at ho
                      subst ho
                      refine Or.inl ⟨by rfl, ?_⟩
                      intro wx hSw
                      try dsimp only at hSw
                      go_simp
                      try rfl
                    try simp only [Act.put, List.setIfInBounds_toArray, List.set_cons_zero, List.set_cons_succ]
                    refine wpAnyH_takeAt (i := 36) (d := 68) (v := ?vusx36) (by kernel_rfl) (by kernel_rfl) (by kernel_rfl) (by kernel_rfl) (fun _ _ _ h => h) ?hyusx36 (by assumption) ?restusx36
                    case hyusx36 =>
                      intro oi ho
                      simp only [List.getElem?_toArray, List.getElem?_cons_succ, List.getElem?_cons_zero, Option.some.injEq] at ho
                      subst ho
                      refine Or.inl ⟨by rfl, ?_⟩
                      intro wx hSw
                      try dsimp only at hSw
                      go_simp
                      try rfl
                    try simp only [Act.put, List.setIfInBounds_toArray, List.set_cons_zero, List.set_cons_succ]
                    refine wpAnyH_done (by kernel_rfl) ?_ _
                    refine NoPanic.normal ?_
                    clear hHeld
                    have HE := hide (HBAD.out (by unfold fitsB; rw [decide_eq_false (show ¬ (rcn v.2.2 : Int) ≤ c.2.2 by omega)]; simp))
                    go_wp2
                    go_ret
                    exact ⟨by rw [HE.out]; rfl, HB2.out.trans ((HB2'.out.drew.trans (HB4.out.mono HBS.out)).mono HLB.out)⟩
                  · have dm : decide (c.2.2 < (rcn v.2.2 : Int)) = false := decide_eq_false hm
                    refine wp_region_noPanic ?_
                    refine wp_region_held_drew (S := fun wx => (wx.cell? ⟨g6, 0, none⟩ = some (.int .i64 v.1) ∧ wx.cell? ⟨g6, 1, none⟩ = some (.int .i64 v.2.1) ∧ wx.cell? ⟨g6, 2, none⟩ = some (.string v.2.2)) ∧ wx.cell? ⟨g7, 1, none⟩ = some (.int .i64 c.2.1) ∧ wx.cell? ⟨g7, 2, none⟩ = some (.int .i64 c.2.2)) (by kernel_rfl) HX.out (fun hHeld => ?_)
                    refine wpAnyH_takeAt (i := 0) (d := 32) (v := ?vusy0) (by kernel_rfl) (by kernel_rfl) (by kernel_rfl) (by kernel_rfl) (fun _ _ _ h => h) ?hyusy0 (by assumption) ?restusy0
                    case hyusy0 =>
                      intro oi ho
                      simp only [List.getElem?_toArray, List.getElem?_cons_zero, Option.some.injEq] at ho
                      subst ho
                      refine Or.inl ⟨by rfl, ?_⟩
                      intro wx hSw
                      try dsimp only at hSw
                      go_simp
                      try rfl
                    try simp only [Act.put, List.setIfInBounds_toArray, List.set_cons_zero, List.set_cons_succ]
                    refine wpAnyH_comesAt (i := 1) (by kernel_rfl) (by kernel_rfl) ?_
                    intro o ho K hK
                    simp only [List.getElem?_toArray, List.getElem?_cons_succ, List.getElem?_cons_zero, Option.some.injEq] at ho
                    subst ho
                    go_simp
                    refine HRT.out.mono ?_
                    rintro e w3 ⟨rfl, hb⟩
                    have HB3 : Hid (Below wc.drew.heap.size wc.drew w3) := hb
                    have H63 := hide ((hb.block g6 (blk_lt H62.out)).trans H62.out)
                    have H73 := hide ((hb.block g7 (blk_lt H72.out)).trans H72.out)
                    clear hb hHeld
                    refine hK.out _ _ ⟨⟨cell_blk H63.out, cell_blk H63.out, cell_blk H63.out⟩, cell_blk H73.out, cell_blk H73.out⟩ (fun hHeld => ?_)
                    clear hK K
                    try simp only [Act.put, List.setIfInBounds_toArray, List.set_cons_zero, List.set_cons_succ]
                    refine wpAnyH_takeAt (i := 2) (d := 34) (v := ?vusy2) (by kernel_rfl) (by kernel_rfl) (by kernel_rfl) (by kernel_rfl) (fun _ _ _ h => h) ?hyusy2 (by assumption) ?restusy2
                    case hyusy2 =>
                      intro oi ho
                      simp only [List.getElem?_toArray, List.getElem?_cons_succ, List.getElem?_cons_zero, Option.some.injEq] at ho
                      subst ho
                      refine Or.inl ⟨by rfl, ?_⟩
                      intro wx hSw
                      try dsimp only at hSw
                      go_simp
                      try rfl
                    try simp only [Act.put, List.setIfInBounds_toArray, List.set_cons_zero, List.set_cons_succ]
                    refine wpAnyH_takeAt (i := 3) (d := 35) (v := ?vusy3) (by kernel_rfl) (by kernel_rfl) (by kernel_rfl) (by kernel_rfl) (fun _ _ _ h => h) ?hyusy3 (by assumption) ?restusy3
                    case hyusy3 =>
                      intro oi ho
                      simp only [List.getElem?_toArray, List.getElem?_cons_succ, List.getElem?_cons_zero, Option.some.injEq] at ho
                      subst ho
                      refine Or.inl ⟨by rfl, ?_⟩
                      intro wx hSw
                      try dsimp only at hSw
                      go_simp
                      try rfl
                    try simp only [Act.put, List.setIfInBounds_toArray, List.set_cons_zero, List.set_cons_succ]
                    refine wpAnyH_takeAt (i := 4) (d := 36) (v := ?vusy4) (by kernel_rfl) (by kernel_rfl) (by kernel_rfl) (by kernel_rfl) (fun _ _ _ h => h) ?hyusy4 (by assumption) ?restusy4
                    case hyusy4 =>
                      intro oi ho
                      simp only [List.getElem?_toArray, List.getElem?_cons_succ, List.getElem?_cons_zero, Option.some.injEq] at ho
                      subst ho
                      refine Or.inl ⟨by rfl, ?_⟩
                      intro wx hSw
                      try dsimp only at hSw
                      go_simp
                      try rfl
                    try simp only [Act.put, List.setIfInBounds_toArray, List.set_cons_zero, List.set_cons_succ]
                    refine wpAnyH_takeAt (i := 5) (d := 37) (v := ?vusy5) (by kernel_rfl) (by kernel_rfl) (by kernel_rfl) (by kernel_rfl) (fun _ _ _ h => h) ?hyusy5 (by assumption) ?restusy5
                    case hyusy5 =>
                      intro oi ho
                      simp only [List.getElem?_toArray, List.getElem?_cons_succ, List.getElem?_cons_zero, Option.some.injEq] at ho
                      subst ho
                      refine Or.inl ⟨by rfl, ?_⟩
                      intro wx hSw
                      try dsimp only at hSw
                      go_simp
                      try rfl
                    try simp only [Act.put, List.setIfInBounds_toArray, List.set_cons_zero, List.set_cons_succ]
                    refine wpAnyH_takeAt (i := 6) (d := 38) (v := ?vusy6) (by kernel_rfl) (by kernel_rfl) (by kernel_rfl) (by kernel_rfl) (fun _ _ _ h => h) ?hyusy6 (by assumption) ?restusy6
                    case hyusy6 =>
                      intro oi ho
                      simp only [List.getElem?_toArray, List.getElem?_cons_succ, List.getElem?_cons_zero, Option.some.injEq] at ho
                      subst ho
                      refine Or.inl ⟨by rfl, ?_⟩
                      intro wx hSw
                      try dsimp only at hSw
                      go_simp
                      try rfl
                    try simp only [Act.put, List.setIfInBounds_toArray, List.set_cons_zero, List.set_cons_succ]
                    refine wpAnyH_takeAt (i := 7) (d := 39) (v := ?vusy7) (by kernel_rfl) (by kernel_rfl) (by kernel_rfl) (by kernel_rfl) (fun _ _ _ h => h) ?hyusy7 (by assumption) ?restusy7
                    case hyusy7 =>
                      intro oi ho
                      simp only [List.getElem?_toArray, List.getElem?_cons_succ, List.getElem?_cons_zero, Option.some.injEq] at ho
                      subst ho
                      refine Or.inl ⟨by rfl, ?_⟩
                      intro wx hSw
                      try dsimp only at hSw
                      go_simp
                      try rfl
                    try simp only [Act.put, List.setIfInBounds_toArray, List.set_cons_zero, List.set_cons_succ]
                    refine wpAnyH_takeAt (i := 8) (d := 40) (v := ?vusy8) (by kernel_rfl) (by kernel_rfl) (by kernel_rfl) (by kernel_rfl) (fun _ _ _ h => h) ?hyusy8 (by assumption) ?restusy8
                    case hyusy8 =>
                      intro oi ho
                      simp only [List.getElem?_toArray, List.getElem?_cons_succ, List.getElem?_cons_zero, Option.some.injEq] at ho
                      subst ho
                      refine Or.inl ⟨by rfl, ?_⟩
                      intro wx hSw
                      try dsimp only at hSw
                      go_simp
                      try rfl
                    try simp only [Act.put, List.setIfInBounds_toArray, List.set_cons_zero, List.set_cons_succ]
                    refine wpAnyH_takeAt (i := 9) (d := 41) (v := ?vusy9) (by kernel_rfl) (by kernel_rfl) (by kernel_rfl) (by kernel_rfl) (fun _ _ _ h => h) ?hyusy9 (by assumption) ?restusy9
                    case hyusy9 =>
                      intro oi ho
                      simp only [List.getElem?_toArray, List.getElem?_cons_succ, List.getElem?_cons_zero, Option.some.injEq] at ho
                      subst ho
                      refine Or.inl ⟨by rfl, ?_⟩
                      intro wx hSw
                      try dsimp only at hSw
                      go_simp
                      try rfl
                    try simp only [Act.put, List.setIfInBounds_toArray, List.set_cons_zero, List.set_cons_succ]
                    refine wpAnyH_takeAt (i := 10) (d := 42) (v := undef) (by kernel_rfl) (by kernel_rfl) (by kernel_rfl) (by kernel_rfl) (fun _ _ _ h => h) ?hyusy10 (by assumption) ?restusy10
                    case hyusy10 =>
                      intro oi ho
                      simp only [List.getElem?_toArray, List.getElem?_cons_succ, List.getElem?_cons_zero, Option.some.injEq] at ho
                      subst ho
                      exact Or.inr ⟨by rfl, rfl⟩
                    try simp only [Act.put, List.setIfInBounds_toArray, List.set_cons_zero, List.set_cons_succ]
                    refine wpAnyH_takeAt (i := 11) (d := 43) (v := undef) (by kernel_rfl) (by kernel_rfl) (by kernel_rfl) (by kernel_rfl) (fun _ _ _ h => h) ?hyusy11 (by assumption) ?restusy11
                    case hyusy11 =>
                      intro oi ho
                      simp only [List.getElem?_toArray, List.getElem?_cons_succ, List.getElem?_cons_zero, Option.some.injEq] at ho
                      subst ho
                      exact Or.inr ⟨by rfl, rfl⟩
                    try simp only [Act.put, List.setIfInBounds_toArray, List.set_cons_zero, List.set_cons_succ]
                    refine wpAnyH_takeAt (i := 12) (d := 44) (v := undef) (by kernel_rfl) (by kernel_rfl) (by kernel_rfl) (by kernel_rfl) (fun _ _ _ h => h) ?hyusy12 (by assumption) ?restusy12
                    case hyusy12 =>
                      intro oi ho
                      simp only [List.getElem?_toArray, List.getElem?_cons_succ, List.getElem?_cons_zero, Option.some.injEq] at ho
                      subst ho
                      exact Or.inr ⟨by rfl, rfl⟩
                    try simp only [Act.put, List.setIfInBounds_toArray, List.set_cons_zero, List.set_cons_succ]
                    refine wpAnyH_takeAt (i := 13) (d := 45) (v := ?vusy13) (by kernel_rfl) (by kernel_rfl) (by kernel_rfl) (by kernel_rfl) (fun _ _ _ h => h) ?hyusy13 (by assumption) ?restusy13
                    case hyusy13 =>
                      intro oi ho
                      simp only [List.getElem?_toArray, List.getElem?_cons_succ, List.getElem?_cons_zero, Option.some.injEq] at ho
                      subst ho
                      refine Or.inl ⟨by rfl, ?_⟩
                      intro wx hSw
                      try dsimp only at hSw
                      go_simp
                      try rfl
                    try simp only [Act.put, List.setIfInBounds_toArray, List.set_cons_zero, List.set_cons_succ]
                    refine wpAnyH_takeAt (i := 14) (d := 46) (v := ?vusy14) (by kernel_rfl) (by kernel_rfl) (by kernel_rfl) (by kernel_rfl) (fun _ _ _ h => h) ?hyusy14 (by assumption) ?restusy14
                    case hyusy14 =>
                      intro oi ho
                      simp only [List.getElem?_toArray, List.getElem?_cons_succ, List.getElem?_cons_zero, Option.some.injEq] at ho
                      subst ho
                      refine Or.inl ⟨by rfl, ?_⟩
                      intro wx hSw
                      try dsimp only at hSw
                      go_simp
                      try rfl
                    try simp only [Act.put, List.setIfInBounds_toArray, List.set_cons_zero, List.set_cons_succ]
                    refine wpAnyH_takeAt (i := 15) (d := 47) (v := ?vusy15) (by kernel_rfl) (by kernel_rfl) (by kernel_rfl) (by kernel_rfl) (fun _ _ _ h => h) ?hyusy15 (by assumption) ?restusy15
                    case hyusy15 =>
                      intro oi ho
                      simp only [List.getElem?_toArray, List.getElem?_cons_succ, List.getElem?_cons_zero, Option.some.injEq] at ho
                      subst ho
                      refine Or.inl ⟨by rfl, ?_⟩
                      intro wx hSw
                      try dsimp only at hSw
                      go_simp
                      try rfl
                    try simp only [Act.put, List.setIfInBounds_toArray, List.set_cons_zero, List.set_cons_succ]
                    refine wpAnyH_takeAt (i := 16) (d := 48) (v := ?vusy16) (by kernel_rfl) (by kernel_rfl) (by kernel_rfl) (by kernel_rfl) (fun _ _ _ h => h) ?hyusy16 (by assumption) ?restusy16
                    case hyusy16 =>
                      intro oi ho
                      simp only [List.getElem?_toArray, List.getElem?_cons_succ, List.getElem?_cons_zero, Option.some.injEq] at ho
                      subst ho
                      refine Or.inl ⟨by rfl, ?_⟩
                      intro wx hSw
                      try dsimp only at hSw
                      go_simp
                      try rfl
                    try simp only [Act.put, List.setIfInBounds_toArray, List.set_cons_zero, List.set_cons_succ]
                    refine wpAnyH_takeAt (i := 17) (d := 49) (v := ?vusy17) (by kernel_rfl) (by kernel_rfl) (by kernel_rfl) (by kernel_rfl) (fun _ _ _ h => h) ?hyusy17 (by assumption) ?restusy17
                    case hyusy17 =>
                      intro oi ho
                      simp only [List.getElem?_toArray, List.getElem?_cons_succ, List.getElem?_cons_zero, Option.some.injEq] at ho
                      subst ho
                      refine Or.inl ⟨by rfl, ?_⟩
                      intro wx hSw
                      try dsimp only at hSw
                      go_simp
                      try rfl
                    try simp only [Act.put, List.setIfInBounds_toArray, List.set_cons_zero, List.set_cons_succ]
                    refine wpAnyH_takeAt (i := 18) (d := 50) (v := ?vusy18) (by kernel_rfl) (by kernel_rfl) (by kernel_rfl) (by kernel_rfl) (fun _ _ _ h => h) ?hyusy18 (by assumption) ?restusy18
                    case hyusy18 =>
                      intro oi ho
                      simp only [List.getElem?_toArray, List.getElem?_cons_succ, List.getElem?_cons_zero, Option.some.injEq] at ho
                      subst ho
                      refine Or.inl ⟨by rfl, ?_⟩
                      intro wx hSw
                      try dsimp only at hSw
                      go_simp
                      try rfl
                    try simp only [Act.put, List.setIfInBounds_toArray, List.set_cons_zero, List.set_cons_succ]
                    refine wpAnyH_takeAt (i := 19) (d := 51) (v := undef) (by kernel_rfl) (by kernel_rfl) (by kernel_rfl) (by kernel_rfl) (fun _ _ _ h => h) ?hyusy19 (by assumption) ?restusy19
                    case hyusy19 =>
                      intro oi ho
                      simp only [List.getElem?_toArray, List.getElem?_cons_succ, List.getElem?_cons_zero, Option.some.injEq] at ho
                      subst ho
                      exact Or.inr ⟨by rfl, rfl⟩
                    try simp only [Act.put, List.setIfInBounds_toArray, List.set_cons_zero, List.set_cons_succ]
                    refine wpAnyH_takeAt (i := 20) (d := 52) (v := undef) (by kernel_rfl) (by kernel_rfl) (by kernel_rfl) (by kernel_rfl) (fun _ _ _ h => h) ?hyusy20 (by assumption) ?restusy20
                    case hyusy20 =>
                      intro oi ho
                      simp only [List.getElem?_toArray, List.getElem?_cons_succ, List.getElem?_cons_zero, Option.some.injEq] at ho
                      subst ho
                      exact Or.inr ⟨by rfl, rfl⟩
                    try simp only [Act.put, List.setIfInBounds_toArray, List.set_cons_zero, List.set_cons_succ]
                    refine wpAnyH_takeAt (i := 21) (d := 53) (v := undef) (by kernel_rfl) (by kernel_rfl) (by kernel_rfl) (by kernel_rfl) (fun _ _ _ h => h) ?hyusy21 (by assumption) ?restusy21
                    case hyusy21 =>
                      intro oi ho
                      simp only [List.getElem?_toArray, List.getElem?_cons_succ, List.getElem?_cons_zero, Option.some.injEq] at ho
                      subst ho
                      exact Or.inr ⟨by rfl, rfl⟩
                    try simp only [Act.put, List.setIfInBounds_toArray, List.set_cons_zero, List.set_cons_succ]
                    refine wpAnyH_takeAt (i := 22) (d := 54) (v := ?vusy22) (by kernel_rfl) (by kernel_rfl) (by kernel_rfl) (by kernel_rfl) (fun _ _ _ h => h) ?hyusy22 (by assumption) ?restusy22
                    case hyusy22 =>
                      intro oi ho
                      simp only [List.getElem?_toArray, List.getElem?_cons_succ, List.getElem?_cons_zero, Option.some.injEq] at ho
                      subst ho
                      refine Or.inl ⟨by rfl, ?_⟩
                      intro wx hSw
                      try dsimp only at hSw
                      go_simp
                      try rfl
                    try simp only [Act.put, List.setIfInBounds_toArray, List.set_cons_zero, List.set_cons_succ]
                    refine wpAnyH_takeAt (i := 23) (d := 55) (v := ?vusy23) (by kernel_rfl) (by kernel_rfl) (by kernel_rfl) (by kernel_rfl) (fun _ _ _ h => h) ?hyusy23 (by assumption) ?restusy23
                    case hyusy23 =>
                      intro oi ho
                      simp only [List.getElem?_toArray, List.getElem?_cons_succ, List.getElem?_cons_zero, Option.some.injEq] at ho
                      subst ho
                      refine Or.inl ⟨by rfl, ?_⟩
                      intro wx hSw
                      try dsimp only at hSw
                      go_simp
                      try rfl
                    try simp only [Act.put, List.setIfInBounds_toArray, List.set_cons_zero, List.set_cons_succ]
                    refine wpAnyH_takeAt (i := 24) (d := 56) (v := ?vusy24) (by kernel_rfl) (by kernel_rfl) (by kernel_rfl) (by kernel_rfl) (fun _ _ _ h => h) ?hyusy24 (by assumption) ?restusy24
                    case hyusy24 =>
                      intro oi ho
                      simp only [List.getElem?_toArray, List.getElem?_cons_succ, List.getElem?_cons_zero, Option.some.injEq] at ho
                      subst ho
                      refine Or.inl ⟨by rfl, ?_⟩
                      intro wx hSw
                      try dsimp only at hSw
                      go_simp
                      try rfl
                    try simp only [Act.put, List.setIfInBounds_toArray, List.set_cons_zero, List.set_cons_succ]
                    refine wpAnyH_takeAt (i := 25) (d := 57) (v := ?vusy25) (by kernel_rfl) (by kernel_rfl) (by kernel_rfl) (by kernel_rfl) (fun _ _ _ h => h) ?hyusy25 (by assumption) ?restusy25
                    case hyusy25 =>
                      intro oi ho
                      simp only [List.getElem?_toArray, List.getElem?_cons_succ, List.getElem?_cons_zero, Option.some.injEq] at ho
                      subst ho
                      refine Or.inl ⟨by rfl, ?_⟩
                      intro wx hSw
                      try dsimp only at hSw
                      go_simp
                      try rfl
                    try simp only [Act.put, List.setIfInBounds_toArray, List.set_cons_zero, List.set_cons_succ]
                    refine wpAnyH_takeAt (i := 26) (d := 58) (v := ?vusy26) (by kernel_rfl) (by kernel_rfl) (by kernel_rfl) (by kernel_rfl) (fun _ _ _ h => h) ?hyusy26 (by assumption) ?restusy26
                    case hyusy26 =>
                      intro oi ho
                      simp only [List.getElem?_toArray, List.getElem?_cons_succ, List.getElem?_cons_zero, Option.some.injEq] at ho
                      subst ho
                      refine Or.inl ⟨by rfl, ?_⟩
                      intro wx hSw
                      try dsimp only at hSw
                      go_simp
                      try rfl
                    try simp only [Act.put, List.setIfInBounds_toArray, List.set_cons_zero, List.set_cons_succ]
                    refine wpAnyH_takeAt (i := 27) (d := 59) (v := ?vusy27) (by kernel_rfl) (by kernel_rfl) (by kernel_rfl) (by kernel_rfl) (fun _ _ _ h => h) ?hyusy27 (by assumption) ?restusy27
                    case hyusy27 =>
                      intro oi ho
                      simp only [List.getElem?_toArray, List.getElem?_cons_succ, List.getElem?_cons_zero, Option.some.injEq] at ho
                      subst ho
                      refine Or.inl ⟨by rfl, ?_⟩
                      intro wx hSw
                      try dsimp only at hSw
                      go_simp
                      try rfl
                    try simp only [Act.put, List.setIfInBounds_toArray, List.set_cons_zero, List.set_cons_succ]
                    refine wpAnyH_takeAt (i := 28) (d := 60) (v := ?vusy28) (by kernel_rfl) (by kernel_rfl) (by kernel_rfl) (by kernel_rfl) (fun _ _ _ h => h) ?hyusy28 (by assumption) ?restusy28
                    case hyusy28 =>
                      intro oi ho
                      simp only [List.getElem?_toArray, List.getElem?_cons_succ, List.getElem?_cons_zero, Option.some.injEq] at ho
                      subst ho
                      refine Or.inl ⟨by rfl, ?_⟩
                      intro wx hSw
                      try dsimp only at hSw
                      go_simp
                      try rfl
                    try simp only [Act.put, List.setIfInBounds_toArray, List.set_cons_zero, List.set_cons_succ]
                    refine wpAnyH_takeAt (i := 29) (d := 61) (v := ?vusy29) (by kernel_rfl) (by kernel_rfl) (by kernel_rfl) (by kernel_rfl) (fun _ _ _ h => h) ?hyusy29 (by assumption) ?restusy29
                    case hyusy29 =>
                      intro oi ho
                      simp only [List.getElem?_toArray, List.getElem?_cons_succ, List.getElem?_cons_zero, Option.some.injEq] at ho
                      subst ho
                      refine Or.inl ⟨by rfl, ?_⟩
                      intro wx hSw
                      try dsimp only at hSw
                      go_simp
                      try rfl
                    try simp only [Act.put, List.setIfInBounds_toArray, List.set_cons_zero, List.set_cons_succ]
                    refine wpAnyH_takeAt (i := 30) (d := 62) (v := ?vusy30) (by kernel_rfl) (by kernel_rfl) (by kernel_rfl) (by kernel_rfl) (fun _ _ _ h => h) ?hyusy30 (by assumption) ?restusy30
                    case hyusy30 =>
                      intro oi ho
                      simp only [List.getElem?_toArray, List.getElem?_cons_succ, List.getElem?_cons_zero, Option.some.injEq] at ho
                      subst ho
                      refine Or.inl ⟨by rfl, ?_⟩
                      intro wx hSw
                      try dsimp only at hSw
                      go_simp
                      try rfl
                    try simp only [Act.put, List.setIfInBounds_toArray, List.set_cons_zero, List.set_cons_succ]
                    refine wpAnyH_takeAt (i := 32) (d := 64) (v := ?vusy32) (by kernel_rfl) (by kernel_rfl) (by kernel_rfl) (by kernel_rfl) (fun _ _ _ h => h) ?hyusy32 (by assumption) ?restusy32
                    case hyusy32 =>
                      intro oi ho
                      simp only [List.getElem?_toArray, List.getElem?_cons_succ, List.getElem?_cons_zero, Option.some.injEq] at ho
                      subst ho
                      refine Or.inl ⟨by rfl, ?_⟩
                      intro wx hSw
                      try dsimp only at hSw
                      go_simp
                      try rfl
                    try simp only [Act.put, List.setIfInBounds_toArray, List.set_cons_zero, List.set_cons_succ]
                    refine wpAnyH_takeAt (i := 33) (d := 65) (v := ?vusy33) (by kernel_rfl) (by kernel_rfl) (by kernel_rfl) (by kernel_rfl) (fun _ _ _ h => h) ?hyusy33 (by assumption) ?restusy33
                    case hyusy33 =>
                      intro oi ho
                      simp only [List.getElem?_toArray, List.getElem?_cons_succ, List.getElem?_cons_zero, Option.some.injEq] at ho
                      subst ho
                      refine Or.inl ⟨by rfl, ?_⟩
                      intro wx hSw
                      try dsimp only at hSw
                      go_simp
                      try rfl
                    try simp only [Act.put, List.setIfInBounds_toArray, List.set_cons_zero, List.set_cons_succ]
                    refine wpAnyH_comesAt (i := 31) (by kernel_rfl) (by kernel_rfl) ?_
                    intro o ho K hK
                    simp only [List.getElem?_toArray, List.getElem?_cons_succ, List.getElem?_cons_zero, Option.some.injEq] at ho
                    subst ho
                    go_simp
                    refine (HRU.out w3).mono ?_
                    rintro e w4 ⟨rfl, hb⟩
                    have HB4 : Hid (Below wc.drew.heap.size wc.drew w4) := HB3.out.trans (hb.mono HB3.out.size)
                    have H64 := hide ((hb.block g6 (blk_lt H63.out)).trans H63.out)
                    have H74 := hide ((hb.block g7 (blk_lt H73.out)).trans H73.out)
                    clear hb hHeld
                    refine hK.out _ _ ⟨⟨cell_blk H64.out, cell_blk H64.out, cell_blk H64.out⟩, cell_blk H74.out, cell_blk H74.out⟩ (fun hHeld => ?_)
                    clear hK K
                    try simp only [Act.put, List.setIfInBounds_toArray, List.set_cons_zero, List.set_cons_succ]
                    refine wpAnyH_takeAt (i := 34) (d := 66) (v := ?vusy34) (by kernel_rfl) (by kernel_rfl) (by kernel_rfl) (by kernel_rfl) (fun _ _ _ h => h) ?hyusy34 (by assumption) ?restusy34
                    case hyusy34 =>
                      intro oi ho
                      simp only [List.getElem?_toArray, List.getElem?_cons_succ, List.getElem?_cons_zero, Option.some.injEq] at ho
                      subst ho
                      refine Or.inl ⟨by rfl, ?_⟩
                      intro wx hSw
                      try dsimp only at hSw
                      go_simp
                      try rfl
                    try simp only [Act.put, List.setIfInBounds_toArray, List.set_cons_zero, List.set_cons_succ]
                    refine wpAnyH_takeAt (i := 35) (d := 67) (v := ?vusy35) (by kernel_rfl) (by kernel_rfl) (by kernel_rfl) (by kernel_rfl) (fun _ _ _ h => h) ?hyusy35 (by assumption) ?restusy35
                    case hyusy35 =>
                      intro oi ho
                      simp only [List.getElem?_toArray, List.getElem?_cons_succ, List.getElem?_cons_zero, Option.some.injEq] at ho
                      subst ho
                      refine Or.inl ⟨by rfl, ?_⟩
                      intro wx hSw
                      try dsimp only at hSw
                      go_simp
                      try rfl
                    try simp only [Act.put, List.setIfInBounds_toArray, List.set_cons_zero, List.set_cons_succ]
                    refine wpAnyH_takeAt (i := 36) (d := 68) (v := ?vusy36) (by kernel_rfl) (by kernel_rfl) (by kernel_rfl) (by kernel_rfl) (fun _ _ _ h => h) ?hyusy36 (by assumption) ?restusy36
                    case hyusy36 =>
                      intro oi ho
                      simp only [List.getElem?_toArray, List.getElem?_cons_succ, List.getElem?_cons_zero, Option.some.injEq] at ho
                      subst ho
                      refine Or.inl ⟨by rfl, ?_⟩
                      intro wx hSw
                      try dsimp only at hSw
                      go_simp
                      try rfl
                    try simp only [Act.put, List.setIfInBounds_toArray, List.set_cons_zero, List.set_cons_succ]
                    refine wpAnyH_done (by kernel_rfl) ?_ _
                    refine NoPanic.normal ?_
                    clear hHeld
                    have HG := hide ((show fitsB c v = true by unfold fitsB; rw [decide_eq_true H0.out, decide_eq_true (show (rcn v.2.2 : Int) ≤ c.2.2 by omega)]; simp [HKK.out]))
                    have hn3 := HC1.out.2
                    go_wp2
                    go_roundg (gk - 1)
                    case measure => omega
                    case rel => exact ⟨j + 1, by omega, by go_num, HNX.out.trans HG.out, fun _ => HFN.out, HB2'.out.drew.trans (HB4.out.mono HBS.out)⟩
                · have k2 : (v.1 == 2) = false := by simp [hk2]
                  have HK2 := hide hk2
                  clear hk2
                  refine wp_region_noPanic ?_
                  refine wp_region_held_drew (S := fun wx => (wx.cell? ⟨g6, 0, none⟩ = some (.int .i64 v.1) ∧ wx.cell? ⟨g6, 1, none⟩ = some (.int .i64 v.2.1) ∧ wx.cell? ⟨g6, 2, none⟩ = some (.string v.2.2)) ∧ wx.cell? ⟨g7, 1, none⟩ = some (.int .i64 c.2.1) ∧ wx.cell? ⟨g7, 2, none⟩ = some (.int .i64 c.2.2)) (by kernel_rfl) HX.out (fun hHeld => ?_)
                  refine wpAnyH_takeAt (i := 0) (d := 32) (v := ?vut0) (by kernel_rfl) (by kernel_rfl) (by kernel_rfl) (by kernel_rfl) (fun _ _ _ h => h) ?hyut0 (by assumption) ?restut0
                  case hyut0 =>
                    intro oi ho
                    simp only [List.getElem?_toArray, List.getElem?_cons_zero, Option.some.injEq] at ho
                    subst ho
                    refine Or.inl ⟨by rfl, ?_⟩
                    intro wx hSw
                    try dsimp only at hSw
                    go_simp
                    try rfl
                  try simp only [Act.put, List.setIfInBounds_toArray, List.set_cons_zero, List.set_cons_succ]
                  refine wpAnyH_comesAt (i := 1) (by kernel_rfl) (by kernel_rfl) ?_
                  intro o ho K hK
                  simp only [List.getElem?_toArray, List.getElem?_cons_succ, List.getElem?_cons_zero, Option.some.injEq] at ho
                  subst ho
                  go_simp
                  refine HRT.out.mono ?_
                  rintro e w3 ⟨rfl, hb⟩
                  have HB3 : Hid (Below wc.drew.heap.size wc.drew w3) := hb
                  have H63 := hide ((hb.block g6 (blk_lt H62.out)).trans H62.out)
                  have H73 := hide ((hb.block g7 (blk_lt H72.out)).trans H72.out)
                  clear hb hHeld
                  refine hK.out _ _ ⟨⟨cell_blk H63.out, cell_blk H63.out, cell_blk H63.out⟩, cell_blk H73.out, cell_blk H73.out⟩ (fun hHeld => ?_)
                  clear hK K
                  try simp only [Act.put, List.setIfInBounds_toArray, List.set_cons_zero, List.set_cons_succ]
                  refine wpAnyH_takeAt (i := 2) (d := 34) (v := ?vut2) (by kernel_rfl) (by kernel_rfl) (by kernel_rfl) (by kernel_rfl) (fun _ _ _ h => h) ?hyut2 (by assumption) ?restut2
                  case hyut2 =>
                    intro oi ho
                    simp only [List.getElem?_toArray, List.getElem?_cons_succ, List.getElem?_cons_zero, Option.some.injEq] at ho
                    subst ho
                    refine Or.inl ⟨by rfl, ?_⟩
                    intro wx hSw
                    try dsimp only at hSw
                    go_simp
                    try rfl
                  try simp only [Act.put, List.setIfInBounds_toArray, List.set_cons_zero, List.set_cons_succ]
                  refine wpAnyH_takeAt (i := 3) (d := 35) (v := ?vut3) (by kernel_rfl) (by kernel_rfl) (by kernel_rfl) (by kernel_rfl) (fun _ _ _ h => h) ?hyut3 (by assumption) ?restut3
                  case hyut3 =>
                    intro oi ho
                    simp only [List.getElem?_toArray, List.getElem?_cons_succ, List.getElem?_cons_zero, Option.some.injEq] at ho
                    subst ho
                    refine Or.inl ⟨by rfl, ?_⟩
                    intro wx hSw
                    try dsimp only at hSw
                    go_simp
                    try rfl
                  try simp only [Act.put, List.setIfInBounds_toArray, List.set_cons_zero, List.set_cons_succ]
                  refine wpAnyH_takeAt (i := 4) (d := 36) (v := ?vut4) (by kernel_rfl) (by kernel_rfl) (by kernel_rfl) (by kernel_rfl) (fun _ _ _ h => h) ?hyut4 (by assumption) ?restut4
                  case hyut4 =>
                    intro oi ho
                    simp only [List.getElem?_toArray, List.getElem?_cons_succ, List.getElem?_cons_zero, Option.some.injEq] at ho
                    subst ho
                    refine Or.inl ⟨by rfl, ?_⟩
                    intro wx hSw
                    try dsimp only at hSw
                    go_simp
                    try rfl
                  try simp only [Act.put, List.setIfInBounds_toArray, List.set_cons_zero, List.set_cons_succ]
                  refine wpAnyH_takeAt (i := 5) (d := 37) (v := ?vut5) (by kernel_rfl) (by kernel_rfl) (by kernel_rfl) (by kernel_rfl) (fun _ _ _ h => h) ?hyut5 (by assumption) ?restut5
                  case hyut5 =>
                    intro oi ho
                    simp only [List.getElem?_toArray, List.getElem?_cons_succ, List.getElem?_cons_zero, Option.some.injEq] at ho
                    subst ho
                    refine Or.inl ⟨by rfl, ?_⟩
                    intro wx hSw
                    try dsimp only at hSw
                    go_simp
                    try rfl
                  try simp only [Act.put, List.setIfInBounds_toArray, List.set_cons_zero, List.set_cons_succ]
                  refine wpAnyH_takeAt (i := 6) (d := 38) (v := ?vut6) (by kernel_rfl) (by kernel_rfl) (by kernel_rfl) (by kernel_rfl) (fun _ _ _ h => h) ?hyut6 (by assumption) ?restut6
                  case hyut6 =>
                    intro oi ho
                    simp only [List.getElem?_toArray, List.getElem?_cons_succ, List.getElem?_cons_zero, Option.some.injEq] at ho
                    subst ho
                    refine Or.inl ⟨by rfl, ?_⟩
                    intro wx hSw
                    try dsimp only at hSw
                    go_simp
                    try rfl
                  try simp only [Act.put, List.setIfInBounds_toArray, List.set_cons_zero, List.set_cons_succ]
                  refine wpAnyH_takeAt (i := 7) (d := 39) (v := ?vut7) (by kernel_rfl) (by kernel_rfl) (by kernel_rfl) (by kernel_rfl) (fun _ _ _ h => h) ?hyut7 (by assumption) ?restut7
                  case hyut7 =>
                    intro oi ho
                    simp only [List.getElem?_toArray, List.getElem?_cons_succ, List.getElem?_cons_zero, Option.some.injEq] at ho
                    subst ho
                    refine Or.inl ⟨by rfl, ?_⟩
                    intro wx hSw
                    try dsimp only at hSw
                    go_simp
                    try rfl
                  try simp only [Act.put, List.setIfInBounds_toArray, List.set_cons_zero, List.set_cons_succ]
                  refine wpAnyH_takeAt (i := 8) (d := 40) (v := ?vut8) (by kernel_rfl) (by kernel_rfl) (by kernel_rfl) (by kernel_rfl) (fun _ _ _ h => h) ?hyut8 (by assumption) ?restut8
                  case hyut8 =>
                    intro oi ho
                    simp only [List.getElem?_toArray, List.getElem?_cons_succ, List.getElem?_cons_zero, Option.some.injEq] at ho
                    subst ho
                    refine Or.inl ⟨by rfl, ?_⟩
                    intro wx hSw
                    try dsimp only at hSw
                    go_simp
                    try rfl
                  try simp only [Act.put, List.setIfInBounds_toArray, List.set_cons_zero, List.set_cons_succ]
                  refine wpAnyH_takeAt (i := 9) (d := 41) (v := ?vut9) (by kernel_rfl) (by kernel_rfl) (by kernel_rfl) (by kernel_rfl) (fun _ _ _ h => h) ?hyut9 (by assumption) ?restut9
                  case hyut9 =>
                    intro oi ho
                    simp only [List.getElem?_toArray, List.getElem?_cons_succ, List.getElem?_cons_zero, Option.some.injEq] at ho
                    subst ho
                    refine Or.inl ⟨by rfl, ?_⟩
                    intro wx hSw
                    try dsimp only at hSw
                    go_simp
                    try rfl
                  try simp only [Act.put, List.setIfInBounds_toArray, List.set_cons_zero, List.set_cons_succ]
                  refine wpAnyH_takeAt (i := 10) (d := 42) (v := undef) (by kernel_rfl) (by kernel_rfl) (by kernel_rfl) (by kernel_rfl) (fun _ _ _ h => h) ?hyut10 (by assumption) ?restut10
                  case hyut10 =>
                    intro oi ho
                    simp only [List.getElem?_toArray, List.getElem?_cons_succ, List.getElem?_cons_zero, Option.some.injEq] at ho
                    subst ho
                    exact Or.inr ⟨by rfl, rfl⟩
                  try simp only [Act.put, List.setIfInBounds_toArray, List.set_cons_zero, List.set_cons_succ]
                  refine wpAnyH_takeAt (i := 11) (d := 43) (v := undef) (by kernel_rfl) (by kernel_rfl) (by kernel_rfl) (by kernel_rfl) (fun _ _ _ h => h) ?hyut11 (by assumption) ?restut11
                  case hyut11 =>
                    intro oi ho
                    simp only [List.getElem?_toArray, List.getElem?_cons_succ, List.getElem?_cons_zero, Option.some.injEq] at ho
                    subst ho
                    exact Or.inr ⟨by rfl, rfl⟩
                  try simp only [Act.put, List.setIfInBounds_toArray, List.set_cons_zero, List.set_cons_succ]
                  refine wpAnyH_takeAt (i := 12) (d := 44) (v := undef) (by kernel_rfl) (by kernel_rfl) (by kernel_rfl) (by kernel_rfl) (fun _ _ _ h => h) ?hyut12 (by assumption) ?restut12
                  case hyut12 =>
                    intro oi ho
                    simp only [List.getElem?_toArray, List.getElem?_cons_succ, List.getElem?_cons_zero, Option.some.injEq] at ho
                    subst ho
                    exact Or.inr ⟨by rfl, rfl⟩
                  try simp only [Act.put, List.setIfInBounds_toArray, List.set_cons_zero, List.set_cons_succ]
                  refine wpAnyH_takeAt (i := 13) (d := 45) (v := ?vut13) (by kernel_rfl) (by kernel_rfl) (by kernel_rfl) (by kernel_rfl) (fun _ _ _ h => h) ?hyut13 (by assumption) ?restut13
                  case hyut13 =>
                    intro oi ho
                    simp only [List.getElem?_toArray, List.getElem?_cons_succ, List.getElem?_cons_zero, Option.some.injEq] at ho
                    subst ho
                    refine Or.inl ⟨by rfl, ?_⟩
                    intro wx hSw
                    try dsimp only at hSw
                    go_simp
                    try rfl
                  try simp only [Act.put, List.setIfInBounds_toArray, List.set_cons_zero, List.set_cons_succ]
                  refine wpAnyH_takeAt (i := 14) (d := 46) (v := ?vut14) (by kernel_rfl) (by kernel_rfl) (by kernel_rfl) (by kernel_rfl) (fun _ _ _ h => h) ?hyut14 (by assumption) ?restut14
                  case hyut14 =>
                    intro oi ho
                    simp only [List.getElem?_toArray, List.getElem?_cons_succ, List.getElem?_cons_zero, Option.some.injEq] at ho
                    subst ho
                    refine Or.inl ⟨by rfl, ?_⟩
                    intro wx hSw
                    try dsimp only at hSw
                    go_simp
                    try rfl
                  try simp only [Act.put, List.setIfInBounds_toArray, List.set_cons_zero, List.set_cons_succ]
                  refine wpAnyH_takeAt (i := 15) (d := 47) (v := ?vut15) (by kernel_rfl) (by kernel_rfl) (by kernel_rfl) (by kernel_rfl) (fun _ _ _ h => h) ?hyut15 (by assumption) ?restut15
                  case hyut15 =>
                    intro oi ho
                    simp only [List.getElem?_toArray, List.getElem?_cons_succ, List.getElem?_cons_zero, Option.some.injEq] at ho
                    subst ho
                    refine Or.inl ⟨by rfl, ?_⟩
                    intro wx hSw
                    try dsimp only at hSw
                    go_simp
                    try rfl
                  try simp only [Act.put, List.setIfInBounds_toArray, List.set_cons_zero, List.set_cons_succ]
                  refine wpAnyH_takeAt (i := 16) (d := 48) (v := ?vut16) (by kernel_rfl) (by kernel_rfl) (by kernel_rfl) (by kernel_rfl) (fun _ _ _ h => h) ?hyut16 (by assumption) ?restut16
                  case hyut16 =>
                    intro oi ho
                    simp only [List.getElem?_toArray, List.getElem?_cons_succ, List.getElem?_cons_zero, Option.some.injEq] at ho
                    subst ho
                    refine Or.inl ⟨by rfl, ?_⟩
                    intro wx hSw
                    try dsimp only at hSw
                    go_simp
                    try rfl
                  try simp only [Act.put, List.setIfInBounds_toArray, List.set_cons_zero, List.set_cons_succ]
                  refine wpAnyH_takeAt (i := 17) (d := 49) (v := ?vut17) (by kernel_rfl) (by kernel_rfl) (by kernel_rfl) (by kernel_rfl) (fun _ _ _ h => h) ?hyut17 (by assumption) ?restut17
                  case hyut17 =>
                    intro oi ho
                    simp only [List.getElem?_toArray, List.getElem?_cons_succ, List.getElem?_cons_zero, Option.some.injEq] at ho
                    subst ho
                    refine Or.inl ⟨by rfl, ?_⟩
                    intro wx hSw
                    try dsimp only at hSw
                    go_simp
                    try rfl
                  try simp only [Act.put, List.setIfInBounds_toArray, List.set_cons_zero, List.set_cons_succ]
                  refine wpAnyH_takeAt (i := 18) (d := 50) (v := ?vut18) (by kernel_rfl) (by kernel_rfl) (by kernel_rfl) (by kernel_rfl) (fun _ _ _ h => h) ?hyut18 (by assumption) ?restut18
                  case hyut18 =>
                    intro oi ho
                    simp only [List.getElem?_toArray, List.getElem?_cons_succ, List.getElem?_cons_zero, Option.some.injEq] at ho
                    subst ho
                    refine Or.inl ⟨by rfl, ?_⟩
                    intro wx hSw
                    try dsimp only at hSw
                    go_simp
                    try rfl
                  try simp only [Act.put, List.setIfInBounds_toArray, List.set_cons_zero, List.set_cons_succ]
                  refine wpAnyH_takeAt (i := 19) (d := 51) (v := undef) (by kernel_rfl) (by kernel_rfl) (by kernel_rfl) (by kernel_rfl) (fun _ _ _ h => h) ?hyut19 (by assumption) ?restut19
                  case hyut19 =>
                    intro oi ho
                    simp only [List.getElem?_toArray, List.getElem?_cons_succ, List.getElem?_cons_zero, Option.some.injEq] at ho
                    subst ho
                    exact Or.inr ⟨by rfl, rfl⟩
                  try simp only [Act.put, List.setIfInBounds_toArray, List.set_cons_zero, List.set_cons_succ]
                  refine wpAnyH_takeAt (i := 20) (d := 52) (v := undef) (by kernel_rfl) (by kernel_rfl) (by kernel_rfl) (by kernel_rfl) (fun _ _ _ h => h) ?hyut20 (by assumption) ?restut20
                  case hyut20 =>
                    intro oi ho
                    simp only [List.getElem?_toArray, List.getElem?_cons_succ, List.getElem?_cons_zero, Option.some.injEq] at ho
                    subst ho
                    exact Or.inr ⟨by rfl, rfl⟩
                  try simp only [Act.put, List.setIfInBounds_toArray, List.set_cons_zero, List.set_cons_succ]
                  refine wpAnyH_takeAt (i := 21) (d := 53) (v := undef) (by kernel_rfl) (by kernel_rfl) (by kernel_rfl) (by kernel_rfl) (fun _ _ _ h => h) ?hyut21 (by assumption) ?restut21
                  case hyut21 =>
                    intro oi ho
                    simp only [List.getElem?_toArray, List.getElem?_cons_succ, List.getElem?_cons_zero, Option.some.injEq] at ho
                    subst ho
                    exact Or.inr ⟨by rfl, rfl⟩
                  try simp only [Act.put, List.setIfInBounds_toArray, List.set_cons_zero, List.set_cons_succ]
                  refine wpAnyH_takeAt (i := 22) (d := 54) (v := ?vut22) (by kernel_rfl) (by kernel_rfl) (by kernel_rfl) (by kernel_rfl) (fun _ _ _ h => h) ?hyut22 (by assumption) ?restut22
                  case hyut22 =>
                    intro oi ho
                    simp only [List.getElem?_toArray, List.getElem?_cons_succ, List.getElem?_cons_zero, Option.some.injEq] at ho
                    subst ho
                    refine Or.inl ⟨by rfl, ?_⟩
                    intro wx hSw
                    try dsimp only at hSw
                    go_simp
                    try rfl
                  try simp only [Act.put, List.setIfInBounds_toArray, List.set_cons_zero, List.set_cons_succ]
                  refine wpAnyH_takeAt (i := 23) (d := 55) (v := ?vut23) (by kernel_rfl) (by kernel_rfl) (by kernel_rfl) (by kernel_rfl) (fun _ _ _ h => h) ?hyut23 (by assumption) ?restut23
                  case hyut23 =>
                    intro oi ho
                    simp only [List.getElem?_toArray, List.getElem?_cons_succ, List.getElem?_cons_zero, Option.some.injEq] at ho
                    subst ho
                    refine Or.inl ⟨by rfl, ?_⟩
                    intro wx hSw
                    try dsimp only at hSw
                    go_simp
                    try rfl
                  try simp only [Act.put, List.setIfInBounds_toArray, List.set_cons_zero, List.set_cons_succ]
                  refine wpAnyH_takeAt (i := 24) (d := 56) (v := ?vut24) (by kernel_rfl) (by kernel_rfl) (by kernel_rfl) (by kernel_rfl) (fun _ _ _ h => h) ?hyut24 (by assumption) ?restut24
                  case hyut24 =>
                    intro oi ho
                    simp only [List.getElem?_toArray, List.getElem?_cons_succ, List.getElem?_cons_zero, Option.some.injEq] at ho
                    subst ho
                    refine Or.inl ⟨by rfl, ?_⟩
                    intro wx hSw
                    try dsimp only at hSw
                    go_simp
                    try rfl
                  try simp only [Act.put, List.setIfInBounds_toArray, List.set_cons_zero, List.set_cons_succ]
                  refine wpAnyH_takeAt (i := 25) (d := 57) (v := ?vut25) (by kernel_rfl) (by kernel_rfl) (by kernel_rfl) (by kernel_rfl) (fun _ _ _ h => h) ?hyut25 (by assumption) ?restut25
                  case hyut25 =>
                    intro oi ho
                    simp only [List.getElem?_toArray, List.getElem?_cons_succ, List.getElem?_cons_zero, Option.some.injEq] at ho
                    subst ho
                    refine Or.inl ⟨by rfl, ?_⟩
                    intro wx hSw
                    try dsimp only at hSw
                    go_simp
                    try rfl
                  try simp only [Act.put, List.setIfInBounds_toArray, List.set_cons_zero, List.set_cons_succ]
                  refine wpAnyH_takeAt (i := 26) (d := 58) (v := ?vut26) (by kernel_rfl) (by kernel_rfl) (by kernel_rfl) (by kernel_rfl) (fun _ _ _ h => h) ?hyut26 (by assumption) ?restut26
                  case hyut26 =>
                    intro oi ho
                    simp only [List.getElem?_toArray, List.getElem?_cons_succ, List.getElem?_cons_zero, Option.some.injEq] at ho
                    subst ho
                    refine Or.inl ⟨by rfl, ?_⟩
                    intro wx hSw
                    try dsimp only at hSw
                    go_simp
                    try rfl
                  try simp only [Act.put, List.setIfInBounds_toArray, List.set_cons_zero, List.set_cons_succ]
                  refine wpAnyH_takeAt (i := 27) (d := 59) (v := ?vut27) (by kernel_rfl) (by kernel_rfl) (by kernel_rfl) (by kernel_rfl) (fun _ _ _ h => h) ?hyut27 (by assumption) ?restut27
                  case hyut27 =>
                    intro oi ho
                    simp only [List.getElem?_toArray, List.getElem?_cons_succ, List.getElem?_cons_zero, Option.some.injEq] at ho
                    subst ho
                    refine Or.inl ⟨by rfl, ?_⟩
                    intro wx hSw
                    try dsimp only at hSw
                    go_simp
                    try rfl
                  try simp only [Act.put, List.setIfInBounds_toArray, List.set_cons_zero, List.set_cons_succ]
                  refine wpAnyH_takeAt (i := 28) (d := 60) (v := ?vut28) (by kernel_rfl) (by kernel_rfl) (by kernel_rfl) (by kernel_rfl) (fun _ _ _ h => h) ?hyut28 (by assumption) ?restut28
                  case hyut28 =>
                    intro oi ho
                    simp only [List.getElem?_toArray, List.getElem?_cons_succ, List.getElem?_cons_zero, Option.some.injEq] at ho
                    subst ho
                    refine Or.inl ⟨by rfl, ?_⟩
                    intro wx hSw
                    try dsimp only at hSw
                    go_simp
                    try rfl
                  try simp only [Act.put, List.setIfInBounds_toArray, List.set_cons_zero, List.set_cons_succ]
                  refine wpAnyH_takeAt (i := 29) (d := 61) (v := undef) (by kernel_rfl) (by kernel_rfl) (by kernel_rfl) (by kernel_rfl) (fun _ _ _ h => h) ?hyut29 (by assumption) ?restut29
                  case hyut29 =>
                    intro oi ho
                    simp only [List.getElem?_toArray, List.getElem?_cons_succ, List.getElem?_cons_zero, Option.some.injEq] at ho
                    subst ho
                    exact Or.inr ⟨by rfl, rfl⟩
                  try simp only [Act.put, List.setIfInBounds_toArray, List.set_cons_zero, List.set_cons_succ]
                  refine wpAnyH_takeAt (i := 30) (d := 62) (v := undef) (by kernel_rfl) (by kernel_rfl) (by kernel_rfl) (by kernel_rfl) (fun _ _ _ h => h) ?hyut30 (by assumption) ?restut30
                  case hyut30 =>
                    intro oi ho
                    simp only [List.getElem?_toArray, List.getElem?_cons_succ, List.getElem?_cons_zero, Option.some.injEq] at ho
                    subst ho
                    exact Or.inr ⟨by rfl, rfl⟩
                  try simp only [Act.put, List.setIfInBounds_toArray, List.set_cons_zero, List.set_cons_succ]
                  refine wpAnyH_takeAt (i := 32) (d := 64) (v := undef) (by kernel_rfl) (by kernel_rfl) (by kernel_rfl) (by kernel_rfl) (fun _ _ _ h => h) ?hyut32 (by assumption) ?restut32
                  case hyut32 =>
                    intro oi ho
                    simp only [List.getElem?_toArray, List.getElem?_cons_succ, List.getElem?_cons_zero, Option.some.injEq] at ho
                    subst ho
                    exact Or.inr ⟨by rfl, rfl⟩
                  try simp only [Act.put, List.setIfInBounds_toArray, List.set_cons_zero, List.set_cons_succ]
                  refine wpAnyH_takeAt (i := 33) (d := 65) (v := undef) (by kernel_rfl) (by kernel_rfl) (by kernel_rfl) (by kernel_rfl) (fun _ _ _ h => h) ?hyut33 (by assumption) ?restut33
                  case hyut33 =>
                    intro oi ho
                    simp only [List.getElem?_toArray, List.getElem?_cons_succ, List.getElem?_cons_zero, Option.some.injEq] at ho
                    subst ho
                    exact Or.inr ⟨by rfl, rfl⟩
                  try simp only [Act.put, List.setIfInBounds_toArray, List.set_cons_zero, List.set_cons_succ]
                  refine wpAnyH_takeAt (i := 31) (d := 63) (v := undef) (by kernel_rfl) (by kernel_rfl) (by kernel_rfl) (by kernel_rfl) (fun _ _ _ h => h) ?hyut31 (by assumption) ?restut31
                  case hyut31 =>
                    intro oi ho
                    simp only [List.getElem?_toArray, List.getElem?_cons_succ, List.getElem?_cons_zero, Option.some.injEq] at ho
                    subst ho
                    exact Or.inr ⟨by rfl, rfl⟩
                  try simp only [Act.put, List.setIfInBounds_toArray, List.set_cons_zero, List.set_cons_succ]
                  refine wpAnyH_takeAt (i := 34) (d := 66) (v := undef) (by kernel_rfl) (by kernel_rfl) (by kernel_rfl) (by kernel_rfl) (fun _ _ _ h => h) ?hyut34 (by assumption) ?restut34
                  case hyut34 =>
                    intro oi ho
                    simp only [List.getElem?_toArray, List.getElem?_cons_succ, List.getElem?_cons_zero, Option.some.injEq] at ho
                    subst ho
                    exact Or.inr ⟨by rfl, rfl⟩
                  try simp only [Act.put, List.setIfInBounds_toArray, List.set_cons_zero, List.set_cons_succ]
                  refine wpAnyH_takeAt (i := 35) (d := 67) (v := ?vut35) (by kernel_rfl) (by kernel_rfl) (by kernel_rfl) (by kernel_rfl) (fun _ _ _ h => h) ?hyut35 (by assumption) ?restut35
                  case hyut35 =>
                    intro oi ho
                    simp only [List.getElem?_toArray, List.getElem?_cons_succ, List.getElem?_cons_zero, Option.some.injEq] at ho
                    subst ho
                    refine Or.inl ⟨by rfl, ?_⟩
                    intro wx hSw
                    try dsimp only at hSw
                    go_simp
                    try rfl
                  try simp only [Act.put, List.setIfInBounds_toArray, List.set_cons_zero, List.set_cons_succ]
                  refine wpAnyH_takeAt (i := 36) (d := 68) (v := ?vut36) (by kernel_rfl) (by kernel_rfl) (by kernel_rfl) (by kernel_rfl) (fun _ _ _ h => h) ?hyut36 (by assumption) ?restut36
                  case hyut36 =>
                    intro oi ho
                    simp only [List.getElem?_toArray, List.getElem?_cons_succ, List.getElem?_cons_zero, Option.some.injEq] at ho
                    subst ho
                    refine Or.inl ⟨by rfl, ?_⟩
                    intro wx hSw
                    try dsimp only at hSw
                    go_simp
                    try rfl
                  try simp only [Act.put, List.setIfInBounds_toArray, List.set_cons_zero, List.set_cons_succ]
                  refine wpAnyH_done (by kernel_rfl) ?_ _
                  refine NoPanic.normal ?_
                  clear hHeld
                  have HG := hide ((show fitsB c v = true by unfold fitsB; rw [decide_eq_true H0.out, HZ.out H0.out HK2.out, decide_eq_true (show ((0 : Nat) : Int) ≤ c.2.2 by have := HMX.out; omega)]; simp [HKK.out]))
                  have hn3 := HC1.out.2
                  go_wp2
                  go_roundg (gk - 1)
                  case measure => omega
                  case rel => exact ⟨j + 1, by omega, by go_num, HNX.out.trans HG.out, fun _ => HFN.out, HB2'.out.drew.trans (HB3.out.mono HBS.out)⟩
            · have dk1 : (v.1 != c.2.1) = true := by simp [hk1]
              by_cases hk0 : v.1 = 0
              · have dn0 : (v.1 != 0) = false := by simp [hk0]
                have HKK : Hid (v.1 = c.2.1 ∨ v.1 = 0) := Or.inr hk0
                have dk0 : (v.1 == 0) = true := by simp [hk0]
                have hk2 : v.1 ≠ 2 := by omega
                by_cases hj0 : j = 0
                · have dj : ((j : Int) == 0) = true := by simp [hj0]
                  have HE := hide (HB0.out hj0 hk0)
                  clear hj0 hk0 hk2
                  refine wp_region_noPanic ?_
                  refine wp_region_held_drew (S := fun wx => (wx.cell? ⟨g6, 0, none⟩ = some (.int .i64 v.1) ∧ wx.cell? ⟨g6, 1, none⟩ = some (.int .i64 v.2.1) ∧ wx.cell? ⟨g6, 2, none⟩ = some (.string v.2.2)) ∧ wx.cell? ⟨g7, 1, none⟩ = some (.int .i64 c.2.1) ∧ wx.cell? ⟨g7, 2, none⟩ = some (.int .i64 c.2.2)) (by kernel_rfl) HX.out (fun hHeld => ?_)
                  refine wpAnyH_takeAt (i := 0) (d := 32) (v := ?vwp0) (by kernel_rfl) (by kernel_rfl) (by kernel_rfl) (by kernel_rfl) (fun _ _ _ h => h) ?hywp0 (by assumption) ?restwp0
                  case hywp0 =>
                    intro oi ho
                    simp only [List.getElem?_toArray, List.getElem?_cons_zero, Option.some.injEq] at ho
                    subst ho
                    refine Or.inl ⟨by rfl, ?_⟩
                    intro wx hSw
                    try dsimp only at hSw
                    go_simp
                    try rfl
                  try simp only [Act.put, List.setIfInBounds_toArray, List.set_cons_zero, List.set_cons_succ]
                  refine wpAnyH_comesAt (i := 1) (by kernel_rfl) (by kernel_rfl) ?_
                  intro o ho K hK
                  simp only [List.getElem?_toArray, List.getElem?_cons_succ, List.getElem?_cons_zero, Option.some.injEq] at ho
                  subst ho
                  go_simp
                  refine HRT.out.mono ?_
                  rintro e w3 ⟨rfl, hb⟩
                  have HB3 : Hid (Below wc.drew.heap.size wc.drew w3) := hb
                  have H63 := hide ((hb.block g6 (blk_lt H62.out)).trans H62.out)
                  have H73 := hide ((hb.block g7 (blk_lt H72.out)).trans H72.out)
                  clear hb hHeld
                  refine hK.out _ _ ⟨⟨cell_blk H63.out, cell_blk H63.out, cell_blk H63.out⟩, cell_blk H73.out, cell_blk H73.out⟩ (fun hHeld => ?_)
                  clear hK K
                  try simp only [Act.put, List.setIfInBounds_toArray, List.set_cons_zero, List.set_cons_succ]
                  refine wpAnyH_takeAt (i := 2) (d := 34) (v := ?vwp2) (by kernel_rfl) (by kernel_rfl) (by kernel_rfl) (by kernel_rfl) (fun _ _ _ h => h) ?hywp2 (by assumption) ?restwp2
                  case hywp2 =>
                    intro oi ho
                    simp only [List.getElem?_toArray, List.getElem?_cons_succ, List.getElem?_cons_zero, Option.some.injEq] at ho
                    subst ho
                    refine Or.inl ⟨by rfl, ?_⟩
                    intro wx hSw
                    try dsimp only at hSw
                    go_simp
                    try rfl
                  try simp only [Act.put, List.setIfInBounds_toArray, List.set_cons_zero, List.set_cons_succ]
                  refine wpAnyH_takeAt (i := 3) (d := 35) (v := ?vwp3) (by kernel_rfl) (by kernel_rfl) (by kernel_rfl) (by kernel_rfl) (fun _ _ _ h => h) ?hywp3 (by assumption) ?restwp3
                  case hywp3 =>
                    intro oi ho
                    simp only [List.getElem?_toArray, List.getElem?_cons_succ, List.getElem?_cons_zero, Option.some.injEq] at ho
                    subst ho
                    refine Or.inl ⟨by rfl, ?_⟩
                    intro wx hSw
                    try dsimp only at hSw
                    go_simp
                    try rfl
                  try simp only [Act.put, List.setIfInBounds_toArray, List.set_cons_zero, List.set_cons_succ]
                  refine wpAnyH_takeAt (i := 4) (d := 36) (v := ?vwp4) (by kernel_rfl) (by kernel_rfl) (by kernel_rfl) (by kernel_rfl) (fun _ _ _ h => h) ?hywp4 (by assumption) ?restwp4
                  case hywp4 =>
                    intro oi ho
                    simp only [List.getElem?_toArray, List.getElem?_cons_succ, List.getElem?_cons_zero, Option.some.injEq] at ho
                    subst ho
                    refine Or.inl ⟨by rfl, ?_⟩
                    intro wx hSw
                    try dsimp only at hSw
                    go_simp
                    try rfl
                  try simp only [Act.put, List.setIfInBounds_toArray, List.set_cons_zero, List.set_cons_succ]
                  refine wpAnyH_takeAt (i := 5) (d := 37) (v := ?vwp5) (by kernel_rfl) (by kernel_rfl) (by kernel_rfl) (by kernel_rfl) (fun _ _ _ h => h) ?hywp5 (by assumption) ?restwp5
                  case hywp5 =>
                    intro oi ho
                    simp only [List.getElem?_toArray, List.getElem?_cons_succ, List.getElem?_cons_zero, Option.some.injEq] at ho
                    subst ho
                    refine Or.inl ⟨by rfl, ?_⟩
                    intro wx hSw
                    try dsimp only at hSw
                    go_simp
                    try rfl
                  try simp only [Act.put, List.setIfInBounds_toArray, List.set_cons_zero, List.set_cons_succ]
                  refine wpAnyH_takeAt (i := 6) (d := 38) (v := ?vwp6) (by kernel_rfl) (by kernel_rfl) (by kernel_rfl) (by kernel_rfl) (fun _ _ _ h => h) ?hywp6 (by assumption) ?restwp6
                  case hywp6 =>
                    intro oi ho
                    simp only [List.getElem?_toArray, List.getElem?_cons_succ, List.getElem?_cons_zero, Option.some.injEq] at ho
                    subst ho
                    refine Or.inl ⟨by rfl, ?_⟩
                    intro wx hSw
                    try dsimp only at hSw
                    go_simp
                    try rfl
                  try simp only [Act.put, List.setIfInBounds_toArray, List.set_cons_zero, List.set_cons_succ]
                  refine wpAnyH_takeAt (i := 7) (d := 39) (v := ?vwp7) (by kernel_rfl) (by kernel_rfl) (by kernel_rfl) (by kernel_rfl) (fun _ _ _ h => h) ?hywp7 (by assumption) ?restwp7
                  case hywp7 =>
                    intro oi ho
                    simp only [List.getElem?_toArray, List.getElem?_cons_succ, List.getElem?_cons_zero, Option.some.injEq] at ho
                    subst ho
                    refine Or.inl ⟨by rfl, ?_⟩
                    intro wx hSw
                    try dsimp only at hSw
                    go_simp
                    try rfl
                  try simp only [Act.put, List.setIfInBounds_toArray, List.set_cons_zero, List.set_cons_succ]
                  refine wpAnyH_takeAt (i := 8) (d := 40) (v := ?vwp8) (by kernel_rfl) (by kernel_rfl) (by kernel_rfl) (by kernel_rfl) (fun _ _ _ h => h) ?hywp8 (by assumption) ?restwp8
                  case hywp8 =>
                    intro oi ho
                    simp only [List.getElem?_toArray, List.getElem?_cons_succ, List.getElem?_cons_zero, Option.some.injEq] at ho
                    subst ho
                    refine Or.inl ⟨by rfl, ?_⟩
                    intro wx hSw
                    try dsimp only at hSw
                    go_simp
                    try rfl
                  try simp only [Act.put, List.setIfInBounds_toArray, List.set_cons_zero, List.set_cons_succ]
                  refine wpAnyH_takeAt (i := 9) (d := 41) (v := ?vwp9) (by kernel_rfl) (by kernel_rfl) (by kernel_rfl) (by kernel_rfl) (fun _ _ _ h => h) ?hywp9 (by assumption) ?restwp9
                  case hywp9 =>
                    intro oi ho
                    simp only [List.getElem?_toArray, List.getElem?_cons_succ, List.getElem?_cons_zero, Option.some.injEq] at ho
                    subst ho
                    refine Or.inl ⟨by rfl, ?_⟩
                    intro wx hSw
                    try dsimp only at hSw
                    go_simp
                    try rfl
                  try simp only [Act.put, List.setIfInBounds_toArray, List.set_cons_zero, List.set_cons_succ]
                  refine wpAnyH_takeAt (i := 10) (d := 42) (v := ?vwp10) (by kernel_rfl) (by kernel_rfl) (by kernel_rfl) (by kernel_rfl) (fun _ _ _ h => h) ?hywp10 (by assumption) ?restwp10
                  case hywp10 =>
                    intro oi ho
                    simp only [List.getElem?_toArray, List.getElem?_cons_succ, List.getElem?_cons_zero, Option.some.injEq] at ho
                    subst ho
                    refine Or.inl ⟨by rfl, ?_⟩
                    intro wx hSw
                    try dsimp only at hSw
                    go_simp
                    try rfl
                  try simp only [Act.put, List.setIfInBounds_toArray, List.set_cons_zero, List.set_cons_succ]
                  refine wpAnyH_takeAt (i := 11) (d := 43) (v := ?vwp11) (by kernel_rfl) (by kernel_rfl) (by kernel_rfl) (by kernel_rfl) (fun _ _ _ h => h) ?hywp11 (by assumption) ?restwp11
                  case hywp11 =>
                    intro oi ho
                    simp only [List.getElem?_toArray, List.getElem?_cons_succ, List.getElem?_cons_zero, Option.some.injEq] at ho
                    subst ho
                    refine Or.inl ⟨by rfl, ?_⟩
                    intro wx hSw
                    try dsimp only at hSw
                    go_simp
                    try rfl
                  try simp only [Act.put, List.setIfInBounds_toArray, List.set_cons_zero, List.set_cons_succ]
                  refine wpAnyH_takeAt (i := 12) (d := 44) (v := ?vwp12) (by kernel_rfl) (by kernel_rfl) (by kernel_rfl) (by kernel_rfl) (fun _ _ _ h => h) ?hywp12 (by assumption) ?restwp12
                  case hywp12 =>
                    intro oi ho
                    simp only [List.getElem?_toArray, List.getElem?_cons_succ, List.getElem?_cons_zero, Option.some.injEq] at ho
                    subst ho
                    refine Or.inl ⟨by rfl, ?_⟩
                    intro wx hSw
                    try dsimp only at hSw
                    go_simp
                    try rfl
                  try simp only [Act.put, List.setIfInBounds_toArray, List.set_cons_zero, List.set_cons_succ]
                  refine wpAnyH_takeAt (i := 13) (d := 45) (v := ?vwp13) (by kernel_rfl) (by kernel_rfl) (by kernel_rfl) (by kernel_rfl) (fun _ _ _ h => h) ?hywp13 (by assumption) ?restwp13
                  case hywp13 =>
                    intro oi ho
                    simp only [List.getElem?_toArray, List.getElem?_cons_succ, List.getElem?_cons_zero, Option.some.injEq] at ho
                    subst ho
                    refine Or.inl ⟨by rfl, ?_⟩
                    intro wx hSw
                    try dsimp only at hSw
                    go_simp
                    try rfl
                  try simp only [Act.put, List.setIfInBounds_toArray, List.set_cons_zero, List.set_cons_succ]
                  refine wpAnyH_takeAt (i := 14) (d := 46) (v := ?vwp14) (by kernel_rfl) (by kernel_rfl) (by kernel_rfl) (by kernel_rfl) (fun _ _ _ h => h) ?hywp14 (by assumption) ?restwp14
                  case hywp14 =>
                    intro oi ho
                    simp only [List.getElem?_toArray, List.getElem?_cons_succ, List.getElem?_cons_zero, Option.some.injEq] at ho
                    subst ho
                    refine Or.inl ⟨by rfl, ?_⟩
                    intro wx hSw
                    try dsimp only at hSw
                    go_simp
                    try rfl
                  try simp only [Act.put, List.setIfInBounds_toArray, List.set_cons_zero, List.set_cons_succ]
                  refine wpAnyH_takeAt (i := 15) (d := 47) (v := ?vwp15) (by kernel_rfl) (by kernel_rfl) (by kernel_rfl) (by kernel_rfl) (fun _ _ _ h => h) ?hywp15 (by assumption) ?restwp15
                  case hywp15 =>
                    intro oi ho
                    simp only [List.getElem?_toArray, List.getElem?_cons_succ, List.getElem?_cons_zero, Option.some.injEq] at ho
                    subst ho
                    refine Or.inl ⟨by rfl, ?_⟩
                    intro wx hSw
                    try dsimp only at hSw
                    go_simp
                    try rfl
                  try simp only [Act.put, List.setIfInBounds_toArray, List.set_cons_zero, List.set_cons_succ]
                  refine wpAnyH_takeAt (i := 16) (d := 48) (v := ?vwp16) (by kernel_rfl) (by kernel_rfl) (by kernel_rfl) (by kernel_rfl) (fun _ _ _ h => h) ?hywp16 (by assumption) ?restwp16
                  case hywp16 =>
                    intro oi ho
                    simp only [List.getElem?_toArray, List.getElem?_cons_succ, List.getElem?_cons_zero, Option.some.injEq] at ho
                    subst ho
                    refine Or.inl ⟨by rfl, ?_⟩
                    intro wx hSw
                    try dsimp only at hSw
                    go_simp
                    try rfl
                  try simp only [Act.put, List.setIfInBounds_toArray, List.set_cons_zero, List.set_cons_succ]
                  refine wpAnyH_takeAt (i := 17) (d := 49) (v := ?vwp17) (by kernel_rfl) (by kernel_rfl) (by kernel_rfl) (by kernel_rfl) (fun _ _ _ h => h) ?hywp17 (by assumption) ?restwp17
                  case hywp17 =>
                    intro oi ho
                    simp only [List.getElem?_toArray, List.getElem?_cons_succ, List.getElem?_cons_zero, Option.some.injEq] at ho
                    subst ho
                    refine Or.inl ⟨by rfl, ?_⟩
                    intro wx hSw
                    try dsimp only at hSw
                    go_simp
                    try rfl
                  try simp only [Act.put, List.setIfInBounds_toArray, List.set_cons_zero, List.set_cons_succ]
                  refine wpAnyH_takeAt (i := 18) (d := 50) (v := ?vwp18) (by kernel_rfl) (by kernel_rfl) (by kernel_rfl) (by kernel_rfl) (fun _ _ _ h => h) ?hywp18 (by assumption) ?restwp18
                  case hywp18 =>
                    intro oi ho
                    simp only [List.getElem?_toArray, List.getElem?_cons_succ, List.getElem?_cons_zero, Option.some.injEq] at ho
                    subst ho
                    refine Or.inl ⟨by rfl, ?_⟩
                    intro wx hSw
                    try dsimp only at hSw
                    go_simp
                    try rfl
                  try simp only [Act.put, List.setIfInBounds_toArray, List.set_cons_zero, List.set_cons_succ]
                  refine wpAnyH_takeAt (i := 19) (d := 51) (v := ?vwp19) (by kernel_rfl) (by kernel_rfl) (by kernel_rfl) (by kernel_rfl) (fun _ _ _ h => h) ?hywp19 (by assumption) ?restwp19
                  case hywp19 =>
                    intro oi ho
                    simp only [List.getElem?_toArray, List.getElem?_cons_succ, List.getElem?_cons_zero, Option.some.injEq] at ho
                    subst ho
                    refine Or.inl ⟨by rfl, ?_⟩
                    intro wx hSw
                    try dsimp only at hSw
                    go_simp
                    try rfl
                  try simp only [Act.put, List.setIfInBounds_toArray, List.set_cons_zero, List.set_cons_succ]
                  refine wpAnyH_takeAt (i := 20) (d := 52) (v := ?vwp20) (by kernel_rfl) (by kernel_rfl) (by kernel_rfl) (by kernel_rfl) (fun _ _ _ h => h) ?hywp20 (by assumption) ?restwp20
                  case hywp20 =>
                    intro oi ho
                    simp only [List.getElem?_toArray, List.getElem?_cons_succ, List.getElem?_cons_zero, Option.some.injEq] at ho
                    subst ho
                    refine Or.inl ⟨by rfl, ?_⟩
                    intro wx hSw
                    try dsimp only at hSw
                    go_simp
                    try rfl
                  try simp only [Act.put, List.setIfInBounds_toArray, List.set_cons_zero, List.set_cons_succ]
                  refine wpAnyH_takeAt (i := 21) (d := 53) (v := ?vwp21) (by kernel_rfl) (by kernel_rfl) (by kernel_rfl) (by kernel_rfl) (fun _ _ _ h => h) ?hywp21 (by assumption) ?restwp21
                  case hywp21 =>
                    intro oi ho
                    simp only [List.getElem?_toArray, List.getElem?_cons_succ, List.getElem?_cons_zero, Option.some.injEq] at ho
                    subst ho
                    refine Or.inl ⟨by rfl, ?_⟩
                    intro wx hSw
                    try dsimp only at hSw
                    go_simp
                    try rfl
                  try simp only [Act.put, List.setIfInBounds_toArray, List.set_cons_zero, List.set_cons_succ]
                  refine wpAnyH_takeAt (i := 22) (d := 54) (v := ?vwp22) (by kernel_rfl) (by kernel_rfl) (by kernel_rfl) (by kernel_rfl) (fun _ _ _ h => h) ?hywp22 (by assumption) ?restwp22
                  case hywp22 =>
                    intro oi ho
                    simp only [List.getElem?_toArray, List.getElem?_cons_succ, List.getElem?_cons_zero, Option.some.injEq] at ho
                    subst ho
                    refine Or.inl ⟨by rfl, ?_⟩
                    intro wx hSw
                    try dsimp only at hSw
                    go_simp
                    try rfl
                  try simp only [Act.put, List.setIfInBounds_toArray, List.set_cons_zero, List.set_cons_succ]
                  refine wpAnyH_takeAt (i := 23) (d := 55) (v := ?vwp23) (by kernel_rfl) (by kernel_rfl) (by kernel_rfl) (by kernel_rfl) (fun _ _ _ h => h) ?hywp23 (by assumption) ?restwp23
                  case hywp23 =>
                    intro oi ho
                    simp only [List.getElem?_toArray, List.getElem?_cons_succ, List.getElem?_cons_zero, Option.some.injEq] at ho
                    subst ho
                    refine Or.inl ⟨by rfl, ?_⟩
                    intro wx hSw
                    try dsimp only at hSw
                    go_simp
                    try rfl
                  try simp only [Act.put, List.setIfInBounds_toArray, List.set_cons_zero, List.set_cons_succ]
                  refine wpAnyH_takeAt (i := 24) (d := 56) (v := ?vwp24) (by kernel_rfl) (by kernel_rfl) (by kernel_rfl) (by kernel_rfl) (fun _ _ _ h => h) ?hywp24 (by assumption) ?restwp24
                  case hywp24 =>
                    intro oi ho
                    simp only [List.getElem?_toArray, List.getElem?_cons_succ, List.getElem?_cons_zero, Option.some.injEq] at ho
                    subst ho
                    refine Or.inl ⟨by rfl, ?_⟩
                    intro wx hSw
                    try dsimp only at hSw
                    go_simp
                    try rfl
                  try simp only [Act.put, List.setIfInBounds_toArray, List.set_cons_zero, List.set_cons_succ]
                  refine wpAnyH_takeAt (i := 25) (d := 57) (v := undef) (by kernel_rfl) (by kernel_rfl) (by kernel_rfl) (by kernel_rfl) (fun _ _ _ h => h) ?hywp25 (by assumption) ?restwp25
                  case hywp25 =>
                    intro oi ho
                    simp only [List.getElem?_toArray, List.getElem?_cons_succ, List.getElem?_cons_zero, Option.some.injEq] at ho
                    subst ho
                    exact Or.inr ⟨by rfl, rfl⟩
                  try simp only [Act.put, List.setIfInBounds_toArray, List.set_cons_zero, List.set_cons_succ]
                  refine wpAnyH_takeAt (i := 26) (d := 58) (v := undef) (by kernel_rfl) (by kernel_rfl) (by kernel_rfl) (by kernel_rfl) (fun _ _ _ h => h) ?hywp26 (by assumption) ?restwp26
                  case hywp26 =>
                    intro oi ho
                    simp only [List.getElem?_toArray, List.getElem?_cons_succ, List.getElem?_cons_zero, Option.some.injEq] at ho
                    subst ho
                    exact Or.inr ⟨by rfl, rfl⟩
                  try simp only [Act.put, List.setIfInBounds_toArray, List.set_cons_zero, List.set_cons_succ]
                  refine wpAnyH_takeAt (i := 27) (d := 59) (v := undef) (by kernel_rfl) (by kernel_rfl) (by kernel_rfl) (by kernel_rfl) (fun _ _ _ h => h) ?hywp27 (by assumption) ?restwp27
                  case hywp27 =>
                    intro oi ho
                    simp only [List.getElem?_toArray, List.getElem?_cons_succ, List.getElem?_cons_zero, Option.some.injEq] at ho
                    subst ho
                    exact Or.inr ⟨by rfl, rfl⟩
                  try simp only [Act.put, List.setIfInBounds_toArray, List.set_cons_zero, List.set_cons_succ]
                  refine wpAnyH_takeAt (i := 28) (d := 60) (v := undef) (by kernel_rfl) (by kernel_rfl) (by kernel_rfl) (by kernel_rfl) (fun _ _ _ h => h) ?hywp28 (by assumption) ?restwp28
                  case hywp28 =>
                    intro oi ho
                    simp only [List.getElem?_toArray, List.getElem?_cons_succ, List.getElem?_cons_zero, Option.some.injEq] at ho
                    subst ho
                    exact Or.inr ⟨by rfl, rfl⟩
                  try simp only [Act.put, List.setIfInBounds_toArray, List.set_cons_zero, List.set_cons_succ]
                  refine wpAnyH_takeAt (i := 29) (d := 61) (v := undef) (by kernel_rfl) (by kernel_rfl) (by kernel_rfl) (by kernel_rfl) (fun _ _ _ h => h) ?hywp29 (by assumption) ?restwp29
                  case hywp29 =>
                    intro oi ho
                    simp only [List.getElem?_toArray, List.getElem?_cons_succ, List.getElem?_cons_zero, Option.some.injEq] at ho
                    subst ho
                    exact Or.inr ⟨by rfl, rfl⟩
                  try simp only [Act.put, List.setIfInBounds_toArray, List.set_cons_zero, List.set_cons_succ]
                  refine wpAnyH_takeAt (i := 30) (d := 62) (v := undef) (by kernel_rfl) (by kernel_rfl) (by kernel_rfl) (by kernel_rfl) (fun _ _ _ h => h) ?hywp30 (by assumption) ?restwp30
                  case hywp30 =>
                    intro oi ho
                    simp only [List.getElem?_toArray, List.getElem?_cons_succ, List.getElem?_cons_zero, Option.some.injEq] at ho
                    subst ho
                    exact Or.inr ⟨by rfl, rfl⟩
                  try simp only [Act.put, List.setIfInBounds_toArray, List.set_cons_zero, List.set_cons_succ]
                  refine wpAnyH_takeAt (i := 32) (d := 64) (v := undef) (by kernel_rfl) (by kernel_rfl) (by kernel_rfl) (by kernel_rfl) (fun _ _ _ h => h) ?hywp32 (by assumption) ?restwp32
                  case hywp32 =>
                    intro oi ho
                    simp only [List.getElem?_toArray, List.getElem?_cons_succ, List.getElem?_cons_zero, Option.some.injEq] at ho
                    subst ho
                    exact Or.inr ⟨by rfl, rfl⟩
                  try simp only [Act.put, List.setIfInBounds_toArray, List.set_cons_zero, List.set_cons_succ]
                  refine wpAnyH_takeAt (i := 33) (d := 65) (v := undef) (by kernel_rfl) (by kernel_rfl) (by kernel_rfl) (by kernel_rfl) (fun _ _ _ h => h) ?hywp33 (by assumption) ?restwp33
                  case hywp33 =>
                    intro oi ho
                    simp only [List.getElem?_toArray, List.getElem?_cons_succ, List.getElem?_cons_zero, Option.some.injEq] at ho
                    subst ho
                    exact Or.inr ⟨by rfl, rfl⟩
                  try simp only [Act.put, List.setIfInBounds_toArray, List.set_cons_zero, List.set_cons_succ]
                  refine wpAnyH_takeAt (i := 31) (d := 63) (v := undef) (by kernel_rfl) (by kernel_rfl) (by kernel_rfl) (by kernel_rfl) (fun _ _ _ h => h) ?hywp31 (by assumption) ?restwp31
                  case hywp31 =>
                    intro oi ho
                    simp only [List.getElem?_toArray, List.getElem?_cons_succ, List.getElem?_cons_zero, Option.some.injEq] at ho
                    subst ho
                    exact Or.inr ⟨by rfl, rfl⟩
                  try simp only [Act.put, List.setIfInBounds_toArray, List.set_cons_zero, List.set_cons_succ]
                  refine wpAnyH_takeAt (i := 34) (d := 66) (v := undef) (by kernel_rfl) (by kernel_rfl) (by kernel_rfl) (by kernel_rfl) (fun _ _ _ h => h) ?hywp34 (by assumption) ?restwp34
                  case hywp34 =>
                    intro oi ho
                    simp only [List.getElem?_toArray, List.getElem?_cons_succ, List.getElem?_cons_zero, Option.some.injEq] at ho
                    subst ho
                    exact Or.inr ⟨by rfl, rfl⟩
                  try simp only [Act.put, List.setIfInBounds_toArray, List.set_cons_zero, List.set_cons_succ]
                  refine wpAnyH_takeAt (i := 35) (d := 67) (v := undef) (by kernel_rfl) (by kernel_rfl) (by kernel_rfl) (by kernel_rfl) (fun _ _ _ h => h) ?hywp35 (by assumption) ?restwp35
                  case hywp35 =>
                    intro oi ho
                    simp only [List.getElem?_toArray, List.getElem?_cons_succ, List.getElem?_cons_zero, Option.some.injEq] at ho
                    subst ho
                    exact Or.inr ⟨by rfl, rfl⟩
                  try simp only [Act.put, List.setIfInBounds_toArray, List.set_cons_zero, List.set_cons_succ]
                  refine wpAnyH_takeAt (i := 36) (d := 68) (v := ?vwp36) (by kernel_rfl) (by kernel_rfl) (by kernel_rfl) (by kernel_rfl) (fun _ _ _ h => h) ?hywp36 (by assumption) ?restwp36
                  case hywp36 =>
                    intro oi ho
                    simp only [List.getElem?_toArray, List.getElem?_cons_succ, List.getElem?_cons_zero, Option.some.injEq] at ho
                    subst ho
                    refine Or.inl ⟨by rfl, ?_⟩
                    intro wx hSw
                    try dsimp only at hSw
                    go_simp
                    try rfl
                  try simp only [Act.put, List.setIfInBounds_toArray, List.set_cons_zero, List.set_cons_succ]
                  refine wpAnyH_done (by kernel_rfl) ?_ _
                  refine NoPanic.normal ?_
                  clear hHeld
                  go_wp2
                  go_ret
                  exact ⟨by rw [HE.out]; rfl, HB2.out.trans ((HB2'.out.drew.trans (HB3.out.mono HBS.out)).mono HLB.out)⟩
                · have dj : ((j : Int) == 0) = false := by simp [hj0]
                  have HFN : Hid ((l.getD 0 (0, 0, ⟨#[]⟩)).1 ≠ 0) := HFS.out (by omega)
                  clear hk0 hj0
                  have k2 : (v.1 == 2) = false := by simp [hk2]
                  have HK2 := hide hk2
                  clear hk2
                  refine wp_region_noPanic ?_
                  refine wp_region_held_drew (S := fun wx => (wx.cell? ⟨g6, 0, none⟩ = some (.int .i64 v.1) ∧ wx.cell? ⟨g6, 1, none⟩ = some (.int .i64 v.2.1) ∧ wx.cell? ⟨g6, 2, none⟩ = some (.string v.2.2)) ∧ wx.cell? ⟨g7, 1, none⟩ = some (.int .i64 c.2.1) ∧ wx.cell? ⟨g7, 2, none⟩ = some (.int .i64 c.2.2)) (by kernel_rfl) HX.out (fun hHeld => ?_)
                  refine wpAnyH_takeAt (i := 0) (d := 32) (v := ?vwt0) (by kernel_rfl) (by kernel_rfl) (by kernel_rfl) (by kernel_rfl) (fun _ _ _ h => h) ?hywt0 (by assumption) ?restwt0
                  case hywt0 =>
                    intro oi ho
                    simp only [List.getElem?_toArray, List.getElem?_cons_zero, Option.some.injEq] at ho
                    subst ho
                    refine Or.inl ⟨by rfl, ?_⟩
                    intro wx hSw
                    try dsimp only at hSw
                    go_simp
                    try rfl
                  try simp only [Act.put, List.setIfInBounds_toArray, List.set_cons_zero, List.set_cons_succ]
                  refine wpAnyH_comesAt (i := 1) (by kernel_rfl) (by kernel_rfl) ?_
                  intro o ho K hK
                  simp only [List.getElem?_toArray, List.getElem?_cons_succ, List.getElem?_cons_zero, Option.some.injEq] at ho
                  subst ho
                  go_simp
                  refine HRT.out.mono ?_
                  rintro e w3 ⟨rfl, hb⟩
                  have HB3 : Hid (Below wc.drew.heap.size wc.drew w3) := hb
                  have H63 := hide ((hb.block g6 (blk_lt H62.out)).trans H62.out)
                  have H73 := hide ((hb.block g7 (blk_lt H72.out)).trans H72.out)
                  clear hb hHeld
                  refine hK.out _ _ ⟨⟨cell_blk H63.out, cell_blk H63.out, cell_blk H63.out⟩, cell_blk H73.out, cell_blk H73.out⟩ (fun hHeld => ?_)
                  clear hK K
                  try simp only [Act.put, List.setIfInBounds_toArray, List.set_cons_zero, List.set_cons_succ]
                  refine wpAnyH_takeAt (i := 2) (d := 34) (v := ?vwt2) (by kernel_rfl) (by kernel_rfl) (by kernel_rfl) (by kernel_rfl) (fun _ _ _ h => h) ?hywt2 (by assumption) ?restwt2
                  case hywt2 =>
                    intro oi ho
                    simp only [List.getElem?_toArray, List.getElem?_cons_succ, List.getElem?_cons_zero, Option.some.injEq] at ho
                    subst ho
                    refine Or.inl ⟨by rfl, ?_⟩
                    intro wx hSw
                    try dsimp only at hSw
                    go_simp
                    try rfl
                  try simp only [Act.put, List.setIfInBounds_toArray, List.set_cons_zero, List.set_cons_succ]
                  refine wpAnyH_takeAt (i := 3) (d := 35) (v := ?vwt3) (by kernel_rfl) (by kernel_rfl) (by kernel_rfl) (by kernel_rfl) (fun _ _ _ h => h) ?hywt3 (by assumption) ?restwt3
                  case hywt3 =>
                    intro oi ho
                    simp only [List.getElem?_toArray, List.getElem?_cons_succ, List.getElem?_cons_zero, Option.some.injEq] at ho
                    subst ho
                    refine Or.inl ⟨by rfl, ?_⟩
                    intro wx hSw
                    try dsimp only at hSw
                    go_simp
                    try rfl
                  try simp only [Act.put, List.setIfInBounds_toArray, List.set_cons_zero, List.set_cons_succ]
                  refine wpAnyH_takeAt (i := 4) (d := 36) (v := ?vwt4) (by kernel_rfl) (by kernel_rfl) (by kernel_rfl) (by kernel_rfl) (fun _ _ _ h => h) ?hywt4 (by assumption) ?restwt4
                  case hywt4 =>
                    intro oi ho
                    simp only [List.getElem?_toArray, List.getElem?_cons_succ, List.getElem?_cons_zero, Option.some.injEq] at ho
                    subst ho
                    refine Or.inl ⟨by rfl, ?_⟩
                    intro wx hSw
                    try dsimp only at hSw
                    go_simp
                    try rfl
                  try simp only [Act.put, List.setIfInBounds_toArray, List.set_cons_zero, List.set_cons_succ]
                  refine wpAnyH_takeAt (i := 5) (d := 37) (v := ?vwt5) (by kernel_rfl) (by kernel_rfl) (by kernel_rfl) (by kernel_rfl) (fun _ _ _ h => h) ?hywt5 (by assumption) ?restwt5
                  case hywt5 =>
                    intro oi ho
                    simp only [List.getElem?_toArray, List.getElem?_cons_succ, List.getElem?_cons_zero, Option.some.injEq] at ho
                    subst ho
                    refine Or.inl ⟨by rfl, ?_⟩
                    intro wx hSw
                    try dsimp only at hSw
                    go_simp
                    try rfl
                  try simp only [Act.put, List.setIfInBounds_toArray, List.set_cons_zero, List.set_cons_succ]
                  refine wpAnyH_takeAt (i := 6) (d := 38) (v := ?vwt6) (by kernel_rfl) (by kernel_rfl) (by kernel_rfl) (by kernel_rfl) (fun _ _ _ h => h) ?hywt6 (by assumption) ?restwt6
                  case hywt6 =>
                    intro oi ho
                    simp only [List.getElem?_toArray, List.getElem?_cons_succ, List.getElem?_cons_zero, Option.some.injEq] at ho
                    subst ho
                    refine Or.inl ⟨by rfl, ?_⟩
                    intro wx hSw
                    try dsimp only at hSw
                    go_simp
                    try rfl
                  try simp only [Act.put, List.setIfInBounds_toArray, List.set_cons_zero, List.set_cons_succ]
                  refine wpAnyH_takeAt (i := 7) (d := 39) (v := ?vwt7) (by kernel_rfl) (by kernel_rfl) (by kernel_rfl) (by kernel_rfl) (fun _ _ _ h => h) ?hywt7 (by assumption) ?restwt7
                  case hywt7 =>
                    intro oi ho
                    simp only [List.getElem?_toArray, List.getElem?_cons_succ, List.getElem?_cons_zero, Option.some.injEq] at ho
                    subst ho
                    refine Or.inl ⟨by rfl, ?_⟩
                    intro wx hSw
                    try dsimp only at hSw
                    go_simp
                    try rfl
                  try simp only [Act.put, List.setIfInBounds_toArray, List.set_cons_zero, List.set_cons_succ]
                  refine wpAnyH_takeAt (i := 8) (d := 40) (v := ?vwt8) (by kernel_rfl) (by kernel_rfl) (by kernel_rfl) (by kernel_rfl) (fun _ _ _ h => h) ?hywt8 (by assumption) ?restwt8
                  case hywt8 =>
                    intro oi ho
                    simp only [List.getElem?_toArray, List.getElem?_cons_succ, List.getElem?_cons_zero, Option.some.injEq] at ho
                    subst ho
                    refine Or.inl ⟨by rfl, ?_⟩
                    intro wx hSw
                    try dsimp only at hSw
                    go_simp
                    try rfl
                  try simp only [Act.put, List.setIfInBounds_toArray, List.set_cons_zero, List.set_cons_succ]
                  refine wpAnyH_takeAt (i := 9) (d := 41) (v := ?vwt9) (by kernel_rfl) (by kernel_rfl) (by kernel_rfl) (by kernel_rfl) (fun _ _ _ h => h) ?hywt9 (by assumption) ?restwt9
                  case hywt9 =>
                    intro oi ho
                    simp only [List.getElem?_toArray, List.getElem?_cons_succ, List.getElem?_cons_zero, Option.some.injEq] at ho
                    subst ho
                    refine Or.inl ⟨by rfl, ?_⟩
                    intro wx hSw
                    try dsimp only at hSw
                    go_simp
                    try rfl
                  try simp only [Act.put, List.setIfInBounds_toArray, List.set_cons_zero, List.set_cons_succ]
                  refine wpAnyH_takeAt (i := 10) (d := 42) (v := ?vwt10) (by kernel_rfl) (by kernel_rfl) (by kernel_rfl) (by kernel_rfl) (fun _ _ _ h => h) ?hywt10 (by assumption) ?restwt10
                  case hywt10 =>
                    intro oi ho
                    simp only [List.getElem?_toArray, List.getElem?_cons_succ, List.getElem?_cons_zero, Option.some.injEq] at ho
                    subst ho
                    refine Or.inl ⟨by rfl, ?_⟩
                    intro wx hSw
                    try dsimp only at hSw
                    go_simp
                    try rfl
                  try simp only [Act.put, List.setIfInBounds_toArray, List.set_cons_zero, List.set_cons_succ]
                  refine wpAnyH_takeAt (i := 11) (d := 43) (v := ?vwt11) (by kernel_rfl) (by kernel_rfl) (by kernel_rfl) (by kernel_rfl) (fun _ _ _ h => h) ?hywt11 (by assumption) ?restwt11
                  case hywt11 =>
                    intro oi ho
                    simp only [List.getElem?_toArray, List.getElem?_cons_succ, List.getElem?_cons_zero, Option.some.injEq] at ho
                    subst ho
                    refine Or.inl ⟨by rfl, ?_⟩
                    intro wx hSw
                    try dsimp only at hSw
                    go_simp
                    try rfl
                  try simp only [Act.put, List.setIfInBounds_toArray, List.set_cons_zero, List.set_cons_succ]
                  refine wpAnyH_takeAt (i := 12) (d := 44) (v := ?vwt12) (by kernel_rfl) (by kernel_rfl) (by kernel_rfl) (by kernel_rfl) (fun _ _ _ h => h) ?hywt12 (by assumption) ?restwt12
                  case hywt12 =>
                    intro oi ho
                    simp only [List.getElem?_toArray, List.getElem?_cons_succ, List.getElem?_cons_zero, Option.some.injEq] at ho
                    subst ho
                    refine Or.inl ⟨by rfl, ?_⟩
                    intro wx hSw
                    try dsimp only at hSw
                    go_simp
                    try rfl
                  try simp only [Act.put, List.setIfInBounds_toArray, List.set_cons_zero, List.set_cons_succ]
                  refine wpAnyH_takeAt (i := 13) (d := 45) (v := ?vwt13) (by kernel_rfl) (by kernel_rfl) (by kernel_rfl) (by kernel_rfl) (fun _ _ _ h => h) ?hywt13 (by assumption) ?restwt13
                  case hywt13 =>
                    intro oi ho
                    simp only [List.getElem?_toArray, List.getElem?_cons_succ, List.getElem?_cons_zero, Option.some.injEq] at ho
                    subst ho
                    refine Or.inl ⟨by rfl, ?_⟩
                    intro wx hSw
                    try dsimp only at hSw
                    go_simp
                    try rfl
                  try simp only [Act.put, List.setIfInBounds_toArray, List.set_cons_zero, List.set_cons_succ]
                  refine wpAnyH_takeAt (i := 14) (d := 46) (v := ?vwt14) (by kernel_rfl) (by kernel_rfl) (by kernel_rfl) (by kernel_rfl) (fun _ _ _ h => h) ?hywt14 (by assumption) ?restwt14
                  case hywt14 =>
                    intro oi ho
                    simp only [List.getElem?_toArray, List.getElem?_cons_succ, List.getElem?_cons_zero, Option.some.injEq] at ho
                    subst ho
                    refine Or.inl ⟨by rfl, ?_⟩
                    intro wx hSw
                    try dsimp only at hSw
                    go_simp
                    try rfl
                  try simp only [Act.put, List.setIfInBounds_toArray, List.set_cons_zero, List.set_cons_succ]
                  refine wpAnyH_takeAt (i := 15) (d := 47) (v := ?vwt15) (by kernel_rfl) (by kernel_rfl) (by kernel_rfl) (by kernel_rfl) (fun _ _ _ h => h) ?hywt15 (by assumption) ?restwt15
                  case hywt15 =>
                    intro oi ho
                    simp only [List.getElem?_toArray, List.getElem?_cons_succ, List.getElem?_cons_zero, Option.some.injEq] at ho
                    subst ho
                    refine Or.inl ⟨by rfl, ?_⟩
                    intro wx hSw
                    try dsimp only at hSw
                    go_simp
                    try rfl
                  try simp only [Act.put, List.setIfInBounds_toArray, List.set_cons_zero, List.set_cons_succ]
                  refine wpAnyH_takeAt (i := 16) (d := 48) (v := ?vwt16) (by kernel_rfl) (by kernel_rfl) (by kernel_rfl) (by kernel_rfl) (fun _ _ _ h => h) ?hywt16 (by assumption) ?restwt16
                  case hywt16 =>
                    intro oi ho
                    simp only [List.getElem?_toArray, List.getElem?_cons_succ, List.getElem?_cons_zero, Option.some.injEq] at ho
                    subst ho
                    refine Or.inl ⟨by rfl, ?_⟩
                    intro wx hSw
                    try dsimp only at hSw
                    go_simp
                    try rfl
                  try simp only [Act.put, List.setIfInBounds_toArray, List.set_cons_zero, List.set_cons_succ]
                  refine wpAnyH_takeAt (i := 17) (d := 49) (v := ?vwt17) (by kernel_rfl) (by kernel_rfl) (by kernel_rfl) (by kernel_rfl) (fun _ _ _ h => h) ?hywt17 (by assumption) ?restwt17
                  case hywt17 =>
                    intro oi ho
                    simp only [List.getElem?_toArray, List.getElem?_cons_succ, List.getElem?_cons_zero, Option.some.injEq] at ho
                    subst ho
                    refine Or.inl ⟨by rfl, ?_⟩
                    intro wx hSw
                    try dsimp only at hSw
                    go_simp
                    try rfl
                  try simp only [Act.put, List.setIfInBounds_toArray, List.set_cons_zero, List.set_cons_succ]
                  refine wpAnyH_takeAt (i := 18) (d := 50) (v := ?vwt18) (by kernel_rfl) (by kernel_rfl) (by kernel_rfl) (by kernel_rfl) (fun _ _ _ h => h) ?hywt18 (by assumption) ?restwt18
                  case hywt18 =>
                    intro oi ho
                    simp only [List.getElem?_toArray, List.getElem?_cons_succ, List.getElem?_cons_zero, Option.some.injEq] at ho
                    subst ho
                    refine Or.inl ⟨by rfl, ?_⟩
                    intro wx hSw
                    try dsimp only at hSw
                    go_simp
                    try rfl
                  try simp only [Act.put, List.setIfInBounds_toArray, List.set_cons_zero, List.set_cons_succ]
                  refine wpAnyH_takeAt (i := 19) (d := 51) (v := undef) (by kernel_rfl) (by kernel_rfl) (by kernel_rfl) (by kernel_rfl) (fun _ _ _ h => h) ?hywt19 (by assumption) ?restwt19
                  case hywt19 =>
                    intro oi ho
                    simp only [List.getElem?_toArray, List.getElem?_cons_succ, List.getElem?_cons_zero, Option.some.injEq] at ho
                    subst ho
                    exact Or.inr ⟨by rfl, rfl⟩
                  try simp only [Act.put, List.setIfInBounds_toArray, List.set_cons_zero, List.set_cons_succ]
                  refine wpAnyH_takeAt (i := 20) (d := 52) (v := undef) (by kernel_rfl) (by kernel_rfl) (by kernel_rfl) (by kernel_rfl) (fun _ _ _ h => h) ?hywt20 (by assumption) ?restwt20
                  case hywt20 =>
                    intro oi ho
                    simp only [List.getElem?_toArray, List.getElem?_cons_succ, List.getElem?_cons_zero, Option.some.injEq] at ho
                    subst ho
                    exact Or.inr ⟨by rfl, rfl⟩
                  try simp only [Act.put, List.setIfInBounds_toArray, List.set_cons_zero, List.set_cons_succ]
                  refine wpAnyH_takeAt (i := 21) (d := 53) (v := undef) (by kernel_rfl) (by kernel_rfl) (by kernel_rfl) (by kernel_rfl) (fun _ _ _ h => h) ?hywt21 (by assumption) ?restwt21
                  case hywt21 =>
                    intro oi ho
                    simp only [List.getElem?_toArray, List.getElem?_cons_succ, List.getElem?_cons_zero, Option.some.injEq] at ho
                    subst ho
                    exact Or.inr ⟨by rfl, rfl⟩
                  try simp only [Act.put, List.setIfInBounds_toArray, List.set_cons_zero, List.set_cons_succ]
                  refine wpAnyH_takeAt (i := 22) (d := 54) (v := ?vwt22) (by kernel_rfl) (by kernel_rfl) (by kernel_rfl) (by kernel_rfl) (fun _ _ _ h => h) ?hywt22 (by assumption) ?restwt22
                  case hywt22 =>
                    intro oi ho
                    simp only [List.getElem?_toArray, List.getElem?_cons_succ, List.getElem?_cons_zero, Option.some.injEq] at ho
                    subst ho
                    refine Or.inl ⟨by rfl, ?_⟩
                    intro wx hSw
                    try dsimp only at hSw
                    go_simp
                    try rfl
                  try simp only [Act.put, List.setIfInBounds_toArray, List.set_cons_zero, List.set_cons_succ]
                  refine wpAnyH_takeAt (i := 23) (d := 55) (v := ?vwt23) (by kernel_rfl) (by kernel_rfl) (by kernel_rfl) (by kernel_rfl) (fun _ _ _ h => h) ?hywt23 (by assumption) ?restwt23
                  case hywt23 =>
                    intro oi ho
                    simp only [List.getElem?_toArray, List.getElem?_cons_succ, List.getElem?_cons_zero, Option.some.injEq] at ho
                    subst ho
                    refine Or.inl ⟨by rfl, ?_⟩
                    intro wx hSw
                    try dsimp only at hSw
                    go_simp
                    try rfl
                  try simp only [Act.put, List.setIfInBounds_toArray, List.set_cons_zero, List.set_cons_succ]
                  refine wpAnyH_takeAt (i := 24) (d := 56) (v := ?vwt24) (by kernel_rfl) (by kernel_rfl) (by kernel_rfl) (by kernel_rfl) (fun _ _ _ h => h) ?hywt24 (by assumption) ?restwt24
                  case hywt24 =>
                    intro oi ho
                    simp only [List.getElem?_toArray, List.getElem?_cons_succ, List.getElem?_cons_zero, Option.some.injEq] at ho
                    subst ho
                    refine Or.inl ⟨by rfl, ?_⟩
                    intro wx hSw
                    try dsimp only at hSw
                    go_simp
                    try rfl
                  try simp only [Act.put, List.setIfInBounds_toArray, List.set_cons_zero, List.set_cons_succ]
                  refine wpAnyH_takeAt (i := 25) (d := 57) (v := ?vwt25) (by kernel_rfl) (by kernel_rfl) (by kernel_rfl) (by kernel_rfl) (fun _ _ _ h => h) ?hywt25 (by assumption) ?restwt25
                  case hywt25 =>
                    intro oi ho
                    simp only [List.getElem?_toArray, List.getElem?_cons_succ, List.getElem?_cons_zero, Option.some.injEq] at ho
                    subst ho
                    refine Or.inl ⟨by rfl, ?_⟩
                    intro wx hSw
                    try dsimp only at hSw
                    go_simp
                    try rfl
                  try simp only [Act.put, List.setIfInBounds_toArray, List.set_cons_zero, List.set_cons_succ]
                  refine wpAnyH_takeAt (i := 26) (d := 58) (v := ?vwt26) (by kernel_rfl) (by kernel_rfl) (by kernel_rfl) (by kernel_rfl) (fun _ _ _ h => h) ?hywt26 (by assumption) ?restwt26
                  case hywt26 =>
                    intro oi ho
                    simp only [List.getElem?_toArray, List.getElem?_cons_succ, List.getElem?_cons_zero, Option.some.injEq] at ho
                    subst ho
                    refine Or.inl ⟨by rfl, ?_⟩
                    intro wx hSw
                    try dsimp only at hSw
                    go_simp
                    try rfl
                  try simp only [Act.put, List.setIfInBounds_toArray, List.set_cons_zero, List.set_cons_succ]
                  refine wpAnyH_takeAt (i := 27) (d := 59) (v := ?vwt27) (by kernel_rfl) (by kernel_rfl) (by kernel_rfl) (by kernel_rfl) (fun _ _ _ h => h) ?hywt27 (by assumption) ?restwt27
                  case hywt27 =>
                    intro oi ho
                    simp only [List.getElem?_toArray, List.getElem?_cons_succ, List.getElem?_cons_zero, Option.some.injEq] at ho
                    subst ho
                    refine Or.inl ⟨by rfl, ?_⟩
                    intro wx hSw
                    try dsimp only at hSw
                    go_simp
                    try rfl
                  try simp only [Act.put, List.setIfInBounds_toArray, List.set_cons_zero, List.set_cons_succ]
                  refine wpAnyH_takeAt (i := 28) (d := 60) (v := ?vwt28) (by kernel_rfl) (by kernel_rfl) (by kernel_rfl) (by kernel_rfl) (fun _ _ _ h => h) ?hywt28 (by assumption) ?restwt28
                  case hywt28 =>
                    intro oi ho
                    simp only [List.getElem?_toArray, List.getElem?_cons_succ, List.getElem?_cons_zero, Option.some.injEq] at ho
                    subst ho
                    refine Or.inl ⟨by rfl, ?_⟩
                    intro wx hSw
                    try dsimp only at hSw
                    go_simp
                    try rfl
                  try simp only [Act.put, List.setIfInBounds_toArray, List.set_cons_zero, List.set_cons_succ]
                  refine wpAnyH_takeAt (i := 29) (d := 61) (v := undef) (by kernel_rfl) (by kernel_rfl) (by kernel_rfl) (by kernel_rfl) (fun _ _ _ h => h) ?hywt29 (by assumption) ?restwt29
                  case hywt29 =>
                    intro oi ho
                    simp only [List.getElem?_toArray, List.getElem?_cons_succ, List.getElem?_cons_zero, Option.some.injEq] at ho
                    subst ho
                    exact Or.inr ⟨by rfl, rfl⟩
                  try simp only [Act.put, List.setIfInBounds_toArray, List.set_cons_zero, List.set_cons_succ]
                  refine wpAnyH_takeAt (i := 30) (d := 62) (v := undef) (by kernel_rfl) (by kernel_rfl) (by kernel_rfl) (by kernel_rfl) (fun _ _ _ h => h) ?hywt30 (by assumption) ?restwt30
                  case hywt30 =>
                    intro oi ho
                    simp only [List.getElem?_toArray, List.getElem?_cons_succ, List.getElem?_cons_zero, Option.some.injEq] at ho
                    subst ho
                    exact Or.inr ⟨by rfl, rfl⟩
                  try simp only [Act.put, List.setIfInBounds_toArray, List.set_cons_zero, List.set_cons_succ]
                  refine wpAnyH_takeAt (i := 32) (d := 64) (v := undef) (by kernel_rfl) (by kernel_rfl) (by kernel_rfl) (by kernel_rfl) (fun _ _ _ h => h) ?hywt32 (by assumption) ?restwt32
                  case hywt32 =>
                    intro oi ho
                    simp only [List.getElem?_toArray, List.getElem?_cons_succ, List.getElem?_cons_zero, Option.some.injEq] at ho
                    subst ho
                    exact Or.inr ⟨by rfl, rfl⟩
                  try simp only [Act.put, List.setIfInBounds_toArray, List.set_cons_zero, List.set_cons_succ]
                  refine wpAnyH_takeAt (i := 33) (d := 65) (v := undef) (by kernel_rfl) (by kernel_rfl) (by kernel_rfl) (by kernel_rfl) (fun _ _ _ h => h) ?hywt33 (by assumption) ?restwt33
                  case hywt33 =>
                    intro oi ho
                    simp only [List.getElem?_toArray, List.getElem?_cons_succ, List.getElem?_cons_zero, Option.some.injEq] at ho
                    subst ho
                    exact Or.inr ⟨by rfl, rfl⟩
                  try simp only [Act.put, List.setIfInBounds_toArray, List.set_cons_zero, List.set_cons_succ]
                  refine wpAnyH_takeAt (i := 31) (d := 63) (v := undef) (by kernel_rfl) (by kernel_rfl) (by kernel_rfl) (by kernel_rfl) (fun _ _ _ h => h) ?hywt31 (by assumption) ?restwt31
                  case hywt31 =>
                    intro oi ho
                    simp only [List.getElem?_toArray, List.getElem?_cons_succ, List.getElem?_cons_zero, Option.some.injEq] at ho
                    subst ho
                    exact Or.inr ⟨by rfl, rfl⟩
                  try simp only [Act.put, List.setIfInBounds_toArray, List.set_cons_zero, List.set_cons_succ]
                  refine wpAnyH_takeAt (i := 34) (d := 66) (v := undef) (by kernel_rfl) (by kernel_rfl) (by kernel_rfl) (by kernel_rfl) (fun _ _ _ h => h) ?hywt34 (by assumption) ?restwt34
                  case hywt34 =>
                    intro oi ho
                    simp only [List.getElem?_toArray, List.getElem?_cons_succ, List.getElem?_cons_zero, Option.some.injEq] at ho
                    subst ho
                    exact Or.inr ⟨by rfl, rfl⟩
                  try simp only [Act.put, List.setIfInBounds_toArray, List.set_cons_zero, List.set_cons_succ]
                  refine wpAnyH_takeAt (i := 35) (d := 67) (v := ?vwt35) (by kernel_rfl) (by kernel_rfl) (by kernel_rfl) (by kernel_rfl) (fun _ _ _ h => h) ?hywt35 (by assumption) ?restwt35
                  case hywt35 =>
                    intro oi ho
                    simp only [List.getElem?_toArray, List.getElem?_cons_succ, List.getElem?_cons_zero, Option.some.injEq] at ho
                    subst ho
                    refine Or.inl ⟨by rfl, ?_⟩
                    intro wx hSw
                    try dsimp only at hSw
                    go_simp
                    try rfl
                  try simp only [Act.put, List.setIfInBounds_toArray, List.set_cons_zero, List.set_cons_succ]
                  refine wpAnyH_takeAt (i := 36) (d := 68) (v := ?vwt36) (by kernel_rfl) (by kernel_rfl) (by kernel_rfl) (by kernel_rfl) (fun _ _ _ h => h) ?hywt36 (by assumption) ?restwt36
                  case hywt36 =>
                    intro oi ho
                    simp only [List.getElem?_toArray, List.getElem?_cons_succ, List.getElem?_cons_zero, Option.some.injEq] at ho
                    subst ho
                    refine Or.inl ⟨by rfl, ?_⟩
                    intro wx hSw
                    try dsimp only at hSw
                    go_simp
                    try rfl
                  try simp only [Act.put, List.setIfInBounds_toArray, List.set_cons_zero, List.set_cons_succ]
                  refine wpAnyH_done (by kernel_rfl) ?_ _
                  refine NoPanic.normal ?_
                  clear hHeld
                  have HG := hide ((show fitsB c v = true by unfold fitsB; rw [decide_eq_true H0.out, HZ.out H0.out HK2.out, decide_eq_true (show ((0 : Nat) : Int) ≤ c.2.2 by have := HMX.out; omega)]; simp [HKK.out]))
                  have hn3 := HC1.out.2
                  go_wp2
                  go_roundg (gk - 1)
                  case measure => omega
                  case rel => exact ⟨j + 1, by omega, by go_num, HNX.out.trans HG.out, fun _ => HFN.out, HB2'.out.drew.trans (HB3.out.mono HBS.out)⟩
              · have dn0 : (v.1 != 0) = true := by simp [hk0]
                refine wp_region_noPanic ?_
                refine wp_region_held_drew (S := fun wx => (wx.cell? ⟨g6, 0, none⟩ = some (.int .i64 v.1) ∧ wx.cell? ⟨g6, 1, none⟩ = some (.int .i64 v.2.1) ∧ wx.cell? ⟨g6, 2, none⟩ = some (.string v.2.2)) ∧ wx.cell? ⟨g7, 1, none⟩ = some (.int .i64 c.2.1) ∧ wx.cell? ⟨g7, 2, none⟩ = some (.int .i64 c.2.2)) (by kernel_rfl) HX.out (fun hHeld => ?_)
                refine wpAnyH_takeAt (i := 0) (d := 32) (v := ?vb0) (by kernel_rfl) (by kernel_rfl) (by kernel_rfl) (by kernel_rfl) (fun _ _ _ h => h) ?hyb0 (by assumption) ?restb0
                case hyb0 =>
                  intro oi ho
                  simp only [List.getElem?_toArray, List.getElem?_cons_zero, Option.some.injEq] at ho
                  subst ho
                  refine Or.inl ⟨by rfl, ?_⟩
                  intro wx hSw
                  try dsimp only at hSw
                  go_simp
                  try rfl
                try simp only [Act.put, List.setIfInBounds_toArray, List.set_cons_zero, List.set_cons_succ]
                refine wpAnyH_comesAt (i := 1) (by kernel_rfl) (by kernel_rfl) ?_
                intro o ho K hK
                simp only [List.getElem?_toArray, List.getElem?_cons_succ, List.getElem?_cons_zero, Option.some.injEq] at ho
                subst ho
                go_simp
                refine HRT.out.mono ?_
                rintro e w3 ⟨rfl, hb⟩
                have HB3 : Hid (Below wc.drew.heap.size wc.drew w3) := hb
                have H63 := hide ((hb.block g6 (blk_lt H62.out)).trans H62.out)
                have H73 := hide ((hb.block g7 (blk_lt H72.out)).trans H72.out)
                clear hb hHeld
                refine hK.out _ _ ⟨⟨cell_blk H63.out, cell_blk H63.out, cell_blk H63.out⟩, cell_blk H73.out, cell_blk H73.out⟩ (fun hHeld => ?_)
                clear hK K
                try simp only [Act.put, List.setIfInBounds_toArray, List.set_cons_zero, List.set_cons_succ]
                refine wpAnyH_takeAt (i := 2) (d := 34) (v := ?vb2) (by kernel_rfl) (by kernel_rfl) (by kernel_rfl) (by kernel_rfl) (fun _ _ _ h => h) ?hyb2 (by assumption) ?restb2
                case hyb2 =>
                  intro oi ho
                  simp only [List.getElem?_toArray, List.getElem?_cons_succ, List.getElem?_cons_zero, Option.some.injEq] at ho
                  subst ho
                  refine Or.inl ⟨by rfl, ?_⟩
                  intro wx hSw
                  try dsimp only at hSw
                  go_simp
                  try rfl
                try simp only [Act.put, List.setIfInBounds_toArray, List.set_cons_zero, List.set_cons_succ]
                refine wpAnyH_takeAt (i := 3) (d := 35) (v := ?vb3) (by kernel_rfl) (by kernel_rfl) (by kernel_rfl) (by kernel_rfl) (fun _ _ _ h => h) ?hyb3 (by assumption) ?restb3
                case hyb3 =>
                  intro oi ho
                  simp only [List.getElem?_toArray, List.getElem?_cons_succ, List.getElem?_cons_zero, Option.some.injEq] at ho
                  subst ho
                  refine Or.inl ⟨by rfl, ?_⟩
                  intro wx hSw
                  try dsimp only at hSw
                  go_simp
                  try rfl
                try simp only [Act.put, List.setIfInBounds_toArray, List.set_cons_zero, List.set_cons_succ]
                refine wpAnyH_takeAt (i := 4) (d := 36) (v := ?vb4) (by kernel_rfl) (by kernel_rfl) (by kernel_rfl) (by kernel_rfl) (fun _ _ _ h => h) ?hyb4 (by assumption) ?restb4
                case hyb4 =>
                  intro oi ho
                  simp only [List.getElem?_toArray, List.getElem?_cons_succ, List.getElem?_cons_zero, Option.some.injEq] at ho
                  subst ho
                  refine Or.inl ⟨by rfl, ?_⟩
                  intro wx hSw
                  try dsimp only at hSw
                  go_simp
                  try rfl
                try simp only [Act.put, List.setIfInBounds_toArray, List.set_cons_zero, List.set_cons_succ]
                refine wpAnyH_takeAt (i := 5) (d := 37) (v := ?vb5) (by kernel_rfl) (by kernel_rfl) (by kernel_rfl) (by kernel_rfl) (fun _ _ _ h => h) ?hyb5 (by assumption) ?restb5
                case hyb5 =>
                  intro oi ho
                  simp only [List.getElem?_toArray, List.getElem?_cons_succ, List.getElem?_cons_zero, Option.some.injEq] at ho
                  subst ho
                  refine Or.inl ⟨by rfl, ?_⟩
                  intro wx hSw
                  try dsimp only at hSw
                  go_simp
                  try rfl
                try simp only [Act.put, List.setIfInBounds_toArray, List.set_cons_zero, List.set_cons_succ]
                refine wpAnyH_takeAt (i := 6) (d := 38) (v := ?vb6) (by kernel_rfl) (by kernel_rfl) (by kernel_rfl) (by kernel_rfl) (fun _ _ _ h => h) ?hyb6 (by assumption) ?restb6
                case hyb6 =>
                  intro oi ho
                  simp only [List.getElem?_toArray, List.getElem?_cons_succ, List.getElem?_cons_zero, Option.some.injEq] at ho
                  subst ho
                  refine Or.inl ⟨by rfl, ?_⟩
                  intro wx hSw
                  try dsimp only at hSw
                  go_simp
                  try rfl
                try simp only [Act.put, List.setIfInBounds_toArray, List.set_cons_zero, List.set_cons_succ]
                refine wpAnyH_takeAt (i := 7) (d := 39) (v := ?vb7) (by kernel_rfl) (by kernel_rfl) (by kernel_rfl) (by kernel_rfl) (fun _ _ _ h => h) ?hyb7 (by assumption) ?restb7
                case hyb7 =>
                  intro oi ho
                  simp only [List.getElem?_toArray, List.getElem?_cons_succ, List.getElem?_cons_zero, Option.some.injEq] at ho
                  subst ho
                  refine Or.inl ⟨by rfl, ?_⟩
                  intro wx hSw
                  try dsimp only at hSw
                  go_simp
                  try rfl
                try simp only [Act.put, List.setIfInBounds_toArray, List.set_cons_zero, List.set_cons_succ]
                refine wpAnyH_takeAt (i := 8) (d := 40) (v := ?vb8) (by kernel_rfl) (by kernel_rfl) (by kernel_rfl) (by kernel_rfl) (fun _ _ _ h => h) ?hyb8 (by assumption) ?restb8
                case hyb8 =>
                  intro oi ho
                  simp only [List.getElem?_toArray, List.getElem?_cons_succ, List.getElem?_cons_zero, Option.some.injEq] at ho
                  subst ho
                  refine Or.inl ⟨by rfl, ?_⟩
                  intro wx hSw
                  try dsimp only at hSw
                  go_simp
                  try rfl
                try simp only [Act.put, List.setIfInBounds_toArray, List.set_cons_zero, List.set_cons_succ]
                refine wpAnyH_takeAt (i := 9) (d := 41) (v := ?vb9) (by kernel_rfl) (by kernel_rfl) (by kernel_rfl) (by kernel_rfl) (fun _ _ _ h => h) ?hyb9 (by assumption) ?restb9
                case hyb9 =>
                  intro oi ho
                  simp only [List.getElem?_toArray, List.getElem?_cons_succ, List.getElem?_cons_zero, Option.some.injEq] at ho
                  subst ho
                  refine Or.inl ⟨by rfl, ?_⟩
                  intro wx hSw
                  try dsimp only at hSw
                  go_simp
                  try rfl
                try simp only [Act.put, List.setIfInBounds_toArray, List.set_cons_zero, List.set_cons_succ]
                refine wpAnyH_takeAt (i := 10) (d := 42) (v := ?vb10) (by kernel_rfl) (by kernel_rfl) (by kernel_rfl) (by kernel_rfl) (fun _ _ _ h => h) ?hyb10 (by assumption) ?restb10
                case hyb10 =>
                  intro oi ho
                  simp only [List.getElem?_toArray, List.getElem?_cons_succ, List.getElem?_cons_zero, Option.some.injEq] at ho
                  subst ho
                  refine Or.inl ⟨by rfl, ?_⟩
                  intro wx hSw
                  try dsimp only at hSw
                  go_simp
                  try rfl
                try simp only [Act.put, List.setIfInBounds_toArray, List.set_cons_zero, List.set_cons_succ]
                refine wpAnyH_takeAt (i := 11) (d := 43) (v := ?vb11) (by kernel_rfl) (by kernel_rfl) (by kernel_rfl) (by kernel_rfl) (fun _ _ _ h => h) ?hyb11 (by assumption) ?restb11
                case hyb11 =>
                  intro oi ho
                  simp only [List.getElem?_toArray, List.getElem?_cons_succ, List.getElem?_cons_zero, Option.some.injEq] at ho
                  subst ho
                  refine Or.inl ⟨by rfl, ?_⟩
                  intro wx hSw
                  try dsimp only at hSw
                  go_simp
                  try rfl
                try simp only [Act.put, List.setIfInBounds_toArray, List.set_cons_zero, List.set_cons_succ]
                refine wpAnyH_takeAt (i := 12) (d := 44) (v := ?vb12) (by kernel_rfl) (by kernel_rfl) (by kernel_rfl) (by kernel_rfl) (fun _ _ _ h => h) ?hyb12 (by assumption) ?restb12
                case hyb12 =>
                  intro oi ho
                  simp only [List.getElem?_toArray, List.getElem?_cons_succ, List.getElem?_cons_zero, Option.some.injEq] at ho
                  subst ho
                  refine Or.inl ⟨by rfl, ?_⟩
                  intro wx hSw
                  try dsimp only at hSw
                  go_simp
                  try rfl
                try simp only [Act.put, List.setIfInBounds_toArray, List.set_cons_zero, List.set_cons_succ]
                refine wpAnyH_takeAt (i := 13) (d := 45) (v := ?vb13) (by kernel_rfl) (by kernel_rfl) (by kernel_rfl) (by kernel_rfl) (fun _ _ _ h => h) ?hyb13 (by assumption) ?restb13
                case hyb13 =>
                  intro oi ho
                  simp only [List.getElem?_toArray, List.getElem?_cons_succ, List.getElem?_cons_zero, Option.some.injEq] at ho
                  subst ho
                  refine Or.inl ⟨by rfl, ?_⟩
                  intro wx hSw
                  try dsimp only at hSw
                  go_simp
                  try rfl
                try simp only [Act.put, List.setIfInBounds_toArray, List.set_cons_zero, List.set_cons_succ]
                refine wpAnyH_takeAt (i := 14) (d := 46) (v := ?vb14) (by kernel_rfl) (by kernel_rfl) (by kernel_rfl) (by kernel_rfl) (fun _ _ _ h => h) ?hyb14 (by assumption) ?restb14
                case hyb14 =>
                  intro oi ho
                  simp only [List.getElem?_toArray, List.getElem?_cons_succ, List.getElem?_cons_zero, Option.some.injEq] at ho
                  subst ho
                  refine Or.inl ⟨by rfl, ?_⟩
                  intro wx hSw
                  try dsimp only at hSw
                  go_simp
                  try rfl
                try simp only [Act.put, List.setIfInBounds_toArray, List.set_cons_zero, List.set_cons_succ]
                refine wpAnyH_takeAt (i := 15) (d := 47) (v := ?vb15) (by kernel_rfl) (by kernel_rfl) (by kernel_rfl) (by kernel_rfl) (fun _ _ _ h => h) ?hyb15 (by assumption) ?restb15
                case hyb15 =>
                  intro oi ho
                  simp only [List.getElem?_toArray, List.getElem?_cons_succ, List.getElem?_cons_zero, Option.some.injEq] at ho
                  subst ho
                  refine Or.inl ⟨by rfl, ?_⟩
                  intro wx hSw
                  try dsimp only at hSw
                  go_simp
                  try rfl
                try simp only [Act.put, List.setIfInBounds_toArray, List.set_cons_zero, List.set_cons_succ]
                refine wpAnyH_takeAt (i := 16) (d := 48) (v := undef) (by kernel_rfl) (by kernel_rfl) (by kernel_rfl) (by kernel_rfl) (fun _ _ _ h => h) ?hyb16 (by assumption) ?restb16
                case hyb16 =>
                  intro oi ho
                  simp only [List.getElem?_toArray, List.getElem?_cons_succ, List.getElem?_cons_zero, Option.some.injEq] at ho
                  subst ho
                  exact Or.inr ⟨by rfl, rfl⟩
                try simp only [Act.put, List.setIfInBounds_toArray, List.set_cons_zero, List.set_cons_succ]
                refine wpAnyH_takeAt (i := 17) (d := 49) (v := undef) (by kernel_rfl) (by kernel_rfl) (by kernel_rfl) (by kernel_rfl) (fun _ _ _ h => h) ?hyb17 (by assumption) ?restb17
                case hyb17 =>
                  intro oi ho
                  simp only [List.getElem?_toArray, List.getElem?_cons_succ, List.getElem?_cons_zero, Option.some.injEq] at ho
                  subst ho
                  exact Or.inr ⟨by rfl, rfl⟩
                try simp only [Act.put, List.setIfInBounds_toArray, List.set_cons_zero, List.set_cons_succ]
                refine wpAnyH_takeAt (i := 18) (d := 50) (v := undef) (by kernel_rfl) (by kernel_rfl) (by kernel_rfl) (by kernel_rfl) (fun _ _ _ h => h) ?hyb18 (by assumption) ?restb18
                case hyb18 =>
                  intro oi ho
                  simp only [List.getElem?_toArray, List.getElem?_cons_succ, List.getElem?_cons_zero, Option.some.injEq] at ho
                  subst ho
                  exact Or.inr ⟨by rfl, rfl⟩
                try simp only [Act.put, List.setIfInBounds_toArray, List.set_cons_zero, List.set_cons_succ]
                refine wpAnyH_takeAt (i := 19) (d := 51) (v := undef) (by kernel_rfl) (by kernel_rfl) (by kernel_rfl) (by kernel_rfl) (fun _ _ _ h => h) ?hyb19 (by assumption) ?restb19
                case hyb19 =>
                  intro oi ho
                  simp only [List.getElem?_toArray, List.getElem?_cons_succ, List.getElem?_cons_zero, Option.some.injEq] at ho
                  subst ho
                  exact Or.inr ⟨by rfl, rfl⟩
                try simp only [Act.put, List.setIfInBounds_toArray, List.set_cons_zero, List.set_cons_succ]
                refine wpAnyH_takeAt (i := 20) (d := 52) (v := undef) (by kernel_rfl) (by kernel_rfl) (by kernel_rfl) (by kernel_rfl) (fun _ _ _ h => h) ?hyb20 (by assumption) ?restb20
                case hyb20 =>
                  intro oi ho
                  simp only [List.getElem?_toArray, List.getElem?_cons_succ, List.getElem?_cons_zero, Option.some.injEq] at ho
                  subst ho
                  exact Or.inr ⟨by rfl, rfl⟩
                try simp only [Act.put, List.setIfInBounds_toArray, List.set_cons_zero, List.set_cons_succ]
                refine wpAnyH_takeAt (i := 21) (d := 53) (v := undef) (by kernel_rfl) (by kernel_rfl) (by kernel_rfl) (by kernel_rfl) (fun _ _ _ h => h) ?hyb21 (by assumption) ?restb21
                case hyb21 =>
                  intro oi ho
                  simp only [List.getElem?_toArray, List.getElem?_cons_succ, List.getElem?_cons_zero, Option.some.injEq] at ho
                  subst ho
                  exact Or.inr ⟨by rfl, rfl⟩
                try simp only [Act.put, List.setIfInBounds_toArray, List.set_cons_zero, List.set_cons_succ]
                refine wpAnyH_takeAt (i := 22) (d := 54) (v := undef) (by kernel_rfl) (by kernel_rfl) (by kernel_rfl) (by kernel_rfl) (fun _ _ _ h => h) ?hyb22 (by assumption) ?restb22
                case hyb22 =>
                  intro oi ho
                  simp only [List.getElem?_toArray, List.getElem?_cons_succ, List.getElem?_cons_zero, Option.some.injEq] at ho
                  subst ho
                  exact Or.inr ⟨by rfl, rfl⟩
                try simp only [Act.put, List.setIfInBounds_toArray, List.set_cons_zero, List.set_cons_succ]
                refine wpAnyH_takeAt (i := 23) (d := 55) (v := ?vb23) (by kernel_rfl) (by kernel_rfl) (by kernel_rfl) (by kernel_rfl) (fun _ _ _ h => h) ?hyb23 (by assumption) ?restb23
                case hyb23 =>
                  intro oi ho
                  simp only [List.getElem?_toArray, List.getElem?_cons_succ, List.getElem?_cons_zero, Option.some.injEq] at ho
                  subst ho
                  refine Or.inl ⟨by rfl, ?_⟩
                  intro wx hSw
                  try dsimp only at hSw
                  go_simp
                  try rfl
                try simp only [Act.put, List.setIfInBounds_toArray, List.set_cons_zero, List.set_cons_succ]
                refine wpAnyH_takeAt (i := 24) (d := 56) (v := ?vb24) (by kernel_rfl) (by kernel_rfl) (by kernel_rfl) (by kernel_rfl) (fun _ _ _ h => h) ?hyb24 (by assumption) ?restb24
                case hyb24 =>
                  intro oi ho
                  simp only [List.getElem?_toArray, List.getElem?_cons_succ, List.getElem?_cons_zero, Option.some.injEq] at ho
                  subst ho
                  refine Or.inl ⟨by rfl, ?_⟩
                  intro wx hSw
                  try dsimp only at hSw
                  go_simp
                  try rfl
                try simp only [Act.put, List.setIfInBounds_toArray, List.set_cons_zero, List.set_cons_succ]
                refine wpAnyH_takeAt (i := 25) (d := 57) (v := undef) (by kernel_rfl) (by kernel_rfl) (by kernel_rfl) (by kernel_rfl) (fun _ _ _ h => h) ?hyb25 (by assumption) ?restb25
                case hyb25 =>
                  intro oi ho
                  simp only [List.getElem?_toArray, List.getElem?_cons_succ, List.getElem?_cons_zero, Option.some.injEq] at ho
                  subst ho
                  exact Or.inr ⟨by rfl, rfl⟩
                try simp only [Act.put, List.setIfInBounds_toArray, List.set_cons_zero, List.set_cons_succ]
                refine wpAnyH_takeAt (i := 26) (d := 58) (v := undef) (by kernel_rfl) (by kernel_rfl) (by kernel_rfl) (by kernel_rfl) (fun _ _ _ h => h) ?hyb26 (by assumption) ?restb26
                case hyb26 =>
                  intro oi ho
                  simp only [List.getElem?_toArray, List.getElem?_cons_succ, List.getElem?_cons_zero, Option.some.injEq] at ho
                  subst ho
                  exact Or.inr ⟨by rfl, rfl⟩
                try simp only [Act.put, List.setIfInBounds_toArray, List.set_cons_zero, List.set_cons_succ]
                refine wpAnyH_takeAt (i := 27) (d := 59) (v := undef) (by kernel_rfl) (by kernel_rfl) (by kernel_rfl) (by kernel_rfl) (fun _ _ _ h => h) ?hyb27 (by assumption) ?restb27
                case hyb27 =>
                  intro oi ho
                  simp only [List.getElem?_toArray, List.getElem?_cons_succ, List.getElem?_cons_zero, Option.some.injEq] at ho
                  subst ho
                  exact Or.inr ⟨by rfl, rfl⟩
                try simp only [Act.put, List.setIfInBounds_toArray, List.set_cons_zero, List.set_cons_succ]
                refine wpAnyH_takeAt (i := 28) (d := 60) (v := undef) (by kernel_rfl) (by kernel_rfl) (by kernel_rfl) (by kernel_rfl) (fun _ _ _ h => h) ?hyb28 (by assumption) ?restb28
                case hyb28 =>
                  intro oi ho
                  simp only [List.getElem?_toArray, List.getElem?_cons_succ, List.getElem?_cons_zero, Option.some.injEq] at ho
                  subst ho
                  exact Or.inr ⟨by rfl, rfl⟩
                try simp only [Act.put, List.setIfInBounds_toArray, List.set_cons_zero, List.set_cons_succ]
                refine wpAnyH_takeAt (i := 29) (d := 61) (v := undef) (by kernel_rfl) (by kernel_rfl) (by kernel_rfl) (by kernel_rfl) (fun _ _ _ h => h) ?hyb29 (by assumption) ?restb29
                case hyb29 =>
                  intro oi ho
                  simp only [List.getElem?_toArray, List.getElem?_cons_succ, List.getElem?_cons_zero, Option.some.injEq] at ho
                  subst ho
                  exact Or.inr ⟨by rfl, rfl⟩
                try simp only [Act.put, List.setIfInBounds_toArray, List.set_cons_zero, List.set_cons_succ]
                refine wpAnyH_takeAt (i := 30) (d := 62) (v := undef) (by kernel_rfl) (by kernel_rfl) (by kernel_rfl) (by kernel_rfl) (fun _ _ _ h => h) ?hyb30 (by assumption) ?restb30
                case hyb30 =>
                  intro oi ho
                  simp only [List.getElem?_toArray, List.getElem?_cons_succ, List.getElem?_cons_zero, Option.some.injEq] at ho
                  subst ho
                  exact Or.inr ⟨by rfl, rfl⟩
                try simp only [Act.put, List.setIfInBounds_toArray, List.set_cons_zero, List.set_cons_succ]
                refine wpAnyH_takeAt (i := 32) (d := 64) (v := undef) (by kernel_rfl) (by kernel_rfl) (by kernel_rfl) (by kernel_rfl) (fun _ _ _ h => h) ?hyb32 (by assumption) ?restb32
                case hyb32 =>
                  intro oi ho
                  simp only [List.getElem?_toArray, List.getElem?_cons_succ, List.getElem?_cons_zero, Option.some.injEq] at ho
                  subst ho
                  exact Or.inr ⟨by rfl, rfl⟩
                try simp only [Act.put, List.setIfInBounds_toArray, List.set_cons_zero, List.set_cons_succ]
                refine wpAnyH_takeAt (i := 33) (d := 65) (v := undef) (by kernel_rfl) (by kernel_rfl) (by kernel_rfl) (by kernel_rfl) (fun _ _ _ h => h) ?hyb33 (by assumption) ?restb33
                case hyb33 =>
                  intro oi ho
                  simp only [List.getElem?_toArray, List.getElem?_cons_succ, List.getElem?_cons_zero, Option.some.injEq] at ho
                  subst ho
                  exact Or.inr ⟨by rfl, rfl⟩
                try simp only [Act.put, List.setIfInBounds_toArray, List.set_cons_zero, List.set_cons_succ]
                refine wpAnyH_takeAt (i := 31) (d := 63) (v := undef) (by kernel_rfl) (by kernel_rfl) (by kernel_rfl) (by kernel_rfl) (fun _ _ _ h => h) ?hyb31 (by assumption) ?restb31
                case hyb31 =>
                  intro oi ho
                  simp only [List.getElem?_toArray, List.getElem?_cons_succ, List.getElem?_cons_zero, Option.some.injEq] at ho
                  subst ho
                  exact Or.inr ⟨by rfl, rfl⟩
                try simp only [Act.put, List.setIfInBounds_toArray, List.set_cons_zero, List.set_cons_succ]
                refine wpAnyH_takeAt (i := 34) (d := 66) (v := undef) (by kernel_rfl) (by kernel_rfl) (by kernel_rfl) (by kernel_rfl) (fun _ _ _ h => h) ?hyb34 (by assumption) ?restb34
                case hyb34 =>
                  intro oi ho
                  simp only [List.getElem?_toArray, List.getElem?_cons_succ, List.getElem?_cons_zero, Option.some.injEq] at ho
                  subst ho
                  exact Or.inr ⟨by rfl, rfl⟩
                try simp only [Act.put, List.setIfInBounds_toArray, List.set_cons_zero, List.set_cons_succ]
                refine wpAnyH_takeAt (i := 35) (d := 67) (v := undef) (by kernel_rfl) (by kernel_rfl) (by kernel_rfl) (by kernel_rfl) (fun _ _ _ h => h) ?hyb35 (by assumption) ?restb35
                case hyb35 =>
                  intro oi ho
                  simp only [List.getElem?_toArray, List.getElem?_cons_succ, List.getElem?_cons_zero, Option.some.injEq] at ho
                  subst ho
                  exact Or.inr ⟨by rfl, rfl⟩
                try simp only [Act.put, List.setIfInBounds_toArray, List.set_cons_zero, List.set_cons_succ]
                refine wpAnyH_takeAt (i := 36) (d := 68) (v := ?vb36) (by kernel_rfl) (by kernel_rfl) (by kernel_rfl) (by kernel_rfl) (fun _ _ _ h => h) ?hyb36 (by assumption) ?restb36
                case hyb36 =>
                  intro oi ho
                  simp only [List.getElem?_toArray, List.getElem?_cons_succ, List.getElem?_cons_zero, Option.some.injEq] at ho
                  subst ho
                  refine Or.inl ⟨by rfl, ?_⟩
                  intro wx hSw
                  try dsimp only at hSw
                  go_simp
                  try rfl
                try simp only [Act.put, List.setIfInBounds_toArray, List.set_cons_zero, List.set_cons_succ]
                refine wpAnyH_done (by kernel_rfl) ?_ _
                refine NoPanic.normal ?_
                clear hHeld
                have HE := hide (HBAD.out (by unfold fitsB; rw [decide_eq_false hk1, decide_eq_false hk0]; simp))
                go_wp2
                go_ret
                exact ⟨by rw [HE.out]; rfl, HB2.out.trans ((HB2'.out.drew.trans (HB3.out.mono HBS.out)).mono HLB.out)⟩
          · have dz : (v.err != 0) = true := by simp [h0]
            refine wp_region_noPanic ?_
            refine wp_region_held_drew (S := fun wx => (wx.cell? ⟨g6, 0, none⟩ = some (.int .i64 v.1) ∧ wx.cell? ⟨g6, 1, none⟩ = some (.int .i64 v.2.1) ∧ wx.cell? ⟨g6, 2, none⟩ = some (.string v.2.2)) ∧ wx.cell? ⟨g7, 1, none⟩ = some (.int .i64 c.2.1) ∧ wx.cell? ⟨g7, 2, none⟩ = some (.int .i64 c.2.2)) (by kernel_rfl) HX.out (fun hHeld => ?_)
            refine wpAnyH_takeAt (i := 0) (d := 32) (v := ?va0) (by kernel_rfl) (by kernel_rfl) (by kernel_rfl) (by kernel_rfl) (fun _ _ _ h => h) ?hya0 (by assumption) ?resta0
            case hya0 =>
              intro oi ho
              simp only [List.getElem?_toArray, List.getElem?_cons_zero, Option.some.injEq] at ho
              subst ho
              refine Or.inl ⟨by rfl, ?_⟩
              intro wx hSw
              try dsimp only at hSw
              go_simp
              try rfl
            try simp only [Act.put, List.setIfInBounds_toArray, List.set_cons_zero, List.set_cons_succ]
            refine wpAnyH_comesAt (i := 1) (by kernel_rfl) (by kernel_rfl) ?_
            intro o ho K hK
            simp only [List.getElem?_toArray, List.getElem?_cons_succ, List.getElem?_cons_zero, Option.some.injEq] at ho
            subst ho
            go_simp
            refine HRT.out.mono ?_
            rintro e w3 ⟨rfl, hb⟩
            have HB3 : Hid (Below wc.drew.heap.size wc.drew w3) := hb
            have H63 := hide ((hb.block g6 (blk_lt H62.out)).trans H62.out)
            have H73 := hide ((hb.block g7 (blk_lt H72.out)).trans H72.out)
            clear hb hHeld
            refine hK.out _ _ ⟨⟨cell_blk H63.out, cell_blk H63.out, cell_blk H63.out⟩, cell_blk H73.out, cell_blk H73.out⟩ (fun hHeld => ?_)
            clear hK K
            try simp only [Act.put, List.setIfInBounds_toArray, List.set_cons_zero, List.set_cons_succ]
            refine wpAnyH_takeAt (i := 2) (d := 34) (v := ?va2) (by kernel_rfl) (by kernel_rfl) (by kernel_rfl) (by kernel_rfl) (fun _ _ _ h => h) ?hya2 (by assumption) ?resta2
            case hya2 =>
              intro oi ho
              simp only [List.getElem?_toArray, List.getElem?_cons_succ, List.getElem?_cons_zero, Option.some.injEq] at ho
              subst ho
              refine Or.inl ⟨by rfl, ?_⟩
              intro wx hSw
              try dsimp only at hSw
              go_simp
              try rfl
            try simp only [Act.put, List.setIfInBounds_toArray, List.set_cons_zero, List.set_cons_succ]
            refine wpAnyH_takeAt (i := 3) (d := 35) (v := ?va3) (by kernel_rfl) (by kernel_rfl) (by kernel_rfl) (by kernel_rfl) (fun _ _ _ h => h) ?hya3 (by assumption) ?resta3
            case hya3 =>
              intro oi ho
              simp only [List.getElem?_toArray, List.getElem?_cons_succ, List.getElem?_cons_zero, Option.some.injEq] at ho
              subst ho
              refine Or.inl ⟨by rfl, ?_⟩
              intro wx hSw
              try dsimp only at hSw
              go_simp
              try rfl
            try simp only [Act.put, List.setIfInBounds_toArray, List.set_cons_zero, List.set_cons_succ]
            refine wpAnyH_takeAt (i := 4) (d := 36) (v := undef) (by kernel_rfl) (by kernel_rfl) (by kernel_rfl) (by kernel_rfl) (fun _ _ _ h => h) ?hya4 (by assumption) ?resta4
            case hya4 =>
              intro oi ho
              simp only [List.getElem?_toArray, List.getElem?_cons_succ, List.getElem?_cons_zero, Option.some.injEq] at ho
              subst ho
              exact Or.inr ⟨by rfl, rfl⟩
            try simp only [Act.put, List.setIfInBounds_toArray, List.set_cons_zero, List.set_cons_succ]
            refine wpAnyH_takeAt (i := 5) (d := 37) (v := undef) (by kernel_rfl) (by kernel_rfl) (by kernel_rfl) (by kernel_rfl) (fun _ _ _ h => h) ?hya5 (by assumption) ?resta5
            case hya5 =>
              intro oi ho
              simp only [List.getElem?_toArray, List.getElem?_cons_succ, List.getElem?_cons_zero, Option.some.injEq] at ho
              subst ho
              exact Or.inr ⟨by rfl, rfl⟩
            try simp only [Act.put, List.setIfInBounds_toArray, List.set_cons_zero, List.set_cons_succ]
            refine wpAnyH_takeAt (i := 6) (d := 38) (v := undef) (by kernel_rfl) (by kernel_rfl) (by kernel_rfl) (by kernel_rfl) (fun _ _ _ h => h) ?hya6 (by assumption) ?resta6
            case hya6 =>
              intro oi ho
              simp only [List.getElem?_toArray, List.getElem?_cons_succ, List.getElem?_cons_zero, Option.some.injEq] at ho
              subst ho
              exact Or.inr ⟨by rfl, rfl⟩
            try simp only [Act.put, List.setIfInBounds_toArray, List.set_cons_zero, List.set_cons_succ]
            refine wpAnyH_takeAt (i := 7) (d := 39) (v := undef) (by kernel_rfl) (by kernel_rfl) (by kernel_rfl) (by kernel_rfl) (fun _ _ _ h => h) ?hya7 (by assumption) ?resta7
            case hya7 =>
              intro oi ho
              simp only [List.getElem?_toArray, List.getElem?_cons_succ, List.getElem?_cons_zero, Option.some.injEq] at ho
              subst ho
              exact Or.inr ⟨by rfl, rfl⟩
            try simp only [Act.put, List.setIfInBounds_toArray, List.set_cons_zero, List.set_cons_succ]
            refine wpAnyH_takeAt (i := 8) (d := 40) (v := undef) (by kernel_rfl) (by kernel_rfl) (by kernel_rfl) (by kernel_rfl) (fun _ _ _ h => h) ?hya8 (by assumption) ?resta8
            case hya8 =>
              intro oi ho
              simp only [List.getElem?_toArray, List.getElem?_cons_succ, List.getElem?_cons_zero, Option.some.injEq] at ho
              subst ho
              exact Or.inr ⟨by rfl, rfl⟩
            try simp only [Act.put, List.setIfInBounds_toArray, List.set_cons_zero, List.set_cons_succ]
            refine wpAnyH_takeAt (i := 9) (d := 41) (v := undef) (by kernel_rfl) (by kernel_rfl) (by kernel_rfl) (by kernel_rfl) (fun _ _ _ h => h) ?hya9 (by assumption) ?resta9
            case hya9 =>
              intro oi ho
              simp only [List.getElem?_toArray, List.getElem?_cons_succ, List.getElem?_cons_zero, Option.some.injEq] at ho
              subst ho
              exact Or.inr ⟨by rfl, rfl⟩
            try simp only [Act.put, List.setIfInBounds_toArray, List.set_cons_zero, List.set_cons_succ]
            refine wpAnyH_takeAt (i := 10) (d := 42) (v := undef) (by kernel_rfl) (by kernel_rfl) (by kernel_rfl) (by kernel_rfl) (fun _ _ _ h => h) ?hya10 (by assumption) ?resta10
            case hya10 =>
              intro oi ho
              simp only [List.getElem?_toArray, List.getElem?_cons_succ, List.getElem?_cons_zero, Option.some.injEq] at ho
              subst ho
              exact Or.inr ⟨by rfl, rfl⟩
            try simp only [Act.put, List.setIfInBounds_toArray, List.set_cons_zero, List.set_cons_succ]
            refine wpAnyH_takeAt (i := 11) (d := 43) (v := undef) (by kernel_rfl) (by kernel_rfl) (by kernel_rfl) (by kernel_rfl) (fun _ _ _ h => h) ?hya11 (by assumption) ?resta11
            case hya11 =>
              intro oi ho
              simp only [List.getElem?_toArray, List.getElem?_cons_succ, List.getElem?_cons_zero, Option.some.injEq] at ho
              subst ho
              exact Or.inr ⟨by rfl, rfl⟩
            try simp only [Act.put, List.setIfInBounds_toArray, List.set_cons_zero, List.set_cons_succ]
            refine wpAnyH_takeAt (i := 12) (d := 44) (v := undef) (by kernel_rfl) (by kernel_rfl) (by kernel_rfl) (by kernel_rfl) (fun _ _ _ h => h) ?hya12 (by assumption) ?resta12
            case hya12 =>
              intro oi ho
              simp only [List.getElem?_toArray, List.getElem?_cons_succ, List.getElem?_cons_zero, Option.some.injEq] at ho
              subst ho
              exact Or.inr ⟨by rfl, rfl⟩
            try simp only [Act.put, List.setIfInBounds_toArray, List.set_cons_zero, List.set_cons_succ]
            refine wpAnyH_takeAt (i := 13) (d := 45) (v := undef) (by kernel_rfl) (by kernel_rfl) (by kernel_rfl) (by kernel_rfl) (fun _ _ _ h => h) ?hya13 (by assumption) ?resta13
            case hya13 =>
              intro oi ho
              simp only [List.getElem?_toArray, List.getElem?_cons_succ, List.getElem?_cons_zero, Option.some.injEq] at ho
              subst ho
              exact Or.inr ⟨by rfl, rfl⟩
            try simp only [Act.put, List.setIfInBounds_toArray, List.set_cons_zero, List.set_cons_succ]
            refine wpAnyH_takeAt (i := 14) (d := 46) (v := ?va14) (by kernel_rfl) (by kernel_rfl) (by kernel_rfl) (by kernel_rfl) (fun _ _ _ h => h) ?hya14 (by assumption) ?resta14
            case hya14 =>
              intro oi ho
              simp only [List.getElem?_toArray, List.getElem?_cons_succ, List.getElem?_cons_zero, Option.some.injEq] at ho
              subst ho
              refine Or.inl ⟨by rfl, ?_⟩
              intro wx hSw
              try dsimp only at hSw
              go_simp
              try rfl
            try simp only [Act.put, List.setIfInBounds_toArray, List.set_cons_zero, List.set_cons_succ]
            refine wpAnyH_takeAt (i := 15) (d := 47) (v := ?va15) (by kernel_rfl) (by kernel_rfl) (by kernel_rfl) (by kernel_rfl) (fun _ _ _ h => h) ?hya15 (by assumption) ?resta15
            case hya15 =>
              intro oi ho
              simp only [List.getElem?_toArray, List.getElem?_cons_succ, List.getElem?_cons_zero, Option.some.injEq] at ho
              subst ho
              refine Or.inl ⟨by rfl, ?_⟩
              intro wx hSw
              try dsimp only at hSw
              go_simp
              try rfl
            try simp only [Act.put, List.setIfInBounds_toArray, List.set_cons_zero, List.set_cons_succ]
            refine wpAnyH_takeAt (i := 16) (d := 48) (v := undef) (by kernel_rfl) (by kernel_rfl) (by kernel_rfl) (by kernel_rfl) (fun _ _ _ h => h) ?hya16 (by assumption) ?resta16
            case hya16 =>
              intro oi ho
              simp only [List.getElem?_toArray, List.getElem?_cons_succ, List.getElem?_cons_zero, Option.some.injEq] at ho
              subst ho
              exact Or.inr ⟨by rfl, rfl⟩
            try simp only [Act.put, List.setIfInBounds_toArray, List.set_cons_zero, List.set_cons_succ]
            refine wpAnyH_takeAt (i := 17) (d := 49) (v := undef) (by kernel_rfl) (by kernel_rfl) (by kernel_rfl) (by kernel_rfl) (fun _ _ _ h => h) ?hya17 (by assumption) ?resta17
            case hya17 =>
              intro oi ho
              simp only [List.getElem?_toArray, List.getElem?_cons_succ, List.getElem?_cons_zero, Option.some.injEq] at ho
              subst ho
              exact Or.inr ⟨by rfl, rfl⟩
            try simp only [Act.put, List.setIfInBounds_toArray, List.set_cons_zero, List.set_cons_succ]
            refine wpAnyH_takeAt (i := 18) (d := 50) (v := undef) (by kernel_rfl) (by kernel_rfl) (by kernel_rfl) (by kernel_rfl) (fun _ _ _ h => h) ?hya18 (by assumption) ?resta18
            case hya18 =>
              intro oi ho
              simp only [List.getElem?_toArray, List.getElem?_cons_succ, List.getElem?_cons_zero, Option.some.injEq] at ho
              subst ho
              exact Or.inr ⟨by rfl, rfl⟩
            try simp only [Act.put, List.setIfInBounds_toArray, List.set_cons_zero, List.set_cons_succ]
            refine wpAnyH_takeAt (i := 19) (d := 51) (v := undef) (by kernel_rfl) (by kernel_rfl) (by kernel_rfl) (by kernel_rfl) (fun _ _ _ h => h) ?hya19 (by assumption) ?resta19
            case hya19 =>
              intro oi ho
              simp only [List.getElem?_toArray, List.getElem?_cons_succ, List.getElem?_cons_zero, Option.some.injEq] at ho
              subst ho
              exact Or.inr ⟨by rfl, rfl⟩
            try simp only [Act.put, List.setIfInBounds_toArray, List.set_cons_zero, List.set_cons_succ]
            refine wpAnyH_takeAt (i := 20) (d := 52) (v := undef) (by kernel_rfl) (by kernel_rfl) (by kernel_rfl) (by kernel_rfl) (fun _ _ _ h => h) ?hya20 (by assumption) ?resta20
            case hya20 =>
              intro oi ho
              simp only [List.getElem?_toArray, List.getElem?_cons_succ, List.getElem?_cons_zero, Option.some.injEq] at ho
              subst ho
              exact Or.inr ⟨by rfl, rfl⟩
            try simp only [Act.put, List.setIfInBounds_toArray, List.set_cons_zero, List.set_cons_succ]
            refine wpAnyH_takeAt (i := 21) (d := 53) (v := undef) (by kernel_rfl) (by kernel_rfl) (by kernel_rfl) (by kernel_rfl) (fun _ _ _ h => h) ?hya21 (by assumption) ?resta21
            case hya21 =>
              intro oi ho
              simp only [List.getElem?_toArray, List.getElem?_cons_succ, List.getElem?_cons_zero, Option.some.injEq] at ho
              subst ho
              exact Or.inr ⟨by rfl, rfl⟩
            try simp only [Act.put, List.setIfInBounds_toArray, List.set_cons_zero, List.set_cons_succ]
            refine wpAnyH_takeAt (i := 22) (d := 54) (v := undef) (by kernel_rfl) (by kernel_rfl) (by kernel_rfl) (by kernel_rfl) (fun _ _ _ h => h) ?hya22 (by assumption) ?resta22
            case hya22 =>
              intro oi ho
              simp only [List.getElem?_toArray, List.getElem?_cons_succ, List.getElem?_cons_zero, Option.some.injEq] at ho
              subst ho
              exact Or.inr ⟨by rfl, rfl⟩
            try simp only [Act.put, List.setIfInBounds_toArray, List.set_cons_zero, List.set_cons_succ]
            refine wpAnyH_takeAt (i := 23) (d := 55) (v := ?va23) (by kernel_rfl) (by kernel_rfl) (by kernel_rfl) (by kernel_rfl) (fun _ _ _ h => h) ?hya23 (by assumption) ?resta23
            case hya23 =>
              intro oi ho
              simp only [List.getElem?_toArray, List.getElem?_cons_succ, List.getElem?_cons_zero, Option.some.injEq] at ho
              subst ho
              refine Or.inl ⟨by rfl, ?_⟩
              intro wx hSw
              try dsimp only at hSw
              go_simp
              try rfl
            try simp only [Act.put, List.setIfInBounds_toArray, List.set_cons_zero, List.set_cons_succ]
            refine wpAnyH_takeAt (i := 24) (d := 56) (v := ?va24) (by kernel_rfl) (by kernel_rfl) (by kernel_rfl) (by kernel_rfl) (fun _ _ _ h => h) ?hya24 (by assumption) ?resta24
            case hya24 =>
              intro oi ho
              simp only [List.getElem?_toArray, List.getElem?_cons_succ, List.getElem?_cons_zero, Option.some.injEq] at ho
              subst ho
              refine Or.inl ⟨by rfl, ?_⟩
              intro wx hSw
              try dsimp only at hSw
              go_simp
              try rfl
            try simp only [Act.put, List.setIfInBounds_toArray, List.set_cons_zero, List.set_cons_succ]
            refine wpAnyH_takeAt (i := 25) (d := 57) (v := undef) (by kernel_rfl) (by kernel_rfl) (by kernel_rfl) (by kernel_rfl) (fun _ _ _ h => h) ?hya25 (by assumption) ?resta25
            case hya25 =>
              intro oi ho
              simp only [List.getElem?_toArray, List.getElem?_cons_succ, List.getElem?_cons_zero, Option.some.injEq] at ho
              subst ho
              exact Or.inr ⟨by rfl, rfl⟩
            try simp only [Act.put, List.setIfInBounds_toArray, List.set_cons_zero, List.set_cons_succ]
            refine wpAnyH_takeAt (i := 26) (d := 58) (v := undef) (by kernel_rfl) (by kernel_rfl) (by kernel_rfl) (by kernel_rfl) (fun _ _ _ h => h) ?hya26 (by assumption) ?resta26
            case hya26 =>
              intro oi ho
              simp only [List.getElem?_toArray, List.getElem?_cons_succ, List.getElem?_cons_zero, Option.some.injEq] at ho
              subst ho
              exact Or.inr ⟨by rfl, rfl⟩
            try simp only [Act.put, List.setIfInBounds_toArray, List.set_cons_zero, List.set_cons_succ]
            refine wpAnyH_takeAt (i := 27) (d := 59) (v := undef) (by kernel_rfl) (by kernel_rfl) (by kernel_rfl) (by kernel_rfl) (fun _ _ _ h => h) ?hya27 (by assumption) ?resta27
            case hya27 =>
              intro oi ho
              simp only [List.getElem?_toArray, List.getElem?_cons_succ, List.getElem?_cons_zero, Option.some.injEq] at ho
              subst ho
              exact Or.inr ⟨by rfl, rfl⟩
            try simp only [Act.put, List.setIfInBounds_toArray, List.set_cons_zero, List.set_cons_succ]
            refine wpAnyH_takeAt (i := 28) (d := 60) (v := undef) (by kernel_rfl) (by kernel_rfl) (by kernel_rfl) (by kernel_rfl) (fun _ _ _ h => h) ?hya28 (by assumption) ?resta28
            case hya28 =>
              intro oi ho
              simp only [List.getElem?_toArray, List.getElem?_cons_succ, List.getElem?_cons_zero, Option.some.injEq] at ho
              subst ho
              exact Or.inr ⟨by rfl, rfl⟩
            try simp only [Act.put, List.setIfInBounds_toArray, List.set_cons_zero, List.set_cons_succ]
            refine wpAnyH_takeAt (i := 29) (d := 61) (v := undef) (by kernel_rfl) (by kernel_rfl) (by kernel_rfl) (by kernel_rfl) (fun _ _ _ h => h) ?hya29 (by assumption) ?resta29
            case hya29 =>
              intro oi ho
              simp only [List.getElem?_toArray, List.getElem?_cons_succ, List.getElem?_cons_zero, Option.some.injEq] at ho
              subst ho
              exact Or.inr ⟨by rfl, rfl⟩
            try simp only [Act.put, List.setIfInBounds_toArray, List.set_cons_zero, List.set_cons_succ]
            refine wpAnyH_takeAt (i := 30) (d := 62) (v := undef) (by kernel_rfl) (by kernel_rfl) (by kernel_rfl) (by kernel_rfl) (fun _ _ _ h => h) ?hya30 (by assumption) ?resta30
            case hya30 =>
              intro oi ho
              simp only [List.getElem?_toArray, List.getElem?_cons_succ, List.getElem?_cons_zero, Option.some.injEq] at ho
              subst ho
              exact Or.inr ⟨by rfl, rfl⟩
            try simp only [Act.put, List.setIfInBounds_toArray, List.set_cons_zero, List.set_cons_succ]
            refine wpAnyH_takeAt (i := 32) (d := 64) (v := undef) (by kernel_rfl) (by kernel_rfl) (by kernel_rfl) (by kernel_rfl) (fun _ _ _ h => h) ?hya32 (by assumption) ?resta32
            case hya32 =>
              intro oi ho
              simp only [List.getElem?_toArray, List.getElem?_cons_succ, List.getElem?_cons_zero, Option.some.injEq] at ho
              subst ho
              exact Or.inr ⟨by rfl, rfl⟩
            try simp only [Act.put, List.setIfInBounds_toArray, List.set_cons_zero, List.set_cons_succ]
            refine wpAnyH_takeAt (i := 33) (d := 65) (v := undef) (by kernel_rfl) (by kernel_rfl) (by kernel_rfl) (by kernel_rfl) (fun _ _ _ h => h) ?hya33 (by assumption) ?resta33
            case hya33 =>
              intro oi ho
              simp only [List.getElem?_toArray, List.getElem?_cons_succ, List.getElem?_cons_zero, Option.some.injEq] at ho
              subst ho
              exact Or.inr ⟨by rfl, rfl⟩
            try simp only [Act.put, List.setIfInBounds_toArray, List.set_cons_zero, List.set_cons_succ]
            refine wpAnyH_takeAt (i := 31) (d := 63) (v := undef) (by kernel_rfl) (by kernel_rfl) (by kernel_rfl) (by kernel_rfl) (fun _ _ _ h => h) ?hya31 (by assumption) ?resta31
            case hya31 =>
              intro oi ho
              simp only [List.getElem?_toArray, List.getElem?_cons_succ, List.getElem?_cons_zero, Option.some.injEq] at ho
              subst ho
              exact Or.inr ⟨by rfl, rfl⟩
            try simp only [Act.put, List.setIfInBounds_toArray, List.set_cons_zero, List.set_cons_succ]
            refine wpAnyH_takeAt (i := 34) (d := 66) (v := undef) (by kernel_rfl) (by kernel_rfl) (by kernel_rfl) (by kernel_rfl) (fun _ _ _ h => h) ?hya34 (by assumption) ?resta34
            case hya34 =>
              intro oi ho
              simp only [List.getElem?_toArray, List.getElem?_cons_succ, List.getElem?_cons_zero, Option.some.injEq] at ho
              subst ho
              exact Or.inr ⟨by rfl, rfl⟩
            try simp only [Act.put, List.setIfInBounds_toArray, List.set_cons_zero, List.set_cons_succ]
            refine wpAnyH_takeAt (i := 35) (d := 67) (v := undef) (by kernel_rfl) (by kernel_rfl) (by kernel_rfl) (by kernel_rfl) (fun _ _ _ h => h) ?hya35 (by assumption) ?resta35
            case hya35 =>
              intro oi ho
              simp only [List.getElem?_toArray, List.getElem?_cons_succ, List.getElem?_cons_zero, Option.some.injEq] at ho
              subst ho
              exact Or.inr ⟨by rfl, rfl⟩
            try simp only [Act.put, List.setIfInBounds_toArray, List.set_cons_zero, List.set_cons_succ]
            refine wpAnyH_takeAt (i := 36) (d := 68) (v := ?va36) (by kernel_rfl) (by kernel_rfl) (by kernel_rfl) (by kernel_rfl) (fun _ _ _ h => h) ?hya36 (by assumption) ?resta36
            case hya36 =>
              intro oi ho
              simp only [List.getElem?_toArray, List.getElem?_cons_succ, List.getElem?_cons_zero, Option.some.injEq] at ho
              subst ho
              refine Or.inl ⟨by rfl, ?_⟩
              intro wx hSw
              try dsimp only at hSw
              go_simp
              try rfl
            try simp only [Act.put, List.setIfInBounds_toArray, List.set_cons_zero, List.set_cons_succ]
            refine wpAnyH_done (by kernel_rfl) ?_ _
            refine NoPanic.normal ?_
            clear hHeld
            have HE := hide (HBAD.out (by unfold fitsB; rw [decide_eq_false h0]; rfl))
            go_wp2
            go_ret
            exact ⟨by rw [HE.out]; rfl, HB2.out.trans ((HB2'.out.drew.trans (HB3.out.mono HBS.out)).mono HLB.out)⟩
      · have xj : ¬ (j : Int) < (n : Int) := by omega
        have HE : Hid (s.fits l = 0) := by
          have h9 := HY.out
          rw [show j = n by omega] at h9
          show _ = _
          rw [HE0.out, if_neg (HFS.out (by have := HC1.out; omega)), if_pos h9]
        go_wp2
        go_ret
        exact ⟨by rw [HE.out]; rfl, HB2.out.trans (HBR.out.mono HLB.out)⟩
  · have HE : Hid (s.fits l = 62) := by show _ = _; rw [HE0.out, if_pos hln]
    have dn : ((n : Int) != (cl : Int)) = true := by simp; omega
    go_wp2
    go_ret
    exact ⟨by rw [HE.out]; rfl, HB2.out⟩
end Go.Proofs.Ytcophbkgighepaa
