/- The document's own Fits. -/
import Derived.Test.YtcophbkgighepaaHV
import Derived.Test.YtcophbkgighepaaRH
set_option linter.unusedVariables false
namespace Go.Proofs.Ytcophbkgighepaa
open Go.RowKit

set_option maxRecDepth 100000 in
set_option maxHeartbeats 16000000 in
theorem reffits14_any {w : World} {ca xa : Option Addr} {cl cc xl xc : Nat} {s : Sch} {a : Option Addr} {n cp : Nat} {l : List Val} (h : SC w ca cl cc xa xl xc s) (hp : SchP s) (hv : SV fV 3 w a n cp l) (hs : ∀ x ∈ l, x.2.2.size ≤ 1048576) :
    Calls Try.prog 13 #[.agg #[.string s.nm, .slice ca cl cc, .slice xa xl xc], .slice a n cp] w fun e w' => e = .returned (.int .i64 (s.fits l)) ∧ Below w.heap.size w w' := by
  obtain ⟨w1, hw1⟩ : ∃ w1, w1 = w.alloc (.cells #[.string s.nm, .slice ca cl cc, .slice xa xl xc] 25) := ⟨_, rfl⟩
  obtain ⟨L, hL⟩ : ∃ L, w.heap.size = L := ⟨_, rfl⟩
  have hb1 : Below w.heap.size w w1 := by rw [hw1]; exact below_box w _
  have HR1 : Hid (w1.heap[L]? = some (.cells #[.string s.nm, .slice ca cl cc, .slice xa xl xc] 25 (0, 0))) := by show _ = _; rw [hw1, ← hL]; exact boxed w _
  have HB1 : Hid (Below L w w1) := by show Below L w w1; rw [← hL]; exact hb1
  have HLB0 : Hid (L ≤ w1.heap.size) := by show L ≤ _; have := blk_lt HR1.out; omega
  have H1 := hide (h.later hb1)
  have HV1 := hide (hv.later hb1)
  have HCL := hide h.c.hl
  have HNL := hide hv.hl
  have HS := hide hs
  have HRG := hide (refright14_any (h.later hb1) hp)
  have HW1 := hide hw1
  rw [hL]
  clear h hv hs hb1 hw1 hp
  go_enter Try.func13, Try.ntmps13
  go_upto_region 1 with fail
  rw [← HW1.out]
  try simp only [hL]
  have y0 : w1.cell? ⟨L, 0, none⟩ = some (.string s.nm) := cell_blk HR1.out
  have y1 : w1.cell? ⟨L, 1, none⟩ = some (.slice ca cl cc) := cell_blk HR1.out
  have y2 : w1.cell? ⟨L, 2, none⟩ = some (.slice xa xl xc) := cell_blk HR1.out
  go_wp2_with fail
  refine HRG.out.mono ?_
  rintro e w2 ⟨rfl, hb2⟩
  have HB2 : Hid (Below L w w2) := HB1.out.trans (hb2.mono HLB0.out)
  have HR2 := hide ((hb2.block L (blk_lt HR1.out)).trans HR1.out)
  have H2 := hide (H1.out.later hb2)
  have HV2 := hide (HV1.out.later hb2)
  have z1 : w2.cell? ⟨L, 1, none⟩ = some (.slice ca cl cc) := cell_blk HR2.out
  clear hb2 HRG y0 y1 y2 H1 HV1 HR1
  cases hok : s.ok with
  | false =>
    have HE : Hid (s.fits l = 61) := if_pos hok
    go_wp2
    go_ret
    exact ⟨by rw [HE.out]; rfl, HB2.out⟩
  | true =>
  have HE0 : Hid (s.fits l = if l.length ≠ s.cs.length then 62 else if (l.getD 0 (0, 0, ⟨#[]⟩)).1 = 0 then 62 else if fitsN s l l.length = true then 0 else 62) := if_neg (by rw [hok]; decide)
  have HPT := hide (Sch.parts hok).2.2.2.1
  have HC1 : Hid (1 ≤ cl ∧ cl ≤ 3) := by
    show 1 ≤ cl ∧ cl ≤ 3
    rw [← HCL.out]
    unfold Sch.ok colsOk at hok
    simp only [Bool.and_eq_true, decide_eq_true_eq] at hok
    exact ⟨hok.1.2.1.1, hok.1.2.1.2⟩
  rw [HNL.out, HCL.out] at HE0
  clear hok
  by_cases hln : n = cl
  · subst hln
    rw [if_neg (by simp)] at HE0
    go_wp2_with fail
    clear z1
    go_loopg [5] n (fun gh s5 wx => ∃ j : Nat, j + gh = n ∧ s5 = .int .i64 (j : Int) ∧ fitsN s l j = true ∧ (0 < j → (l.getD 0 (0, 0, ⟨#[]⟩)).1 ≠ 0) ∧ Below w2.heap.size w2 wx)
    case atStart => exact ⟨0, by omega, rfl, rfl, fun q => by omega, Below.refl _ _⟩
    case round =>
      obtain ⟨j, hj, rfl, hyes, hfst, hbr⟩ := hrel
      have HY := hide hyes
      have HFS := hide hfst
      have HBR := hide hbr
      have HRR := hide ((hbr.block L (blk_lt HR2.out)).trans HR2.out)
      have HLB : Hid (L ≤ w2.heap.size) := by show L ≤ _; have := blk_lt HR2.out; omega
      clear hyes hfst hbr
      have y1 : wr.cell? ⟨L, 1, none⟩ = some (.slice ca n cc) := cell_blk HRR.out
      by_cases hjn : j < n
      · have xj : (j : Int) < (n : Int) := by omega
        obtain ⟨v, hvj⟩ : ∃ v, l[j]? = some v := ⟨_, List.getElem?_eq_getElem (by rw [HNL.out]; exact hjn)⟩
        obtain ⟨c, hcj⟩ : ∃ c, s.cs[j]? = some c := ⟨_, List.getElem?_eq_getElem (by rw [HCL.out]; exact hjn)⟩
        obtain ⟨b, o, e0, hb, hcs⟩ := HV2.out.pl (by omega)
        obtain ⟨b', o', e0', hb', hcs'⟩ := H2.out.c.pl (by omega)
        subst e0 e0'
        have q0 : wr.cell? ⟨b, o + j * 3, none⟩ = some (.int .i64 v.1) := (HBR.out.cell hb).trans (hcs j v hvj 0 (by omega))
        have q1 : wr.cell? ⟨b, o + j * 3 + 1, none⟩ = some (.int .i64 v.2.1) := (HBR.out.cell hb).trans (hcs j v hvj 1 (by omega))
        have q2 : wr.cell? ⟨b, o + j * 3 + 2, none⟩ = some (.string v.2.2) := (HBR.out.cell hb).trans (hcs j v hvj 2 (by omega))
        have r0 : wr.cell? ⟨b', o' + j * 3, none⟩ = some (.string c.1) := (HBR.out.cell hb').trans (hcs' j c hcj 0 (by omega))
        have r1 : wr.cell? ⟨b', o' + j * 3 + 1, none⟩ = some (.int .i64 c.2.1) := (HBR.out.cell hb').trans (hcs' j c hcj 1 (by omega))
        have r2 : wr.cell? ⟨b', o' + j * 3 + 2, none⟩ = some (.int .i64 c.2.2) := (HBR.out.cell hb').trans (hcs' j c hcj 2 (by omega))
        clear hcs hcs' hb hb'
        have hlt : ∀ {p : Addr} {x : Value}, wr.cell? p = some x → ∀ A B : Obj, ((wr.alloc A).alloc B).cell? p = some x := fun h9 A B => by
          have hb9 := (below_box wr A).trans ((below_box (wr.alloc A) B).mono (below_box wr A).size)
          exact (hb9.cell (cell_lt h9)).trans h9
        have hl1 : ∀ {p : Addr} {x : Value}, wr.cell? p = some x → ∀ A : Obj, (wr.alloc A).cell? p = some x := fun h9 A => ((below_box wr A).cell (cell_lt h9)).trans h9
        go_upto_region 8 with fail
        go_cut [6, 7] from 23 to 68 (fun a6 a7 wx => ∃ g6 g7, a6 = .pointer (some ⟨g6, 0, none⟩) ∧ a7 = .pointer (some ⟨g7, 0, none⟩) ∧ wx.heap[g6]? = some (.cells #[.int .i64 v.1, .int .i64 v.2.1, .string v.2.2] 39 (0, 0)) ∧ wx.heap[g7]? = some (.cells #[.string c.1, .int .i64 c.2.1, .int .i64 c.2.2] 59 (0, 0)) ∧ Below wr.heap.size wr wx)
        case first =>
          have y1_1 := hlt y1 (.cells #[.string ⟨#[]⟩, .int .i64 0, .int .i64 0] 59) (.cells #[.int .i64 0, .int .i64 0, .string ⟨#[]⟩] 39)
          have q0_1 := hlt q0 (.cells #[.string ⟨#[]⟩, .int .i64 0, .int .i64 0] 59) (.cells #[.int .i64 0, .int .i64 0, .string ⟨#[]⟩] 39)
          have q1_1 := hlt q1 (.cells #[.string ⟨#[]⟩, .int .i64 0, .int .i64 0] 59) (.cells #[.int .i64 0, .int .i64 0, .string ⟨#[]⟩] 39)
          have q2_1 := hlt q2 (.cells #[.string ⟨#[]⟩, .int .i64 0, .int .i64 0] 59) (.cells #[.int .i64 0, .int .i64 0, .string ⟨#[]⟩] 39)
          have r0_1 := hlt r0 (.cells #[.string ⟨#[]⟩, .int .i64 0, .int .i64 0] 59) (.cells #[.int .i64 0, .int .i64 0, .string ⟨#[]⟩] 39)
          have r1_1 := hlt r1 (.cells #[.string ⟨#[]⟩, .int .i64 0, .int .i64 0] 59) (.cells #[.int .i64 0, .int .i64 0, .string ⟨#[]⟩] 39)
          have r2_1 := hlt r2 (.cells #[.string ⟨#[]⟩, .int .i64 0, .int .i64 0] 59) (.cells #[.int .i64 0, .int .i64 0, .string ⟨#[]⟩] 39)
          have y1_2 := hlt y1 (.cells #[.int .i64 0, .int .i64 0, .string ⟨#[]⟩] 39) (.cells #[.string ⟨#[]⟩, .int .i64 0, .int .i64 0] 59)
          have q0_2 := hlt q0 (.cells #[.int .i64 0, .int .i64 0, .string ⟨#[]⟩] 39) (.cells #[.string ⟨#[]⟩, .int .i64 0, .int .i64 0] 59)
          have q1_2 := hlt q1 (.cells #[.int .i64 0, .int .i64 0, .string ⟨#[]⟩] 39) (.cells #[.string ⟨#[]⟩, .int .i64 0, .int .i64 0] 59)
          have q2_2 := hlt q2 (.cells #[.int .i64 0, .int .i64 0, .string ⟨#[]⟩] 39) (.cells #[.string ⟨#[]⟩, .int .i64 0, .int .i64 0] 59)
          have r0_2 := hlt r0 (.cells #[.int .i64 0, .int .i64 0, .string ⟨#[]⟩] 39) (.cells #[.string ⟨#[]⟩, .int .i64 0, .int .i64 0] 59)
          have r1_2 := hlt r1 (.cells #[.int .i64 0, .int .i64 0, .string ⟨#[]⟩] 39) (.cells #[.string ⟨#[]⟩, .int .i64 0, .int .i64 0] 59)
          have r2_2 := hlt r2 (.cells #[.int .i64 0, .int .i64 0, .string ⟨#[]⟩] 39) (.cells #[.string ⟨#[]⟩, .int .i64 0, .int .i64 0] 59)
          have y1_3 := hlt y1 (.cells #[.string ⟨#[]⟩, .int .i64 0, .int .i64 0] 59) (.cells #[.int .i64 v.1, .int .i64 v.2.1, .string v.2.2] 39)
          have q0_3 := hlt q0 (.cells #[.string ⟨#[]⟩, .int .i64 0, .int .i64 0] 59) (.cells #[.int .i64 v.1, .int .i64 v.2.1, .string v.2.2] 39)
          have q1_3 := hlt q1 (.cells #[.string ⟨#[]⟩, .int .i64 0, .int .i64 0] 59) (.cells #[.int .i64 v.1, .int .i64 v.2.1, .string v.2.2] 39)
          have q2_3 := hlt q2 (.cells #[.string ⟨#[]⟩, .int .i64 0, .int .i64 0] 59) (.cells #[.int .i64 v.1, .int .i64 v.2.1, .string v.2.2] 39)
          have r0_3 := hlt r0 (.cells #[.string ⟨#[]⟩, .int .i64 0, .int .i64 0] 59) (.cells #[.int .i64 v.1, .int .i64 v.2.1, .string v.2.2] 39)
          have r1_3 := hlt r1 (.cells #[.string ⟨#[]⟩, .int .i64 0, .int .i64 0] 59) (.cells #[.int .i64 v.1, .int .i64 v.2.1, .string v.2.2] 39)
          have r2_3 := hlt r2 (.cells #[.string ⟨#[]⟩, .int .i64 0, .int .i64 0] 59) (.cells #[.int .i64 v.1, .int .i64 v.2.1, .string v.2.2] 39)
          have y1_4 := hlt y1 (.cells #[.int .i64 v.1, .int .i64 v.2.1, .string v.2.2] 39) (.cells #[.string ⟨#[]⟩, .int .i64 0, .int .i64 0] 59)
          have q0_4 := hlt q0 (.cells #[.int .i64 v.1, .int .i64 v.2.1, .string v.2.2] 39) (.cells #[.string ⟨#[]⟩, .int .i64 0, .int .i64 0] 59)
          have q1_4 := hlt q1 (.cells #[.int .i64 v.1, .int .i64 v.2.1, .string v.2.2] 39) (.cells #[.string ⟨#[]⟩, .int .i64 0, .int .i64 0] 59)
          have q2_4 := hlt q2 (.cells #[.int .i64 v.1, .int .i64 v.2.1, .string v.2.2] 39) (.cells #[.string ⟨#[]⟩, .int .i64 0, .int .i64 0] 59)
          have r0_4 := hlt r0 (.cells #[.int .i64 v.1, .int .i64 v.2.1, .string v.2.2] 39) (.cells #[.string ⟨#[]⟩, .int .i64 0, .int .i64 0] 59)
          have r1_4 := hlt r1 (.cells #[.int .i64 v.1, .int .i64 v.2.1, .string v.2.2] 39) (.cells #[.string ⟨#[]⟩, .int .i64 0, .int .i64 0] 59)
          have r2_4 := hlt r2 (.cells #[.int .i64 v.1, .int .i64 v.2.1, .string v.2.2] 39) (.cells #[.string ⟨#[]⟩, .int .i64 0, .int .i64 0] 59)
          have y1_5 := hlt y1 (.cells #[.string c.1, .int .i64 c.2.1, .int .i64 c.2.2] 59) (.cells #[.int .i64 0, .int .i64 0, .string ⟨#[]⟩] 39)
          have q0_5 := hlt q0 (.cells #[.string c.1, .int .i64 c.2.1, .int .i64 c.2.2] 59) (.cells #[.int .i64 0, .int .i64 0, .string ⟨#[]⟩] 39)
          have q1_5 := hlt q1 (.cells #[.string c.1, .int .i64 c.2.1, .int .i64 c.2.2] 59) (.cells #[.int .i64 0, .int .i64 0, .string ⟨#[]⟩] 39)
          have q2_5 := hlt q2 (.cells #[.string c.1, .int .i64 c.2.1, .int .i64 c.2.2] 59) (.cells #[.int .i64 0, .int .i64 0, .string ⟨#[]⟩] 39)
          have r0_5 := hlt r0 (.cells #[.string c.1, .int .i64 c.2.1, .int .i64 c.2.2] 59) (.cells #[.int .i64 0, .int .i64 0, .string ⟨#[]⟩] 39)
          have r1_5 := hlt r1 (.cells #[.string c.1, .int .i64 c.2.1, .int .i64 c.2.2] 59) (.cells #[.int .i64 0, .int .i64 0, .string ⟨#[]⟩] 39)
          have r2_5 := hlt r2 (.cells #[.string c.1, .int .i64 c.2.1, .int .i64 c.2.2] 59) (.cells #[.int .i64 0, .int .i64 0, .string ⟨#[]⟩] 39)
          have y1_6 := hlt y1 (.cells #[.int .i64 0, .int .i64 0, .string ⟨#[]⟩] 39) (.cells #[.string c.1, .int .i64 c.2.1, .int .i64 c.2.2] 59)
          have q0_6 := hlt q0 (.cells #[.int .i64 0, .int .i64 0, .string ⟨#[]⟩] 39) (.cells #[.string c.1, .int .i64 c.2.1, .int .i64 c.2.2] 59)
          have q1_6 := hlt q1 (.cells #[.int .i64 0, .int .i64 0, .string ⟨#[]⟩] 39) (.cells #[.string c.1, .int .i64 c.2.1, .int .i64 c.2.2] 59)
          have q2_6 := hlt q2 (.cells #[.int .i64 0, .int .i64 0, .string ⟨#[]⟩] 39) (.cells #[.string c.1, .int .i64 c.2.1, .int .i64 c.2.2] 59)
          have r0_6 := hlt r0 (.cells #[.int .i64 0, .int .i64 0, .string ⟨#[]⟩] 39) (.cells #[.string c.1, .int .i64 c.2.1, .int .i64 c.2.2] 59)
          have r1_6 := hlt r1 (.cells #[.int .i64 0, .int .i64 0, .string ⟨#[]⟩] 39) (.cells #[.string c.1, .int .i64 c.2.1, .int .i64 c.2.2] 59)
          have r2_6 := hlt r2 (.cells #[.int .i64 0, .int .i64 0, .string ⟨#[]⟩] 39) (.cells #[.string c.1, .int .i64 c.2.1, .int .i64 c.2.2] 59)
          have y1_7 := hlt y1 (.cells #[.string c.1, .int .i64 c.2.1, .int .i64 c.2.2] 59) (.cells #[.int .i64 v.1, .int .i64 v.2.1, .string v.2.2] 39)
          have q0_7 := hlt q0 (.cells #[.string c.1, .int .i64 c.2.1, .int .i64 c.2.2] 59) (.cells #[.int .i64 v.1, .int .i64 v.2.1, .string v.2.2] 39)
          have q1_7 := hlt q1 (.cells #[.string c.1, .int .i64 c.2.1, .int .i64 c.2.2] 59) (.cells #[.int .i64 v.1, .int .i64 v.2.1, .string v.2.2] 39)
          have q2_7 := hlt q2 (.cells #[.string c.1, .int .i64 c.2.1, .int .i64 c.2.2] 59) (.cells #[.int .i64 v.1, .int .i64 v.2.1, .string v.2.2] 39)
          have r0_7 := hlt r0 (.cells #[.string c.1, .int .i64 c.2.1, .int .i64 c.2.2] 59) (.cells #[.int .i64 v.1, .int .i64 v.2.1, .string v.2.2] 39)
          have r1_7 := hlt r1 (.cells #[.string c.1, .int .i64 c.2.1, .int .i64 c.2.2] 59) (.cells #[.int .i64 v.1, .int .i64 v.2.1, .string v.2.2] 39)
          have r2_7 := hlt r2 (.cells #[.string c.1, .int .i64 c.2.1, .int .i64 c.2.2] 59) (.cells #[.int .i64 v.1, .int .i64 v.2.1, .string v.2.2] 39)
          have y1_8 := hlt y1 (.cells #[.int .i64 v.1, .int .i64 v.2.1, .string v.2.2] 39) (.cells #[.string c.1, .int .i64 c.2.1, .int .i64 c.2.2] 59)
          have q0_8 := hlt q0 (.cells #[.int .i64 v.1, .int .i64 v.2.1, .string v.2.2] 39) (.cells #[.string c.1, .int .i64 c.2.1, .int .i64 c.2.2] 59)
          have q1_8 := hlt q1 (.cells #[.int .i64 v.1, .int .i64 v.2.1, .string v.2.2] 39) (.cells #[.string c.1, .int .i64 c.2.1, .int .i64 c.2.2] 59)
          have q2_8 := hlt q2 (.cells #[.int .i64 v.1, .int .i64 v.2.1, .string v.2.2] 39) (.cells #[.string c.1, .int .i64 c.2.1, .int .i64 c.2.2] 59)
          have r0_8 := hlt r0 (.cells #[.int .i64 v.1, .int .i64 v.2.1, .string v.2.2] 39) (.cells #[.string c.1, .int .i64 c.2.1, .int .i64 c.2.2] 59)
          have r1_8 := hlt r1 (.cells #[.int .i64 v.1, .int .i64 v.2.1, .string v.2.2] 39) (.cells #[.string c.1, .int .i64 c.2.1, .int .i64 c.2.2] 59)
          have r2_8 := hlt r2 (.cells #[.int .i64 v.1, .int .i64 v.2.1, .string v.2.2] 39) (.cells #[.string c.1, .int .i64 c.2.1, .int .i64 c.2.2] 59)
          have y1_21 := hl1 y1 (.cells #[.string ⟨#[]⟩, .int .i64 0, .int .i64 0] 59)
          have q0_21 := hl1 q0 (.cells #[.string ⟨#[]⟩, .int .i64 0, .int .i64 0] 59)
          have q1_21 := hl1 q1 (.cells #[.string ⟨#[]⟩, .int .i64 0, .int .i64 0] 59)
          have q2_21 := hl1 q2 (.cells #[.string ⟨#[]⟩, .int .i64 0, .int .i64 0] 59)
          have r0_21 := hl1 r0 (.cells #[.string ⟨#[]⟩, .int .i64 0, .int .i64 0] 59)
          have r1_21 := hl1 r1 (.cells #[.string ⟨#[]⟩, .int .i64 0, .int .i64 0] 59)
          have r2_21 := hl1 r2 (.cells #[.string ⟨#[]⟩, .int .i64 0, .int .i64 0] 59)
          have y1_22 := hl1 y1 (.cells #[.string c.1, .int .i64 c.2.1, .int .i64 c.2.2] 59)
          have q0_22 := hl1 q0 (.cells #[.string c.1, .int .i64 c.2.1, .int .i64 c.2.2] 59)
          have q1_22 := hl1 q1 (.cells #[.string c.1, .int .i64 c.2.1, .int .i64 c.2.2] 59)
          have q2_22 := hl1 q2 (.cells #[.string c.1, .int .i64 c.2.1, .int .i64 c.2.2] 59)
          have r0_22 := hl1 r0 (.cells #[.string c.1, .int .i64 c.2.1, .int .i64 c.2.2] 59)
          have r1_22 := hl1 r1 (.cells #[.string c.1, .int .i64 c.2.1, .int .i64 c.2.2] 59)
          have r2_22 := hl1 r2 (.cells #[.string c.1, .int .i64 c.2.1, .int .i64 c.2.2] 59)
          have y1_23 := hl1 y1 (.cells #[.int .i64 0, .int .i64 0, .string ⟨#[]⟩] 39)
          have q0_23 := hl1 q0 (.cells #[.int .i64 0, .int .i64 0, .string ⟨#[]⟩] 39)
          have q1_23 := hl1 q1 (.cells #[.int .i64 0, .int .i64 0, .string ⟨#[]⟩] 39)
          have q2_23 := hl1 q2 (.cells #[.int .i64 0, .int .i64 0, .string ⟨#[]⟩] 39)
          have r0_23 := hl1 r0 (.cells #[.int .i64 0, .int .i64 0, .string ⟨#[]⟩] 39)
          have r1_23 := hl1 r1 (.cells #[.int .i64 0, .int .i64 0, .string ⟨#[]⟩] 39)
          have r2_23 := hl1 r2 (.cells #[.int .i64 0, .int .i64 0, .string ⟨#[]⟩] 39)
          have y1_24 := hl1 y1 (.cells #[.int .i64 v.1, .int .i64 v.2.1, .string v.2.2] 39)
          have q0_24 := hl1 q0 (.cells #[.int .i64 v.1, .int .i64 v.2.1, .string v.2.2] 39)
          have q1_24 := hl1 q1 (.cells #[.int .i64 v.1, .int .i64 v.2.1, .string v.2.2] 39)
          have q2_24 := hl1 q2 (.cells #[.int .i64 v.1, .int .i64 v.2.1, .string v.2.2] 39)
          have r0_24 := hl1 r0 (.cells #[.int .i64 v.1, .int .i64 v.2.1, .string v.2.2] 39)
          have r1_24 := hl1 r1 (.cells #[.int .i64 v.1, .int .i64 v.2.1, .string v.2.2] 39)
          have r2_24 := hl1 r2 (.cells #[.int .i64 v.1, .int .i64 v.2.1, .string v.2.2] 39)
          clear hlt hl1
          go_region
          · go_wp2
            go_meet
            refine ⟨_, _, rfl, rfl, ?_, ?_, ?_⟩
            · first | exact heap_alloc2_old wr _ _ | exact heap_alloc2_new wr _ _
            · first | exact heap_alloc2_old wr _ _ | exact heap_alloc2_new wr _ _
            · first | exact ((below_box wr _).trans ((below_box _ _).mono (below_box wr _).size)).drew | exact ((below_box wr _).trans ((below_box _ _).mono (below_box wr _).size))
          · go_wp2
            go_meet
            refine ⟨_, _, rfl, rfl, ?_, ?_, ?_⟩
            · first | exact heap_alloc2_old wr _ _ | exact heap_alloc2_new wr _ _
            · first | exact heap_alloc2_old wr _ _ | exact heap_alloc2_new wr _ _
            · first | exact ((below_box wr _).trans ((below_box _ _).mono (below_box wr _).size)).drew | exact ((below_box wr _).trans ((below_box _ _).mono (below_box wr _).size))
        case rest =>
          obtain ⟨g6, g7, rfl, rfl, h6, h7, hbw⟩ := hcut
          have H62 := hide h6
          have H72 := hide h7
          have HB2' : Hid (Below w2.heap.size w2 wc) := HBR.out.trans (hbw.mono HBR.out.size)
          have HBS : Hid (w2.heap.size ≤ wc.heap.size) := HB2'.out.size
          have HSZ := HS.out v (List.mem_of_getElem? hvj)
          have HRT : Hid (Calls Try.prog 33 #[.agg #[.int .i64 v.1, .int .i64 v.2.1, .string v.2.2]] wc.drew fun e w' => e = .returned (.int .i64 v.err) ∧ Below wc.drew.heap.size wc.drew w') := refRight_any v.1 v.2.1 v.2.2 wc.drew HSZ
          have HRU := hide (fun ww => refRunes_any v.2.2 ww HSZ)
          have HRC : Hid (v.err = 0 → countOf (runes (bl v.2.2)) = (rcn v.2.2 : Int)) := fun q => rcn_text q
          have HZ : Hid (v.err = 0 → v.1 ≠ 2 → rcn v.2.2 = 0) := fun q r => rcn_zero q r
          have HNX : Hid (fitsN s l (j + 1) = fitsB c v) := by
            show (fitsN s l j && (match s.cs[j]?, l[j]? with | some c, some v => fitsB c v | _, _ => true)) = _
            rw [HY.out, hvj, hcj, Bool.true_and]
          have HMX : Hid (0 ≤ c.2.2) := (HPT.out j c hcj).m0
          have HBAD : Hid (fitsB c v = false → s.fits l = 62) := fun q => by
            rw [HE0.out]
            split
            · rfl
            · rw [if_neg]
              rw [fitsN_no (j := j + 1) (by rw [HNX.out, q]) (by omega)]
              simp
          have HB0 : Hid (j = 0 → v.1 = 0 → s.fits l = 62) := fun q r => by
            rw [HE0.out, if_pos]
            rw [List.getD_eq_getElem?_getD, ← q, hvj]
            exact r
          have HF0 : Hid (j = 0 → v.1 ≠ 0 → (l.getD 0 (0, 0, ⟨#[]⟩)).1 ≠ 0) := fun q r => by
            rw [List.getD_eq_getElem?_getD, ← q, hvj]
            exact r
          have HX : Hid ((fun wx => (wx.cell? ⟨g6, 0, none⟩ = some (.int .i64 v.1) ∧ wx.cell? ⟨g6, 1, none⟩ = some (.int .i64 v.2.1) ∧ wx.cell? ⟨g6, 2, none⟩ = some (.string v.2.2)) ∧ wx.cell? ⟨g7, 1, none⟩ = some (.int .i64 c.2.1) ∧ wx.cell? ⟨g7, 2, none⟩ = some (.int .i64 c.2.2)) wc.drew) := ⟨⟨cell_blk H62.out, cell_blk H62.out, cell_blk H62.out⟩, cell_blk H72.out, cell_blk H72.out⟩
          clear h6 h7 hbw HSZ hvj hcj y1 q0 q1 q2 r0 r1 r2 hlt hl1
          go_upto_region 9 with fail
          by_cases h0 : v.err = 0
          · rw [h0] at HRT
            have H0 := hide h0
            clear h0
            by_cases hk1 : v.1 = c.2.1
            · have dk1 : (v.1 != c.2.1) = false := by simp [hk1]
              have HKK : Hid (v.1 = c.2.1 ∨ v.1 = 0) := Or.inl hk1
              clear hk1
              by_cases hj0 : j = 0
              · have dj : ((j : Int) == 0) = true := by simp [hj0]
                by_cases hk0 : v.1 = 0
                · have dk0 : (v.1 == 0) = true := by simp [hk0]
                  have dn0 : (v.1 != 0) = false := by simp [hk0]
                  have HE := hide (HB0.out hj0 hk0)
                  clear hj0 hk0
                  refine wp_region_noPanic ?_
                  refine wp_region_held_drew (S := fun wx => (wx.cell? ⟨g6, 0, none⟩ = some (.int .i64 v.1) ∧ wx.cell? ⟨g6, 1, none⟩ = some (.int .i64 v.2.1) ∧ wx.cell? ⟨g6, 2, none⟩ = some (.string v.2.2)) ∧ wx.cell? ⟨g7, 1, none⟩ = some (.int .i64 c.2.1) ∧ wx.cell? ⟨g7, 2, none⟩ = some (.int .i64 c.2.2)) (by kernel_rfl) HX.out (fun hHeld => ?_)
                  refine wpAnyH_tk 0 32 ?_
                  refine wpAnyH_cm 1 ?_; intro K hK
                  go_simp
                  refine HRT.out.mono ?_
                  rintro e w3 ⟨rfl, hb⟩
                  have HB3 : Hid (Below wc.drew.heap.size wc.drew w3) := hb
                  have H63 := hide ((hb.block g6 (blk_lt H62.out)).trans H62.out)
                  have H73 := hide ((hb.block g7 (blk_lt H72.out)).trans H72.out)
                  clear hb hHeld
                  refine hK.out _ _ ⟨⟨cell_blk H63.out, cell_blk H63.out, cell_blk H63.out⟩, cell_blk H73.out, cell_blk H73.out⟩ (fun hHeld => ?_)
                  clear hK K
                  try simp only [Act.put, List.setIfInBounds_toArray, List.set_cons_zero, List.set_cons_succ]
                  refine wpAnyH_tk 2 34 ?_
                  refine wpAnyH_tk 3 35 ?_
                  refine wpAnyH_tk 4 36 ?_
                  refine wpAnyH_tk 5 37 ?_
                  refine wpAnyH_tk 6 38 ?_
                  refine wpAnyH_tk 7 39 ?_
                  refine wpAnyH_tk 8 40 ?_
                  refine wpAnyH_tk 9 41 ?_
                  refine wpAnyH_sk 10 42 ?_
                  refine wpAnyH_sk 11 43 ?_
                  refine wpAnyH_sk 12 44 ?_
                  refine wpAnyH_tk 13 45 ?_
                  refine wpAnyH_tk 14 46 ?_
                  refine wpAnyH_tk 15 47 ?_
                  refine wpAnyH_tk 16 48 ?_
                  refine wpAnyH_tk 17 49 ?_
                  refine wpAnyH_tk 18 50 ?_
                  refine wpAnyH_tk 19 51 ?_
                  refine wpAnyH_tk 20 52 ?_
                  refine wpAnyH_tk 21 53 ?_
                  refine wpAnyH_tk 22 54 ?_
                  refine wpAnyH_tk 23 55 ?_
                  refine wpAnyH_tk 24 56 ?_
                  refine wpAnyH_sk 25 57 ?_
                  refine wpAnyH_sk 26 58 ?_
                  refine wpAnyH_sk 27 59 ?_
                  refine wpAnyH_sk 28 60 ?_
                  refine wpAnyH_sk 29 61 ?_
                  refine wpAnyH_sk 30 62 ?_
                  refine wpAnyH_sk 32 64 ?_
                  refine wpAnyH_sk 33 65 ?_
                  refine wpAnyH_sk 31 63 ?_
                  refine wpAnyH_sk 34 66 ?_
                  refine wpAnyH_sk 35 67 ?_
                  refine wpAnyH_tk 36 68 ?_
                  refine wpAnyH_done (by kernel_rfl) ?_ _
                  refine NoPanic.normal ?_
                  clear hHeld
                  go_wp2
                  go_ret
                  exact ⟨by rw [HE.out]; rfl, HB2.out.trans ((HB2'.out.drew.trans (HB3.out.mono HBS.out)).mono HLB.out)⟩
                · have dk0 : (v.1 == 0) = false := by simp [hk0]
                  have dn0 : (v.1 != 0) = true := by simp [hk0]
                  have HFN : Hid ((l.getD 0 (0, 0, ⟨#[]⟩)).1 ≠ 0) := HF0.out hj0 hk0
                  clear hk0 hj0
                  by_cases hk2 : v.1 = 2
                  · have k2 : (v.1 == 2) = true := by simp [hk2]
                    rw [HRC.out H0.out] at HRU
                    clear hk2
                    by_cases hm : c.2.2 < (rcn v.2.2 : Int)
                    · have dm : decide (c.2.2 < (rcn v.2.2 : Int)) = true := decide_eq_true hm
                      refine wp_region_noPanic ?_
                      refine wp_region_held_drew (S := fun wx => (wx.cell? ⟨g6, 0, none⟩ = some (.int .i64 v.1) ∧ wx.cell? ⟨g6, 1, none⟩ = some (.int .i64 v.2.1) ∧ wx.cell? ⟨g6, 2, none⟩ = some (.string v.2.2)) ∧ wx.cell? ⟨g7, 1, none⟩ = some (.int .i64 c.2.1) ∧ wx.cell? ⟨g7, 2, none⟩ = some (.int .i64 c.2.2)) (by kernel_rfl) HX.out (fun hHeld => ?_)
                      refine wpAnyH_tk 0 32 ?_
                      refine wpAnyH_cm 1 ?_; intro K hK
                      go_simp
                      refine HRT.out.mono ?_
                      rintro e w3 ⟨rfl, hb⟩
                      have HB3 : Hid (Below wc.drew.heap.size wc.drew w3) := hb
                      have H63 := hide ((hb.block g6 (blk_lt H62.out)).trans H62.out)
                      have H73 := hide ((hb.block g7 (blk_lt H72.out)).trans H72.out)
                      clear hb hHeld
                      refine hK.out _ _ ⟨⟨cell_blk H63.out, cell_blk H63.out, cell_blk H63.out⟩, cell_blk H73.out, cell_blk H73.out⟩ (fun hHeld => ?_)
                      clear hK K
                      try simp only [Act.put, List.setIfInBounds_toArray, List.set_cons_zero, List.set_cons_succ]
                      refine wpAnyH_tk 2 34 ?_
                      refine wpAnyH_tk 3 35 ?_
                      refine wpAnyH_tk 4 36 ?_
                      refine wpAnyH_tk 5 37 ?_
                      refine wpAnyH_tk 6 38 ?_
                      refine wpAnyH_tk 7 39 ?_
                      refine wpAnyH_tk 8 40 ?_
                      refine wpAnyH_tk 9 41 ?_
                      refine wpAnyH_sk 10 42 ?_
                      refine wpAnyH_sk 11 43 ?_
                      refine wpAnyH_sk 12 44 ?_
                      refine wpAnyH_tk 13 45 ?_
                      refine wpAnyH_tk 14 46 ?_
                      refine wpAnyH_tk 15 47 ?_
                      refine wpAnyH_tk 16 48 ?_
                      refine wpAnyH_tk 17 49 ?_
                      refine wpAnyH_tk 18 50 ?_
                      refine wpAnyH_tk 19 51 ?_
                      refine wpAnyH_tk 20 52 ?_
                      refine wpAnyH_tk 21 53 ?_
                      refine wpAnyH_tk 22 54 ?_
                      refine wpAnyH_tk 23 55 ?_
                      refine wpAnyH_tk 24 56 ?_
                      refine wpAnyH_tk 25 57 ?_
                      refine wpAnyH_tk 26 58 ?_
                      refine wpAnyH_tk 27 59 ?_
                      refine wpAnyH_tk 28 60 ?_
                      refine wpAnyH_tk 29 61 ?_
                      refine wpAnyH_tk 30 62 ?_
                      refine wpAnyH_tk 32 64 ?_
                      refine wpAnyH_tk 33 65 ?_
                      refine wpAnyH_cm 31 ?_; intro K hK
                      go_simp
                      refine (HRU.out w3).mono ?_
                      rintro e w4 ⟨rfl, hb⟩
                      have HB4 : Hid (Below wc.drew.heap.size wc.drew w4) := HB3.out.trans (hb.mono HB3.out.size)
                      have H64 := hide ((hb.block g6 (blk_lt H63.out)).trans H63.out)
                      have H74 := hide ((hb.block g7 (blk_lt H73.out)).trans H73.out)
                      clear hb hHeld
                      refine hK.out _ _ ⟨⟨cell_blk H64.out, cell_blk H64.out, cell_blk H64.out⟩, cell_blk H74.out, cell_blk H74.out⟩ (fun hHeld => ?_)
                      clear hK K
                      try simp only [Act.put, List.setIfInBounds_toArray, List.set_cons_zero, List.set_cons_succ]
                      refine wpAnyH_tk 34 66 ?_
                      refine wpAnyH_tk 35 67 ?_
                      refine wpAnyH_tk 36 68 ?_
                      refine wpAnyH_done (by kernel_rfl) ?_ _
                      refine NoPanic.normal ?_
                      clear hHeld
                      have HE := hide (HBAD.out (by unfold fitsB; rw [decide_eq_false (show ¬ (rcn v.2.2 : Int) ≤ c.2.2 by omega)]; simp))
                      go_wp2
                      go_ret
                      exact ⟨by rw [HE.out]; rfl, HB2.out.trans ((HB2'.out.drew.trans (HB4.out.mono HBS.out)).mono HLB.out)⟩
                    · have dm : decide (c.2.2 < (rcn v.2.2 : Int)) = false := decide_eq_false hm
                      refine wp_region_noPanic ?_
                      refine wp_region_held_drew (S := fun wx => (wx.cell? ⟨g6, 0, none⟩ = some (.int .i64 v.1) ∧ wx.cell? ⟨g6, 1, none⟩ = some (.int .i64 v.2.1) ∧ wx.cell? ⟨g6, 2, none⟩ = some (.string v.2.2)) ∧ wx.cell? ⟨g7, 1, none⟩ = some (.int .i64 c.2.1) ∧ wx.cell? ⟨g7, 2, none⟩ = some (.int .i64 c.2.2)) (by kernel_rfl) HX.out (fun hHeld => ?_)
                      refine wpAnyH_tk 0 32 ?_
                      refine wpAnyH_cm 1 ?_; intro K hK
                      go_simp
                      refine HRT.out.mono ?_
                      rintro e w3 ⟨rfl, hb⟩
                      have HB3 : Hid (Below wc.drew.heap.size wc.drew w3) := hb
                      have H63 := hide ((hb.block g6 (blk_lt H62.out)).trans H62.out)
                      have H73 := hide ((hb.block g7 (blk_lt H72.out)).trans H72.out)
                      clear hb hHeld
                      refine hK.out _ _ ⟨⟨cell_blk H63.out, cell_blk H63.out, cell_blk H63.out⟩, cell_blk H73.out, cell_blk H73.out⟩ (fun hHeld => ?_)
                      clear hK K
                      try simp only [Act.put, List.setIfInBounds_toArray, List.set_cons_zero, List.set_cons_succ]
                      refine wpAnyH_tk 2 34 ?_
                      refine wpAnyH_tk 3 35 ?_
                      refine wpAnyH_tk 4 36 ?_
                      refine wpAnyH_tk 5 37 ?_
                      refine wpAnyH_tk 6 38 ?_
                      refine wpAnyH_tk 7 39 ?_
                      refine wpAnyH_tk 8 40 ?_
                      refine wpAnyH_tk 9 41 ?_
                      refine wpAnyH_sk 10 42 ?_
                      refine wpAnyH_sk 11 43 ?_
                      refine wpAnyH_sk 12 44 ?_
                      refine wpAnyH_tk 13 45 ?_
                      refine wpAnyH_tk 14 46 ?_
                      refine wpAnyH_tk 15 47 ?_
                      refine wpAnyH_tk 16 48 ?_
                      refine wpAnyH_tk 17 49 ?_
                      refine wpAnyH_tk 18 50 ?_
                      refine wpAnyH_tk 19 51 ?_
                      refine wpAnyH_tk 20 52 ?_
                      refine wpAnyH_tk 21 53 ?_
                      refine wpAnyH_tk 22 54 ?_
                      refine wpAnyH_tk 23 55 ?_
                      refine wpAnyH_tk 24 56 ?_
                      refine wpAnyH_tk 25 57 ?_
                      refine wpAnyH_tk 26 58 ?_
                      refine wpAnyH_tk 27 59 ?_
                      refine wpAnyH_tk 28 60 ?_
                      refine wpAnyH_tk 29 61 ?_
                      refine wpAnyH_tk 30 62 ?_
                      refine wpAnyH_tk 32 64 ?_
                      refine wpAnyH_tk 33 65 ?_
                      refine wpAnyH_cm 31 ?_; intro K hK
                      go_simp
                      refine (HRU.out w3).mono ?_
                      rintro e w4 ⟨rfl, hb⟩
                      have HB4 : Hid (Below wc.drew.heap.size wc.drew w4) := HB3.out.trans (hb.mono HB3.out.size)
                      have H64 := hide ((hb.block g6 (blk_lt H63.out)).trans H63.out)
                      have H74 := hide ((hb.block g7 (blk_lt H73.out)).trans H73.out)
                      clear hb hHeld
                      refine hK.out _ _ ⟨⟨cell_blk H64.out, cell_blk H64.out, cell_blk H64.out⟩, cell_blk H74.out, cell_blk H74.out⟩ (fun hHeld => ?_)
                      clear hK K
                      try simp only [Act.put, List.setIfInBounds_toArray, List.set_cons_zero, List.set_cons_succ]
                      refine wpAnyH_tk 34 66 ?_
                      refine wpAnyH_tk 35 67 ?_
                      refine wpAnyH_tk 36 68 ?_
                      refine wpAnyH_done (by kernel_rfl) ?_ _
                      refine NoPanic.normal ?_
                      clear hHeld
                      have HG := hide ((show fitsB c v = true by unfold fitsB; rw [decide_eq_true H0.out, decide_eq_true (show (rcn v.2.2 : Int) ≤ c.2.2 by omega)]; simp [HKK.out]))
                      have hn3 := HC1.out.2
                      go_wp2
                      go_roundg (gk - 1)
                      case measure => omega
                      case rel => exact ⟨j + 1, by omega, by go_num, HNX.out.trans HG.out, fun _ => HFN.out, HB2'.out.drew.trans (HB4.out.mono HBS.out)⟩
                  · have k2 : (v.1 == 2) = false := by simp [hk2]
                    have HK2 := hide hk2
                    clear hk2
                    refine wp_region_noPanic ?_
                    refine wp_region_held_drew (S := fun wx => (wx.cell? ⟨g6, 0, none⟩ = some (.int .i64 v.1) ∧ wx.cell? ⟨g6, 1, none⟩ = some (.int .i64 v.2.1) ∧ wx.cell? ⟨g6, 2, none⟩ = some (.string v.2.2)) ∧ wx.cell? ⟨g7, 1, none⟩ = some (.int .i64 c.2.1) ∧ wx.cell? ⟨g7, 2, none⟩ = some (.int .i64 c.2.2)) (by kernel_rfl) HX.out (fun hHeld => ?_)
                    refine wpAnyH_tk 0 32 ?_
                    refine wpAnyH_cm 1 ?_; intro K hK
                    go_simp
                    refine HRT.out.mono ?_
                    rintro e w3 ⟨rfl, hb⟩
                    have HB3 : Hid (Below wc.drew.heap.size wc.drew w3) := hb
                    have H63 := hide ((hb.block g6 (blk_lt H62.out)).trans H62.out)
                    have H73 := hide ((hb.block g7 (blk_lt H72.out)).trans H72.out)
                    clear hb hHeld
                    refine hK.out _ _ ⟨⟨cell_blk H63.out, cell_blk H63.out, cell_blk H63.out⟩, cell_blk H73.out, cell_blk H73.out⟩ (fun hHeld => ?_)
                    clear hK K
                    try simp only [Act.put, List.setIfInBounds_toArray, List.set_cons_zero, List.set_cons_succ]
                    refine wpAnyH_tk 2 34 ?_
                    refine wpAnyH_tk 3 35 ?_
                    refine wpAnyH_tk 4 36 ?_
                    refine wpAnyH_tk 5 37 ?_
                    refine wpAnyH_tk 6 38 ?_
                    refine wpAnyH_tk 7 39 ?_
                    refine wpAnyH_tk 8 40 ?_
                    refine wpAnyH_tk 9 41 ?_
                    refine wpAnyH_sk 10 42 ?_
                    refine wpAnyH_sk 11 43 ?_
                    refine wpAnyH_sk 12 44 ?_
                    refine wpAnyH_tk 13 45 ?_
                    refine wpAnyH_tk 14 46 ?_
                    refine wpAnyH_tk 15 47 ?_
                    refine wpAnyH_tk 16 48 ?_
                    refine wpAnyH_tk 17 49 ?_
                    refine wpAnyH_tk 18 50 ?_
                    refine wpAnyH_tk 19 51 ?_
                    refine wpAnyH_tk 20 52 ?_
                    refine wpAnyH_tk 21 53 ?_
                    refine wpAnyH_tk 22 54 ?_
                    refine wpAnyH_tk 23 55 ?_
                    refine wpAnyH_tk 24 56 ?_
                    refine wpAnyH_tk 25 57 ?_
                    refine wpAnyH_tk 26 58 ?_
                    refine wpAnyH_tk 27 59 ?_
                    refine wpAnyH_tk 28 60 ?_
                    refine wpAnyH_sk 29 61 ?_
                    refine wpAnyH_sk 30 62 ?_
                    refine wpAnyH_sk 32 64 ?_
                    refine wpAnyH_sk 33 65 ?_
                    refine wpAnyH_sk 31 63 ?_
                    refine wpAnyH_sk 34 66 ?_
                    refine wpAnyH_tk 35 67 ?_
                    refine wpAnyH_tk 36 68 ?_
                    refine wpAnyH_done (by kernel_rfl) ?_ _
                    refine NoPanic.normal ?_
                    clear hHeld
                    have HG := hide ((show fitsB c v = true by unfold fitsB; rw [decide_eq_true H0.out, HZ.out H0.out HK2.out, decide_eq_true (show ((0 : Nat) : Int) ≤ c.2.2 by have := HMX.out; omega)]; simp [HKK.out]))
                    have hn3 := HC1.out.2
                    go_wp2
                    go_roundg (gk - 1)
                    case measure => omega
                    case rel => exact ⟨j + 1, by omega, by go_num, HNX.out.trans HG.out, fun _ => HFN.out, HB2'.out.drew.trans (HB3.out.mono HBS.out)⟩
              · have dj : ((j : Int) == 0) = false := by simp [hj0]
                have HFN : Hid ((l.getD 0 (0, 0, ⟨#[]⟩)).1 ≠ 0) := HFS.out (by omega)
                clear hj0
                by_cases hk2 : v.1 = 2
                · have k2 : (v.1 == 2) = true := by simp [hk2]
                  rw [HRC.out H0.out] at HRU
                  clear hk2
                  by_cases hm : c.2.2 < (rcn v.2.2 : Int)
                  · have dm : decide (c.2.2 < (rcn v.2.2 : Int)) = true := decide_eq_true hm
                    refine wp_region_noPanic ?_
                    refine wp_region_held_drew (S := fun wx => (wx.cell? ⟨g6, 0, none⟩ = some (.int .i64 v.1) ∧ wx.cell? ⟨g6, 1, none⟩ = some (.int .i64 v.2.1) ∧ wx.cell? ⟨g6, 2, none⟩ = some (.string v.2.2)) ∧ wx.cell? ⟨g7, 1, none⟩ = some (.int .i64 c.2.1) ∧ wx.cell? ⟨g7, 2, none⟩ = some (.int .i64 c.2.2)) (by kernel_rfl) HX.out (fun hHeld => ?_)
                    refine wpAnyH_tk 0 32 ?_
                    refine wpAnyH_cm 1 ?_; intro K hK
                    go_simp
                    refine HRT.out.mono ?_
                    rintro e w3 ⟨rfl, hb⟩
                    have HB3 : Hid (Below wc.drew.heap.size wc.drew w3) := hb
                    have H63 := hide ((hb.block g6 (blk_lt H62.out)).trans H62.out)
                    have H73 := hide ((hb.block g7 (blk_lt H72.out)).trans H72.out)
                    clear hb hHeld
                    refine hK.out _ _ ⟨⟨cell_blk H63.out, cell_blk H63.out, cell_blk H63.out⟩, cell_blk H73.out, cell_blk H73.out⟩ (fun hHeld => ?_)
                    clear hK K
                    try simp only [Act.put, List.setIfInBounds_toArray, List.set_cons_zero, List.set_cons_succ]
                    refine wpAnyH_tk 2 34 ?_
                    refine wpAnyH_tk 3 35 ?_
                    refine wpAnyH_tk 4 36 ?_
                    refine wpAnyH_tk 5 37 ?_
                    refine wpAnyH_tk 6 38 ?_
                    refine wpAnyH_tk 7 39 ?_
                    refine wpAnyH_tk 8 40 ?_
                    refine wpAnyH_tk 9 41 ?_
                    refine wpAnyH_sk 10 42 ?_
                    refine wpAnyH_sk 11 43 ?_
                    refine wpAnyH_sk 12 44 ?_
                    refine wpAnyH_tk 13 45 ?_
                    refine wpAnyH_tk 14 46 ?_
                    refine wpAnyH_tk 15 47 ?_
                    refine wpAnyH_tk 16 48 ?_
                    refine wpAnyH_tk 17 49 ?_
                    refine wpAnyH_tk 18 50 ?_
                    refine wpAnyH_sk 19 51 ?_
                    refine wpAnyH_sk 20 52 ?_
                    refine wpAnyH_sk 21 53 ?_
                    refine wpAnyH_tk 22 54 ?_
                    refine wpAnyH_tk 23 55 ?_
                    refine wpAnyH_tk 24 56 ?_
                    refine wpAnyH_tk 25 57 ?_
                    refine wpAnyH_tk 26 58 ?_
                    refine wpAnyH_tk 27 59 ?_
                    refine wpAnyH_tk 28 60 ?_
                    refine wpAnyH_tk 29 61 ?_
                    refine wpAnyH_tk 30 62 ?_
                    refine wpAnyH_tk 32 64 ?_
                    refine wpAnyH_tk 33 65 ?_
                    refine wpAnyH_cm 31 ?_; intro K hK
                    go_simp
                    refine (HRU.out w3).mono ?_
                    rintro e w4 ⟨rfl, hb⟩
                    have HB4 : Hid (Below wc.drew.heap.size wc.drew w4) := HB3.out.trans (hb.mono HB3.out.size)
                    have H64 := hide ((hb.block g6 (blk_lt H63.out)).trans H63.out)
                    have H74 := hide ((hb.block g7 (blk_lt H73.out)).trans H73.out)
                    clear hb hHeld
                    refine hK.out _ _ ⟨⟨cell_blk H64.out, cell_blk H64.out, cell_blk H64.out⟩, cell_blk H74.out, cell_blk H74.out⟩ (fun hHeld => ?_)
                    clear hK K
                    try simp only [Act.put, List.setIfInBounds_toArray, List.set_cons_zero, List.set_cons_succ]
                    refine wpAnyH_tk 34 66 ?_
                    refine wpAnyH_tk 35 67 ?_
                    refine wpAnyH_tk 36 68 ?_
                    refine wpAnyH_done (by kernel_rfl) ?_ _
                    refine NoPanic.normal ?_
                    clear hHeld
                    have HE := hide (HBAD.out (by unfold fitsB; rw [decide_eq_false (show ¬ (rcn v.2.2 : Int) ≤ c.2.2 by omega)]; simp))
                    go_wp2
                    go_ret
                    exact ⟨by rw [HE.out]; rfl, HB2.out.trans ((HB2'.out.drew.trans (HB4.out.mono HBS.out)).mono HLB.out)⟩
                  · have dm : decide (c.2.2 < (rcn v.2.2 : Int)) = false := decide_eq_false hm
                    refine wp_region_noPanic ?_
                    refine wp_region_held_drew (S := fun wx => (wx.cell? ⟨g6, 0, none⟩ = some (.int .i64 v.1) ∧ wx.cell? ⟨g6, 1, none⟩ = some (.int .i64 v.2.1) ∧ wx.cell? ⟨g6, 2, none⟩ = some (.string v.2.2)) ∧ wx.cell? ⟨g7, 1, none⟩ = some (.int .i64 c.2.1) ∧ wx.cell? ⟨g7, 2, none⟩ = some (.int .i64 c.2.2)) (by kernel_rfl) HX.out (fun hHeld => ?_)
                    refine wpAnyH_tk 0 32 ?_
                    refine wpAnyH_cm 1 ?_; intro K hK
                    go_simp
                    refine HRT.out.mono ?_
                    rintro e w3 ⟨rfl, hb⟩
                    have HB3 : Hid (Below wc.drew.heap.size wc.drew w3) := hb
                    have H63 := hide ((hb.block g6 (blk_lt H62.out)).trans H62.out)
                    have H73 := hide ((hb.block g7 (blk_lt H72.out)).trans H72.out)
                    clear hb hHeld
                    refine hK.out _ _ ⟨⟨cell_blk H63.out, cell_blk H63.out, cell_blk H63.out⟩, cell_blk H73.out, cell_blk H73.out⟩ (fun hHeld => ?_)
                    clear hK K
                    try simp only [Act.put, List.setIfInBounds_toArray, List.set_cons_zero, List.set_cons_succ]
                    refine wpAnyH_tk 2 34 ?_
                    refine wpAnyH_tk 3 35 ?_
                    refine wpAnyH_tk 4 36 ?_
                    refine wpAnyH_tk 5 37 ?_
                    refine wpAnyH_tk 6 38 ?_
                    refine wpAnyH_tk 7 39 ?_
                    refine wpAnyH_tk 8 40 ?_
                    refine wpAnyH_tk 9 41 ?_
                    refine wpAnyH_sk 10 42 ?_
                    refine wpAnyH_sk 11 43 ?_
                    refine wpAnyH_sk 12 44 ?_
                    refine wpAnyH_tk 13 45 ?_
                    refine wpAnyH_tk 14 46 ?_
                    refine wpAnyH_tk 15 47 ?_
                    refine wpAnyH_tk 16 48 ?_
                    refine wpAnyH_tk 17 49 ?_
                    refine wpAnyH_tk 18 50 ?_
                    refine wpAnyH_sk 19 51 ?_
                    refine wpAnyH_sk 20 52 ?_
                    refine wpAnyH_sk 21 53 ?_
                    refine wpAnyH_tk 22 54 ?_
                    refine wpAnyH_tk 23 55 ?_
                    refine wpAnyH_tk 24 56 ?_
                    refine wpAnyH_tk 25 57 ?_
                    refine wpAnyH_tk 26 58 ?_
                    refine wpAnyH_tk 27 59 ?_
                    refine wpAnyH_tk 28 60 ?_
                    refine wpAnyH_tk 29 61 ?_
                    refine wpAnyH_tk 30 62 ?_
                    refine wpAnyH_tk 32 64 ?_
                    refine wpAnyH_tk 33 65 ?_
                    refine wpAnyH_cm 31 ?_; intro K hK
                    go_simp
                    refine (HRU.out w3).mono ?_
                    rintro e w4 ⟨rfl, hb⟩
                    have HB4 : Hid (Below wc.drew.heap.size wc.drew w4) := HB3.out.trans (hb.mono HB3.out.size)
                    have H64 := hide ((hb.block g6 (blk_lt H63.out)).trans H63.out)
                    have H74 := hide ((hb.block g7 (blk_lt H73.out)).trans H73.out)
                    clear hb hHeld
                    refine hK.out _ _ ⟨⟨cell_blk H64.out, cell_blk H64.out, cell_blk H64.out⟩, cell_blk H74.out, cell_blk H74.out⟩ (fun hHeld => ?_)
                    clear hK K
                    try simp only [Act.put, List.setIfInBounds_toArray, List.set_cons_zero, List.set_cons_succ]
                    refine wpAnyH_tk 34 66 ?_
                    refine wpAnyH_tk 35 67 ?_
                    refine wpAnyH_tk 36 68 ?_
                    refine wpAnyH_done (by kernel_rfl) ?_ _
                    refine NoPanic.normal ?_
                    clear hHeld
                    have HG := hide ((show fitsB c v = true by unfold fitsB; rw [decide_eq_true H0.out, decide_eq_true (show (rcn v.2.2 : Int) ≤ c.2.2 by omega)]; simp [HKK.out]))
                    have hn3 := HC1.out.2
                    go_wp2
                    go_roundg (gk - 1)
                    case measure => omega
                    case rel => exact ⟨j + 1, by omega, by go_num, HNX.out.trans HG.out, fun _ => HFN.out, HB2'.out.drew.trans (HB4.out.mono HBS.out)⟩
                · have k2 : (v.1 == 2) = false := by simp [hk2]
                  have HK2 := hide hk2
                  clear hk2
                  refine wp_region_noPanic ?_
                  refine wp_region_held_drew (S := fun wx => (wx.cell? ⟨g6, 0, none⟩ = some (.int .i64 v.1) ∧ wx.cell? ⟨g6, 1, none⟩ = some (.int .i64 v.2.1) ∧ wx.cell? ⟨g6, 2, none⟩ = some (.string v.2.2)) ∧ wx.cell? ⟨g7, 1, none⟩ = some (.int .i64 c.2.1) ∧ wx.cell? ⟨g7, 2, none⟩ = some (.int .i64 c.2.2)) (by kernel_rfl) HX.out (fun hHeld => ?_)
                  refine wpAnyH_tk 0 32 ?_
                  refine wpAnyH_cm 1 ?_; intro K hK
                  go_simp
                  refine HRT.out.mono ?_
                  rintro e w3 ⟨rfl, hb⟩
                  have HB3 : Hid (Below wc.drew.heap.size wc.drew w3) := hb
                  have H63 := hide ((hb.block g6 (blk_lt H62.out)).trans H62.out)
                  have H73 := hide ((hb.block g7 (blk_lt H72.out)).trans H72.out)
                  clear hb hHeld
                  refine hK.out _ _ ⟨⟨cell_blk H63.out, cell_blk H63.out, cell_blk H63.out⟩, cell_blk H73.out, cell_blk H73.out⟩ (fun hHeld => ?_)
                  clear hK K
                  try simp only [Act.put, List.setIfInBounds_toArray, List.set_cons_zero, List.set_cons_succ]
                  refine wpAnyH_tk 2 34 ?_
                  refine wpAnyH_tk 3 35 ?_
                  refine wpAnyH_tk 4 36 ?_
                  refine wpAnyH_tk 5 37 ?_
                  refine wpAnyH_tk 6 38 ?_
                  refine wpAnyH_tk 7 39 ?_
                  refine wpAnyH_tk 8 40 ?_
                  refine wpAnyH_tk 9 41 ?_
                  refine wpAnyH_sk 10 42 ?_
                  refine wpAnyH_sk 11 43 ?_
                  refine wpAnyH_sk 12 44 ?_
                  refine wpAnyH_tk 13 45 ?_
                  refine wpAnyH_tk 14 46 ?_
                  refine wpAnyH_tk 15 47 ?_
                  refine wpAnyH_tk 16 48 ?_
                  refine wpAnyH_tk 17 49 ?_
                  refine wpAnyH_tk 18 50 ?_
                  refine wpAnyH_sk 19 51 ?_
                  refine wpAnyH_sk 20 52 ?_
                  refine wpAnyH_sk 21 53 ?_
                  refine wpAnyH_tk 22 54 ?_
                  refine wpAnyH_tk 23 55 ?_
                  refine wpAnyH_tk 24 56 ?_
                  refine wpAnyH_tk 25 57 ?_
                  refine wpAnyH_tk 26 58 ?_
                  refine wpAnyH_tk 27 59 ?_
                  refine wpAnyH_tk 28 60 ?_
                  refine wpAnyH_sk 29 61 ?_
                  refine wpAnyH_sk 30 62 ?_
                  refine wpAnyH_sk 32 64 ?_
                  refine wpAnyH_sk 33 65 ?_
                  refine wpAnyH_sk 31 63 ?_
                  refine wpAnyH_sk 34 66 ?_
                  refine wpAnyH_tk 35 67 ?_
                  refine wpAnyH_tk 36 68 ?_
                  refine wpAnyH_done (by kernel_rfl) ?_ _
                  refine NoPanic.normal ?_
                  clear hHeld
                  have HG := hide ((show fitsB c v = true by unfold fitsB; rw [decide_eq_true H0.out, HZ.out H0.out HK2.out, decide_eq_true (show ((0 : Nat) : Int) ≤ c.2.2 by have := HMX.out; omega)]; simp [HKK.out]))
                  have hn3 := HC1.out.2
                  go_wp2
                  go_roundg (gk - 1)
                  case measure => omega
                  case rel => exact ⟨j + 1, by omega, by go_num, HNX.out.trans HG.out, fun _ => HFN.out, HB2'.out.drew.trans (HB3.out.mono HBS.out)⟩
            · have dk1 : (v.1 != c.2.1) = true := by simp [hk1]
              by_cases hk0 : v.1 = 0
              · have dn0 : (v.1 != 0) = false := by simp [hk0]
                have HKK : Hid (v.1 = c.2.1 ∨ v.1 = 0) := Or.inr hk0
                have dk0 : (v.1 == 0) = true := by simp [hk0]
                have hk2 : v.1 ≠ 2 := by omega
                by_cases hj0 : j = 0
                · have dj : ((j : Int) == 0) = true := by simp [hj0]
                  have HE := hide (HB0.out hj0 hk0)
                  clear hj0 hk0 hk2
                  refine wp_region_noPanic ?_
                  refine wp_region_held_drew (S := fun wx => (wx.cell? ⟨g6, 0, none⟩ = some (.int .i64 v.1) ∧ wx.cell? ⟨g6, 1, none⟩ = some (.int .i64 v.2.1) ∧ wx.cell? ⟨g6, 2, none⟩ = some (.string v.2.2)) ∧ wx.cell? ⟨g7, 1, none⟩ = some (.int .i64 c.2.1) ∧ wx.cell? ⟨g7, 2, none⟩ = some (.int .i64 c.2.2)) (by kernel_rfl) HX.out (fun hHeld => ?_)
                  refine wpAnyH_tk 0 32 ?_
                  refine wpAnyH_cm 1 ?_; intro K hK
                  go_simp
                  refine HRT.out.mono ?_
                  rintro e w3 ⟨rfl, hb⟩
                  have HB3 : Hid (Below wc.drew.heap.size wc.drew w3) := hb
                  have H63 := hide ((hb.block g6 (blk_lt H62.out)).trans H62.out)
                  have H73 := hide ((hb.block g7 (blk_lt H72.out)).trans H72.out)
                  clear hb hHeld
                  refine hK.out _ _ ⟨⟨cell_blk H63.out, cell_blk H63.out, cell_blk H63.out⟩, cell_blk H73.out, cell_blk H73.out⟩ (fun hHeld => ?_)
                  clear hK K
                  try simp only [Act.put, List.setIfInBounds_toArray, List.set_cons_zero, List.set_cons_succ]
                  refine wpAnyH_tk 2 34 ?_
                  refine wpAnyH_tk 3 35 ?_
                  refine wpAnyH_tk 4 36 ?_
                  refine wpAnyH_tk 5 37 ?_
                  refine wpAnyH_tk 6 38 ?_
                  refine wpAnyH_tk 7 39 ?_
                  refine wpAnyH_tk 8 40 ?_
                  refine wpAnyH_tk 9 41 ?_
                  refine wpAnyH_tk 10 42 ?_
                  refine wpAnyH_tk 11 43 ?_
                  refine wpAnyH_tk 12 44 ?_
                  refine wpAnyH_tk 13 45 ?_
                  refine wpAnyH_tk 14 46 ?_
                  refine wpAnyH_tk 15 47 ?_
                  refine wpAnyH_tk 16 48 ?_
                  refine wpAnyH_tk 17 49 ?_
                  refine wpAnyH_tk 18 50 ?_
                  refine wpAnyH_tk 19 51 ?_
                  refine wpAnyH_tk 20 52 ?_
                  refine wpAnyH_tk 21 53 ?_
                  refine wpAnyH_tk 22 54 ?_
                  refine wpAnyH_tk 23 55 ?_
                  refine wpAnyH_tk 24 56 ?_
                  refine wpAnyH_sk 25 57 ?_
                  refine wpAnyH_sk 26 58 ?_
                  refine wpAnyH_sk 27 59 ?_
                  refine wpAnyH_sk 28 60 ?_
                  refine wpAnyH_sk 29 61 ?_
                  refine wpAnyH_sk 30 62 ?_
                  refine wpAnyH_sk 32 64 ?_
                  refine wpAnyH_sk 33 65 ?_
                  refine wpAnyH_sk 31 63 ?_
                  refine wpAnyH_sk 34 66 ?_
                  refine wpAnyH_sk 35 67 ?_
                  refine wpAnyH_tk 36 68 ?_
                  refine wpAnyH_done (by kernel_rfl) ?_ _
                  refine NoPanic.normal ?_
                  clear hHeld
                  go_wp2
                  go_ret
                  exact ⟨by rw [HE.out]; rfl, HB2.out.trans ((HB2'.out.drew.trans (HB3.out.mono HBS.out)).mono HLB.out)⟩
                · have dj : ((j : Int) == 0) = false := by simp [hj0]
                  have HFN : Hid ((l.getD 0 (0, 0, ⟨#[]⟩)).1 ≠ 0) := HFS.out (by omega)
                  clear hk0 hj0
                  have k2 : (v.1 == 2) = false := by simp [hk2]
                  have HK2 := hide hk2
                  clear hk2
                  refine wp_region_noPanic ?_
                  refine wp_region_held_drew (S := fun wx => (wx.cell? ⟨g6, 0, none⟩ = some (.int .i64 v.1) ∧ wx.cell? ⟨g6, 1, none⟩ = some (.int .i64 v.2.1) ∧ wx.cell? ⟨g6, 2, none⟩ = some (.string v.2.2)) ∧ wx.cell? ⟨g7, 1, none⟩ = some (.int .i64 c.2.1) ∧ wx.cell? ⟨g7, 2, none⟩ = some (.int .i64 c.2.2)) (by kernel_rfl) HX.out (fun hHeld => ?_)
                  refine wpAnyH_tk 0 32 ?_
                  refine wpAnyH_cm 1 ?_; intro K hK
                  go_simp
                  refine HRT.out.mono ?_
                  rintro e w3 ⟨rfl, hb⟩
                  have HB3 : Hid (Below wc.drew.heap.size wc.drew w3) := hb
                  have H63 := hide ((hb.block g6 (blk_lt H62.out)).trans H62.out)
                  have H73 := hide ((hb.block g7 (blk_lt H72.out)).trans H72.out)
                  clear hb hHeld
                  refine hK.out _ _ ⟨⟨cell_blk H63.out, cell_blk H63.out, cell_blk H63.out⟩, cell_blk H73.out, cell_blk H73.out⟩ (fun hHeld => ?_)
                  clear hK K
                  try simp only [Act.put, List.setIfInBounds_toArray, List.set_cons_zero, List.set_cons_succ]
                  refine wpAnyH_tk 2 34 ?_
                  refine wpAnyH_tk 3 35 ?_
                  refine wpAnyH_tk 4 36 ?_
                  refine wpAnyH_tk 5 37 ?_
                  refine wpAnyH_tk 6 38 ?_
                  refine wpAnyH_tk 7 39 ?_
                  refine wpAnyH_tk 8 40 ?_
                  refine wpAnyH_tk 9 41 ?_
                  refine wpAnyH_tk 10 42 ?_
                  refine wpAnyH_tk 11 43 ?_
                  refine wpAnyH_tk 12 44 ?_
                  refine wpAnyH_tk 13 45 ?_
                  refine wpAnyH_tk 14 46 ?_
                  refine wpAnyH_tk 15 47 ?_
                  refine wpAnyH_tk 16 48 ?_
                  refine wpAnyH_tk 17 49 ?_
                  refine wpAnyH_tk 18 50 ?_
                  refine wpAnyH_sk 19 51 ?_
                  refine wpAnyH_sk 20 52 ?_
                  refine wpAnyH_sk 21 53 ?_
                  refine wpAnyH_tk 22 54 ?_
                  refine wpAnyH_tk 23 55 ?_
                  refine wpAnyH_tk 24 56 ?_
                  refine wpAnyH_tk 25 57 ?_
                  refine wpAnyH_tk 26 58 ?_
                  refine wpAnyH_tk 27 59 ?_
                  refine wpAnyH_tk 28 60 ?_
                  refine wpAnyH_sk 29 61 ?_
                  refine wpAnyH_sk 30 62 ?_
                  refine wpAnyH_sk 32 64 ?_
                  refine wpAnyH_sk 33 65 ?_
                  refine wpAnyH_sk 31 63 ?_
                  refine wpAnyH_sk 34 66 ?_
                  refine wpAnyH_tk 35 67 ?_
                  refine wpAnyH_tk 36 68 ?_
                  refine wpAnyH_done (by kernel_rfl) ?_ _
                  refine NoPanic.normal ?_
                  clear hHeld
                  have HG := hide ((show fitsB c v = true by unfold fitsB; rw [decide_eq_true H0.out, HZ.out H0.out HK2.out, decide_eq_true (show ((0 : Nat) : Int) ≤ c.2.2 by have := HMX.out; omega)]; simp [HKK.out]))
                  have hn3 := HC1.out.2
                  go_wp2
                  go_roundg (gk - 1)
                  case measure => omega
                  case rel => exact ⟨j + 1, by omega, by go_num, HNX.out.trans HG.out, fun _ => HFN.out, HB2'.out.drew.trans (HB3.out.mono HBS.out)⟩
              · have dn0 : (v.1 != 0) = true := by simp [hk0]
                refine wp_region_noPanic ?_
                refine wp_region_held_drew (S := fun wx => (wx.cell? ⟨g6, 0, none⟩ = some (.int .i64 v.1) ∧ wx.cell? ⟨g6, 1, none⟩ = some (.int .i64 v.2.1) ∧ wx.cell? ⟨g6, 2, none⟩ = some (.string v.2.2)) ∧ wx.cell? ⟨g7, 1, none⟩ = some (.int .i64 c.2.1) ∧ wx.cell? ⟨g7, 2, none⟩ = some (.int .i64 c.2.2)) (by kernel_rfl) HX.out (fun hHeld => ?_)
                refine wpAnyH_tk 0 32 ?_
                refine wpAnyH_cm 1 ?_; intro K hK
                go_simp
                refine HRT.out.mono ?_
                rintro e w3 ⟨rfl, hb⟩
                have HB3 : Hid (Below wc.drew.heap.size wc.drew w3) := hb
                have H63 := hide ((hb.block g6 (blk_lt H62.out)).trans H62.out)
                have H73 := hide ((hb.block g7 (blk_lt H72.out)).trans H72.out)
                clear hb hHeld
                refine hK.out _ _ ⟨⟨cell_blk H63.out, cell_blk H63.out, cell_blk H63.out⟩, cell_blk H73.out, cell_blk H73.out⟩ (fun hHeld => ?_)
                clear hK K
                try simp only [Act.put, List.setIfInBounds_toArray, List.set_cons_zero, List.set_cons_succ]
                refine wpAnyH_tk 2 34 ?_
                refine wpAnyH_tk 3 35 ?_
                refine wpAnyH_tk 4 36 ?_
                refine wpAnyH_tk 5 37 ?_
                refine wpAnyH_tk 6 38 ?_
                refine wpAnyH_tk 7 39 ?_
                refine wpAnyH_tk 8 40 ?_
                refine wpAnyH_tk 9 41 ?_
                refine wpAnyH_tk 10 42 ?_
                refine wpAnyH_tk 11 43 ?_
                refine wpAnyH_tk 12 44 ?_
                refine wpAnyH_tk 13 45 ?_
                refine wpAnyH_tk 14 46 ?_
                refine wpAnyH_tk 15 47 ?_
                refine wpAnyH_sk 16 48 ?_
                refine wpAnyH_sk 17 49 ?_
                refine wpAnyH_sk 18 50 ?_
                refine wpAnyH_sk 19 51 ?_
                refine wpAnyH_sk 20 52 ?_
                refine wpAnyH_sk 21 53 ?_
                refine wpAnyH_sk 22 54 ?_
                refine wpAnyH_tk 23 55 ?_
                refine wpAnyH_tk 24 56 ?_
                refine wpAnyH_sk 25 57 ?_
                refine wpAnyH_sk 26 58 ?_
                refine wpAnyH_sk 27 59 ?_
                refine wpAnyH_sk 28 60 ?_
                refine wpAnyH_sk 29 61 ?_
                refine wpAnyH_sk 30 62 ?_
                refine wpAnyH_sk 32 64 ?_
                refine wpAnyH_sk 33 65 ?_
                refine wpAnyH_sk 31 63 ?_
                refine wpAnyH_sk 34 66 ?_
                refine wpAnyH_sk 35 67 ?_
                refine wpAnyH_tk 36 68 ?_
                refine wpAnyH_done (by kernel_rfl) ?_ _
                refine NoPanic.normal ?_
                clear hHeld
                have HE := hide (HBAD.out (by unfold fitsB; rw [decide_eq_false hk1, decide_eq_false hk0]; simp))
                go_wp2
                go_ret
                exact ⟨by rw [HE.out]; rfl, HB2.out.trans ((HB2'.out.drew.trans (HB3.out.mono HBS.out)).mono HLB.out)⟩
          · have dz : (v.err != 0) = true := by simp [h0]
            refine wp_region_noPanic ?_
            refine wp_region_held_drew (S := fun wx => (wx.cell? ⟨g6, 0, none⟩ = some (.int .i64 v.1) ∧ wx.cell? ⟨g6, 1, none⟩ = some (.int .i64 v.2.1) ∧ wx.cell? ⟨g6, 2, none⟩ = some (.string v.2.2)) ∧ wx.cell? ⟨g7, 1, none⟩ = some (.int .i64 c.2.1) ∧ wx.cell? ⟨g7, 2, none⟩ = some (.int .i64 c.2.2)) (by kernel_rfl) HX.out (fun hHeld => ?_)
            refine wpAnyH_tk 0 32 ?_
            refine wpAnyH_cm 1 ?_; intro K hK
            go_simp
            refine HRT.out.mono ?_
            rintro e w3 ⟨rfl, hb⟩
            have HB3 : Hid (Below wc.drew.heap.size wc.drew w3) := hb
            have H63 := hide ((hb.block g6 (blk_lt H62.out)).trans H62.out)
            have H73 := hide ((hb.block g7 (blk_lt H72.out)).trans H72.out)
            clear hb hHeld
            refine hK.out _ _ ⟨⟨cell_blk H63.out, cell_blk H63.out, cell_blk H63.out⟩, cell_blk H73.out, cell_blk H73.out⟩ (fun hHeld => ?_)
            clear hK K
            try simp only [Act.put, List.setIfInBounds_toArray, List.set_cons_zero, List.set_cons_succ]
            refine wpAnyH_tk 2 34 ?_
            refine wpAnyH_tk 3 35 ?_
            refine wpAnyH_sk 4 36 ?_
            refine wpAnyH_sk 5 37 ?_
            refine wpAnyH_sk 6 38 ?_
            refine wpAnyH_sk 7 39 ?_
            refine wpAnyH_sk 8 40 ?_
            refine wpAnyH_sk 9 41 ?_
            refine wpAnyH_sk 10 42 ?_
            refine wpAnyH_sk 11 43 ?_
            refine wpAnyH_sk 12 44 ?_
            refine wpAnyH_sk 13 45 ?_
            refine wpAnyH_tk 14 46 ?_
            refine wpAnyH_tk 15 47 ?_
            refine wpAnyH_sk 16 48 ?_
            refine wpAnyH_sk 17 49 ?_
            refine wpAnyH_sk 18 50 ?_
            refine wpAnyH_sk 19 51 ?_
            refine wpAnyH_sk 20 52 ?_
            refine wpAnyH_sk 21 53 ?_
            refine wpAnyH_sk 22 54 ?_
            refine wpAnyH_tk 23 55 ?_
            refine wpAnyH_tk 24 56 ?_
            refine wpAnyH_sk 25 57 ?_
            refine wpAnyH_sk 26 58 ?_
            refine wpAnyH_sk 27 59 ?_
            refine wpAnyH_sk 28 60 ?_
            refine wpAnyH_sk 29 61 ?_
            refine wpAnyH_sk 30 62 ?_
            refine wpAnyH_sk 32 64 ?_
            refine wpAnyH_sk 33 65 ?_
            refine wpAnyH_sk 31 63 ?_
            refine wpAnyH_sk 34 66 ?_
            refine wpAnyH_sk 35 67 ?_
            refine wpAnyH_tk 36 68 ?_
            refine wpAnyH_done (by kernel_rfl) ?_ _
            refine NoPanic.normal ?_
            clear hHeld
            have HE := hide (HBAD.out (by unfold fitsB; rw [decide_eq_false h0]; rfl))
            go_wp2
            go_ret
            exact ⟨by rw [HE.out]; rfl, HB2.out.trans ((HB2'.out.drew.trans (HB3.out.mono HBS.out)).mono HLB.out)⟩
      · have xj : ¬ (j : Int) < (n : Int) := by omega
        have HE : Hid (s.fits l = 0) := by
          have h9 := HY.out
          rw [show j = n by omega] at h9
          show _ = _
          rw [HE0.out, if_neg (HFS.out (by have := HC1.out; omega)), if_pos h9]
        go_wp2
        go_ret
        exact ⟨by rw [HE.out]; rfl, HB2.out.trans (HBR.out.mono HLB.out)⟩
  · have HE : Hid (s.fits l = 62) := by show _ = _; rw [HE0.out, if_pos hln]
    have dn : ((n : Int) != (cl : Int)) = true := by simp; omega
    go_wp2
    go_ret
    exact ⟨by rw [HE.out]; rfl, HB2.out⟩
end Go.Proofs.Ytcophbkgighepaa
