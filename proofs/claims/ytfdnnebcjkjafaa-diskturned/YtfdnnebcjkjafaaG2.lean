/- The walk of the law DiskFlushed: whatever row of acts, it returns true and writes nothing that was there. -/
import Derived.Test.YtfdnnebcjkjafaaG1
set_option linter.unusedVariables false
namespace Go.Proofs.Ytfdnnebcjkjafaa
open Go.RowKit

theorem Fr.set_new {B g o : Nat} {w wr : World} {u : Value} (f : Fr B w wr) (hB : B ≤ g) (hg : w.heap.size ≤ g) : Fr B w (wr.setCell ⟨g, o, none⟩ u) := by
  refine ⟨f.bel.setCell hB u, fun k cs t fz e n1 n2 n3 n4 => ?_⟩
  have := (Array.getElem?_eq_some_iff.1 e).1
  rw [heap_setCell_other _ _ _ _ (by show k ≠ g; omega)]
  exact f.stay k cs t fz e n1 n2 n3 n4
theorem DI.other {B p g o : Nat} {s : DS} {w : World} {cs : Array Value} {t : TypeId} {u : Value} (h : DI B p s w) (hg : w.heap[g]? = some (.cells cs t (0, 0))) (n1 : t ≠ 69) (n2 : t ≠ 73) (n3 : t ≠ 76) (n4 : t ≠ 3) (n5 : t ≠ 5) : DI B p s (w.setCell ⟨g, o, none⟩ u) := by
  obtain ⟨gb, vo, kv, ov, wv, h⟩ := h
  have st : ∀ (k : Nat) (cs' : Array Value) (t' : TypeId), w.heap[k]? = some (Obj.cells cs' t' (0, 0)) → t ≠ t' → (w.setCell ⟨g, o, none⟩ u).heap[k]? = some (Obj.cells cs' t' (0, 0)) := by
    intro k cs' t' e ht
    rw [heap_setCell_other _ _ _ _ ?_, e]
    show k ≠ g
    intro e2
    subst e2
    rw [hg] at e
    simp only [Option.some.injEq, Obj.cells.injEq] at e
    exact ht e.2.1
  exact ⟨gb, vo, kv, ov, wv, ⟨st p _ _ h.hp n1, st gb _ _ h.hg n2, own_stay h.hw fun k cs' _ e => st k cs' _ e n3, fun i hi => own_stay (h.hk i hi) fun k cs' _ e => st k cs' _ e n5, fun i hi => own_stay (h.hb i hi) fun k cs' _ e => st k cs' _ e n5, fun i hi => own_stay (h.ho i hi) fun k cs' _ e => st k cs' _ e n4, h.ha, h.pB, h.gB, h.ok⟩⟩

def kst (ks : Nat → ByteArray) : Array Value := #[.string (ks 0), .string (ks 1), .string (ks 2), .string (ks 3)]
theorem kst_get (ks : Nat → ByteArray) {j : Nat} (h : j < 4) : (kst ks)[j]? = some (.string (ks j)) := by
  have : j = 0 ∨ j = 1 ∨ j = 2 ∨ j = 3 := by omega
  rcases this with rfl | rfl | rfl | rfl <;> rfl
theorem kst_set (ks : Nat → ByteArray) {j : Nat} (h : j < 4) (t : ByteArray) : (kst ks).setIfInBounds j (.string t) = kst (updS ks j t) := by
  have : j = 0 ∨ j = 1 ∨ j = 2 ∨ j = 3 := by omega
  rcases this with rfl | rfl | rfl | rfl <;> simp [kst, updS]
theorem conv_run (s : ByteArray) (w : World) (h : s.size ≤ 1000) : ∃ cap w', (convert 9 29 (.string s)).run Try.prog w = .ok (.slice (some ⟨w.heap.size, 0, none⟩) s.size cap) w' ∧ Below w.heap.size w w' ∧ ∀ B ww, Fr B w' ww → BS ww (some ⟨w.heap.size, 0, none⟩) s.size cap (sl s) := by
  refine ⟨_, _, run_bytes_of_string w 9 29 5 s Try.underlying9 Try.underlying29 Try.underlying5, (Below.refl _ _).drew.alloc (Nat.le_refl _) _, ?_⟩
  intro B ww f
  have hge := grownCap_ge w s.size 0 5
  have hle := grownCap_le_maxLen w s.size 0 5 (by unfold maxLen; omega)
  unfold maxLen at hle
  exact conv_bs (f.stay _ _ _ _ (heap_alloc_new w.drew _) (by decide) (by decide) (by decide) (by decide)) hge (by omega) (by omega)
set_option maxRecDepth 100000 in
set_option maxHeartbeats 8000000 in
theorem diskFlushed_walk (a0 : Option Addr) (len cap : Nat) (q : Nat → AV) (w : World) (h0 : AS w a0 len q) :
    Calls Try.prog 5 #[.slice a0 len cap] w fun e w' => e = .returned (.bool true) ∧ Below w.heap.size w w' := by
  have HB0 : Hid (w.heap.size ≤ w.heap.size) := Nat.le_refl _
  have H0 := hide h0
  have hlen := h0.hl
  clear h0
  go_enter Try.func5, Try.ntmps5
  go_wp2_with fail
  refine (new_any w.heap.size 4 w (by omega) (by omega) HB0.out).mono ?_
  rintro e w1 ⟨p, rfl, hD1, hb1⟩
  have HD1 := hide hD1
  have HF1 := hide (Fr.of hb1 HB0.out)
  clear hD1 hb1
  go_wp2_with fail
  have HK1 : Hid ((w1.alloc (.cells #[.string ⟨#[]⟩, .string ⟨#[]⟩, .string ⟨#[]⟩, .string ⟨#[]⟩] 53)).heap[w1.heap.size]? = some (.cells (kst fun _ => ⟨#[]⟩) 53 (0, 0))) := heap_alloc_new w1 _
  have HBX := hide (below_box w1 (.cells #[.string ⟨#[]⟩, .string ⟨#[]⟩, .string ⟨#[]⟩, .string ⟨#[]⟩] 53))
  have HD2 := hide (HD1.out.later HBX.out)
  have HF2 := hide (HF1.out.trans (Fr.of HBX.out HF1.out.bel.size))
  have HGK : Hid (w.heap.size ≤ w1.heap.size) := HF1.out.bel.size
  clear HD1 HF1 HBX
  generalize hgk : w1.heap.size = gk at *
  clear hgk
  generalize w1.alloc (.cells #[.string ⟨#[]⟩, .string ⟨#[]⟩, .string ⟨#[]⟩, .string ⟨#[]⟩] 53) = w2 at *
  go_wp2_with fail
  go_loopw [6] (fun i wr => ∃ (k : Nat) (s : DS) (ks : Nat → ByteArray), k ≤ len ∧ k ≤ 30 ∧ i = .int .i64 k ∧ DI w.heap.size p s wr ∧ Fr w.heap.size w wr ∧ FlS s k ks ∧ wr.heap[gk]? = some (.cells (kst ks) 53 (0, 0))) (fun i _ => 30 - (intOf i).toNat)
  case atStart => exact ⟨0, _, _, by omega, by omega, rfl, HD2.out, HF2.out, fl_start, HK1.out⟩
  case round =>
    obtain ⟨k, s, ks, hk1, hk2, rfl, hD, hF, hS, hK⟩ := hrel
    have HD := hide hD
    have HF := hide hF
    have HS := hide hS
    have HK := hide hK
    clear hD hF hS hK HD2 HF2 HK1
    by_cases h1 : k < len
    · by_cases h2 : k < 30
      · obtain ⟨b, o, rfl, hall⟩ := H0.out.place (by omega)
        obtain ⟨hac, hok⟩ := hall k h1
        generalize q k = v at hac hok
        obtain ⟨kind, at_, bit, va, vl, vc, xs, after, keep, torn, cut⟩ := v
        have hac' : AC wr b (o + k * 8) _ := ⟨(HF.out.bel.cell (cell_lt hac.c0)).trans hac.c0, (HF.out.bel.cell (cell_lt hac.c1)).trans hac.c1, (HF.out.bel.cell (cell_lt hac.c2)).trans hac.c2, (HF.out.bel.cell (cell_lt hac.c3)).trans hac.c3, (HF.out.bel.cell (cell_lt hac.c4)).trans hac.c4, (HF.out.bel.cell (cell_lt hac.c5)).trans hac.c5, (HF.out.bel.cell (cell_lt hac.c6)).trans hac.c6, (HF.out.bel.cell (cell_lt hac.c7)).trans hac.c7⟩
        have r0 := hac'.c0
        have r1 := hac'.c1
        have r2 := hac'.c2
        have r3 := hac'.c3
        have r4 := hac'.c4
        have r5 := hac'.c5
        have r6 := hac'.c6
        have r7 := hac'.c7
        simp only at r0 r1 r2 r3 r4 r5 r6 r7
        have vlc : vl ≤ vc := hok.lc
        have vcm : vc ≤ 9223372036854775807 := hok.cm
        have HBS : Hid (BS w va (min vl 40) vc xs) := hok.bs
        have HKP : Hid (keep < 18446744073709551616) := hok.keep
        obtain ⟨m, hm⟩ : ∃ m, m = min vl 40 := ⟨_, rfl⟩
        have e0 : (if (40 : Int) < (vl : Int) then (40 : Int) else (vl : Int)) = (m : Int) := by split <;> omega
        have m40 : m ≤ 40 := by omega
        have mvc : (m : Int) ≤ (vc : Int) := by omega
        have m0 : (0 : Int) ≤ (m : Int) := by omega
        rw [← hm] at HBS
        have i1 : (0 : Int) ≤ (k : Int) := by omega
        have i2 : (k : Int) < (len : Int) := by omega
        have i3 : (k : Int) < 30 := by omega
        obtain ⟨aa, haa⟩ : ∃ aa : Nat, at_ % 4 = (aa : Int) := ⟨(at_ % 4).toNat, by omega⟩
        have aa4 : aa < 4 := by omega
        have hmask : bits BinOp.and IntKind.i64 at_ 3 = (aa : Int) := by rw [i64_and3]; exact haa
        have HB3 := hide (below_box wr (.cells #[.int .i64 kind, .int .i64 at_, .int .i64 bit, .slice va vl vc, .int .i64 after, .int .u64 (keep : Int), .int .i64 torn, .int .i64 cut] 34))
        have HBW := hide (Nat.le_trans HB0.out HF.out.bel.size)
        have HF3 := hide (HF.out.trans (Fr.of HB3.out HBW.out))
        have HD3 := hide (HD.out.later HB3.out)
        have tx := run_text (HBS.out.later HF3.out.bel (Nat.le_refl _))
        have hst : (str xs).size ≤ 40 := by rw [str_size, HBS.out.hlen]; exact m40
        have HST := hide hst
        generalize str xs = st at *
        obtain ⟨cp, w4, hconv, hb4, hbs4⟩ := conv_run st (wr.alloc (.cells #[.int .i64 kind, .int .i64 at_, .int .i64 bit, .slice va vl vc, .int .i64 after, .int .u64 (keep : Int), .int .i64 torn, .int .i64 cut] 34)) (by omega)
        have hsz : (wr.alloc (.cells #[.int .i64 kind, .int .i64 at_, .int .i64 bit, .slice va vl vc, .int .i64 after, .int .u64 (keep : Int), .int .i64 torn, .int .i64 cut] 34)).heap.size = wr.heap.size + 1 := by simp
        rw [hsz] at hconv hbs4
        have HB4 := hide hb4
        have HBS4 := hide hbs4
        clear hsz
        have HD4 := hide (HD3.out.later HB4.out)
        have HF4 := hide (HF3.out.trans (Fr.of HB4.out (Nat.le_trans HBW.out HB3.out.size)))
        have HW := hide (fl_write HS.out aa4 HST.out (by omega))
        have HS1 := hide (And.intro HS.out.dn (And.intro HS.out.n4 (And.intro HS.out.af (And.intro HS.out.lk HS.out.m0))))
        have haw : ∀ i, w4.cell? ⟨wr.heap.size, i, none⟩ = (#[Value.int .i64 kind, .int .i64 at_, .int .i64 bit, .slice va vl vc, .int .i64 after, .int .u64 (keep : Int), .int .i64 torn, .int .i64 cut] : Array Value)[i]? := fun i => by
          rw [HB4.out.cell (by simp), World.cell?_alloc_at _ _ _ _ rfl]
        have HAW := hide haw
        clear hall hac hac' hok haa hm hst hb4 hbs4 haw
        go_wp2_with fail
        refine (write_ok w.heap.size p s aa (some ⟨wr.heap.size + 1, 0, none⟩) st.size cp (sl st) w4 HD4.out HF4.out.bel.size HS1.out.1 (by rw [HS1.out.2.1]; exact aa4) (by rw [HS1.out.2.2.1]; omega) (by have := HS1.out.2.2.2.1; omega) (by rw [HS1.out.2.2.2.2]; omega) (by rw [sl_len]; unfold blk; have := HST.out; omega) (sl_lt st) (sl_len st) (fun ww f => HBS4.out _ ww f)).mono ?_
        rintro e w5 ⟨rfl, hD, hF⟩
        have HD5 := hide hD
        have HF45 := hide hF
        have HF5 := hide (HF4.out.trans hF)
        clear hD hF hconv
        go_wp2_with fail
        refine (flush_any w.heap.size p _ w5 HD5.out HF5.out.bel.size HW.out.2.2).mono ?_
        rintro e w6 ⟨rfl, hD, hF⟩
        rw [HW.out.2.1]
        have HD6 := hide hD
        have HF46 := hide (HF45.out.trans hF)
        have HF6 := hide (HF5.out.trans hF)
        have HS6 := hide HW.out.1
        clear hD hF HD5 HF5 HF45
        generalize (s.tick.wrote aa (sl st)).flush = s6 at HD6 HS6
        have hgl : gk < wr.heap.size := (Array.getElem?_eq_some_iff.1 HK.out).1
        have hK3 := (HB3.out.block gk hgl).trans HK.out
        have hK4 := (HB4.out.block gk (Array.getElem?_eq_some_iff.1 hK3).1).trans hK3
        have HK6 := hide (HF46.out.stay gk _ _ _ hK4 (by decide) (by decide) (by decide) (by decide))
        have HBL : Hid (w4.heap[wr.heap.size]? = some (.cells #[.int .i64 kind, .int .i64 at_, .int .i64 bit, .slice va vl vc, .int .i64 after, .int .u64 (keep : Int), .int .i64 torn, .int .i64 cut] 34 (0, 0))) := (HB4.out.block wr.heap.size (by simp)).trans (heap_alloc_new wr _)
        have HBL6 := hide (HF46.out.stay _ _ _ _ HBL.out (by decide) (by decide) (by decide) (by decide))
        have g1 : w6.cell? ⟨wr.heap.size, 1, none⟩ = some (.int .i64 at_) := cell_blk HBL6.out
        have kc : w6.cell? ⟨gk, aa, none⟩ = some (.string (ks aa)) := by rw [cell_blk HK6.out]; exact kst_get ks aa4
        have kf : w6.frozen? ⟨gk, aa, none⟩ = false := frz_blk HK6.out
        have HK7 : Hid ((w6.setCell ⟨gk, aa, none⟩ (.string st)).heap[gk]? = some (.cells (kst (updS ks aa st)) 53 (0, 0))) := by
          show _ = _
          rw [heap_setCell_same w6 gk aa _ _ (.string st) HK6.out, kst_set ks aa4 st]
        have HD7 := hide (HD6.out.other (o := aa) (u := .string st) HK6.out (by decide) (by decide) (by decide) (by decide) (by decide))
        have HF7 := hide (HF6.out.set_new (o := aa) (u := .string st) HGK.out HGK.out)
        have HBL7 := hide ((heap_setCell_other w6 ⟨gk, aa, none⟩ wr.heap.size (.string st) (by show wr.heap.size ≠ gk; omega)).trans HBL6.out)
        have x4 : (w6.setCell ⟨gk, aa, none⟩ (.string st)).cell? ⟨wr.heap.size, 4, none⟩ = some (.int .i64 after) := cell_blk HBL7.out
        have x5 : (w6.setCell ⟨gk, aa, none⟩ (.string st)).cell? ⟨wr.heap.size, 5, none⟩ = some (.int .u64 (keep : Int)) := cell_blk HBL7.out
        have x6 : (w6.setCell ⟨gk, aa, none⟩ (.string st)).cell? ⟨wr.heap.size, 6, none⟩ = some (.int .i64 torn) := cell_blk HBL7.out
        have x7 : (w6.setCell ⟨gk, aa, none⟩ (.string st)).cell? ⟨wr.heap.size, 7, none⟩ = some (.int .i64 cut) := cell_blk HBL7.out
        have j1 : (0 : Int) ≤ (aa : Int) := by omega
        have j2 : (aa : Int) < 4 := by omega
        have HSZ7 : Hid (w.heap.size ≤ (w6.setCell ⟨gk, aa, none⟩ (.string st)).heap.size) := HF7.out.bel.size
        have HL6 := hide HS6.out.lk
        clear r0 r1 r2 r3 r4 r5 r6 r7 hK3 hK4 tx HBL HBL6
        go_wp2_with fail
        refine (cut_any w.heap.size p s6 after keep torn cut _ HD7.out HSZ7.out HKP.out (by have := HL6.out; omega)).mono ?_
        rintro e w8 ⟨rfl, hD, hF⟩
        have HD8 := hide hD
        have HF8 := hide (HF7.out.trans hF)
        have HK8 := hide (hF.stay gk _ _ _ HK7.out (by decide) (by decide) (by decide) (by decide))
        clear hD hF HD7 HF7 x4 x5 x6 x7 g1 kc kf
        go_wp2_with fail
        refine (restart_any w.heap.size p _ w8 HD8.out HF8.out.bel.size).mono ?_
        rintro e w9 ⟨rfl, hD, hF⟩
        have HD9 := hide hD
        have HF9 := hide (HF8.out.trans hF)
        have HK9 := hide (hF.stay gk _ _ _ HK8.out (by decide) (by decide) (by decide) (by decide))
        have HS9 := hide (fl_cut HS6.out keep torn cut)
        clear hD hF HD8 HF8 HK8
        generalize (s6.cutS keep torn cut).restart = s9 at HD9 HS9
        generalize updS ks aa st = kz at *
        go_wp2_with fail
        go_loopw [9] (fun i wx => ∃ j : Nat, j ≤ 4 ∧ i = .int .i64 j ∧ DI w.heap.size p s9 wx ∧ Fr w.heap.size w wx ∧ wx.heap[gk]? = some (.cells (kst kz) 53 (0, 0))) (fun i _ => 4 - (intOf i).toNat)
        case atStart => exact ⟨0, by omega, rfl, HD9.out, HF9.out, HK9.out⟩
        case round =>
          obtain ⟨j, hj, rfl, hD, hF, hK⟩ := hrel
          have HDx := hide hD
          have HFx := hide hF
          have HKx := hide hK
          clear hD hF hK HD9 HF9 HK9
          by_cases h4 : j < 4
          · have j0 : (0 : Int) ≤ (j : Int) := by omega
            have j3 : (j : Int) < 4 := by omega
            go_wp2_with fail
            refine (read_ok w.heap.size p s9 j wr HDx.out HFx.out.bel.size HS9.out.dn (by rw [HS9.out.n4]; exact h4)).mono ?_
            rintro e wy ⟨g, rfl, ho, hb⟩
            rw [fl_show HS9.out h4] at ho
            have HDy := hide (HDx.out.later hb)
            have HFy := hide (HFx.out.trans (Fr.of hb HFx.out.bel.size))
            have HKy := hide ((hb.block gk (Array.getElem?_eq_some_iff.1 HKx.out).1).trans HKx.out)
            have ky : wy.cell? ⟨gk, j, none⟩ = some (.string (kz j)) := by rw [cell_blk HKy.out]; exact kst_get kz h4
            have tz := HS9.out.sz j h4
            generalize kz j = t at ho ky tz
            have HN8 : Hid (blk = 8192) := rfl
            have cz : wy.cell? ⟨g, t.size, none⟩ = some (.int .u8 0) := by
              rw [ho.cellAt t.size (by rw [HN8.out]; omega), cellsOf_get _ _ (by rw [pad_len (by rw [sl_len, HN8.out]; omega), HN8.out]; omega)]
              have := pad_end (xs := sl t) (by rw [sl_len, HN8.out]; omega)
              rw [sl_len] at this
              rw [this]
              rfl
            have HBSy := hide (BS.ofOwns ho (by rw [HN8.out]; omega) (pad_lt (sl_lt t)))
            have ty : ∀ n, (convert 29 9 (.slice (some ⟨g, 0, none⟩) t.size blk)).run Try.prog (wy.drewN n) = .ok (.string t) (wy.drewN n) := fun n => by
              have h1 := run_text (bs_take (HBSy.out.later (below_drewN (Below.refl wy.heap.size wy) n) (Nat.le_refl _)) t.size (by rw [HN8.out]; omega))
              have h2 : (pad (sl t)).take t.size = sl t := by have := pad_take (sl t); rwa [sl_len] at this
              rw [h2, str_sl] at h1
              exact h1
            have b8 : ((blk : Nat) : Int) = 8192 := rfl
            have n64 : ¬ ((blk : Nat) : Int) < 64 := by rw [b8]; omega
            have t0 : (0 : Int) ≤ (t.size : Int) := by omega
            have t1 : (t.size : Int) ≤ ((blk : Nat) : Int) := by rw [b8]; omega
            have t2 : (t.size : Int) < ((blk : Nat) : Int) := by rw [b8]; omega
            clear ho hb HBSy HN8
            have HB8 := hide b8
            clear b8
            generalize blk = N at *
            go_wp2_with fail
            go_quiet (fail)
            go_wp2
            go_roundw
            case rel => exact ⟨j + 1, by omega, by go_num, HDy.out.later (below_drewN (Below.refl _ _) _), HFy.out.trans (Fr.of (below_drewN (Below.refl _ _) _) HFy.out.bel.size), HKy.out⟩
            case measure => simp [intOf]; omega
          · have j3 : ¬ (j : Int) < 4 := by omega
            go_wp2
            go_roundw
            case rel => exact ⟨k + 1, s9, kz, by omega, by omega, by go_num, HDx.out, HFx.out, HS9.out, HKx.out⟩
            case measure => simp [intOf]; omega
      · have i2 : (k : Int) < (len : Int) := by omega
        have i3 : ¬ (k : Int) < 30 := by omega
        go_wp2_with fail
        refine (told_any _).mono ?_
        rintro e w9 ⟨rfl, hb9⟩
        have HB9 := hide (HF.out.bel.trans (hb9.mono HF.out.bel.size))
        clear hb9
        go_wp2
        go_ret
        exact ⟨rfl, HB9.out⟩
    · have i2 : ¬ (k : Int) < (len : Int) := by omega
      go_wp2_with fail
      refine (told_any _).mono ?_
      rintro e w9 ⟨rfl, hb9⟩
      have HB9 := hide (HF.out.bel.trans (hb9.mono HF.out.bel.size))
      clear hb9
      go_wp2
      go_ret
      exact ⟨rfl, HB9.out⟩
end Go.Proofs.Ytfdnnebcjkjafaa
