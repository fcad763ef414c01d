/- The walk of the law DiskKeeps: whatever row of acts and whatever loss, it returns true and writes nothing that was there. -/
import Derived.Test.YtfdnnebcjkjafaaH3
set_option linter.unusedVariables false
namespace Go.Proofs.Ytfdnnebcjkjafaa
open Go.RowKit

theorem info_str : (Try.prog.info? 9).map (fun i => (i.zero, i.size, i.bytes)) = some (some (.string ⟨#[]⟩), 1, 16) := by kernel_rfl
def ksF (ks : Nat → ByteArray) (op : Nat → List ByteArray) (j : Nat) : Nat → ByteArray := fun i => if i < j then lastK ks op i else ks i
def osF (os : Nat → Value) (j : Nat) : Nat → Value := fun i => if i < j then .slice none 0 0 else os i
def opF (op : Nat → List ByteArray) (j : Nat) : Nat → List ByteArray := fun i => if i < j then [] else op i
theorem ksF_step (ks : Nat → ByteArray) (op : Nat → List ByteArray) (j : Nat) : updS (ksF ks op j) j (lastK ks op j) = ksF ks op (j + 1) := by
  funext i
  unfold updS ksF
  by_cases e : i = j
  · subst e; rw [if_pos rfl, if_pos (by omega)]
  · rw [if_neg e]
    by_cases h : i < j
    · rw [if_pos h, if_pos (by omega)]
    · rw [if_neg h, if_neg (by omega)]
theorem ksF_skip (ks : Nat → ByteArray) (op : Nat → List ByteArray) (j : Nat) (h : op j = []) : ksF ks op (j + 1) = ksF ks op j := by
  funext i
  unfold ksF
  by_cases e : i = j
  · subst e
    rw [if_pos (by omega), if_neg (by omega)]
    unfold lastK
    rw [h]
    rfl
  · by_cases h : i < j
    · rw [if_pos h, if_pos (by omega)]
    · rw [if_neg h, if_neg (by omega)]
theorem osF_step (os : Nat → Value) (j : Nat) : upd (osF os j) j (.slice none 0 0) = osF os (j + 1) := by
  funext i
  unfold upd osF
  by_cases e : i = j
  · subst e; rw [if_pos rfl, if_pos (by omega)]
  · rw [if_neg e]
    by_cases h : i < j
    · rw [if_pos h, if_pos (by omega)]
    · rw [if_neg h, if_neg (by omega)]
theorem opF_step (op : Nat → List ByteArray) (j : Nat) : updL (opF op j) j [] = opF op (j + 1) := by
  funext i
  unfold updL opF
  by_cases e : i = j
  · subst e; rw [if_pos rfl, if_pos (by omega)]
  · rw [if_neg e]
    by_cases h : i < j
    · rw [if_pos h, if_pos (by omega)]
    · rw [if_neg h, if_neg (by omega)]
theorem ks_ext {s : DS} {k : Nat} {ks ks' : Nat → ByteArray} {op op' : Nat → List ByteArray} (h : KS s k ks op) (e1 : ∀ j, j < 4 → ks' j = ks j) (e2 : ∀ j, j < 4 → op' j = op j) : KS s k ks' op' :=
  ⟨h.n4, h.dn, h.af, h.l0, h.mle, fun j hj => by rw [e1 j hj]; exact h.kp j hj, fun j hj => by rw [e2 j hj]; exact h.ow j hj⟩

set_option maxRecDepth 100000 in
set_option maxHeartbeats 8000000 in
theorem diskKeeps_walk (a0 : Option Addr) (len cap : Nat) (q : Nat → AV) (after : Int) (keep : Nat) (torn cut : Int) (w : World) (h0 : AS w a0 len q) (hkp : keep < 18446744073709551616) :
    Calls Try.prog 4 #[.slice a0 len cap, .agg #[.int .i64 after, .int .u64 (keep : Int), .int .i64 torn, .int .i64 cut]] w fun e w' => e = .returned (.bool true) ∧ Below w.heap.size w w' := by
  have H0 := hide h0
  have hlen := h0.hl
  have HKEEP := hide hkp
  have HBL := hide (below_box w (.cells #[.int .i64 after, .int .u64 (keep : Int), .int .i64 torn, .int .i64 cut] 32))
  have HLL : Hid ((w.alloc (.cells #[.int .i64 after, .int .u64 (keep : Int), .int .i64 torn, .int .i64 cut] 32)).heap[w.heap.size]? = some (.cells #[.int .i64 after, .int .u64 (keep : Int), .int .i64 torn, .int .i64 cut] 32 (0, 0))) := heap_alloc_new w _
  clear h0 hkp
  go_enter Try.func4, Try.ntmps4
  go_wp2_with fail
  refine (new_any w.heap.size 4 _ (by omega) (by omega) HBL.out.size).mono ?_
  rintro e w1 ⟨p, rfl, hD1, hb1⟩
  have HD1 := hide hD1
  have HB1 := hide hb1
  have HF1 := hide ((Fr.of HBL.out (Nat.le_refl _)).trans (Fr.of hb1 HBL.out.size))
  have HL1 := hide ((hb1.block w.heap.size (Array.getElem?_eq_some_iff.1 HLL.out).1).trans HLL.out)
  clear hD1 hb1 HLL HBL HB1
  go_wp2_with fail
  have HKW : Hid (KW w.heap.size p w1.heap.size (w1.heap.size + 1) w.heap.size (fun _ => ⟨#[]⟩) (fun _ => .slice none 0 0) (fun _ => []) (DS.new 4) #[.int .i64 after, .int .u64 (keep : Int), .int .i64 torn, .int .i64 cut] w ((w1.alloc (.cells #[.string ⟨#[]⟩, .string ⟨#[]⟩, .string ⟨#[]⟩, .string ⟨#[]⟩] 53)).alloc (.cells #[.slice none 0 0, .slice none 0 0, .slice none 0 0, .slice none 0 0] 55))) := by
    have b1 := below_box w1 (.cells #[.string ⟨#[]⟩, .string ⟨#[]⟩, .string ⟨#[]⟩, .string ⟨#[]⟩] 53)
    have b2 := below_box (w1.alloc (.cells #[.string ⟨#[]⟩, .string ⟨#[]⟩, .string ⟨#[]⟩, .string ⟨#[]⟩] 53)) (.cells #[.slice none 0 0, .slice none 0 0, .slice none 0 0, .slice none 0 0] 55)
    have b12 := b1.trans (b2.mono b1.size)
    have hs : (w1.alloc (.cells #[.string ⟨#[]⟩, .string ⟨#[]⟩, .string ⟨#[]⟩, .string ⟨#[]⟩] 53)).heap.size = w1.heap.size + 1 := by simp
    have n1 := heap_alloc_new w1 (.cells #[.string ⟨#[]⟩, .string ⟨#[]⟩, .string ⟨#[]⟩, .string ⟨#[]⟩] 53)
    have n2 := heap_alloc_new (w1.alloc (.cells #[.string ⟨#[]⟩, .string ⟨#[]⟩, .string ⟨#[]⟩, .string ⟨#[]⟩] 53)) (.cells #[.slice none 0 0, .slice none 0 0, .slice none 0 0, .slice none 0 0] 55)
    rw [hs] at n2
    have hsz := HF1.out.bel.size
    exact ⟨HD1.out.later b12, HF1.out.trans (Fr.of b12 HF1.out.bel.size), (b2.block _ (by rw [hs]; omega)).trans n1, n2, (b12.block _ (Array.getElem?_eq_some_iff.1 HL1.out).1).trans HL1.out, fun _ _ => World.ownsRow_nil _ _ _ _, (fun _ _ _ _ _ _ h => by cases h), hsz, by omega, rfl⟩
  clear HD1 HF1 HL1
  generalize hgo : w1.heap.size + 1 = go at *
  clear hgo
  generalize hgk : w1.heap.size = gk at *
  clear hgk
  generalize (w1.alloc (.cells #[.string ⟨#[]⟩, .string ⟨#[]⟩, .string ⟨#[]⟩, .string ⟨#[]⟩] 53)).alloc (.cells #[.slice none 0 0, .slice none 0 0, .slice none 0 0, .slice none 0 0] 55) = w2 at *
  go_loopw [9] (fun i wr => ∃ (k : Nat) (s : DS) (ks : Nat → ByteArray) (os : Nat → Value) (op : Nat → List ByteArray), k ≤ len ∧ k ≤ 30 ∧ i = .int .i64 k ∧ KW w.heap.size p gk go w.heap.size ks os op s #[.int .i64 after, .int .u64 (keep : Int), .int .i64 torn, .int .i64 cut] w wr ∧ KS s k ks op) (fun i _ => 30 - (intOf i).toNat)
  case atStart => exact ⟨0, _, _, _, _, by omega, by omega, rfl, HKW.out, ks_start⟩
  case round =>
    obtain ⟨k, s, ks, os, op, hk1, hk2, rfl, hW, hS⟩ := hrel
    have HW := hide hW
    have HS := hide hS
    clear hW hS HKW
    by_cases h1 : k < len
    · by_cases h2 : k < 30
      · obtain ⟨b, o, rfl, hall⟩ := H0.out.place (by omega)
        obtain ⟨hac, hok⟩ := hall k h1
        generalize q k = v at hac hok
        obtain ⟨kind, at_, bit, va, vl, vc, xs, af2, kp2, to2, cu2⟩ := v
        have hbe := HW.out.fr.bel
        have r0 := (hbe.cell (cell_lt hac.c0)).trans hac.c0
        have r1 := (hbe.cell (cell_lt hac.c1)).trans hac.c1
        have r2 := (hbe.cell (cell_lt hac.c2)).trans hac.c2
        have r3 := (hbe.cell (cell_lt hac.c3)).trans hac.c3
        have r4 := (hbe.cell (cell_lt hac.c4)).trans hac.c4
        have r5 := (hbe.cell (cell_lt hac.c5)).trans hac.c5
        have r6 := (hbe.cell (cell_lt hac.c6)).trans hac.c6
        have r7 := (hbe.cell (cell_lt hac.c7)).trans hac.c7
        simp only at r0 r1 r2 r3 r4 r5 r6 r7
        have vlc : vl ≤ vc := hok.lc
        have vcm : vc ≤ 9223372036854775807 := hok.cm
        have HBS : Hid (BS w va (min vl 40) vc xs) := hok.bs
        obtain ⟨m, hm⟩ : ∃ m, m = min vl 40 := ⟨_, rfl⟩
        have e0 : (if (40 : Int) < (vl : Int) then (40 : Int) else (vl : Int)) = (m : Int) := by split <;> omega
        have m40 : m ≤ 40 := by omega
        have mvc : (m : Int) ≤ (vc : Int) := by omega
        have m0 : (0 : Int) ≤ (m : Int) := by omega
        rw [← hm] at HBS
        have i1 : (0 : Int) ≤ (k : Int) := by omega
        have i2 : (k : Int) < (len : Int) := by omega
        have i3 : (k : Int) < 30 := by omega
        have HB3 := hide (below_box wr (.cells #[.int .i64 kind, .int .i64 at_, .int .i64 bit, .slice va vl vc, .int .i64 af2, .int .u64 (kp2 : Int), .int .i64 to2, .int .i64 cu2] 34))
        have HW3 := hide (HW.out.later HB3.out)
        clear hall hac hok hm hbe
        by_cases hkind : kind = 1
        · have hk1 : (kind == 1) = true := by simp [hkind]
          clear hkind HBS
          go_wp2_with fail
          refine (flush_any w.heap.size p s _ HW3.out.di HW3.out.size (by rw [HS.out.l0]; omega)).mono ?_
          rintro e w4 ⟨rfl, hD, hF⟩
          rw [(ks_flush HS.out).2]
          have HW4 := hide (HW3.out.call hD hF)
          have HS4 := hide (ks_flush HS.out).1
          clear hD hF HW HW3 HB3
          generalize s.flush = s4 at HW4 HS4
          go_wp2_with fail
          go_loopw [11] (fun i wx => ∃ j : Nat, j ≤ 4 ∧ i = .int .i64 j ∧ KW w.heap.size p gk go w.heap.size (ksF ks op j) (osF os j) (opF op j) s4 #[.int .i64 after, .int .u64 (keep : Int), .int .i64 torn, .int .i64 cut] w wx) (fun i _ => 4 - (intOf i).toNat)
          case atStart => exact ⟨0, by omega, rfl, HW4.out⟩
          case round =>
            obtain ⟨j, hj, rfl, hWx⟩ := hrel
            have HWx := hide hWx
            clear hWx HW4
            by_cases h4 : j < 4
            · have j0 : (0 : Int) ≤ (j : Int) := by omega
              have j3 : (j : Int) < 4 := by omega
              have hrow := HWx.out.hr j h4
              have hoj : (opF op j) j = op j := by unfold opF; rw [if_neg (by omega)]
              rw [hoj] at hrow
              obtain ⟨ra, rc, hsl⟩ := own_slice hrow
              have gc : wr.cell? ⟨go, j, none⟩ = some (osF os j j) := by rw [cell_blk HWx.out.hg]; exact os4_get _ h4
              have gf : wr.frozen? ⟨go, j, none⟩ = false := frz_blk HWx.out.hg
              rw [hsl] at gc hrow
              cases hop : op j with
              | nil =>
                rw [hop] at gc
                simp only [List.length_nil] at gc
                have HN := hide (HWx.out.setNil h4)
                rw [osF_step, opF_step, ← ksF_skip ks op j hop] at HN
                clear hrow hsl hop hoj
                go_wp2
                go_roundw
                case rel => exact ⟨j + 1, by omega, by go_num, HN.out⟩
                case measure => simp [intOf]; omega
              | cons y0 yr =>
                have hlp : 0 < (op j).length := by rw [hop]; simp
                obtain ⟨l, hl⟩ : ∃ l, (op j).length = l + 1 := ⟨(op j).length - 1, by omega⟩
                obtain ⟨g, rfl, hgl, cur, hgc⟩ := own_place hrow hlp
                have hcl := hrow.cellAt l (by omega)
                have hget : (scells (op j))[l]? = some (.string (lastK ks op j)) := by
                  have hlast : (op j).getLast? = (op j)[l]? := by rw [List.getLast?_eq_getElem?, hl]; rfl
                  unfold scells lastK
                  rw [List.getElem?_map, hlast, List.getElem?_eq_getElem (by omega)]
                  rfl
                rw [hget] at hcl
                have hrc : (op j).length ≤ rc := by
                  rcases hrow.2 with ⟨e, _⟩ | ⟨_, _, _, e, _, _, h5, _⟩
                  · cases e
                  · simp only [Value.slice.injEq] at e; omega
                have hrm : rc ≤ 9223372036854775807 := by
                  rcases hrow.2 with ⟨e, _⟩ | ⟨_, _, _, e, _, _, _, h5, _⟩
                  · cases e
                  · simp only [Value.slice.injEq] at e; unfold maxLen at h5; omega
                rw [hl] at gc hrc
                have hlm : l < 100000 := by
                  have h9 := HS.out.ow j h4
                  have h8 := congrArg List.length h9
                  rw [List.length_map, List.length_map, hl] at h8
                  have h7 := idx_len s j
                  have h6 := HS.out.mle
                  omega
                have HDW := hide (HWx.out.later (Below.refl wr.heap.size wr).drew)
                have HKS := hide (HDW.out.setK h4 (lastK ks op j))
                have HN := hide (HKS.out.setNil h4)
                rw [osF_step, opF_step, ksF_step] at HN
                generalize lastK ks op j = t at *
                have kc : wr.drew.cell? ⟨gk, j, none⟩ = some (.string (ksF ks op j j)) := by rw [cell_blk HDW.out.hk]; exact kst_get _ h4
                have kf : wr.drew.frozen? ⟨gk, j, none⟩ = false := frz_blk HDW.out.hk
                have gc2 : (wr.drew.setCell ⟨gk, j, none⟩ (.string t)).cell? ⟨go, j, none⟩ = some (.slice (some ⟨g, 0, none⟩) (l + 1) rc) := by rw [cell_blk HKS.out.hg, os4_get _ h4, hsl, hl]
                have gf2 : (wr.drew.setCell ⟨gk, j, none⟩ (.string t)).frozen? ⟨go, j, none⟩ = false := frz_blk HKS.out.hg
                have HX1 : Hid ((fun wx => wx.cell? ⟨go, j, none⟩ = some (.slice (some ⟨g, 0, none⟩) (l + 1) rc) ∧ wx.cell? ⟨g, l, none⟩ = some (.string t)) wr.drew) := ⟨gc, hcl⟩
                have HX2 : Hid ((fun wx => wx.cell? ⟨go, j, none⟩ = some (.slice (some ⟨g, 0, none⟩) (l + 1) rc) ∧ wx.cell? ⟨g, l, none⟩ = some (.string t)) (wr.drew.setCell ⟨gk, j, none⟩ (.string t))) := by
                  refine ⟨gc2, ?_⟩
                  rw [World.cell?_setCell_other _ _ _ _ (fun e => ?_)]
                  · exact hcl
                  · have e9 : gk = g := congrArg Addr.block e
                    have h9 := HDW.out.hk
                    rw [e9] at h9
                    have h8 : wr.drew.heap[g]? = some (.cells cur 9 (0, 0)) := hgc
                    rw [h8] at h9
                    simp only [Option.some.injEq, Obj.cells.injEq] at h9
                    exact absurd h9.2.1 (by decide)
                have l0 : (0 : Int) ≤ (l : Int) := by omega
                have l1 : (0 : Int) < (l : Int) + 1 := by omega
                have wl : IntKind.i64.wrap (l : Int) = (l : Int) := by rw [IntKind.wrap_i64]; omega
                have l2 : (l : Int) < (l : Int) + 1 := by omega
                clear hrow hsl hop hoj hlp hl hget hgc hgl hcl
                go_wp2_with fail
                refine wp_region_noPanic ?_
                refine wp_region_held_drew (S := fun wx => wx.cell? ⟨go, j, none⟩ = some (.slice (some ⟨g, 0, none⟩) (l + 1) rc) ∧ wx.cell? ⟨g, l, none⟩ = some (.string t)) (by kernel_rfl) HX1.out (fun hHeld => ?_)
                refine wpAnyH_takeAt (i := 0) (d := 56) (v := ?vk0) (by kernel_rfl) (by kernel_rfl) (by kernel_rfl) (by kernel_rfl) (fun _ _ _ h => h) ?hyk0 (by assumption) ?restk0
                case hyk0 =>
                  intro oi ho
                  simp only [List.getElem?_toArray, List.getElem?_cons_zero, Option.some.injEq] at ho
                  subst ho
                  refine Or.inl ⟨by rfl, ?_⟩
                  intro wx hSw
                  try dsimp only at hSw
                  go_simp
                  try rfl
                try simp only [Act.put, List.setIfInBounds_toArray, List.set_cons_zero, List.set_cons_succ]
                refine wpAnyH_takeAt (i := 1) (d := 57) (v := ?vk1) (by kernel_rfl) (by kernel_rfl) (by kernel_rfl) (by kernel_rfl) (fun _ _ _ h => h) ?hyk1 (by assumption) ?restk1
                case hyk1 =>
                  intro oi ho
                  simp only [List.getElem?_toArray, List.getElem?_cons_succ, List.getElem?_cons_zero, Option.some.injEq] at ho
                  subst ho
                  refine Or.inl ⟨by rfl, ?_⟩
                  intro wx hSw
                  try dsimp only at hSw
                  go_simp
                  try rfl
                try simp only [Act.put, List.setIfInBounds_toArray, List.set_cons_zero, List.set_cons_succ]
                refine wpAnyH_takeAt (i := 2) (d := 58) (v := ?vk2) (by kernel_rfl) (by kernel_rfl) (by kernel_rfl) (by kernel_rfl) (fun _ _ _ h => h) ?hyk2 (by assumption) ?restk2
                case hyk2 =>
                  intro oi ho
                  simp only [List.getElem?_toArray, List.getElem?_cons_succ, List.getElem?_cons_zero, Option.some.injEq] at ho
                  subst ho
                  refine Or.inl ⟨by rfl, ?_⟩
                  intro wx hSw
                  try dsimp only at hSw
                  go_simp
                  try rfl
                try simp only [Act.put, List.setIfInBounds_toArray, List.set_cons_zero, List.set_cons_succ]
                refine wpAnyH_takeAt (i := 3) (d := 59) (v := ?vk3) (by kernel_rfl) (by kernel_rfl) (by kernel_rfl) (by kernel_rfl) (fun _ _ _ h => h) ?hyk3 (by assumption) ?restk3
                case hyk3 =>
                  intro oi ho
                  simp only [List.getElem?_toArray, List.getElem?_cons_succ, List.getElem?_cons_zero, Option.some.injEq] at ho
                  subst ho
                  refine Or.inl ⟨by rfl, ?_⟩
                  intro wx hSw
                  try dsimp only at hSw
                  go_simp
                  try rfl
                try simp only [Act.put, List.setIfInBounds_toArray, List.set_cons_zero, List.set_cons_succ]
                refine wpAnyH_takeAt (i := 4) (d := 60) (v := ?vk4) (by kernel_rfl) (by kernel_rfl) (by kernel_rfl) (by kernel_rfl) (fun _ _ _ h => h) ?hyk4 (by assumption) ?restk4
                case hyk4 =>
                  intro oi ho
                  simp only [List.getElem?_toArray, List.getElem?_cons_succ, List.getElem?_cons_zero, Option.some.injEq] at ho
                  subst ho
                  refine Or.inl ⟨by rfl, ?_⟩
                  intro wx hSw
                  try dsimp only at hSw
                  go_simp
                  try rfl
                try simp only [Act.put, List.setIfInBounds_toArray, List.set_cons_zero, List.set_cons_succ]
                refine wpAnyH_takeAt (i := 5) (d := 61) (v := ?vk5) (by kernel_rfl) (by kernel_rfl) (by kernel_rfl) (by kernel_rfl) (fun _ _ _ h => h) ?hyk5 (by assumption) ?restk5
                case hyk5 =>
                  intro oi ho
                  simp only [List.getElem?_toArray, List.getElem?_cons_succ, List.getElem?_cons_zero, Option.some.injEq] at ho
                  subst ho
                  refine Or.inl ⟨by rfl, ?_⟩
                  intro wx hSw
                  try dsimp only at hSw
                  go_simp
                  try rfl
                try simp only [Act.put, List.setIfInBounds_toArray, List.set_cons_zero, List.set_cons_succ]
                refine wpAnyH_takeAt (i := 6) (d := 62) (v := ?vk6) (by kernel_rfl) (by kernel_rfl) (by kernel_rfl) (by kernel_rfl) (fun _ _ _ h => h) ?hyk6 (by assumption) ?restk6
                case hyk6 =>
                  intro oi ho
                  simp only [List.getElem?_toArray, List.getElem?_cons_succ, List.getElem?_cons_zero, Option.some.injEq] at ho
                  subst ho
                  refine Or.inl ⟨by rfl, ?_⟩
                  intro wx hSw
                  try dsimp only at hSw
                  go_simp
                  try rfl
                try simp only [Act.put, List.setIfInBounds_toArray, List.set_cons_zero, List.set_cons_succ]
                refine wpAnyH_takeAt (i := 7) (d := 63) (v := ?vk7) (by kernel_rfl) (by kernel_rfl) (by kernel_rfl) (by kernel_rfl) (fun _ _ _ h => h) ?hyk7 (by assumption) ?restk7
                case hyk7 =>
                  intro oi ho
                  simp only [List.getElem?_toArray, List.getElem?_cons_succ, List.getElem?_cons_zero, Option.some.injEq] at ho
                  subst ho
                  refine Or.inl ⟨by rfl, ?_⟩
                  intro wx hSw
                  try dsimp only at hSw
                  go_simp
                  try rfl
                try simp only [Act.put, List.setIfInBounds_toArray, List.set_cons_zero, List.set_cons_succ]
                refine wpAnyH_takeAt (i := 8) (d := 64) (v := ?vk8) (by kernel_rfl) (by kernel_rfl) (by kernel_rfl) (by kernel_rfl) (fun _ _ _ h => h) ?hyk8 (by assumption) ?restk8
                case hyk8 =>
                  intro oi ho
                  simp only [List.getElem?_toArray, List.getElem?_cons_succ, List.getElem?_cons_zero, Option.some.injEq] at ho
                  subst ho
                  refine Or.inl ⟨by rfl, ?_⟩
                  intro wx hSw
                  try dsimp only at hSw
                  go_simp
                  try rfl
                try simp only [Act.put, List.setIfInBounds_toArray, List.set_cons_zero, List.set_cons_succ]
                refine wpAnyH_takeAt (i := 9) (d := 65) (v := ?vk9) (by kernel_rfl) (by kernel_rfl) (by kernel_rfl) (by kernel_rfl) (fun _ _ _ h => h) ?hyk9 (by assumption) ?restk9
                case hyk9 =>
                  intro oi ho
                  simp only [List.getElem?_toArray, List.getElem?_cons_succ, List.getElem?_cons_zero, Option.some.injEq] at ho
                  subst ho
                  refine Or.inl ⟨by rfl, ?_⟩
                  intro wx hSw
                  try dsimp only at hSw
                  go_simp
                  try rfl
                try simp only [Act.put, List.setIfInBounds_toArray, List.set_cons_zero, List.set_cons_succ]
                refine wpAnyH_takeAt (i := 10) (d := 66) (v := ?vk10) (by kernel_rfl) (by kernel_rfl) (by kernel_rfl) (by kernel_rfl) (fun _ _ _ h => h) ?hyk10 (by assumption) ?restk10
                case hyk10 =>
                  intro oi ho
                  simp only [List.getElem?_toArray, List.getElem?_cons_succ, List.getElem?_cons_zero, Option.some.injEq] at ho
                  subst ho
                  refine Or.inl ⟨by rfl, ?_⟩
                  intro wx hSw
                  try dsimp only at hSw
                  go_simp
                  try rfl
                try simp only [Act.put, List.setIfInBounds_toArray, List.set_cons_zero, List.set_cons_succ]
                refine wpAnyH_takeAt (i := 11) (d := 67) (v := ?vk11) (by kernel_rfl) (by kernel_rfl) (by kernel_rfl) (by kernel_rfl) (fun _ _ _ h => h) ?hyk11 (by assumption) ?restk11
                case hyk11 =>
                  intro oi ho
                  simp only [List.getElem?_toArray, List.getElem?_cons_succ, List.getElem?_cons_zero, Option.some.injEq] at ho
                  subst ho
                  refine Or.inl ⟨by rfl, ?_⟩
                  intro wx hSw
                  try dsimp only at hSw
                  go_simp
                  try rfl
                try simp only [Act.put, List.setIfInBounds_toArray, List.set_cons_zero, List.set_cons_succ]
                refine wpAnyH_comesAt (i := 12) (by kernel_rfl) (by kernel_rfl) ?_
                intro o ho K hK
                simp only [List.getElem?_toArray, List.getElem?_cons_succ, List.getElem?_cons_zero, Option.some.injEq] at ho
                subst ho
                go_simp
                clear hHeld
                refine hK.out _ _ HX2.out (fun hHeld => ?_)
                clear hK K
                try simp only [Act.put, List.setIfInBounds_toArray, List.set_cons_zero, List.set_cons_succ]
                refine wpAnyH_done (by kernel_rfl) ?_ _
                refine NoPanic.normal ?_
                go_wp2
                go_roundw
                case rel => exact ⟨j + 1, by omega, by go_num, HN.out⟩
                case measure => simp [intOf]; omega
            · have j3 : ¬ (j : Int) < 4 := by omega
              have hj4 : j = 4 := by omega
              have HS5 : Hid (KS s4 (k + 1) (ksF ks op j) (opF op j)) := by
                have h9 := HS4.out
                have hml := h9.mle
                refine ks_ext ⟨h9.n4, h9.dn, h9.af, h9.l0, by omega, h9.kp, h9.ow⟩ (fun i hi => ?_) (fun i hi => ?_)
                · unfold ksF; rw [if_pos (by omega)]
                · unfold opF; rw [if_pos (by omega)]
              clear hj4
              go_wp2
              go_roundw
              case rel => exact ⟨k + 1, s4, _, _, _, by omega, by omega, by go_num, HWx.out, HS5.out⟩
              case measure => simp [intOf]; omega
        · have hk1 : (kind == 1) = false := by simp [hkind]
          obtain ⟨aa, haa⟩ : ∃ aa : Nat, at_ % 4 = (aa : Int) := ⟨(at_ % 4).toNat, by omega⟩
          have aa4 : aa < 4 := by omega
          have hmask : bits BinOp.and IntKind.i64 at_ 3 = (aa : Int) := by rw [i64_and3]; exact haa
          have j0 : (0 : Int) ≤ (aa : Int) := by omega
          have j3 : (aa : Int) < 4 := by omega
          have tx := run_text (HBS.out.later HW3.out.fr.bel (Nat.le_refl _))
          have hst : (str xs).size ≤ 40 := by rw [str_size, HBS.out.hlen]; exact m40
          have HST := hide hst
          generalize str xs = st at *
          obtain ⟨cp, w4, hconv, hb4, hbs4⟩ := conv_run st (wr.alloc (.cells #[.int .i64 kind, .int .i64 at_, .int .i64 bit, .slice va vl vc, .int .i64 af2, .int .u64 (kp2 : Int), .int .i64 to2, .int .i64 cu2] 34)) (by omega)
          have hsz : (wr.alloc (.cells #[.int .i64 kind, .int .i64 at_, .int .i64 bit, .slice va vl vc, .int .i64 af2, .int .u64 (kp2 : Int), .int .i64 to2, .int .i64 cu2] 34)).heap.size = wr.heap.size + 1 := by simp
          rw [hsz] at hconv hbs4
          have HW4 := hide (HW3.out.later hb4)
          have HBS4 := hide hbs4
          have HSW := hide (ks_write HS.out aa st)
          have HOL : Hid ((op aa).length ≤ 30) := by
            have h9 := congrArg List.length (HS.out.ow aa aa4)
            rw [List.length_map, List.length_map] at h9
            have h7 := idx_len s aa
            have h6 := HS.out.mle
            show _ ≤ _
            omega
          clear hkind haa hst hb4 hbs4 hsz
          go_wp2_with fail
          refine (write_ok w.heap.size p s aa (some ⟨wr.heap.size + 1, 0, none⟩) st.size cp (sl st) w4 HW4.out.di HW4.out.size HS.out.dn (by rw [HS.out.n4]; exact aa4) (by rw [HS.out.af]; omega) (by rw [HS.out.l0]; omega) (by have := HS.out.mle; omega) (by rw [sl_len]; unfold blk; have := HST.out; omega) (sl_lt st) (sl_len st) (fun ww f => HBS4.out _ ww f)).mono ?_
          rintro e w5 ⟨rfl, hD, hF⟩
          have HW5 := hide (HW4.out.call hD hF)
          clear hD hF hconv
          generalize s.tick.wrote aa (sl st) = s5 at HW5 HSW
          obtain ⟨i0, hi, hz0, hz1, hz2⟩ := info_parts info_str
          have gc : w5.cell? ⟨go, aa, none⟩ = some (os aa) := by rw [cell_blk HW5.out.hg]; exact os4_get _ aa4
          obtain ⟨ra, rc, hsl⟩ := own_slice (HW5.out.hr aa aa4)
          have HW6 := hide (HW5.out.later (below_box w5 (.cells #[.string st] 9)))
          have HO6 := hide (HW6.out.hr aa aa4)
          have HNW := hide (newsI w5 (.string st) 9)
          rw [hsl] at gc HO6
          have HSL := hide hsl
          have HSZ := hide HW5.out.size
          clear hsl r0 r1 r2 r3 r4 r5 r6 r7 tx HB3 HW3 HW4 HBS4
          generalize hL : (op aa).length = nl at *
          have HL := hide hL
          clear hL
          go_wp2_with (at_builtin; refine wpList_append_own_at _ rfl (.tmp 90) (.tmp 92) 54 rfl w.heap.size 9 i0 (.string ⟨#[]⟩) 1 16 Try.underlying54 hi hz0 hz1 hz2 rfl (by omega) (.slice ra nl rc) nl _ rfl HO6.out ⟨w5.heap.size, 0, none⟩ 1 1 [.string st] rfl rfl HNW.out (by intro u hu; simp at hu; subst hu; rfl) (by have := HOL.out; unfold maxLen; omega) (by have := HOL.out; omega) (by have := HSZ.out; simp; omega) ?_; intro v7 w7 h2 h3 h4 h5; rw [← HSL.out] at h3 h5; obtain ⟨ra7, rc7, hv7⟩ := own_slice h2; have HP := hide (HW6.out.push aa4 (by rw [HL.out]; exact h2) h3 h5); have c7 : w7.cell? ⟨go, aa, none⟩ = some (os aa) := (cell_blk HP.out.2).trans (os4_get _ aa4); have f7 : w7.frozen? ⟨go, aa, none⟩ = false := frz_blk HP.out.2; subst hv7; clear h2 h3 h4 h5)
          go_roundw
          case rel => exact ⟨k + 1, s5, ks, _, _, by omega, by omega, by go_num, HP.out.1, HSW.out⟩
          case measure => simp [intOf]; omega
      · have i2 : (k : Int) < (len : Int) := by omega
        have i3 : ¬ (k : Int) < 30 := by omega
        have x0 : ∀ i, wr.cell? ⟨w.heap.size, i, none⟩ = (#[Value.int .i64 after, .int .u64 (keep : Int), .int .i64 torn, .int .i64 cut] : Array Value)[i]? := fun i => cell_blk HW.out.hl
        have x1 := x0 0
        have x2 := x0 1
        have x3 := x0 2
        have x4 := x0 3
        simp only [List.getElem?_toArray, List.getElem?_cons_zero, List.getElem?_cons_succ] at x1 x2 x3 x4
        clear x0
        have HCU := hide (ks_cut HW.out.di.ok HS.out keep torn cut)
        go_wp2_with fail
        refine (cut_any w.heap.size p s after keep torn cut wr HW.out.di HW.out.size HKEEP.out (by rw [HS.out.l0]; omega)).mono ?_
        rintro e w4 ⟨rfl, hD, hF⟩
        have HW4 := hide (HW.out.call hD hF)
        clear hD hF x1 x2 x3 x4
        go_wp2_with fail
        refine (restart_any w.heap.size p _ w4 HW4.out.di HW4.out.size).mono ?_
        rintro e w5 ⟨rfl, hD, hF⟩
        have HW5 := hide (HW4.out.call hD hF)
        have HOL : Hid (∀ j, j < 4 → (op j).length ≤ 30) := by
          intro j hj
          have h9 := congrArg List.length (HS.out.ow j hj)
          rw [List.length_map, List.length_map] at h9
          have h7 := idx_len s j
          have h6 := HS.out.mle
          omega
        clear hD hF HW HW4
        generalize (s.cutS keep torn cut).restart = s5 at HW5 HCU
        go_wp2_with fail
        go_loopw [14] (fun i wx => ∃ j : Nat, j ≤ 4 ∧ i = .int .i64 j ∧ KW w.heap.size p gk go w.heap.size ks os op s5 #[.int .i64 after, .int .u64 (keep : Int), .int .i64 torn, .int .i64 cut] w wx) (fun i _ => 4 - (intOf i).toNat)
        case atStart => exact ⟨0, by omega, rfl, HW5.out⟩
        case round =>
          obtain ⟨j, hj, rfl, hWx⟩ := hrel
          have HWx := hide hWx
          clear hWx HW5
          by_cases h4 : j < 4
          · have j0 : (0 : Int) ≤ (j : Int) := by omega
            have j3 : (j : Int) < 4 := by omega
            go_wp2_with fail
            refine (read_ok w.heap.size p s5 j wr HWx.out.di HWx.out.size HCU.out.2.1 (by rw [HCU.out.1]; exact h4)).mono ?_
            rintro e wy ⟨g, rfl, ho, hb⟩
            have HWy := hide (HWx.out.later hb)
            have HN8 : Hid (blk = 8192) := rfl
            have HSL8 := hide (show_len HWx.out.di.ok j)
            have ky : wy.cell? ⟨gk, j, none⟩ = some (.string (ks j)) := by rw [cell_blk HWy.out.hk]; exact kst_get _ h4
            have gy : wy.cell? ⟨go, j, none⟩ = some (os j) := by rw [cell_blk HWy.out.hg]; exact os4_get _ h4
            have hrow := HWy.out.hr j h4
            obtain ⟨ra, rc, hsl⟩ := own_slice hrow
            rw [hsl] at gy hrow
            have HCO : Hid (∀ nn, Calls Try.prog 30 #[.slice (some ⟨g, 0, none⟩) blk blk, .string (ks j), .slice ra (op j).length rc] (wy.drewN nn) fun e w' => e = .returned (.bool true) ∧ ∃ n, w' = (wy.drewN nn).drewN n) := by
              intro nn
              refine could_any g blk (fun i => (pad (s5.show j)).getD i 0) (ks j) ra (op j).length rc (fun i => (op j).getD i ⟨#[]⟩) (wy.drewN nn) (by rw [HN8.out]; omega) (by have := HOL.out j h4; omega) ?_ ?_ ?_
              · intro i hi
                show wy.cell? ⟨g, i, none⟩ = _
                rw [ho.cellAt i (by omega), cellsOf_get _ _ (by rw [pad_len HSL8.out]; exact hi)]
              · intro hp
                obtain ⟨g2, e2, _⟩ := own_place hrow hp
                subst e2
                refine ⟨g2, 0, rfl, fun i hi => ?_⟩
                show wy.cell? ⟨g2, 0 + i, none⟩ = _
                rw [Nat.zero_add, hrow.cellAt i (by omega)]
                unfold scells
                rw [List.getElem?_map, List.getElem?_eq_getElem hi, List.getD_eq_getElem?_getD, List.getElem?_eq_getElem hi]
                rfl
              · intro i hi
                rcases HCU.out.2.2 j h4 i hi with e | ⟨t, ht, e⟩
                · exact Or.inl e
                · right
                  obtain ⟨r, hr, e2⟩ := List.mem_iff_getElem.1 ht
                  refine ⟨r, hr, ?_⟩
                  have e3 : (op j).getD r ⟨#[]⟩ = t := by rw [List.getD_eq_getElem?_getD, List.getElem?_eq_getElem hr, Option.getD_some, e2]
                  show _ = sb ((op j).getD r ⟨#[]⟩) i
                  rw [e3]
                  exact e
            have b8 : ((blk : Nat) : Int) = 8192 := rfl
            have b9 : (((blk : Nat) : Int) != 8192) = false := by rw [b8]; rfl
            have HB8 := hide b8
            clear ho hb hrow hsl b8 HN8 HSL8
            generalize blk = N at *
            go_wp2_with fail
            go_quiet ((go_at_call 30; refine Calls.quiet_of (HCO.out _)))
            go_wp2
            go_roundw
            case rel => exact ⟨j + 1, by omega, by go_num, HWy.out.later (below_drewN (Below.refl _ _) _)⟩
            case measure => simp [intOf]; omega
          · have j3 : ¬ (j : Int) < 4 := by omega
            go_wp2_with fail
            refine (told_any _).mono ?_
            rintro e w9 ⟨rfl, hb9⟩
            have HB9 := hide (HWx.out.fr.bel.trans (hb9.mono HWx.out.size))
            clear hb9
            go_wp2
            go_ret
            exact ⟨rfl, HB9.out⟩
    · have i2 : ¬ (k : Int) < (len : Int) := by omega
      have x0 : ∀ i, wr.cell? ⟨w.heap.size, i, none⟩ = (#[Value.int .i64 after, .int .u64 (keep : Int), .int .i64 torn, .int .i64 cut] : Array Value)[i]? := fun i => cell_blk HW.out.hl
      have x1 := x0 0
      have x2 := x0 1
      have x3 := x0 2
      have x4 := x0 3
      simp only [List.getElem?_toArray, List.getElem?_cons_zero, List.getElem?_cons_succ] at x1 x2 x3 x4
      clear x0
      have HCU := hide (ks_cut HW.out.di.ok HS.out keep torn cut)
      go_wp2_with fail
      refine (cut_any w.heap.size p s after keep torn cut wr HW.out.di HW.out.size HKEEP.out (by rw [HS.out.l0]; omega)).mono ?_
      rintro e w4 ⟨rfl, hD, hF⟩
      have HW4 := hide (HW.out.call hD hF)
      clear hD hF x1 x2 x3 x4
      go_wp2_with fail
      refine (restart_any w.heap.size p _ w4 HW4.out.di HW4.out.size).mono ?_
      rintro e w5 ⟨rfl, hD, hF⟩
      have HW5 := hide (HW4.out.call hD hF)
      have HOL : Hid (∀ j, j < 4 → (op j).length ≤ 30) := by
        intro j hj
        have h9 := congrArg List.length (HS.out.ow j hj)
        rw [List.length_map, List.length_map] at h9
        have h7 := idx_len s j
        have h6 := HS.out.mle
        omega
      clear hD hF HW HW4
      generalize (s.cutS keep torn cut).restart = s5 at HW5 HCU
      go_wp2_with fail
      go_loopw [14] (fun i wx => ∃ j : Nat, j ≤ 4 ∧ i = .int .i64 j ∧ KW w.heap.size p gk go w.heap.size ks os op s5 #[.int .i64 after, .int .u64 (keep : Int), .int .i64 torn, .int .i64 cut] w wx) (fun i _ => 4 - (intOf i).toNat)
      case atStart => exact ⟨0, by omega, rfl, HW5.out⟩
      case round =>
        obtain ⟨j, hj, rfl, hWx⟩ := hrel
        have HWx := hide hWx
        clear hWx HW5
        by_cases h4 : j < 4
        · have j0 : (0 : Int) ≤ (j : Int) := by omega
          have j3 : (j : Int) < 4 := by omega
          go_wp2_with fail
          refine (read_ok w.heap.size p s5 j wr HWx.out.di HWx.out.size HCU.out.2.1 (by rw [HCU.out.1]; exact h4)).mono ?_
          rintro e wy ⟨g, rfl, ho, hb⟩
          have HWy := hide (HWx.out.later hb)
          have HN8 : Hid (blk = 8192) := rfl
          have HSL8 := hide (show_len HWx.out.di.ok j)
          have ky : wy.cell? ⟨gk, j, none⟩ = some (.string (ks j)) := by rw [cell_blk HWy.out.hk]; exact kst_get _ h4
          have gy : wy.cell? ⟨go, j, none⟩ = some (os j) := by rw [cell_blk HWy.out.hg]; exact os4_get _ h4
          have hrow := HWy.out.hr j h4
          obtain ⟨ra, rc, hsl⟩ := own_slice hrow
          rw [hsl] at gy hrow
          have HCO : Hid (∀ nn, Calls Try.prog 30 #[.slice (some ⟨g, 0, none⟩) blk blk, .string (ks j), .slice ra (op j).length rc] (wy.drewN nn) fun e w' => e = .returned (.bool true) ∧ ∃ n, w' = (wy.drewN nn).drewN n) := by
            intro nn
            refine could_any g blk (fun i => (pad (s5.show j)).getD i 0) (ks j) ra (op j).length rc (fun i => (op j).getD i ⟨#[]⟩) (wy.drewN nn) (by rw [HN8.out]; omega) (by have := HOL.out j h4; omega) ?_ ?_ ?_
            · intro i hi
              show wy.cell? ⟨g, i, none⟩ = _
              rw [ho.cellAt i (by omega), cellsOf_get _ _ (by rw [pad_len HSL8.out]; exact hi)]
            · intro hp
              obtain ⟨g2, e2, _⟩ := own_place hrow hp
              subst e2
              refine ⟨g2, 0, rfl, fun i hi => ?_⟩
              show wy.cell? ⟨g2, 0 + i, none⟩ = _
              rw [Nat.zero_add, hrow.cellAt i (by omega)]
              unfold scells
              rw [List.getElem?_map, List.getElem?_eq_getElem hi, List.getD_eq_getElem?_getD, List.getElem?_eq_getElem hi]
              rfl
            · intro i hi
              rcases HCU.out.2.2 j h4 i hi with e | ⟨t, ht, e⟩
              · exact Or.inl e
              · right
                obtain ⟨r, hr, e2⟩ := List.mem_iff_getElem.1 ht
                refine ⟨r, hr, ?_⟩
                have e3 : (op j).getD r ⟨#[]⟩ = t := by rw [List.getD_eq_getElem?_getD, List.getElem?_eq_getElem hr, Option.getD_some, e2]
                show _ = sb ((op j).getD r ⟨#[]⟩) i
                rw [e3]
                exact e
          have b8 : ((blk : Nat) : Int) = 8192 := rfl
          have b9 : (((blk : Nat) : Int) != 8192) = false := by rw [b8]; rfl
          have HB8 := hide b8
          clear ho hb hrow hsl b8 HN8 HSL8
          generalize blk = N at *
          go_wp2_with fail
          go_quiet ((go_at_call 30; refine Calls.quiet_of (HCO.out _)))
          go_wp2
          go_roundw
          case rel => exact ⟨j + 1, by omega, by go_num, HWy.out.later (below_drewN (Below.refl _ _) _)⟩
          case measure => simp [intOf]; omega
        · have j3 : ¬ (j : Int) < 4 := by omega
          go_wp2_with fail
          refine (told_any _).mono ?_
          rintro e w9 ⟨rfl, hb9⟩
          have HB9 := hide (HWx.out.fr.bel.trans (hb9.mono HWx.out.size))
          clear hb9
          go_wp2
          go_ret
          exact ⟨rfl, HB9.out⟩
end Go.Proofs.Ytfdnnebcjkjafaa
