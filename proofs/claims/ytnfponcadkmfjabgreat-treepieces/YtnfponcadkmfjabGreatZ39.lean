import Derived.Test.YtnfponcadkmfjabGreatZ38
set_option linter.unusedVariables false
namespace Go.Proofs.YtnfponcadkmfjabGreat
open Go.RowKit
def adP (ps : List Nat) (id : Nat) : List Nat := ps.set (id / 64) (ps.getD (id / 64) 0 ||| 2 ^ (id % 64))
def drP (ps : List Nat) (id : Nat) : List Nat := ps.set (id / 64) (ps.getD (id / 64) 0 &&& (18446744073709551615 - 2 ^ (id % 64)))
def hsP (ps : List Nat) (id : Nat) : Bool := (ps.getD (id / 64) 0).testBit (id % 64)
theorem adP_len (ps : List Nat) (id : Nat) : (adP ps id).length = ps.length := by simp [adP]
theorem drP_len (ps : List Nat) (id : Nat) : (drP ps id).length = ps.length := by simp [drP]
theorem hs_ad {ps : List Nat} (hl : ps.length = 64) {id j : Nat} (hi : id < 4096) : hsP (adP ps id) j = (hsP ps j || decide (j = id)) := by
  unfold hsP adP
  by_cases h : j / 64 = id / 64
  · have hd : (ps.set (id / 64) (ps.getD (id / 64) 0 ||| 2 ^ (id % 64))).getD (j / 64) 0 = ps.getD (j / 64) 0 ||| 2 ^ (id % 64) := by
      rw [h, List.getD_eq_getElem?_getD, List.getElem?_set_self (by omega), ← h]
      rfl
    rw [hd, Nat.testBit_or, Nat.testBit_two_pow]
    congr 1
    exact decide_eq_decide.2 ⟨fun e => by omega, fun e => by omega⟩
  · have hd : (ps.set (id / 64) (ps.getD (id / 64) 0 ||| 2 ^ (id % 64))).getD (j / 64) 0 = ps.getD (j / 64) 0 := by
      rw [List.getD_eq_getElem?_getD, List.getElem?_set_ne (Ne.symm h), ← List.getD_eq_getElem?_getD]
    have hne : j ≠ id := fun e => h (by rw [e])
    rw [hd, decide_eq_false hne, Bool.or_false]
theorem hs_dr {ps : List Nat} (hl : ps.length = 64) {id j : Nat} (hi : id < 4096) : hsP (drP ps id) j = (hsP ps j && !decide (j = id)) := by
  unfold hsP drP
  by_cases h : j / 64 = id / 64
  · have hd : (ps.set (id / 64) (ps.getD (id / 64) 0 &&& (18446744073709551615 - 2 ^ (id % 64)))).getD (j / 64) 0 = ps.getD (j / 64) 0 &&& (18446744073709551615 - 2 ^ (id % 64)) := by
      rw [h, List.getD_eq_getElem?_getD, List.getElem?_set_self (by omega), ← h]
      rfl
    have e1 : 18446744073709551615 - 2 ^ (id % 64) = 2 ^ 64 - (2 ^ (id % 64) + 1) := by omega
    rw [hd, Nat.testBit_and, e1, Nat.testBit_two_pow_sub_succ (Nat.pow_lt_pow_right (by omega) (by omega)), Nat.testBit_two_pow, decide_eq_true (show j % 64 < 64 by omega), Bool.true_and]
    congr 2
    exact decide_eq_decide.2 ⟨fun e => by omega, fun e => by omega⟩
  · have hd : (ps.set (id / 64) (ps.getD (id / 64) 0 &&& (18446744073709551615 - 2 ^ (id % 64)))).getD (j / 64) 0 = ps.getD (j / 64) 0 := by
      rw [List.getD_eq_getElem?_getD, List.getElem?_set_ne (Ne.symm h), ← List.getD_eq_getElem?_getD]
    have hne : j ≠ id := fun e => h (by rw [e])
    rw [hd, decide_eq_false hne, Bool.not_false, Bool.and_true]
theorem bits_andNot_u64_nat (a b : Nat) (ha : a < 18446744073709551616) (hb : b < 18446744073709551616) : bits .andNot .u64 (a : Int) (b : Int) = ((a &&& (18446744073709551615 - b) : Nat) : Int) := by
  have hx : a &&& (18446744073709551615 - b) < 2 ^ 64 := Nat.and_lt_two_pow _ (by omega)
  have h1 : (BitVec.ofInt 64 (a : Int)).toNat = a := by
    rw [BitVec.ofInt_natCast, BitVec.toNat_ofNat]; exact Nat.mod_eq_of_lt (by omega)
  have h2 : (BitVec.ofInt 64 (b : Int)).toNat = b := by
    rw [BitVec.ofInt_natCast, BitVec.toNat_ofNat]; exact Nat.mod_eq_of_lt (by omega)
  show IntKind.u64.wrap ((BitVec.ofInt 64 (a : Int) &&& ~~~ BitVec.ofInt 64 (b : Int)).toNat : Int) = _
  rw [BitVec.toNat_and, BitVec.toNat_not, h1, h2, IntKind.wrap_u64]
  have e : 2 ^ 64 - 1 - b = 18446744073709551615 - b := by omega
  rw [e]
  omega
theorem two_r {r : Nat} (h : r < 64) : IntKind.u64.wrap (2 ^ r) = ((2 ^ r : Nat) : Int) ∧ 2 ^ r < 18446744073709551616 := by
  have h1 : 2 ^ r < 2 ^ 64 := Nat.pow_lt_pow_right (by omega) h
  have h2 : ((2 : Int) ^ r) = ((2 ^ r : Nat) : Int) := by simp
  have h3 : 2 ^ r < 18446744073709551616 := h1
  refine ⟨?_, h3⟩
  rw [h2, IntKind.wrap_u64]
  generalize 2 ^ r = y at h3 ⊢
  omega
def Wd (cs : Array Value) (o : Nat) (ps : List Nat) : Prop := ps.length = 64 ∧ (∀ x ∈ ps, x < 18446744073709551616) ∧ ∀ (i : Nat) x, ps[i]? = some x → cs[o + i]? = some (.int .u64 (x : Int))
def Sm (cs cs' : Array Value) (o : Nat) : Prop := cs'.size = cs.size ∧ ∀ k, k < o ∨ o + 64 ≤ k → cs'[k]? = cs[k]?
theorem Sm.refl (cs : Array Value) (o : Nat) : Sm cs cs o := ⟨rfl, fun _ _ => rfl⟩
theorem Sm.trans {a b c : Array Value} {o : Nat} (h : Sm a b o) (k : Sm b c o) : Sm a c o := ⟨k.1.trans h.1, fun i hi => (k.2 i hi).trans (h.2 i hi)⟩
theorem Wd.set {cs : Array Value} {o m y : Nat} {ps : List Nat} (h : Wd cs o ps) (hm : m < 64) (hy : y < 18446744073709551616) : Wd (cs.setIfInBounds (o + m) (.int .u64 (y : Int))) o (ps.set m y) ∧ Sm cs (cs.setIfInBounds (o + m) (.int .u64 (y : Int))) o := by
  obtain ⟨h1, h2, h3⟩ := h
  refine ⟨⟨by simp [h1], fun x hx => ?_, fun i x hi => ?_⟩, by simp, fun k hk => ?_⟩
  · rcases List.mem_or_eq_of_mem_set hx with hx | hx
    · exact h2 x hx
    · omega
  · by_cases e : i = m
    · subst e
      rw [List.getElem?_set_self (by omega)] at hi
      simp only [Option.some.injEq] at hi
      subst hi
      obtain ⟨x0, hx0⟩ : ∃ x0, ps[i]? = some x0 := ⟨_, List.getElem?_eq_getElem (by omega)⟩
      rw [Array.getElem?_setIfInBounds_self_of_lt (Array.getElem?_eq_some_iff.1 (h3 i x0 hx0)).1]
    · rw [List.getElem?_set_ne (Ne.symm e)] at hi
      rw [Array.getElem?_setIfInBounds_ne (by omega)]
      exact h3 i x hi
  · rw [Array.getElem?_setIfInBounds_ne (by omega)]
def PsR (B g o : Nat) (t : TypeId) (w : World) (cs : Array Value) (ps : List Nat) (w' : World) : Prop := ∃ cs', w'.heap[g]? = some (.cells cs' t (0, 0)) ∧ Wd cs' o ps ∧ Sm cs cs' o ∧ Ex B [g] w w'
theorem PsR.one {B g o m y : Nat} {t : TypeId} {w : World} {cs : Array Value} {ps : List Nat} (hB : B ≤ g) (hg : w.heap[g]? = some (.cells cs t (0, 0))) (hw : Wd cs o ps) (hm : m < 64) (hy : y < 18446744073709551616) : PsR B g o t w cs (ps.set m y) (w.setCell ⟨g, o + m, none⟩ (.int .u64 (y : Int))).drew := by
  obtain ⟨h1, h2⟩ := hw.set hm hy
  refine ⟨_, heap_setCell_same _ _ _ _ _ _ hg, h1, h2, ((Below.refl B w).setCell (p := ⟨g, o + m, none⟩) hB _).drew, fun k _ hk => ?_⟩
  simp only [List.mem_singleton] at hk
  exact heap_setCell_other _ _ _ _ (by exact hk)
set_option maxRecDepth 100000 in
set_option maxHeartbeats 4000000 in
theorem add_ok {B g o id : Nat} {w : World} {cs : Array Value} {t : TypeId} {ps : List Nat} (hB : B ≤ g) (hg : w.heap[g]? = some (.cells cs t (0, 0))) (hw : Wd cs o ps) (hid : id < 4096) :
    Calls Tryz.prog 90 #[.pointer (some ⟨g, o, none⟩), .int .i64 (id : Int)] w fun e w' => e = .returned (.tuple #[]) ∧ PsR B g o t w cs (adP ps id) w' := by
  obtain ⟨x, hx⟩ : ∃ x, ps[id / 64]? = some x := ⟨_, List.getElem?_eq_getElem (by have := hw.1; omega)⟩
  have hx6 := hw.2.1 x (List.mem_of_getElem? hx)
  have hc := hw.2.2 _ x hx
  have hgd : ps.getD (id / 64) 0 = x := by rw [List.getD_eq_getElem?_getD, hx]; rfl
  have hq : ((id : Int) / 64) = ((id / 64 : Nat) : Int) := by omega
  have hr : ((id : Int) % 64) = ((id % 64 : Nat) : Int) := by omega
  have e0 : adP ps id = ps.set (id / 64) (x ||| 2 ^ (id % 64)) := by unfold adP; rw [hgd]
  rw [e0]
  obtain ⟨m, hm⟩ : ∃ m, id / 64 = m := ⟨_, rfl⟩
  obtain ⟨r, hr2⟩ : ∃ r, id % 64 = r := ⟨_, rfl⟩
  have hm64 : m < 64 := by omega
  have hr64 : r < 64 := by omega
  rw [hm] at hc hq ⊢
  rw [hr2] at hr ⊢
  have HE : Hid (bits BinOp.or IntKind.u64 (x : Int) (IntKind.u64.wrap (2 ^ r)) = ((x ||| 2 ^ r : Nat) : Int)) := by
    show _ = _
    rw [(two_r hr64).1, u64_or_nat x _ hx6 (two_r hr64).2]
  have HR := hide (PsR.one (y := x ||| 2 ^ r) hB hg hw hm64 (Nat.or_lt_two_pow (n := 64) hx6 (two_r hr64).2))
  have c0 : w.cell? ⟨g, o + m, none⟩ = some (.int .u64 (x : Int)) := (cell_blk hg).trans hc
  have f0 : w.frozen? ⟨g, o + m, none⟩ = false := frz_blk hg
  have d1 : (m : Int) < 64 := by omega
  have d2 : ¬ (m : Int) < 0 := by omega
  have d3 : ¬ (r : Int) < 0 := by omega
  have d4 : (r : Int) < 64 := by omega
  clear hg hc hw hx hgd e0
  go_enter Tryz.func90, Tryz.ntmps90
  go_region
  go_wp2
  (try simp only [Exit.inBlock, Exit.then])
  refine bodyPost_end (results_none rfl _ _ _) rfl ?_
  rw [HE.out]
  exact ⟨rfl, HR.out⟩
set_option maxRecDepth 100000 in
set_option maxHeartbeats 4000000 in
theorem drop_ok {B g o id : Nat} {w : World} {cs : Array Value} {t : TypeId} {ps : List Nat} (hB : B ≤ g) (hg : w.heap[g]? = some (.cells cs t (0, 0))) (hw : Wd cs o ps) (hid : id < 4096) :
    Calls Tryz.prog 112 #[.pointer (some ⟨g, o, none⟩), .int .i64 (id : Int)] w fun e w' => e = .returned (.tuple #[]) ∧ PsR B g o t w cs (drP ps id) w' := by
  obtain ⟨x, hx⟩ : ∃ x, ps[id / 64]? = some x := ⟨_, List.getElem?_eq_getElem (by have := hw.1; omega)⟩
  have hx6 := hw.2.1 x (List.mem_of_getElem? hx)
  have hc := hw.2.2 _ x hx
  have hgd : ps.getD (id / 64) 0 = x := by rw [List.getD_eq_getElem?_getD, hx]; rfl
  have hq : ((id : Int) / 64) = ((id / 64 : Nat) : Int) := by omega
  have hr : ((id : Int) % 64) = ((id % 64 : Nat) : Int) := by omega
  have e0 : drP ps id = ps.set (id / 64) (x &&& (18446744073709551615 - 2 ^ (id % 64))) := by unfold drP; rw [hgd]
  rw [e0]
  obtain ⟨m, hm⟩ : ∃ m, id / 64 = m := ⟨_, rfl⟩
  obtain ⟨r, hr2⟩ : ∃ r, id % 64 = r := ⟨_, rfl⟩
  have hm64 : m < 64 := by omega
  have hr64 : r < 64 := by omega
  rw [hm] at hc hq ⊢
  rw [hr2] at hr ⊢
  have HE : Hid (bits BinOp.andNot IntKind.u64 (x : Int) (IntKind.u64.wrap (2 ^ r)) = ((x &&& (18446744073709551615 - 2 ^ r) : Nat) : Int)) := by
    show _ = _
    rw [(two_r hr64).1, bits_andNot_u64_nat x _ hx6 (two_r hr64).2]
  have HR := hide (PsR.one (y := x &&& (18446744073709551615 - 2 ^ r)) hB hg hw hm64 (Nat.and_lt_two_pow (n := 64) _ (Nat.lt_of_le_of_lt (Nat.sub_le _ _) (by decide))))
  have c0 : w.cell? ⟨g, o + m, none⟩ = some (.int .u64 (x : Int)) := (cell_blk hg).trans hc
  have f0 : w.frozen? ⟨g, o + m, none⟩ = false := frz_blk hg
  have d1 : (m : Int) < 64 := by omega
  have d2 : ¬ (m : Int) < 0 := by omega
  have d3 : ¬ (r : Int) < 0 := by omega
  have d4 : (r : Int) < 64 := by omega
  clear hg hc hw hx hgd e0
  go_enter Tryz.func112, Tryz.ntmps112
  go_region
  go_wp2
  (try simp only [Exit.inBlock, Exit.then])
  refine bodyPost_end (results_none rfl _ _ _) rfl ?_
  rw [HE.out]
  exact ⟨rfl, HR.out⟩
end Go.Proofs.YtnfponcadkmfjabGreat
set_option linter.unusedVariables false
namespace Go.Proofs.YtnfponcadkmfjabGreat
open Go.RowKit
theorem Ex.refl (B : Nat) (S : List Nat) (w : World) : Ex B S w w := ⟨Below.refl _ _, fun _ _ _ => rfl⟩
theorem Ex.trans {B : Nat} {S : List Nat} {a b c : World} (h : Ex B S a b) (k : Ex B S b c) : Ex B S a c := ⟨h.1.trans k.1, fun i hi hn => (k.2 i (Nat.lt_of_lt_of_le hi h.1.size) hn).trans (h.2 i hi hn)⟩
theorem PsR.zero {B g o : Nat} {t : TypeId} {w : World} {cs : Array Value} {ps : List Nat} (hg : w.heap[g]? = some (.cells cs t (0, 0))) (hw : Wd cs o ps) : PsR B g o t w cs ps w := ⟨cs, hg, hw, Sm.refl _ _, Ex.refl _ _ _⟩
theorem own_pl {w : World} {B : Nat} {v : Value} {l : List Nat} (h : w.ownsRow B 105 1 v l.length (plC l)) {j x : Nat} (hj : l[j]? = some x) : ∃ gb c, v = .slice (some ⟨gb, 0, none⟩) l.length c ∧ w.cell? ⟨gb, j, none⟩ = some (.int .i64 (x : Int)) := by
  have hlt := (List.getElem?_eq_some_iff.1 hj).1
  rcases h.2 with ⟨_, e0⟩ | ⟨gb, cap, cur, e, _, hc, _, _, h4, h5⟩
  · omega
  · refine ⟨gb, cap, e, ?_⟩
    rw [cell_blk hc]
    have h6 : (plC l)[j]? = some (.int .i64 (x : Int)) := by unfold plC; rw [List.getElem?_map, hj]; rfl
    rw [← h5, List.getElem?_take, if_pos (by omega)] at h6
    rw [← Array.getElem?_toList]
    exact h6
set_option maxRecDepth 100000 in
set_option maxHeartbeats 4000000 in
theorem dropAll_ok {B B' g o : Nat} {w : World} {cs : Array Value} {t : TypeId} {ps l : List Nat} {v : Value} (hB : B ≤ g) (hg : w.heap[g]? = some (.cells cs t (0, 0))) (ht : t ≠ 105) (hw : Wd cs o ps) (hl : ∀ x ∈ l, x < 4096) (hn : l.length < 100000) (hv : w.ownsRow B' 105 1 v l.length (plC l)) :
    Calls Tryz.prog 87 #[.pointer (some ⟨g, o, none⟩), v] w fun e w' => e = .returned (.tuple #[]) ∧ PsR B g o t w cs (l.foldl drP ps) w' := by
  obtain ⟨ga, gc, rfl⟩ := own_slice hv
  have HG := hide hg
  have HW := hide hw
  have HL := hide hl
  have HV := hide hv
  clear hg hw hl hv
  generalize hN : l.length = N at *
  go_enter Tryz.func87, Tryz.ntmps87
  go_wp2_with fail
  go_loopw [8] (fun i wx => ∃ j : Nat, j ≤ N ∧ i = .int .i64 j ∧ PsR B g o t w cs ((l.take j).foldl drP ps) wx) (fun i _ => N - (intOf i).toNat)
  case atStart => exact ⟨0, by omega, rfl, PsR.zero HG.out HW.out⟩
  case round =>
    obtain ⟨j, hj, rfl, hP⟩ := hrel
    have HP := hide hP
    clear hP
    by_cases hjn : j < N
    · have x1 : (j : Int) < (N : Int) := by omega
      obtain ⟨x, hx⟩ : ∃ x, l[j]? = some x := ⟨_, List.getElem?_eq_getElem (by rw [hN]; exact hjn)⟩
      obtain ⟨c1, p1, p2, p3, p4⟩ := HP.out
      have hown : wr.ownsRow B' 105 1 (.slice ga N gc) l.length (plC l) := by
        rw [hN]
        refine own_stay HV.out fun k cs' _ e => ?_
        rw [p4.2 k (Array.getElem?_eq_some_iff.1 e).1 ?_, e]
        intro q9
        simp only [List.mem_singleton] at q9
        subst q9
        have h9 := HG.out
        rw [e] at h9
        simp only [Option.some.injEq, Obj.cells.injEq] at h9
        exact ht h9.2.1.symm
      obtain ⟨gb, c2, e2, hcell⟩ := own_pl hown hx
      simp only [Value.slice.injEq] at e2
      obtain ⟨rfl, hz, rfl⟩ := e2
      clear hz
      have HD := hide (drop_ok (B := B) hB p1 p2 (HL.out x (List.mem_of_getElem? hx)))
      have HNX : Hid ((l.take (j + 1)).foldl drP ps = drP ((l.take j).foldl drP ps) x) := by
        show _ = _
        rw [List.take_add_one, hx]
        simp
      have HS3 := hide p3
      have HE4 := hide p4
      clear p1 p2 p3 p4 hown hx
      go_wp2_with fail
      refine HD.out.mono ?_
      rintro e w5 ⟨rfl, c5, q1, q2, q3, q4⟩
      have HR : Hid (PsR B g o t w cs ((l.take (j + 1)).foldl drP ps) w5) := by
        rw [HNX.out]
        exact ⟨c5, q1, q2, HS3.out.trans q3, HE4.out.trans q4⟩
      clear q1 q2 q3 q4 hcell HD
      go_wp2_with fail
      go_roundw
      case rel => exact ⟨j + 1, by omega, by go_num, HR.out⟩
      case measure => simp [intOf]; omega
    · have x1 : ¬ (j : Int) < (N : Int) := by omega
      obtain rfl : j = N := by omega
      rw [List.take_of_length_le (Nat.le_of_eq hN)] at HP
      go_wp2
      (try simp only [Exit.inBlock, Exit.then])
      refine bodyPost_end (results_none rfl _ _ _) rfl ?_
      exact ⟨rfl, HP.out⟩
end Go.Proofs.YtnfponcadkmfjabGreat
