import Derived.Test.YtnfponcadkmfjabGreatZ50
import Derived.Lib.SlBytesConst
set_option linter.unusedVariables false
namespace Go.Proofs.YtnfponcadkmfjabGreat
open Go.RowKit
def tiA : It := ([97], [98])
def tiB : It := ([98], [97])
theorem tiA_ok : ItOk tiA := ⟨by decide, by decide, by decide, by decide, by decide⟩
theorem tiB_ok : ItOk tiB := ⟨by decide, by decide, by decide, by decide, by decide⟩
theorem told_put : putL [] tiA = [tiA] ∧ putL [tiA] tiB = [tiA, tiB] ∧ rngL [tiA] [] [] 9 = [tiA] ∧ valL [tiA, tiB] [98] = some [97] := ⟨by decide, by decide, by decide, by decide⟩
theorem new30 (s : DS) (h : s = DS.new 30) : s.down = false ∧ s.after < 1 ∧ s.life = 0 ∧ s.n = 30 ∧ s.m = 0 ∧ s.show 0 = [] ∧ s.show 1 = [] := by
  subst h
  exact ⟨rfl, (show (0 : Int) < 1 by decide), rfl, rfl, rfl, rfl, rfl⟩
theorem bk_const {B g : Nat} {w : World} {x : Nat} {fz : Nat × Nat} (h : w.heap[g]? = some (.cells #[.int .u8 (x : Int)] 5 fz)) (hx : x < 256) : BK B w (some ⟨g, 0, none⟩) 1 1 [x] := by
  refine ⟨BS.of rfl (by omega) (by omega) (by omega) (by simpa using hx) ?_, fun y hy => ?_⟩
  · intro i hi
    obtain rfl : i = 0 := by omega
    rw [cell_of_row w g _ _ _ _ h]
    rfl
  · simp only [Option.some.injEq] at hy
    subst hy
    exact Or.inr ⟨_, _, h⟩
theorem ChF.bk {B g n c : Nat} {w w' : World} {a : Option Addr} {xs : List Nat} {cg : Array Value} (h : BK B w a n c xs) (f : ChF B g w w') (hg : w.heap[g]? = some (.cells cg 81 (0, 0))) : BK B w' a n c xs := by
  refine h.ft ⟨f.1, fun k cs fz e => f.2 k cs _ fz e (by decide) ?_⟩
  intro q9
  subst q9
  rw [hg] at e
  simp only [Option.some.injEq, Obj.cells.injEq] at e
  exact absurd e.2.1 (by decide)
theorem SnF.bk {B g n c : Nat} {w w' : World} {a : Option Addr} {xs : List Nat} (h : BK B w a n c xs) (f : SnF B g (.slice none 0 0) w w') {cg : Array Value} (hg : w.heap[g]? = some (.cells cg 81 (0, 0))) : BK B w' a n c xs := by
  refine h.ft ⟨f.1, fun k cs fz e => f.2 k cs _ fz e ?_ (by simp [Value.ownBlock])⟩
  intro q9
  subst q9
  rw [hg] at e
  simp only [Option.some.injEq, Obj.cells.injEq] at e
  exact absurd e.2.1 (by decide)
set_option maxRecDepth 100000 in
set_option maxHeartbeats 8000000 in
theorem told_any (w : World) : Calls Tryz.prog 12 #[] w fun e w' => e = .returned (.bool true) ∧ Below w.heap.size w w' := by
  letI : Gd := ⟨none⟩
  have kc := fun (w : World) (C : Array Value) (n c : Nat) => Lib.run_convert_bytes_const (P := Tryz.prog) w 23 5 C n c Tryz.underlying23 Tryz.underlying5
  have hg0 : Hid (Gd.g = none) := rfl
  obtain ⟨s0, hs0⟩ : ∃ s, s = DS.new 30 := ⟨_, rfl⟩
  obtain ⟨k1, k2, k3, k4, k5, k6, k7⟩ := new30 s0 hs0
  have HNW := hide (new_any w.heap.size 30 w (by omega) (by omega) (Nat.le_refl _) rfl)
  rw [← hs0] at HNW
  have HL0 : Hid (lastH (rdH (pad (s0.show 0)) s0.n) (rdH (pad (s0.show 1)) s0.n) = some (0, 0)) := by
    show _ = _
    rw [k6, k7, rdH_zero]
    exact lastH_zero
  have HS0 := hide (show s0.down = false ∧ s0.after < 1 ∧ s0.life = 0 ∧ s0.n = 30 ∧ s0.m = 0 ∧ s0.show 0 = [] ∧ s0.show 1 = [] from ⟨k1, k2, k3, k4, k5, k6, k7⟩)
  clear k1 k2 k3 k4 k5 k6 k7 hs0
  go_enter Tryz.func12, Tryz.ntmps12
  go_wp2_with fail
  refine HNW.out.mono ?_
  rintro e w1 ⟨p, rfl, hD, hb1⟩
  have HB1 := hide hb1
  have HOP := hide (Open_none (num := 0) hD hb1.size HS0.out.1 HS0.out.2.1 (by rw [HS0.out.2.2.1]; decide) (by rw [HS0.out.2.2.2.1]; decide) (by rw [HS0.out.2.2.2.1]; decide) HL0.out (by decide))
  clear hD hb1 HNW
  go_wp2_with fail
  refine HOP.out.mono ?_
  rintro e w2 ⟨q, g, st0, rfl, hgB, hM, r0, r1, r2, r3, hF⟩
  have HM2 := hide hM
  have HGB := hide hgB
  have HTR0 : Hid (Tr s0 ⟨newSt s0.n, s0.life, 0, 0⟩ st0 []) := Or.inl ⟨r0, r1, r2, rfl, r3⟩
  have HB2 : Hid (Below w.heap.size w w2) := HB1.out.trans hF.bel
  have HR1 := hide r1
  clear hM hgB r0 r1 r2 r3 hF HOP
  have kc1 := kc w2 #[.int .u8 97] 1 1
  have kc2 := kc (w2.alloc (.cells #[.int .u8 97] 5 (1, 2))) #[.int .u8 98] 1 1
  have sz1 : (w2.alloc (.cells #[.int .u8 97] 5 (1, 2))).heap.size = w2.heap.size + 1 := by simp
  rw [sz1] at kc2
  clear kc sz1
  go_upto_region 8 with fail
  have HBA : Hid (Below w2.heap.size w2 ((w2.alloc (.cells #[.int .u8 97] 5 (1, 2))).alloc (.cells #[.int .u8 98] 5 (1, 2)))) := (allocs_below [Obj.cells #[.int .u8 97] 5 (1, 2), Obj.cells #[.int .u8 98] 5 (1, 2)] w2).1
  have HA : Hid (((w2.alloc (.cells #[.int .u8 97] 5 (1, 2))).alloc (.cells #[.int .u8 98] 5 (1, 2))).heap[w2.heap.size]? = some (.cells #[.int .u8 97] 5 (1, 2))) := allocs_get [Obj.cells #[.int .u8 97] 5 (1, 2), Obj.cells #[.int .u8 98] 5 (1, 2)] w2 0 _ rfl
  have HBb : Hid (((w2.alloc (.cells #[.int .u8 97] 5 (1, 2))).alloc (.cells #[.int .u8 98] 5 (1, 2))).heap[w2.heap.size + 1]? = some (.cells #[.int .u8 98] 5 (1, 2))) := allocs_get [Obj.cells #[.int .u8 97] 5 (1, 2), Obj.cells #[.int .u8 98] 5 (1, 2)] w2 1 _ rfl
  clear kc1 kc2
  generalize hw3 : ((w2.alloc (.cells #[.int .u8 97] 5 (1, 2))).alloc (.cells #[.int .u8 98] 5 (1, 2))) = w3 at *
  generalize hna : w2.heap.size = na at *
  have HM3 : Hid (TM w.heap.size p q g s0 ⟨newSt s0.n, s0.life, 0, 0⟩ st0 st0 (.slice none 0 0) (cntF (newSt s0.n) : Nat) w3) := HM2.out.later (by rw [hna]; exact HBA.out)
  have HKA : Hid (BK w.heap.size w3 (some ⟨na, 0, none⟩) 1 1 [97]) := bk_const HA.out (by decide)
  have HKB : Hid (BK w.heap.size w3 (some ⟨na + 1, 0, none⟩) 1 1 [98]) := bk_const HBb.out (by decide)
  have HB3 : Hid (Below w.heap.size w w3) := HB2.out.trans (HBA.out.mono (by have := HB2.out.size; omega))
  have HPT := hide (Put_ok hg0.out HM3.out HTR0.out (by decide) tiA tiA_ok (kn := 1) (vn := 1) rfl rfl HKA.out HKB.out (by rw [HR1.out, newSt_cnt s0.n (by rw [HS0.out.2.2.2.1]; decide), HS0.out.2.2.2.1]; decide) (by rw [HR1.out]; decide) (by rw [HS0.out.2.2.2.2.1]; decide))
  clear HA HBb HBA
  generalize ht0 : (⟨newSt s0.n, s0.life, 0, 0⟩ : PS) = t0 at *
  have HT0 : Hid (t0.num = 0 ∧ cntF t0.st = 28) := by
    show _ ∧ _
    rw [← ht0]
    exact ⟨rfl, by show cntF (newSt s0.n) = 28; rw [newSt_cnt s0.n (by rw [HS0.out.2.2.2.1]; decide), HS0.out.2.2.2.1]⟩
  go_wp2_with fail
  refine HPT.out.mono ?_
  rintro e w4 ⟨rfl, s1, t1, now1, L1, hG1, hM4, hT4, hL1, hC4⟩
  rw [told_put.1] at hT4
  obtain ⟨cg3, hcg3, _⟩ := HM3.out.tv
  have HKA4 := hide (ChF.bk HKA.out hC4 hcg3)
  have HKB4 := hide (ChF.bk HKB.out hC4 hcg3)
  have HM4 := hide hM4
  have HT4 := hide hT4
  have HG1 := hide hG1
  have HB4 : Hid (Below w.heap.size w w4) := HB3.out.trans hC4.1
  have HL1 : Hid (L1.length ≤ 1) := by
    have h9 := HR1.out
    show L1.length ≤ 1
    omega
  have HCO := hide (Commit_ok hM4 hT4 (SnV.nil _) (by rw [hG1.n, HS0.out.2.2.2.1]; decide) (by rw [hG1.num, HT0.out.1]; decide))
  clear hM4 hT4 hG1 hL1 hC4 HPT hcg3
  go_wp2_with fail
  refine HCO.out.mono ?_
  rintro e w5 ⟨rfl, s2, t2, hCm, hM5, hC5⟩
  obtain ⟨cg4, hcg4, _⟩ := HM4.out.tv
  have HKA5 := hide (ChF.bk HKA4.out hC5 hcg4)
  have HKB5 := hide (ChF.bk HKB4.out hC5 hcg4)
  have HM5 := hide hM5
  have HCm := hide hCm
  have HTR2 : Hid (Tr s2 t2 now1 [tiA]) := HT4.out.cmt hCm HM4.out.hd (fun i _ hi => hi)
  have HB5 : Hid (Below w.heap.size w w5) := HB4.out.trans hC5.1
  have HD1 : Hid (now1.depth ≤ 1) := HT4.out.one (by decide)
  have HC27 : Hid (27 ≤ cntF t2.st) := by
    have h1 := HG1.out.cnt
    have h2 := HT0.out.2
    have h3 := HL1.out
    have h4 := hCm.cnt
    show 27 ≤ cntF t2.st
    omega
  have HPT2 := hide (Put_ok hg0.out hM5 HTR2.out (by decide) tiB tiB_ok (kn := 1) (vn := 1) rfl rfl HKB5.out HKA5.out (by have := HD1.out; have := HC27.out; omega) (by have := HD1.out; omega) (by rw [hCm.m]; decide))
  clear hM5 hCm hC5 HCO hcg4
  go_wp2_with fail
  refine HPT2.out.mono ?_
  rintro e w6 ⟨rfl, s3, t3, now2, L2, hG2, hM6, hT6, hL2, hC6⟩
  rw [told_put.2.1] at hT6
  obtain ⟨cg5, hcg5, _⟩ := HM5.out.tv
  have HKB6 := hide (ChF.bk HKB5.out hC6 hcg5)
  have HM6 := hide hM6
  have HT6 := hide hT6
  have HTL6 : Hid (Tr s3 t3 now1 [tiA]) := HTR2.out.grow hG2
  have HG2 := hide hG2
  have HB6 : Hid (Below w.heap.size w w6) := HB5.out.trans hC6.1
  have HSP := hide (Snap_ok hM6 (SnO.nil _ _ _) (by decide))
  clear hM6 hT6 hG2 hL2 hC6 HPT2 hcg5
  go_wp2_with fail
  refine HSP.out.mono ?_
  rintro e w7 ⟨nb, sv7, rfl, hnb, hM7, hS7, hF7⟩
  rw [List.nil_append] at hS7
  obtain ⟨cg6, hcg6, _⟩ := HM6.out.tv
  have HKB7 := hide (SnF.bk HKB6.out hF7 hcg6)
  have HM7 := hide hM7
  have HS7 := hide hS7
  have HB7 : Hid (Below w.heap.size w w7) := HB6.out.trans hF7.1
  obtain ⟨cx7, hx7, hsp7⟩ := hS7.s (nb, now1) (List.mem_singleton.2 rfl)
  have HSR := hide (SnapRange_ok (most := 9) (lo := []) (hi := []) hM7 HTL6.out (by have := HD1.out; omega) hx7 hsp7.c0 hsp7.c1 hsp7.c2 rfl rfl (BK.nil _ _) (BK.nil _ _) (by decide) (by decide) (by decide) (by decide))
  rw [told_put.2.2.1] at HSR
  clear hM7 hS7 hF7 hx7 hsp7 HSP hcg6 hnb
  go_wp2_with fail
  refine HSR.out.mono ?_
  rintro e w8 ⟨fv, rfl, hP8, hb8⟩
  obtain ⟨fa, fc, hfv⟩ := hP8.form
  subst hfv
  have HM8 := hide (HM7.out.later hb8)
  have HS8 := hide (HS7.out.later hb8)
  have HKB8 := hide (HKB7.out.later hb8 HM7.out.bw)
  have HB8 : Hid (Below w.heap.size w w8) := HB7.out.trans (hb8.mono HB7.out.size)
  have HD2 : Hid (now2.depth ≤ 1) := HT6.out.one (by decide)
  have HGT := hide (Get_ok HM8.out HT6.out (by have := HD2.out; omega) HKB8.out (by decide) (by decide))
  rw [told_put.2.2.2] at HGT
  clear hP8 hb8 HSR
  simp only [List.length_singleton]
  go_wp2_with fail
  refine HGT.out.mono ?_
  rintro e w9 ⟨v9, is9, rfl, hv9, hb9⟩
  obtain ⟨rfl, va9, vc9, hva9, hbk9⟩ := hv9
  subst hva9
  have HM9 := hide (HM8.out.later hb9)
  have HS9 := hide (HS8.out.later hb9)
  have HV9 : Hid (BK w.heap.size w9 va9 1 vc9 [97]) := hbk9
  have HB9 : Hid (Below w.heap.size w w9) := HB8.out.trans (hb9.mono HB8.out.size)
  obtain ⟨R, hR, hR1, hRn⟩ := HTL6.out.root HM6.out.hd
  have hn3 : s3.n = 30 := by rw [HG2.out.n, HCm.out.n, HG1.out.n, HS0.out.2.2.2.1]
  have hsh := HG2.out.show01 HM5.out.hd
  have hsh1 := HG1.out.show01 HM3.out.hd
  have hn1 : t1.num = 0 := by rw [HG1.out.num, HT0.out.1]
  have hnt3 : t3.num = 1 := by rw [HG2.out.num, HCm.out.num, hn1]
  have hlh : lastH (rdH (pad (s3.show 0)) s3.n) (rdH (pad (s3.show 1)) s3.n) = some (t3.num, R) := by
    rw [hsh.1, hsh.2, HCm.out.sh 0 (by rw [HG1.out.n, HS0.out.2.2.2.1]; decide), HCm.out.sh 1 (by rw [HG1.out.n, HS0.out.2.2.2.1]; decide), hn1, if_neg (by decide), if_pos (by decide), hsh1.1, HS0.out.2.2.2.2.2.1, rdH_zero, hnt3, hR, Int.toNat_natCast, rdH_head (by decide) (by omega) hR1 (by omega) (by omega)]
    exact lastH_odd (by decide) rfl
  have hpg := HTL6.out.pg HM6.out.hd
  have hsub := jnS_sub (snP [(nb, now1)]) (jnP now1.pgs now1.pgs) (jnP_len hpg.1 hpg.1) (fun x hx => by
    simp only [snP, List.map_cons, List.map_nil, List.mem_singleton] at hx
    subst hx
    exact hpg.1)
  have hPN : PgN s3 (jnS (jnP now1.pgs now1.pgs) (snP [(nb, now1)])) := by
    intro i hi hh
    have e1 : jnS (jnP now1.pgs now1.pgs) (snP [(nb, now1)]) = jnP (jnP now1.pgs now1.pgs) now1.pgs := rfl
    rw [e1, hs_jn (jnP_len hpg.1 hpg.1) hpg.1 hi, hs_jn hpg.1 hpg.1 hi, Bool.or_self, Bool.or_self] at hh
    exact hpg.2 i hh
  have HRB := hide (Rollback_ok hg0.out HM9.out HS9.out hPN (by omega) hlh (by rw [hnt3]; decide) (by omega))
  have HTR9 : Hid (Tr s3 (anew s3 t3.num R (jnS (jnP now1.pgs now1.pgs) (snP [(nb, now1)]))) now1 [tiA]) := HTL6.out.anew hPN (fun i hi hh => hsub.2.1 i hi (by rw [hs_jn hpg.1 hpg.1 hi, hh]; rfl))
  have HNM : Hid ((anew s3 t3.num R (jnS (jnP now1.pgs now1.pgs) (snP [(nb, now1)]))).num = 1) := by
    show _ = _
    rw [(anew_st hPN).2.2.1, hnt3]
  generalize hta : anew s3 t3.num R (jnS (jnP now1.pgs now1.pgs) (snP [(nb, now1)])) = ta at *
  clear hbk9 hb9 HGT hR hR1 hRn hsh hsh1 hlh hpg hsub hPN hta
  go_wp2_with fail
  refine HRB.out.mono ?_
  rintro e w10 ⟨rfl, q2, hM10, hS10, hC10⟩
  obtain ⟨cg9, hcg9, _⟩ := HM9.out.tv
  have hv10 := ChF.bk HV9.out hC10 hcg9
  have hcv := run_text hv10.1
  have HM10 := hide hM10
  have HB10 : Hid (Below w.heap.size w w10) := HB9.out.trans hC10.1
  have hke : now1.keys = 1 := HTR9.out.keys
  have HLE := hide (Len_any hM10)
  rw [hke] at HLE
  have HNU := hide (Number_any hM10)
  rw [HNM.out] at HNU
  have HCK := hide (Check_ok hM10 HTR9.out (by have := HD1.out; omega) (by decide))
  have e97 : str [97] = ⟨#[97]⟩ := by decide
  rw [e97] at hcv
  clear hM10 hS10 hC10 HRB hcg9 hv10 hke e97
  go_wp2_with fail
  refine HLE.out.mono ?_
  rintro e w11 ⟨rfl, rfl⟩
  go_wp2_with fail
  refine HNU.out.mono ?_
  rintro e w12 ⟨rfl, rfl⟩
  go_wp2_with fail
  refine HCK.out.mono ?_
  rintro e w13 ⟨rfl, hb13⟩
  have HPA := hide (Put_arg (HM10.out.later hb13) none none 0 0 0 0 (Or.inl rfl))
  have HB13 : Hid (Below w.heap.size w w13) := HB10.out.trans (hb13.mono HB10.out.size)
  clear hb13 HCK
  go_wp2_with fail
  refine HPA.out.mono ?_
  rintro e w14 ⟨rfl, hb14⟩
  have HB14 : Hid (Below w.heap.size w w14) := HB13.out.trans (hb14.mono HB13.out.size)
  clear hb14
  go_wp2
  go_ret
  exact ⟨rfl, HB14.out⟩
end Go.Proofs.YtnfponcadkmfjabGreat
set_option linter.unusedVariables false
namespace Go.Proofs.YtnfponcadkmfjabGreat
open Go.RowKit
theorem new_facts (n : Nat) (s : DS) (h : s = DS.new n) : s.down = false ∧ s.after < 1 ∧ s.life = 0 ∧ s.n = n ∧ s.m = 0 ∧ s.show 0 = [] ∧ s.show 1 = [] := by
  subst h
  have hk : ∀ b, (DS.new n).show b = [] := by
    intro b
    have : (DS.new n).show b = (DS.new n).kept.getD b [] := rfl
    rw [this]
    show (List.replicate n ([] : List Nat)).getD b [] = []
    rw [List.getD_eq_getElem?_getD, List.getElem?_replicate]
    split <;> rfl
  exact ⟨rfl, (show (0 : Int) < 1 by decide), rfl, List.length_replicate, rfl, hk 0, hk 1⟩
def OpT [Gd] (B p g n : Nat) (w' : World) : Prop := ∃ (q : Nat) (s : DS) (t : PS) (st0 : StT), TM B p q g s t st0 st0 (.slice none 0 0) (cntF t.st : Nat) w' ∧ Tr s t st0 [] ∧ st0.depth = 0 ∧ s.n = n ∧ s.m = 0 ∧ cntF t.st = n - 2 ∧ t.num = 0 ∧ s.show 0 = [] ∧ s.show 1 = []
set_option maxRecDepth 100000 in
set_option maxHeartbeats 4000000 in
theorem open_any [Gd] {n : Nat} (hg0 : Gd.g = none) (w : World) (h3 : 3 ≤ n) (h4 : n ≤ 4096) :
    Calls Tryz.prog 7 #[.int .i64 (n : Int)] w fun e w' => ∃ p g, e = .returned (.tuple #[.pointer (some ⟨p, 0, none⟩), .pointer (some ⟨g, 0, none⟩)]) ∧ w.heap.size ≤ g ∧ OpT w.heap.size p g n w' ∧ Below w.heap.size w w' := by
  obtain ⟨s0, hs0⟩ : ∃ s, s = DS.new n := ⟨_, rfl⟩
  have hf := new_facts n s0 hs0
  have HNW := hide (new_any w.heap.size n w (by omega) (by omega) (Nat.le_refl _) hg0)
  rw [← hs0] at HNW
  have HL0 : Hid (lastH (rdH (pad (s0.show 0)) s0.n) (rdH (pad (s0.show 1)) s0.n) = some (0, 0)) := by
    show _ = _
    rw [hf.2.2.2.2.2.1, hf.2.2.2.2.2.2, rdH_zero]
    exact lastH_zero
  have HF := hide hf
  clear hs0 hf
  go_enter Tryz.func7, Tryz.ntmps7
  go_wp2_with fail
  refine HNW.out.mono ?_
  rintro e w1 ⟨p, rfl, hD, hb1⟩
  have HB1 := hide hb1
  have HOP := hide (Open_none (num := 0) hD hb1.size HF.out.1 HF.out.2.1 (by rw [HF.out.2.2.1]; decide) (by rw [HF.out.2.2.2.1]; exact h3) (by rw [HF.out.2.2.2.1]; exact h4) HL0.out (by decide))
  clear hD hb1 HNW
  go_wp2_with fail
  refine HOP.out.mono ?_
  rintro e w2 ⟨q, g, st0, rfl, hgB, hM, r0, r1, r2, r3, hF⟩
  have HM := hide hM
  have HO : Hid (OpT w.heap.size p g n w2) := ⟨q, s0, _, st0, hM, Or.inl ⟨r0, r1, r2, rfl, r3⟩, r1, HF.out.2.2.2.1, HF.out.2.2.2.2.1, by show cntF (newSt s0.n) = _; rw [newSt_cnt s0.n (by rw [HF.out.2.2.2.1]; omega), HF.out.2.2.2.1], rfl, HF.out.2.2.2.2.2.1, HF.out.2.2.2.2.2.2⟩
  have HB2 : Hid (Below w.heap.size w w2) := HB1.out.trans hF.bel
  have HGB : Hid (w.heap.size ≤ g) := Nat.le_trans HB1.out.size hgB
  clear hM hgB r0 r1 r2 r3 hF HOP HM
  go_wp2
  go_ret2
  exact ⟨p, g, rfl, HGB.out, HO.out, HB2.out⟩
end Go.Proofs.YtnfponcadkmfjabGreat
set_option linter.unusedVariables false
namespace Go.Proofs.YtnfponcadkmfjabGreat
open Go.RowKit
theorem prC_one {B : Nat} {w : World} {kv : List (Value × Value)} {F : List It} (hl : kv.length = F.length) (h : ∀ (i : Nat) it x, F[i]? = some it → kv[i]? = some x → KV B w x.1 it.1 ∧ KV B w x.2 it.2) : ∀ u ∈ prC kv, u.oneCell' = true := by
  intro u hu
  unfold prC at hu
  rw [List.mem_flatMap] at hu
  obtain ⟨x, hx, hu⟩ := hu
  obtain ⟨i, hi⟩ := List.getElem?_of_mem hx
  obtain ⟨it, hit⟩ : ∃ it, F[i]? = some it := ⟨_, List.getElem?_eq_getElem (by have := (List.getElem?_eq_some_iff.1 hi).1; omega)⟩
  obtain ⟨⟨a, c, e1, _⟩, ⟨b, d, e2, _⟩⟩ := h i it x hit hi
  simp only [List.mem_cons, List.not_mem_nil, or_false] at hu
  rcases hu with rfl | rfl | rfl
  · rfl
  · rw [e1]; rfl
  · rw [e2]; rfl
theorem wp_append_prw {o : Oper} {a : Act} {K : Act → World → Prop} {Q : Exit → Act → World → Prop} {wr : World} (s x : Operand)
    (ho : o.op = .call { callee := .builtin .append, args := #[s, x], argTypes := #[30, 30] })
    {B B1 B2 : Nat} {v u : Value} {F G : List It} (hs : a.eval s = v) (hx : a.eval x = u) (hF : PRW B B1 wr v F) (hG : PRW B B2 wr u G) (hB : B ≤ B1) (hB1 : B1 ≤ wr.heap.size) (hsize : F.length + G.length ≤ 100000)
    (h : ∀ v' w', PRW B B1 w' v' (F ++ G) → FT B wr w' → Below B1 wr w' → (∀ k, k < wr.heap.size → some k ≠ v.ownBlock → w'.heap[k]? = wr.heap[k]?) → K (a.put o.dst v') w') : Oper.wp Tryz.prog o a wr K Q := by
  obtain ⟨i0, hi, hz0, hz1, hz2⟩ := info_parts info_pair
  obtain ⟨kf, hkl, hown, hall⟩ := hF
  obtain ⟨kg, hgl, hown2, hall2⟩ := hG
  rcases hown2.2 with ⟨hu, h0⟩ | ⟨gg, cap, cur, hu, _, hc, h6, h7, h8, h9⟩
  · have e : G = [] := List.eq_nil_of_length_eq_zero h0
    subst e
    have hrun := run_append_owned_none (P := Tryz.prog) (w := wr) B1 30 o.type 36 i0 3 Tryz.underlying30 hi v F.length (prC kf) hown
    have hx' := hx.trans hu
    have hK := h v wr (by rw [List.append_nil]; exact ⟨kf, hkl, hown, hall⟩) (FT.refl _ _) (Below.refl _ _) (fun _ _ _ => rfl)
    unfold Oper.wp
    simp [execOp, ho, resolve, invoke, builtin, hs, hx', hrun, Result.andThen]
    exact hK
  · refine wp_append_own wr s x _ ho B1 36 i0 (.agg #[.int .i64 0, .slice none 0 0, .slice none 0 0]) 3 56 Tryz.underlying30 hi hz0 hz1 hz2 rfl (by omega) v F.length (prC kf) hs hown ⟨gg, 0, none⟩ G.length cap (prC kg) (hx.trans hu) (by rw [prC_len, hgl]) (fun j y hj => ?_) (prC_one hgl hall2) (by unfold maxLen; omega) (by omega) hB1 ?_
    · have hlj := (List.getElem?_eq_some_iff.1 hj).1
      rw [Addr.add_lit, Nat.zero_add, cell_blk hc, ← Array.getElem?_toList]
      rw [← h9, List.getElem?_take] at hj
      split at hj
      · exact hj
      · cases hj
    · intro v' w' h1 h2 _
      have keep : ∀ (k : Nat) (c0 : Array Value) (t0 : TypeId) (fz : Nat × Nat), wr.heap[k]? = some (Obj.cells c0 t0 fz) → t0 ≠ 36 → w'.heap[k]? = some (Obj.cells c0 t0 fz) := by
        intro k c0 t0 fz e ht
        rw [h2.block k (Array.getElem?_eq_some_iff.1 e).1 ?_, e]
        intro q9
        obtain ⟨_, cur9, hc9⟩ := own_block hown q9.symm
        rw [hc9] at e
        simp only [Option.some.injEq, Obj.cells.injEq] at e
        exact ht e.2.1.symm
      have bel : Below B1 wr w' := (Below.refl B1 _).grown h2 hB1 (fun k hk => (hown.lt k hk).1)
      have hft : FT B wr w' := ⟨bel.mono hB, fun k c0 fz e => keep k c0 _ fz e (by decide)⟩
      refine h v' w' ⟨kf ++ kg, by simp [hkl, hgl], ?_, fun i it y e1 e2 => ?_⟩ hft bel (fun k hk hn => h2.block k hk hn)
      · rw [List.length_append, prC_app]
        exact h1
      · by_cases c : i < F.length
        · rw [List.getElem?_append_left c] at e1
          rw [List.getElem?_append_left (by omega)] at e2
          exact ⟨(hall i it y e1 e2).1.ft hft, (hall i it y e1 e2).2.ft hft⟩
        · rw [List.getElem?_append_right (by omega)] at e1 e2
          rw [hkl] at e2
          exact ⟨(hall2 _ it y e1 e2).1.ft hft, (hall2 _ it y e1 e2).2.ft hft⟩
theorem wpList_append_prw {ops : Array Oper} {rest : List Oper} {o : Oper} {a : Act} {Q : Exit → Act → World → Prop} {wr : World} (hw : Region.wanted o (yielded ops a.tmps) = true) (s x : Operand)
    (ho : o.op = .call { callee := .builtin .append, args := #[s, x], argTypes := #[30, 30] })
    {B B1 B2 : Nat} {v u : Value} {F G : List It} (hs : a.eval s = v) (hx : a.eval x = u) (hF : PRW B B1 wr v F) (hG : PRW B B2 wr u G) (hB : B ≤ B1) (hB1 : B1 ≤ wr.heap.size) (hsize : F.length + G.length ≤ 100000)
    (h : ∀ v' w', PRW B B1 w' v' (F ++ G) → FT B wr w' → Below B1 wr w' → (∀ k, k < wr.heap.size → some k ≠ v.ownBlock → w'.heap[k]? = wr.heap[k]?) → wpList Tryz.prog ops Q rest (a.put o.dst v') w') : wpList Tryz.prog ops Q (o :: rest) a wr :=
  wpList_step fun K hK => by
    rw [if_pos hw]
    exact wp_append_prw s x ho hs hx hF hG hB hB1 hsize fun v' w' p1 p2 p3 p4 => hK _ _ (h v' w' p1 p2 p3 p4)
theorem PRW.keep {B B1 : Nat} {w w' : World} {v : Value} {F : List It} (h : PRW B B1 w v F) (f : FT B w w') (hk : ∀ k, v.ownBlock = some k → w'.heap[k]? = w.heap[k]?) : PRW B B1 w' v F := by
  obtain ⟨kv, h1, h2, h4⟩ := h
  exact ⟨kv, h1, own_stay h2 fun k cs e1 e2 => (hk k e1).trans e2, fun i it x e1 e2 => ⟨(h4 i it x e1 e2).1.ft f, (h4 i it x e1 e2).2.ft f⟩⟩
theorem PRW.later {B B1 : Nat} {w w' : World} {v : Value} {F : List It} (h : PRW B B1 w v F) (hb : Below w.heap.size w w') (hB : B ≤ w.heap.size) : PRW B B1 w' v F :=
  h.stay (FT.of hb hB) fun k cs _ e => (hb.block k (Array.getElem?_eq_some_iff.1 e).1).trans e
theorem PRW.blk {B B1 : Nat} {w : World} {v : Value} {F : List It} (h : PRW B B1 w v F) {k : Nat} (hk : v.ownBlock = some k) : B1 ≤ k ∧ k < w.heap.size := by
  obtain ⟨kv, h1, h2, h4⟩ := h
  obtain ⟨a, cur, c⟩ := own_block h2 hk
  exact ⟨a, (Array.getElem?_eq_some_iff.1 c).1⟩
theorem PRW.at {B B1 : Nat} {w : World} {v : Value} {F : List It} (h : PRW B B1 w v F) {j : Nat} {it : It} (hj : F[j]? = some it) : ∃ g c ka kc va vc, v = .slice (some ⟨g, 0, none⟩) F.length c ∧ w.cell? ⟨g, j * 3, none⟩ = some (.int .i64 0) ∧ w.cell? ⟨g, j * 3 + 1, none⟩ = some (.slice ka it.1.length kc) ∧ w.cell? ⟨g, j * 3 + 2, none⟩ = some (.slice va it.2.length vc) ∧ BK B w ka it.1.length kc it.1 ∧ BK B w va it.2.length vc it.2 := by
  obtain ⟨kf, hkl, hown, hall⟩ := h
  have hlt := (List.getElem?_eq_some_iff.1 hj).1
  obtain ⟨x, hx⟩ : ∃ x, kf[j]? = some x := ⟨_, List.getElem?_eq_getElem (by omega)⟩
  obtain ⟨⟨ka, kc, e1, b1⟩, ⟨va, vc, e2, b2⟩⟩ := hall j it x hj hx
  obtain ⟨p0, p1, p2⟩ := prC_get hx
  rcases hown.2 with ⟨_, e0⟩ | ⟨g, cap, cur, e, _, hc, _, _, h4, h5⟩
  · omega
  · have get : ∀ i u, (prC kf)[i]? = some u → w.cell? ⟨g, i, none⟩ = some u := by
      intro i u hi
      have hli := (List.getElem?_eq_some_iff.1 hi).1
      rw [prC_len] at hli
      rw [cell_blk hc, ← Array.getElem?_toList]
      rw [← h5, List.getElem?_take] at hi
      split at hi
      · exact hi
      · cases hi
    exact ⟨g, cap, ka, kc, va, vc, e, get _ _ p0, by rw [← e1]; exact get _ _ p1, by rw [← e2]; exact get _ _ p2, b1, b2⟩
set_option maxRecDepth 100000 in
set_option maxHeartbeats 2000000 in
theorem copied_any {B : Nat} {w : World} {a : Option Addr} {n c : Nat} {xs : List Nat} (h : BS w a n c xs) (hn : n ≤ 100000) :
    Calls Tryz.prog 11 #[.slice a n c] w fun e w' => ∃ v, e = .returned v ∧ w'.ownsRow w.heap.size 5 1 v n (cellsOf xs) ∧ Below w.heap.size w w' := by
  obtain ⟨i0, hi, hz0, hz1, hz2⟩ := info_parts info5
  have hx := h.hlen
  cases a with
  | none =>
    have hc0 := h.hnil rfl
    have hcc := h.hcap
    have e0 : n = 0 := by omega
    subst e0
    have ex : xs = [] := List.eq_nil_of_length_eq_zero hx
    subst ex hc0
    clear h
    go_enter Tryz.func11, Tryz.ntmps11
    go_wp2_with (at_builtin; refine wpList_append_own_none rfl (.tmp 4) (.tmp 5) 23 rfl w.heap.size 5 i0 1 Tryz.underlying23 hi (.slice none 0 0) 0 [] rfl ⟨rfl, Or.inl ⟨rfl, rfl⟩⟩ rfl ?_)
    go_ret
    exact ⟨_, rfl, ⟨rfl, Or.inl ⟨rfl, rfl⟩⟩, Below.refl _ _⟩
  | some x =>
    have HN := hide h.news
    have HL : Hid ((cellsOf xs).length = n * 1) := by show _ = _; rw [cellsOf_length, hx, Nat.mul_one]
    clear h
    go_enter Tryz.func11, Tryz.ntmps11
    go_wp2_with (at_builtin; refine wpList_append_own _ rfl (.tmp 4) (.tmp 5) 23 rfl w.heap.size 5 i0 (.int .u8 0) 1 1 Tryz.underlying23 hi hz0 hz1 hz2 rfl (by omega) (.slice none 0 0) 0 [] rfl ⟨rfl, Or.inl ⟨rfl, rfl⟩⟩ x n c (cellsOf xs) rfl HL.out HN.out (cellsOf_one xs) (by unfold maxLen; omega) (by omega) (Nat.le_refl _) ?_; intro v3 w3 ho3 hg3 hz3; have HO3 := hide ho3; have HG3 := hide hg3; clear ho3 hg3 hz3)
    go_ret
    refine ⟨v3, rfl, ?_, (Below.refl _ _).grown HG3.out (Nat.le_refl _) (fun k hk => by simp [Value.ownBlock] at hk)⟩
    have h9 := HO3.out
    rw [Nat.zero_add, List.nil_append] at h9
    exact h9
set_option maxRecDepth 100000 in
set_option maxHeartbeats 4000000 in
theorem same_ok {B B1 B2 : Nat} {w : World} {v u : Value} {F : List It} (h1 : PRW B B1 w v F) (h2 : PRW B B2 w u F) (hl : F.length ≤ 100000) :
    Calls Tryz.prog 10 #[v, u] w fun e w' => e = .returned (.bool true) ∧ Below w.heap.size w w' := by
  obtain ⟨a1, c1, e1⟩ := h1.form
  obtain ⟨a2, c2, e2⟩ := h2.form
  have H1 := hide h1
  have H2 := hide h2
  subst e1 e2
  clear h1 h2
  generalize hN : F.length = N at *
  go_enter Tryz.func10, Tryz.ntmps10
  go_wp2_with fail
  go_loopw [5] (fun i wx => ∃ j : Nat, j ≤ N ∧ i = .int .i64 j ∧ Below w.heap.size w wx ∧ wx.heap = w.heap) (fun i _ => N - (intOf i).toNat)
  case atStart => exact ⟨0, by omega, rfl, Below.refl _ _, rfl⟩
  case round =>
    obtain ⟨j, hj, rfl, hbr, hhp⟩ := hrel
    have HBR := hide hbr
    have HHP := hide hhp
    clear hbr hhp
    by_cases hjn : j < N
    · have xj : (j : Int) < (N : Int) := by omega
      obtain ⟨it, hit⟩ : ∃ it, F[j]? = some it := ⟨_, List.getElem?_eq_getElem (by omega)⟩
      obtain ⟨g1, d1, ka1, kc1, va1, vc1, f1, q1, q2, q3, q4, q5⟩ := H1.out.at hit
      obtain ⟨g2, d2, ka2, kc2, va2, vc2, f2, r1, r2, r3, r4, r5⟩ := H2.out.at hit
      simp only [Value.slice.injEq] at f1 f2
      obtain ⟨rfl, z1, rfl⟩ := f1
      obtain ⟨rfl, z2, rfl⟩ := f2
      clear z1 z2
      have hbs : ∀ {ww : World} {a : Option Addr} {n c : Nat} {xs : List Nat}, BS w a n c xs → ww.heap = w.heap → BS ww a n c xs := by
        intro ww a n c xs h9 hh
        exact ⟨h9.hlen, h9.hcap, h9.hroom, h9.hmax, h9.hbyte, h9.hnil, fun x hx i hi => by rw [← h9.hcell x hx i hi]; exact World.cell?_of_block (by rw [hh])⟩
      obtain ⟨ks, hks⟩ : ∃ ks, str it.1 = ks := ⟨_, rfl⟩
      obtain ⟨vs, hvs⟩ : ∃ vs, str it.2 = vs := ⟨_, rfl⟩
      generalize it.1.length = kn at *
      generalize it.2.length = vn at *
      have HSS : Hid (∀ ww : World, ww.heap = w.heap → (fun wx => wx.cell? ⟨g1, j * 3, none⟩ = some (.int .i64 0) ∧ wx.cell? ⟨g2, j * 3, none⟩ = some (.int .i64 0) ∧ wx.cell? ⟨g1, j * 3 + 1, none⟩ = some (.slice ka1 kn kc1) ∧ wx.cell? ⟨g2, j * 3 + 1, none⟩ = some (.slice ka2 kn kc2) ∧ wx.cell? ⟨g1, j * 3 + 2, none⟩ = some (.slice va1 vn vc1) ∧ wx.cell? ⟨g2, j * 3 + 2, none⟩ = some (.slice va2 vn vc2) ∧ (convert 23 9 (.slice ka1 kn kc1)).run Tryz.prog wx = .ok (.string ks) wx ∧ (convert 23 9 (.slice ka2 kn kc2)).run Tryz.prog wx = .ok (.string ks) wx ∧ (convert 23 9 (.slice va1 vn vc1)).run Tryz.prog wx = .ok (.string vs) wx ∧ (convert 23 9 (.slice va2 vn vc2)).run Tryz.prog wx = .ok (.string vs) wx) ww) := by
        intro ww hh
        have ce : ∀ {g o : Nat} {x : Value}, w.cell? ⟨g, o, none⟩ = some x → ww.cell? ⟨g, o, none⟩ = some x := fun h9 => (World.cell?_of_block (by rw [hh])).trans h9
        exact ⟨ce q1, ce r1, ce q2, ce r2, ce q3, ce r3, by rw [← hks]; exact run_text (hbs q4.1 hh), by rw [← hks]; exact run_text (hbs r4.1 hh), by rw [← hvs]; exact run_text (hbs q5.1 hh), by rw [← hvs]; exact run_text (hbs r5.1 hh)⟩
      have HX0 : Hid ((fun wx => wx.cell? ⟨g1, j * 3, none⟩ = some (.int .i64 0) ∧ wx.cell? ⟨g2, j * 3, none⟩ = some (.int .i64 0) ∧ wx.cell? ⟨g1, j * 3 + 1, none⟩ = some (.slice ka1 kn kc1) ∧ wx.cell? ⟨g2, j * 3 + 1, none⟩ = some (.slice ka2 kn kc2) ∧ wx.cell? ⟨g1, j * 3 + 2, none⟩ = some (.slice va1 vn vc1) ∧ wx.cell? ⟨g2, j * 3 + 2, none⟩ = some (.slice va2 vn vc2) ∧ (convert 23 9 (.slice ka1 kn kc1)).run Tryz.prog wx = .ok (.string ks) wx ∧ (convert 23 9 (.slice ka2 kn kc2)).run Tryz.prog wx = .ok (.string ks) wx ∧ (convert 23 9 (.slice va1 vn vc1)).run Tryz.prog wx = .ok (.string vs) wx ∧ (convert 23 9 (.slice va2 vn vc2)).run Tryz.prog wx = .ok (.string vs) wx) wr.drew) := HSS.out _ HHP.out
      have dk : (ks != ks) = false := by cases ks with | mk d => show (!(d == d)) = false; simp
      have dv : (vs != vs) = false := by cases vs with | mk d => show (!(d == d)) = false; simp
      clear q1 q2 q3 q4 q5 r1 r2 r3 r4 r5 hbs HSS hks hvs hit
      go_upto_region 6 with fail
      refine wp_region_noPanic ?_
      refine wp_region_held_drew (S := fun wx => wx.cell? ⟨g1, j * 3, none⟩ = some (.int .i64 0) ∧ wx.cell? ⟨g2, j * 3, none⟩ = some (.int .i64 0) ∧ wx.cell? ⟨g1, j * 3 + 1, none⟩ = some (.slice ka1 kn kc1) ∧ wx.cell? ⟨g2, j * 3 + 1, none⟩ = some (.slice ka2 kn kc2) ∧ wx.cell? ⟨g1, j * 3 + 2, none⟩ = some (.slice va1 vn vc1) ∧ wx.cell? ⟨g2, j * 3 + 2, none⟩ = some (.slice va2 vn vc2) ∧ (convert 23 9 (.slice ka1 kn kc1)).run Tryz.prog wx = .ok (.string ks) wx ∧ (convert 23 9 (.slice ka2 kn kc2)).run Tryz.prog wx = .ok (.string ks) wx ∧ (convert 23 9 (.slice va1 vn vc1)).run Tryz.prog wx = .ok (.string vs) wx ∧ (convert 23 9 (.slice va2 vn vc2)).run Tryz.prog wx = .ok (.string vs) wx) (by kernel_rfl) HX0.out (fun hHeld => ?_)
      refine wpAnyH_tk 0 17 (v := ?va0) ?hya0 ?_
      case hya0 => intro oi ho; simp only [List.getElem?_toArray, List.getElem?_cons_zero, Option.some.injEq] at ho; subst ho; refine Or.inl ⟨by rfl, ?_⟩; intro wx hSw; (try dsimp only at hSw); go_simp; try rfl
      try simp only [Act.put, List.setIfInBounds_toArray, List.set_cons_zero, List.set_cons_succ]
      refine wpAnyH_tk 1 18 (v := ?va1) ?hya1 ?_
      case hya1 => intro oi ho; simp only [List.getElem?_toArray, List.getElem?_cons_succ, List.getElem?_cons_zero, Option.some.injEq] at ho; subst ho; refine Or.inl ⟨by rfl, ?_⟩; intro wx hSw; (try dsimp only at hSw); go_simp; try rfl
      try simp only [Act.put, List.setIfInBounds_toArray, List.set_cons_zero, List.set_cons_succ]
      refine wpAnyH_tk 2 19 (v := ?va2) ?hya2 ?_
      case hya2 => intro oi ho; simp only [List.getElem?_toArray, List.getElem?_cons_succ, List.getElem?_cons_zero, Option.some.injEq] at ho; subst ho; refine Or.inl ⟨by rfl, ?_⟩; intro wx hSw; (try dsimp only at hSw); go_simp; try rfl
      try simp only [Act.put, List.setIfInBounds_toArray, List.set_cons_zero, List.set_cons_succ]
      refine wpAnyH_tk 3 20 (v := ?va3) ?hya3 ?_
      case hya3 => intro oi ho; simp only [List.getElem?_toArray, List.getElem?_cons_succ, List.getElem?_cons_zero, Option.some.injEq] at ho; subst ho; refine Or.inl ⟨by rfl, ?_⟩; intro wx hSw; (try dsimp only at hSw); go_simp; try rfl
      try simp only [Act.put, List.setIfInBounds_toArray, List.set_cons_zero, List.set_cons_succ]
      refine wpAnyH_tk 4 21 (v := ?va4) ?hya4 ?_
      case hya4 => intro oi ho; simp only [List.getElem?_toArray, List.getElem?_cons_succ, List.getElem?_cons_zero, Option.some.injEq] at ho; subst ho; refine Or.inl ⟨by rfl, ?_⟩; intro wx hSw; (try dsimp only at hSw); go_simp; try rfl
      try simp only [Act.put, List.setIfInBounds_toArray, List.set_cons_zero, List.set_cons_succ]
      refine wpAnyH_tk 5 22 (v := ?va5) ?hya5 ?_
      case hya5 => intro oi ho; simp only [List.getElem?_toArray, List.getElem?_cons_succ, List.getElem?_cons_zero, Option.some.injEq] at ho; subst ho; refine Or.inl ⟨by rfl, ?_⟩; intro wx hSw; (try dsimp only at hSw); go_simp; try rfl
      try simp only [Act.put, List.setIfInBounds_toArray, List.set_cons_zero, List.set_cons_succ]
      refine wpAnyH_tk 6 23 (v := ?va6) ?hya6 ?_
      case hya6 => intro oi ho; simp only [List.getElem?_toArray, List.getElem?_cons_succ, List.getElem?_cons_zero, Option.some.injEq] at ho; subst ho; refine Or.inl ⟨by rfl, ?_⟩; intro wx hSw; (try dsimp only at hSw); go_simp; try rfl
      try simp only [Act.put, List.setIfInBounds_toArray, List.set_cons_zero, List.set_cons_succ]
      refine wpAnyH_tk 7 24 (v := ?va7) ?hya7 ?_
      case hya7 => intro oi ho; simp only [List.getElem?_toArray, List.getElem?_cons_succ, List.getElem?_cons_zero, Option.some.injEq] at ho; subst ho; refine Or.inl ⟨by rfl, ?_⟩; intro wx hSw; (try dsimp only at hSw); go_simp; try rfl
      try simp only [Act.put, List.setIfInBounds_toArray, List.set_cons_zero, List.set_cons_succ]
      refine wpAnyH_tk 8 25 (v := ?va8) ?hya8 ?_
      case hya8 => intro oi ho; simp only [List.getElem?_toArray, List.getElem?_cons_succ, List.getElem?_cons_zero, Option.some.injEq] at ho; subst ho; refine Or.inl ⟨by rfl, ?_⟩; intro wx hSw; (try dsimp only at hSw); go_simp; try rfl
      try simp only [Act.put, List.setIfInBounds_toArray, List.set_cons_zero, List.set_cons_succ]
      refine wpAnyH_tk 9 26 (v := ?va9) ?hya9 ?_
      case hya9 => intro oi ho; simp only [List.getElem?_toArray, List.getElem?_cons_succ, List.getElem?_cons_zero, Option.some.injEq] at ho; subst ho; refine Or.inl ⟨by rfl, ?_⟩; intro wx hSw; (try dsimp only at hSw); go_simp; try rfl
      try simp only [Act.put, List.setIfInBounds_toArray, List.set_cons_zero, List.set_cons_succ]
      refine wpAnyH_tk 10 27 (v := ?va10) ?hya10 ?_
      case hya10 => intro oi ho; simp only [List.getElem?_toArray, List.getElem?_cons_succ, List.getElem?_cons_zero, Option.some.injEq] at ho; subst ho; refine Or.inl ⟨by rfl, ?_⟩; intro wx hSw; (try dsimp only at hSw); go_simp; try rfl
      try simp only [Act.put, List.setIfInBounds_toArray, List.set_cons_zero, List.set_cons_succ]
      refine wpAnyH_tk 11 28 (v := ?va11) ?hya11 ?_
      case hya11 => intro oi ho; simp only [List.getElem?_toArray, List.getElem?_cons_succ, List.getElem?_cons_zero, Option.some.injEq] at ho; subst ho; refine Or.inl ⟨by rfl, ?_⟩; intro wx hSw; (try dsimp only at hSw); go_simp; try rfl
      try simp only [Act.put, List.setIfInBounds_toArray, List.set_cons_zero, List.set_cons_succ]
      refine wpAnyH_tk 12 29 (v := ?va12) ?hya12 ?_
      case hya12 => intro oi ho; simp only [List.getElem?_toArray, List.getElem?_cons_succ, List.getElem?_cons_zero, Option.some.injEq] at ho; subst ho; refine Or.inl ⟨by rfl, ?_⟩; intro wx hSw; (try dsimp only at hSw); go_simp; try rfl
      try simp only [Act.put, List.setIfInBounds_toArray, List.set_cons_zero, List.set_cons_succ]
      refine wpAnyH_tk 13 30 (v := ?va13) ?hya13 ?_
      case hya13 => intro oi ho; simp only [List.getElem?_toArray, List.getElem?_cons_succ, List.getElem?_cons_zero, Option.some.injEq] at ho; subst ho; refine Or.inl ⟨by rfl, ?_⟩; intro wx hSw; (try dsimp only at hSw); go_simp; try rfl
      try simp only [Act.put, List.setIfInBounds_toArray, List.set_cons_zero, List.set_cons_succ]
      refine wpAnyH_tk 14 31 (v := ?va14) ?hya14 ?_
      case hya14 => intro oi ho; simp only [List.getElem?_toArray, List.getElem?_cons_succ, List.getElem?_cons_zero, Option.some.injEq] at ho; subst ho; refine Or.inl ⟨by rfl, ?_⟩; intro wx hSw; (try dsimp only at hSw); go_simp; try rfl
      try simp only [Act.put, List.setIfInBounds_toArray, List.set_cons_zero, List.set_cons_succ]
      refine wpAnyH_tk 15 32 (v := ?va15) ?hya15 ?_
      case hya15 => intro oi ho; simp only [List.getElem?_toArray, List.getElem?_cons_succ, List.getElem?_cons_zero, Option.some.injEq] at ho; subst ho; refine Or.inl ⟨by rfl, ?_⟩; intro wx hSw; (try dsimp only at hSw); go_simp; try rfl
      try simp only [Act.put, List.setIfInBounds_toArray, List.set_cons_zero, List.set_cons_succ]
      refine wpAnyH_tk 16 33 (v := ?va16) ?hya16 ?_
      case hya16 => intro oi ho; simp only [List.getElem?_toArray, List.getElem?_cons_succ, List.getElem?_cons_zero, Option.some.injEq] at ho; subst ho; refine Or.inl ⟨by rfl, ?_⟩; intro wx hSw; (try dsimp only at hSw); go_simp; try rfl
      try simp only [Act.put, List.setIfInBounds_toArray, List.set_cons_zero, List.set_cons_succ]
      refine wpAnyH_tk 17 34 (v := ?va17) ?hya17 ?_
      case hya17 => intro oi ho; simp only [List.getElem?_toArray, List.getElem?_cons_succ, List.getElem?_cons_zero, Option.some.injEq] at ho; subst ho; refine Or.inl ⟨by rfl, ?_⟩; intro wx hSw; (try dsimp only at hSw); go_simp; try rfl
      try simp only [Act.put, List.setIfInBounds_toArray, List.set_cons_zero, List.set_cons_succ]
      refine wpAnyH_tk 18 35 (v := ?va18) ?hya18 ?_
      case hya18 => intro oi ho; simp only [List.getElem?_toArray, List.getElem?_cons_succ, List.getElem?_cons_zero, Option.some.injEq] at ho; subst ho; refine Or.inl ⟨by rfl, ?_⟩; intro wx hSw; (try dsimp only at hSw); go_simp; try rfl
      try simp only [Act.put, List.setIfInBounds_toArray, List.set_cons_zero, List.set_cons_succ]
      refine wpAnyH_tk 19 36 (v := ?va19) ?hya19 ?_
      case hya19 => intro oi ho; simp only [List.getElem?_toArray, List.getElem?_cons_succ, List.getElem?_cons_zero, Option.some.injEq] at ho; subst ho; refine Or.inl ⟨by rfl, ?_⟩; intro wx hSw; (try dsimp only at hSw); go_simp; try rfl
      try simp only [Act.put, List.setIfInBounds_toArray, List.set_cons_zero, List.set_cons_succ]
      refine wpAnyH_tk 20 37 (v := ?va20) ?hya20 ?_
      case hya20 => intro oi ho; simp only [List.getElem?_toArray, List.getElem?_cons_succ, List.getElem?_cons_zero, Option.some.injEq] at ho; subst ho; refine Or.inl ⟨by rfl, ?_⟩; intro wx hSw; (try dsimp only at hSw); go_simp; try rfl
      try simp only [Act.put, List.setIfInBounds_toArray, List.set_cons_zero, List.set_cons_succ]
      refine wpAnyH_tk 21 38 (v := ?va21) ?hya21 ?_
      case hya21 => intro oi ho; simp only [List.getElem?_toArray, List.getElem?_cons_succ, List.getElem?_cons_zero, Option.some.injEq] at ho; subst ho; refine Or.inl ⟨by rfl, ?_⟩; intro wx hSw; (try dsimp only at hSw); go_simp; try rfl
      try simp only [Act.put, List.setIfInBounds_toArray, List.set_cons_zero, List.set_cons_succ]
      refine wpAnyH_tk 22 39 (v := ?va22) ?hya22 ?_
      case hya22 => intro oi ho; simp only [List.getElem?_toArray, List.getElem?_cons_succ, List.getElem?_cons_zero, Option.some.injEq] at ho; subst ho; refine Or.inl ⟨by rfl, ?_⟩; intro wx hSw; (try dsimp only at hSw); go_simp; try rfl
      try simp only [Act.put, List.setIfInBounds_toArray, List.set_cons_zero, List.set_cons_succ]
      refine wpAnyH_tk 23 40 (v := ?va23) ?hya23 ?_
      case hya23 => intro oi ho; simp only [List.getElem?_toArray, List.getElem?_cons_succ, List.getElem?_cons_zero, Option.some.injEq] at ho; subst ho; refine Or.inl ⟨by rfl, ?_⟩; intro wx hSw; (try dsimp only at hSw); go_simp; try rfl
      try simp only [Act.put, List.setIfInBounds_toArray, List.set_cons_zero, List.set_cons_succ]
      refine wpAnyH_tk 24 41 (v := ?va24) ?hya24 ?_
      case hya24 => intro oi ho; simp only [List.getElem?_toArray, List.getElem?_cons_succ, List.getElem?_cons_zero, Option.some.injEq] at ho; subst ho; refine Or.inl ⟨by rfl, ?_⟩; intro wx hSw; (try dsimp only at hSw); go_simp; try rfl
      try simp only [Act.put, List.setIfInBounds_toArray, List.set_cons_zero, List.set_cons_succ]
      refine wpAnyH_tk 25 42 (v := ?va25) ?hya25 ?_
      case hya25 => intro oi ho; simp only [List.getElem?_toArray, List.getElem?_cons_succ, List.getElem?_cons_zero, Option.some.injEq] at ho; subst ho; refine Or.inl ⟨by rfl, ?_⟩; intro wx hSw; (try dsimp only at hSw); go_simp; try rfl
      try simp only [Act.put, List.setIfInBounds_toArray, List.set_cons_zero, List.set_cons_succ]
      refine wpAnyH_tk 26 43 (v := ?va26) ?hya26 ?_
      case hya26 => intro oi ho; simp only [List.getElem?_toArray, List.getElem?_cons_succ, List.getElem?_cons_zero, Option.some.injEq] at ho; subst ho; refine Or.inl ⟨by rfl, ?_⟩; intro wx hSw; (try dsimp only at hSw); go_simp; try rfl
      try simp only [Act.put, List.setIfInBounds_toArray, List.set_cons_zero, List.set_cons_succ]
      refine wpAnyH_tk 27 44 (v := ?va27) ?hya27 ?_
      case hya27 => intro oi ho; simp only [List.getElem?_toArray, List.getElem?_cons_succ, List.getElem?_cons_zero, Option.some.injEq] at ho; subst ho; refine Or.inl ⟨by rfl, ?_⟩; intro wx hSw; (try dsimp only at hSw); go_simp; try rfl
      try simp only [Act.put, List.setIfInBounds_toArray, List.set_cons_zero, List.set_cons_succ]
      refine wpAnyH_tk 28 45 (v := ?va28) ?hya28 ?_
      case hya28 => intro oi ho; simp only [List.getElem?_toArray, List.getElem?_cons_succ, List.getElem?_cons_zero, Option.some.injEq] at ho; subst ho; refine Or.inl ⟨by rfl, ?_⟩; intro wx hSw; (try dsimp only at hSw); go_simp; try rfl
      try simp only [Act.put, List.setIfInBounds_toArray, List.set_cons_zero, List.set_cons_succ]
      refine wpAnyH_tk 29 46 (v := ?va29) ?hya29 ?_
      case hya29 => intro oi ho; simp only [List.getElem?_toArray, List.getElem?_cons_succ, List.getElem?_cons_zero, Option.some.injEq] at ho; subst ho; refine Or.inl ⟨by rfl, ?_⟩; intro wx hSw; (try dsimp only at hSw); go_simp; try rfl
      try simp only [Act.put, List.setIfInBounds_toArray, List.set_cons_zero, List.set_cons_succ]
      refine wpAnyH_tk 30 47 (v := ?va30) ?hya30 ?_
      case hya30 => intro oi ho; simp only [List.getElem?_toArray, List.getElem?_cons_succ, List.getElem?_cons_zero, Option.some.injEq] at ho; subst ho; refine Or.inl ⟨by rfl, ?_⟩; intro wx hSw; (try dsimp only at hSw); go_simp; try rfl
      try simp only [Act.put, List.setIfInBounds_toArray, List.set_cons_zero, List.set_cons_succ]
      refine wpAnyH_tk 31 48 (v := ?va31) ?hya31 ?_
      case hya31 => intro oi ho; simp only [List.getElem?_toArray, List.getElem?_cons_succ, List.getElem?_cons_zero, Option.some.injEq] at ho; subst ho; refine Or.inl ⟨by rfl, ?_⟩; intro wx hSw; (try dsimp only at hSw); go_simp; try rfl
      try simp only [Act.put, List.setIfInBounds_toArray, List.set_cons_zero, List.set_cons_succ]
      refine wpAnyH_tk 32 49 (v := ?va32) ?hya32 ?_
      case hya32 => intro oi ho; simp only [List.getElem?_toArray, List.getElem?_cons_succ, List.getElem?_cons_zero, Option.some.injEq] at ho; subst ho; refine Or.inl ⟨by rfl, ?_⟩; intro wx hSw; (try dsimp only at hSw); go_simp; try rfl
      try simp only [Act.put, List.setIfInBounds_toArray, List.set_cons_zero, List.set_cons_succ]
      refine wpAnyH_tk 33 50 (v := ?va33) ?hya33 ?_
      case hya33 => intro oi ho; simp only [List.getElem?_toArray, List.getElem?_cons_succ, List.getElem?_cons_zero, Option.some.injEq] at ho; subst ho; refine Or.inl ⟨by rfl, ?_⟩; intro wx hSw; (try dsimp only at hSw); go_simp; try rfl
      try simp only [Act.put, List.setIfInBounds_toArray, List.set_cons_zero, List.set_cons_succ]
      refine wpAnyH_tk 34 51 (v := ?va34) ?hya34 ?_
      case hya34 => intro oi ho; simp only [List.getElem?_toArray, List.getElem?_cons_succ, List.getElem?_cons_zero, Option.some.injEq] at ho; subst ho; refine Or.inl ⟨by rfl, ?_⟩; intro wx hSw; (try dsimp only at hSw); go_simp; try rfl
      try simp only [Act.put, List.setIfInBounds_toArray, List.set_cons_zero, List.set_cons_succ]
      refine wpAnyH_tk 35 52 (v := ?va35) ?hya35 ?_
      case hya35 => intro oi ho; simp only [List.getElem?_toArray, List.getElem?_cons_succ, List.getElem?_cons_zero, Option.some.injEq] at ho; subst ho; refine Or.inl ⟨by rfl, ?_⟩; intro wx hSw; (try dsimp only at hSw); go_simp; try rfl
      try simp only [Act.put, List.setIfInBounds_toArray, List.set_cons_zero, List.set_cons_succ]
      refine wpAnyH_tk 36 53 (v := ?va36) ?hya36 ?_
      case hya36 => intro oi ho; simp only [List.getElem?_toArray, List.getElem?_cons_succ, List.getElem?_cons_zero, Option.some.injEq] at ho; subst ho; refine Or.inl ⟨by rfl, ?_⟩; intro wx hSw; (try dsimp only at hSw); go_simp; try rfl
      try simp only [Act.put, List.setIfInBounds_toArray, List.set_cons_zero, List.set_cons_succ]
      refine wpAnyH_tk 37 54 (v := ?va37) ?hya37 ?_
      case hya37 => intro oi ho; simp only [List.getElem?_toArray, List.getElem?_cons_succ, List.getElem?_cons_zero, Option.some.injEq] at ho; subst ho; refine Or.inl ⟨by rfl, ?_⟩; intro wx hSw; (try dsimp only at hSw); go_simp; try rfl
      try simp only [Act.put, List.setIfInBounds_toArray, List.set_cons_zero, List.set_cons_succ]
      refine wpAnyH_tk 38 55 (v := ?va38) ?hya38 ?_
      case hya38 => intro oi ho; simp only [List.getElem?_toArray, List.getElem?_cons_succ, List.getElem?_cons_zero, Option.some.injEq] at ho; subst ho; refine Or.inl ⟨by rfl, ?_⟩; intro wx hSw; (try dsimp only at hSw); go_simp; try rfl
      try simp only [Act.put, List.setIfInBounds_toArray, List.set_cons_zero, List.set_cons_succ]
      refine wpAnyH_tk 39 56 (v := ?va39) ?hya39 ?_
      case hya39 => intro oi ho; simp only [List.getElem?_toArray, List.getElem?_cons_succ, List.getElem?_cons_zero, Option.some.injEq] at ho; subst ho; refine Or.inl ⟨by rfl, ?_⟩; intro wx hSw; (try dsimp only at hSw); go_simp; try rfl
      try simp only [Act.put, List.setIfInBounds_toArray, List.set_cons_zero, List.set_cons_succ]
      refine wpAnyH_tk 40 57 (v := ?va40) ?hya40 ?_
      case hya40 => intro oi ho; simp only [List.getElem?_toArray, List.getElem?_cons_succ, List.getElem?_cons_zero, Option.some.injEq] at ho; subst ho; refine Or.inl ⟨by rfl, ?_⟩; intro wx hSw; (try dsimp only at hSw); go_simp; try rfl
      try simp only [Act.put, List.setIfInBounds_toArray, List.set_cons_zero, List.set_cons_succ]
      refine wpAnyH_done (by kernel_rfl) ?_ _
      refine NoPanic.normal ?_
      clear hHeld HX0
      go_wp2_with fail
      go_roundw
      case rel => exact ⟨j + 1, by omega, by go_num, HBR.out.drew, HHP.out⟩
      case measure => simp [intOf]; omega
    · have xj : ¬ (j : Int) < (N : Int) := by omega
      go_wp2
      go_ret
      exact ⟨rfl, HBR.out⟩
end Go.Proofs.YtnfponcadkmfjabGreat
set_option linter.unusedVariables false
namespace Go.Proofs.YtnfponcadkmfjabGreat
open Go.RowKit
theorem wp_next {o : Oper} {a : Act} {K : Act → World → Prop} {Q : Exit → Act → World → Prop} {wr : World} (s x : Operand)
    (ho : o.op = .call { callee := .builtin .append, args := #[s, x], argTypes := #[23, 23] })
    {B B1 g : Nat} {v : Value} {ys : List Nat} {fz : Nat × Nat} (hs : a.eval s = v) (hx : a.eval x = .slice (some ⟨g, 0, none⟩) 1 1) (hown : wr.ownsRow B1 5 1 v ys.length (cellsOf ys)) (hb : ∀ n ∈ ys, n < 256) (hl : ys.length ≤ 100000) (hB1 : B1 ≤ wr.heap.size) (hc : wr.heap[g]? = some (.cells #[.int .u8 0] 5 fz))
    (h : ∀ b c w', BK B w' b (ys.length + 1) c (ys ++ [0]) → Below B1 wr w' → K (a.put o.dst (.slice b (ys.length + 1) c)) w') : Oper.wp Tryz.prog o a wr K Q := by
  obtain ⟨i0, hi, hz0, hz1, hz2⟩ := info_parts info5
  refine wp_append_own wr s x _ ho B1 5 i0 (.int .u8 0) 1 1 Tryz.underlying23 hi hz0 hz1 hz2 rfl (by omega) v ys.length (cellsOf ys) hs hown ⟨g, 0, none⟩ 1 1 [.int .u8 0] hx rfl (fun j u hj => ?_) (by intro u hu; simp at hu; subst hu; rfl) (by unfold maxLen; omega) (by omega) hB1 ?_
  · have hlj := (List.getElem?_eq_some_iff.1 hj).1
    obtain rfl : j = 0 := by simpa using hlj
    rw [Addr.add_lit, cell_of_row wr g _ _ _ _ hc]
    exact hj
  · intro v' w' h1 h2 _
    have e : cellsOf ys ++ [.int .u8 0] = cellsOf (ys ++ [0]) := by rw [cellsOf_append]; rfl
    have e2 : ys.length + 1 = (ys ++ [0]).length := by simp
    rw [e, e2] at h1
    obtain ⟨b, c, rfl, hk⟩ := BK.owned (B := B) h1 (by simp; omega) (by
      intro n hn
      rcases List.mem_append.1 hn with q | q
      · exact hb n q
      · simp at q; omega)
    rw [← e2] at hk
    have h9 := h b c w' hk ((Below.refl B1 _).grown h2 hB1 (fun k hk => (hown.lt k hk).1))
    rw [← e2]
    exact h9
theorem wpList_next {ops : Array Oper} {rest : List Oper} {o : Oper} {a : Act} {Q : Exit → Act → World → Prop} {wr : World} (hw : Region.wanted o (yielded ops a.tmps) = true) (s x : Operand)
    (ho : o.op = .call { callee := .builtin .append, args := #[s, x], argTypes := #[23, 23] })
    {B B1 g n : Nat} {v : Value} {ys : List Nat} {fz : Nat × Nat} (hs : a.eval s = v) (hx : a.eval x = .slice (some ⟨g, 0, none⟩) 1 1) (hn : ys.length = n) (hown : wr.ownsRow B1 5 1 v n (cellsOf ys)) (hb : ∀ n ∈ ys, n < 256) (hl : n ≤ 100000) (hB1 : B1 ≤ wr.heap.size) (hc : wr.heap[g]? = some (.cells #[.int .u8 0] 5 fz))
    (h : ∀ b c w', BK B w' b (n + 1) c (ys ++ [0]) → Below B1 wr w' → wpList Tryz.prog ops Q rest (a.put o.dst (.slice b (n + 1) c)) w') : wpList Tryz.prog ops Q (o :: rest) a wr := by
  subst hn
  exact wpList_step fun K hK => by
    rw [if_pos hw]
    exact wp_next (B := B) s x ho hs hx hown hb hl hB1 hc fun b c w' p1 p2 => hK _ _ (h b c w' p1 p2)
end Go.Proofs.YtnfponcadkmfjabGreat
