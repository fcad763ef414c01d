/- Contracts of the document's own Flush, Read, and of Writes that are refused. -/
import Derived.Test.YtnapapgmeghgjaaV6
set_option linter.unusedVariables false
namespace Go.Proofs.Ytnapapgmeghgjaa
open Go.RowKit

/-- Behind the first k open writes. -/
structure RW0 [Gc] (b : Nat → Prop) (B p gk : Nat) (vo : Value) (wv : Nat → Value) (t : DS) (keep : Nat) (torn cut : Int) (w : World) (k : Nat) (kv : Nat → Value) (kb : Nat → List Nat) (wr : World) : Prop where
  hp : wr.heap[p]? = some (.cells (headR gk vo t) 44 (0, 0))
  hg : wr.heap[gk]? = some (.cells (krow kv t.n).toArray 29 (0, 0))
  hw : wr.ownsRow B 78 2 vo t.m (two (fun i => .int .i64 (t.at_ i : Nat)) wv t.m)
  hb : ∀ i, i < t.m → wr.ownsRow B 5 1 (wv i) blk (cellsOf (pad (t.by_ i)))
  hk : ∀ i, i < t.n → wr.ownsRow B 5 1 (kv i) (kb i).length (cellsOf (kb i))
  kp : ∀ i, i < t.n → pad (kb i) = pad (t.setK keep torn cut k i) ∧ (kb i = [] ∨ (kb i).length = blk)
  fd : Fd b B w wr
  k8 : ∀ j, Gc.c j → (∃ cs, wr.heap[j]? = some (.cells cs 5 (0, 0))) ∧ ∀ i, i < t.n → (kv i).ownBlock ≠ some j
section
variable [Gc] {b : Nat → Prop} {B p gk : Nat} {vo : Value} {wv kv : Nat → Value} {kb : Nat → List Nat} {t : DS} {keep : Nat} {torn cut : Int} {w wr w2 : World} {k : Nat}
theorem RW0.later (h : RW0 b B p gk vo wv t keep torn cut w k kv kb wr) (hb : Below wr.heap.size wr w2) (hB : B ≤ wr.heap.size) : RW0 b B p gk vo wv t keep torn cut w k kv kb w2 where
  hp := (hb.block p (Array.getElem?_eq_some_iff.1 h.hp).1).trans h.hp
  hg := (hb.block gk (Array.getElem?_eq_some_iff.1 h.hg).1).trans h.hg
  hw := own_later h.hw hb
  hb := fun i hi => own_later (h.hb i hi) hb
  hk := fun i hi => own_later (h.hk i hi) hb
  kp := h.kp
  fd := h.fd.trans (Fd.of hb hB)
  k8 := fun j hj => ⟨by obtain ⟨cs, e⟩ := (h.k8 j hj).1; exact ⟨cs, (hb.block j (Array.getElem?_eq_some_iff.1 e).1).trans e⟩, (h.k8 j hj).2⟩
/-- One that is laid down. -/
theorem RW0.step (h : RW0 b B p gk vo wv t keep torn cut w k kv kb wr) (hat : t.at_ k < t.n) (gB : B ≤ gk) {v : Value} {ys : List Nat} (hv : wr.ownsRow B 5 1 v ys.length (cellsOf ys)) (hy : pad ys = pad (laidL (t.setK keep torn cut k (t.at_ k)) (t.by_ k) (keptN keep torn cut k))) (hl : ys.length = blk) (hv8 : ∀ j, Gc.c j → v.ownBlock ≠ some j) :
    RW0 b B p gk vo wv t keep torn cut w (k + 1) (upd kv (t.at_ k) v) (fun i => if i = t.at_ k then ys else kb i) (wr.setCell ⟨gk, t.at_ k, none⟩ v) := by
  have st := stay_set (o := t.at_ k) (u := v) h.hg
  have f : Fd b B wr (wr.setCell ⟨gk, t.at_ k, none⟩ v) := Fd.set h.hg gB (Or.inr (Or.inl rfl))
  refine ⟨st _ _ _ h.hp (by decide), ?_, own_stay h.hw fun j cs _ e => st j cs _ e (by decide), fun i hi => own_stay (h.hb i hi) fun j cs _ e => st j cs _ e (by decide), ?_, ?_, h.fd.trans f, fun j hj => ⟨by obtain ⟨cs, e⟩ := (h.k8 j hj).1; exact ⟨cs, st _ _ _ e (by decide)⟩, fun i hi => by
    by_cases e : i = t.at_ k
    · rw [e, upd_at]; exact hv8 j hj
    · rw [upd_ne _ _ e]; exact (h.k8 j hj).2 i hi⟩⟩
  · rw [heap_setCell_same wr gk _ _ _ v h.hg, List.setIfInBounds_toArray, krow_set _ hat]
  · intro i hi
    by_cases e : i = t.at_ k
    · rw [if_pos e, e, upd_at]
      exact own_stay hv fun j cs _ e => st j cs _ e (by decide)
    · rw [if_neg e, upd_ne _ _ e]
      exact own_stay (h.hk i hi) fun j cs _ e => st j cs _ e (by decide)
  · intro i hi
    rw [DS.setK]
    by_cases e : i = t.at_ k
    · rw [if_pos e, if_pos e, hy, e]
      exact ⟨rfl, Or.inr hl⟩
    · rw [if_neg e, if_neg e]
      exact h.kp i hi
end
theorem headR_settle (gk : Nat) (vo : Value) (t : DS) (keep : Nat) (torn cut : Int) : ([(1, Value.slice none 0 0)].foldl (fun (c : Array Value) (x : Nat × Value) => c.setIfInBounds x.1 x.2) (headR gk vo t)) = headR gk (.slice none 0 0) (t.settle keep torn cut) := by
  unfold headR
  have e : (t.settle keep torn cut).n = t.n := settle_n t keep torn cut
  rw [e]
  rfl
section
variable [Gc] {b : Nat → Prop} {B p gk : Nat} {vo : Value} {kv wv : Nat → Value} {kb : Nat → List Nat} {t : DS} {w wr w2 : World}
theorem RW0.fin {kv0 : Nat → Value} {kb0 : Nat → List Nat} {gk0 : Nat} {vo0 : Value} {wv0 : Nat → Value} {keep : Nat} {torn cut : Int} {w0 : World} (d : RV B p gk0 vo0 kv0 wv0 kb0 t w0) (h : RW0 b B p gk vo wv t keep torn cut w t.m kv kb wr) (gB : B ≤ gk) (hp2 : w2.heap[p]? = some (.cells (headR gk (.slice none 0 0) (t.settle keep torn cut)) 44 (0, 0))) (oth : ∀ i, i ≠ p → w2.heap[i]? = wr.heap[i]?) (f : Fd b B wr w2) :
    RV B p gk (.slice none 0 0) kv wv kb (t.settle keep torn cut) w2 ∧ Fd b B w w2 := by
  have hn : (t.settle keep torn cut).n = t.n := settle_n t keep torn cut
  have hm : (t.settle keep torn cut).m = 0 := rfl
  have ne : ∀ {i : Nat} {cs : Array Value} {t' : TypeId}, wr.heap[i]? = some (.cells cs t' (0, 0)) → t' ≠ 44 → i ≠ p := by
    intro i cs t' e ht e2
    subst e2
    rw [h.hp] at e
    simp only [Option.some.injEq, Obj.cells.injEq] at e
    exact ht e.2.1.symm
  have st : ∀ (j : Nat) (cs : Array Value) (t' : TypeId), wr.heap[j]? = some (Obj.cells cs t' (0, 0)) → t' ≠ 44 → w2.heap[j]? = some (Obj.cells cs t' (0, 0)) := fun j cs t' e ht => by rw [oth j (ne e ht), e]
  refine ⟨⟨hp2, ?_, World.ownsRow_nil _ _ _ _, fun i hi => ?_, fun i hi => ?_, fun i hi => by rw [hm] at hi; omega, fun i j k hi => by rw [hm] at hi; omega, fun i j k hi => by rw [hm] at hi; omega, d.pB, gB, settle_ok d.ok keep torn cut, d.dz, fun j hj => ⟨by obtain ⟨cs, e⟩ := (h.k8 j hj).1; exact ⟨cs, st _ _ _ e (by decide)⟩, fun i hi => by rw [hn] at hi; exact (h.k8 j hj).2 i hi, fun i hi => by rw [hm] at hi; omega⟩⟩, h.fd.trans f⟩
  · rw [hn]; exact st _ _ _ h.hg (by decide)
  · rw [hn] at hi
    exact own_stay (h.hk i hi) fun j cs _ e => st j cs _ e (by decide)
  · rw [hn] at hi
    rw [settle_K t keep torn cut i hi]
    exact h.kp i hi
theorem RW0.begin (h : RV B p gk vo kv wv kb t w) (keep : Nat) (torn cut : Int) : RW0 b B p gk vo wv t keep torn cut w 0 kv kb w := ⟨h.hp, h.hg, h.hw, h.hb, h.hk, h.kp, ⟨Below.refl _ _, fun _ _ _ _ e _ _ _ _ => e⟩, fun j hj => ⟨(h.h8 j hj).1, (h.h8 j hj).2.1⟩⟩
set_option maxRecDepth 100000 in
set_option maxHeartbeats 8000000 in
theorem flushR_go (h : RV B p gk vo kv wv kb t w) (hB : B ≤ w.heap.size) (hd : t.down = false) (hf : ¬ t.after = 1) (hlf : t.life < 100000) :
    Calls Try.prog 15 #[.pointer (some ⟨p, 0, none⟩)] w fun e w' => e = .returned (.int .i64 0) ∧ RN b B p gk wv (t.tick.settle 18446744073709551615 (-1) 0) w w' := by
  have d2 := h.d.2.2.1
  rw [hd] at d2
  have HNW := hide (now_any (b := b) h hB hd hlf)
  have e1 : decide (t.after = 1) = false := decide_eq_false hf
  rw [e1] at HNW
  have HBW := hide hB
  generalize t.tick = t at *
  clear h e1
  go_enter Try.func15, Try.ntmps15
  go_wp2_with fail
  refine HNW.out.mono ?_
  rintro e w1 ⟨rfl, vo1, kv1, kb1, hR1, hF1⟩
  have HD := hide hR1
  have HF1 := hide hF1
  have HS := hide (RW0.begin (b := b) hR1 18446744073709551615 (-1) 0)
  obtain ⟨A, C, hvo⟩ := own_slice hR1.hw
  have hmm := hR1.ok.mm
  have HOK := hide hR1.ok
  obtain ⟨N, HN⟩ : ∃ N, Hid (blk = N) := ⟨_, rfl⟩
  have hN8 : (N : Int) = 8192 := by rw [← HN.out]; rfl
  subst hvo
  clear hR1 hF1 HNW d2
  generalize hM : t.m = m at *
  have HM := hide hM
  clear hM
  go_wp2_with fail
  go_loopw [3] (fun i wr => ∃ (k : Nat) (kv' : Nat → Value) (kb' : Nat → List Nat), k ≤ m ∧ i = .int .i64 k ∧ RW0 b B p gk (.slice A m C) wv t 18446744073709551615 (-1) 0 w1 k kv' kb' wr) (fun i _ => m - (intOf i).toNat)
  case atStart => exact ⟨0, kv1, kb1, by omega, rfl, HS.out⟩
  case round =>
    obtain ⟨k, kv', kb', hk, rfl, hS⟩ := hrel
    have HS2 := hide hS
    have q9 : wr.cell? ⟨p, 1, none⟩ = some (.slice A m C) := cell_blk hS.hp
    by_cases hlt : k < m
    · have hw' := hS.hw
      rw [HM.out] at hw'
      obtain ⟨g, rfl, hgl, cur, hgc⟩ := own_place hw' (by omega)
      have hkm : k < t.m := by rw [HM.out]; exact hlt
      have r0 := hw'.cellAt (k * 2) (by omega)
      have r1 := hw'.cellAt (k * 2 + 1) (by omega)
      rw [two_get0 _ _ _ _ hlt] at r0
      rw [two_get1 _ _ _ _ hlt] at r1
      clear hw'
      have hat := HOK.out.at_ k hkm
      have HAT := hide hat
      have hrow2 := hS.hb k hkm
      rw [HN.out] at hrow2
      obtain ⟨a2, p2, e2⟩ := own_slice hrow2
      rw [e2] at hrow2 r1
      obtain ⟨g2, rfl, -, -⟩ := own_place hrow2 (by omega)
      have HBL : Hid ((pad (t.by_ k)).length = N) := by show _ = _; rw [pad_len (HOK.out.bl k), HN.out]
      have hk1 := HOK.out.n2
      have i1 : (0 : Int) ≤ (k : Int) := by omega
      have i2 : (k : Int) < (m : Int) := by omega
      have i3 : (0 : Int) ≤ ((t.at_ k : Nat) : Int) := by omega
      have i4 : ((t.at_ k : Nat) : Int) < ((t.n : Nat) : Int) := by omega
      have hwB : B ≤ wr.heap.size := Nat.le_trans HBW.out (Nat.le_trans HF1.out.bel.size hS.fd.bel.size)
      have HS4 := hide (hS.later (Below.refl _ wr).drew hwB)
      have HKL2 := hide (keep_laid (old := t.setK 18446744073709551615 (-1) 0 k (t.at_ k)) (HOK.out.bl k))
      have HVR : Hid (wr.drew.ownsRow B 5 1 (.slice (some ⟨g2, 0, none⟩) N p2) (pad (t.by_ k)).length (cellsOf (pad (t.by_ k)))) := by
        show World.ownsRow _ _ _ _ _ _ _
        rw [HBL.out]
        exact hrow2
      have HF := hide (HS4.out.step hat HD.out.gB HVR.out (by rw [keptN_all]; exact HKL2.out) (by rw [HBL.out, HN.out]) (fun j9 hj9 => by rw [← e2]; exact (HD.out.h8 j9 hj9).2.2 k hkm))
      have hne : gk ≠ g := by
        intro e
        have h1 := hS.hg
        rw [e, hgc] at h1
        simp only [Option.some.injEq, Obj.cells.injEq] at h1
        exact absurd h1.2.1 (by decide)
      have HY1 : Hid ((fun wx => wx.cell? ⟨p, 0, none⟩ = some (.slice (some ⟨gk, 0, none⟩) t.n t.n) ∧ wx.cell? ⟨p, 1, none⟩ = some (.slice (some ⟨g, 0, none⟩) m C) ∧ wx.cell? ⟨g, k * 2, none⟩ = some (.int .i64 ((t.at_ k : Nat) : Int)) ∧ wx.cell? ⟨g, k * 2 + 1, none⟩ = some (.slice (some ⟨g2, 0, none⟩) N p2)) wr.drew) := ⟨cell_blk HS4.out.hp, cell_blk HS4.out.hp, r0, r1⟩
      have HY2 : Hid ((fun wx => wx.cell? ⟨p, 0, none⟩ = some (.slice (some ⟨gk, 0, none⟩) t.n t.n) ∧ wx.cell? ⟨p, 1, none⟩ = some (.slice (some ⟨g, 0, none⟩) m C) ∧ wx.cell? ⟨g, k * 2, none⟩ = some (.int .i64 ((t.at_ k : Nat) : Int)) ∧ wx.cell? ⟨g, k * 2 + 1, none⟩ = some (.slice (some ⟨g2, 0, none⟩) N p2)) (wr.drew.setCell ⟨gk, t.at_ k, none⟩ (.slice (some ⟨g2, 0, none⟩) N p2))) := ⟨cell_blk HF.out.hp, cell_blk HF.out.hp, (World.cell?_setCell_other _ _ _ _ (fun e => hne (congrArg Addr.block e))).trans r0, (World.cell?_setCell_other _ _ _ _ (fun e => hne (congrArg Addr.block e))).trans r1⟩
      have c4 : wr.drew.cell? ⟨gk, t.at_ k, none⟩ = some (kv' (t.at_ k)) := by
        rw [cell_blk HS4.out.hg]
        simpa using krow_get kv' hat
      have f4 : wr.drew.frozen? ⟨gk, t.at_ k, none⟩ = false := frz_blk HS4.out.hg
      clear hS hrow2 r0 r1 hgc hgl e2
      go_wp2_with fail
      refine wp_region_noPanic ?_
      refine wp_region_held_drew (S := fun wx => wx.cell? ⟨p, 0, none⟩ = some (.slice (some ⟨gk, 0, none⟩) t.n t.n) ∧ wx.cell? ⟨p, 1, none⟩ = some (.slice (some ⟨g, 0, none⟩) m C) ∧ wx.cell? ⟨g, k * 2, none⟩ = some (.int .i64 ((t.at_ k : Nat) : Int)) ∧ wx.cell? ⟨g, k * 2 + 1, none⟩ = some (.slice (some ⟨g2, 0, none⟩) N p2)) (by kernel_rfl) HY1.out (fun hHeld => ?_)
      refine wpAnyH_takeAt (i := 0) (d := 21) (v := ?vq0) (by kernel_rfl) (by kernel_rfl) (by kernel_rfl) (by kernel_rfl) (fun _ _ _ h => h) ?hyq0 (by assumption) ?restq0
      case hyq0 =>
        intro oi ho
        simp only [List.getElem?_toArray, List.getElem?_cons_zero, Option.some.injEq] at ho
        subst ho
        refine Or.inl ⟨by rfl, ?_⟩
        intro wx hSw
        try dsimp only at hSw
        go_simp
        try rfl
      try simp only [Act.put, List.setIfInBounds_toArray, List.set_cons_zero, List.set_cons_succ]
      refine wpAnyH_takeAt (i := 1) (d := 22) (v := ?vq1) (by kernel_rfl) (by kernel_rfl) (by kernel_rfl) (by kernel_rfl) (fun _ _ _ h => h) ?hyq1 (by assumption) ?restq1
      case hyq1 =>
        intro oi ho
        simp only [List.getElem?_toArray, List.getElem?_cons_succ, List.getElem?_cons_zero, Option.some.injEq] at ho
        subst ho
        refine Or.inl ⟨by rfl, ?_⟩
        intro wx hSw
        try dsimp only at hSw
        go_simp
        try rfl
      try simp only [Act.put, List.setIfInBounds_toArray, List.set_cons_zero, List.set_cons_succ]
      refine wpAnyH_takeAt (i := 2) (d := 23) (v := ?vq2) (by kernel_rfl) (by kernel_rfl) (by kernel_rfl) (by kernel_rfl) (fun _ _ _ h => h) ?hyq2 (by assumption) ?restq2
      case hyq2 =>
        intro oi ho
        simp only [List.getElem?_toArray, List.getElem?_cons_succ, List.getElem?_cons_zero, Option.some.injEq] at ho
        subst ho
        refine Or.inl ⟨by rfl, ?_⟩
        intro wx hSw
        try dsimp only at hSw
        go_simp
        try rfl
      try simp only [Act.put, List.setIfInBounds_toArray, List.set_cons_zero, List.set_cons_succ]
      refine wpAnyH_takeAt (i := 3) (d := 24) (v := ?vq3) (by kernel_rfl) (by kernel_rfl) (by kernel_rfl) (by kernel_rfl) (fun _ _ _ h => h) ?hyq3 (by assumption) ?restq3
      case hyq3 =>
        intro oi ho
        simp only [List.getElem?_toArray, List.getElem?_cons_succ, List.getElem?_cons_zero, Option.some.injEq] at ho
        subst ho
        refine Or.inl ⟨by rfl, ?_⟩
        intro wx hSw
        try dsimp only at hSw
        go_simp
        try rfl
      try simp only [Act.put, List.setIfInBounds_toArray, List.set_cons_zero, List.set_cons_succ]
      refine wpAnyH_takeAt (i := 4) (d := 25) (v := ?vq4) (by kernel_rfl) (by kernel_rfl) (by kernel_rfl) (by kernel_rfl) (fun _ _ _ h => h) ?hyq4 (by assumption) ?restq4
      case hyq4 =>
        intro oi ho
        simp only [List.getElem?_toArray, List.getElem?_cons_succ, List.getElem?_cons_zero, Option.some.injEq] at ho
        subst ho
        refine Or.inl ⟨by rfl, ?_⟩
        intro wx hSw
        try dsimp only at hSw
        go_simp
        try rfl
      try simp only [Act.put, List.setIfInBounds_toArray, List.set_cons_zero, List.set_cons_succ]
      refine wpAnyH_takeAt (i := 5) (d := 26) (v := ?vq5) (by kernel_rfl) (by kernel_rfl) (by kernel_rfl) (by kernel_rfl) (fun _ _ _ h => h) ?hyq5 (by assumption) ?restq5
      case hyq5 =>
        intro oi ho
        simp only [List.getElem?_toArray, List.getElem?_cons_succ, List.getElem?_cons_zero, Option.some.injEq] at ho
        subst ho
        refine Or.inl ⟨by rfl, ?_⟩
        intro wx hSw
        try dsimp only at hSw
        go_simp
        try rfl
      try simp only [Act.put, List.setIfInBounds_toArray, List.set_cons_zero, List.set_cons_succ]
      refine wpAnyH_takeAt (i := 6) (d := 27) (v := ?vq6) (by kernel_rfl) (by kernel_rfl) (by kernel_rfl) (by kernel_rfl) (fun _ _ _ h => h) ?hyq6 (by assumption) ?restq6
      case hyq6 =>
        intro oi ho
        simp only [List.getElem?_toArray, List.getElem?_cons_succ, List.getElem?_cons_zero, Option.some.injEq] at ho
        subst ho
        refine Or.inl ⟨by rfl, ?_⟩
        intro wx hSw
        try dsimp only at hSw
        go_simp
        try rfl
      try simp only [Act.put, List.setIfInBounds_toArray, List.set_cons_zero, List.set_cons_succ]
      refine wpAnyH_takeAt (i := 7) (d := 28) (v := ?vq7) (by kernel_rfl) (by kernel_rfl) (by kernel_rfl) (by kernel_rfl) (fun _ _ _ h => h) ?hyq7 (by assumption) ?restq7
      case hyq7 =>
        intro oi ho
        simp only [List.getElem?_toArray, List.getElem?_cons_succ, List.getElem?_cons_zero, Option.some.injEq] at ho
        subst ho
        refine Or.inl ⟨by rfl, ?_⟩
        intro wx hSw
        try dsimp only at hSw
        go_simp
        try rfl
      try simp only [Act.put, List.setIfInBounds_toArray, List.set_cons_zero, List.set_cons_succ]
      refine wpAnyH_takeAt (i := 8) (d := 29) (v := ?vq8) (by kernel_rfl) (by kernel_rfl) (by kernel_rfl) (by kernel_rfl) (fun _ _ _ h => h) ?hyq8 (by assumption) ?restq8
      case hyq8 =>
        intro oi ho
        simp only [List.getElem?_toArray, List.getElem?_cons_succ, List.getElem?_cons_zero, Option.some.injEq] at ho
        subst ho
        refine Or.inl ⟨by rfl, ?_⟩
        intro wx hSw
        try dsimp only at hSw
        go_simp
        try rfl
      try simp only [Act.put, List.setIfInBounds_toArray, List.set_cons_zero, List.set_cons_succ]
      refine wpAnyH_takeAt (i := 9) (d := 30) (v := ?vq9) (by kernel_rfl) (by kernel_rfl) (by kernel_rfl) (by kernel_rfl) (fun _ _ _ h => h) ?hyq9 (by assumption) ?restq9
      case hyq9 =>
        intro oi ho
        simp only [List.getElem?_toArray, List.getElem?_cons_succ, List.getElem?_cons_zero, Option.some.injEq] at ho
        subst ho
        refine Or.inl ⟨by rfl, ?_⟩
        intro wx hSw
        try dsimp only at hSw
        go_simp
        try rfl
      try simp only [Act.put, List.setIfInBounds_toArray, List.set_cons_zero, List.set_cons_succ]
      refine wpAnyH_takeAt (i := 10) (d := 31) (v := ?vq10) (by kernel_rfl) (by kernel_rfl) (by kernel_rfl) (by kernel_rfl) (fun _ _ _ h => h) ?hyq10 (by assumption) ?restq10
      case hyq10 =>
        intro oi ho
        simp only [List.getElem?_toArray, List.getElem?_cons_succ, List.getElem?_cons_zero, Option.some.injEq] at ho
        subst ho
        refine Or.inl ⟨by rfl, ?_⟩
        intro wx hSw
        try dsimp only at hSw
        go_simp
        try rfl
      try simp only [Act.put, List.setIfInBounds_toArray, List.set_cons_zero, List.set_cons_succ]
      refine wpAnyH_takeAt (i := 11) (d := 32) (v := ?vq11) (by kernel_rfl) (by kernel_rfl) (by kernel_rfl) (by kernel_rfl) (fun _ _ _ h => h) ?hyq11 (by assumption) ?restq11
      case hyq11 =>
        intro oi ho
        simp only [List.getElem?_toArray, List.getElem?_cons_succ, List.getElem?_cons_zero, Option.some.injEq] at ho
        subst ho
        refine Or.inl ⟨by rfl, ?_⟩
        intro wx hSw
        try dsimp only at hSw
        go_simp
        try rfl
      try simp only [Act.put, List.setIfInBounds_toArray, List.set_cons_zero, List.set_cons_succ]
      refine wpAnyH_takeAt (i := 12) (d := 33) (v := ?vq12) (by kernel_rfl) (by kernel_rfl) (by kernel_rfl) (by kernel_rfl) (fun _ _ _ h => h) ?hyq12 (by assumption) ?restq12
      case hyq12 =>
        intro oi ho
        simp only [List.getElem?_toArray, List.getElem?_cons_succ, List.getElem?_cons_zero, Option.some.injEq] at ho
        subst ho
        refine Or.inl ⟨by rfl, ?_⟩
        intro wx hSw
        try dsimp only at hSw
        go_simp
        try rfl
      try simp only [Act.put, List.setIfInBounds_toArray, List.set_cons_zero, List.set_cons_succ]
      refine wpAnyH_takeAt (i := 13) (d := 34) (v := ?vq13) (by kernel_rfl) (by kernel_rfl) (by kernel_rfl) (by kernel_rfl) (fun _ _ _ h => h) ?hyq13 (by assumption) ?restq13
      case hyq13 =>
        intro oi ho
        simp only [List.getElem?_toArray, List.getElem?_cons_succ, List.getElem?_cons_zero, Option.some.injEq] at ho
        subst ho
        refine Or.inl ⟨by rfl, ?_⟩
        intro wx hSw
        try dsimp only at hSw
        go_simp
        try rfl
      try simp only [Act.put, List.setIfInBounds_toArray, List.set_cons_zero, List.set_cons_succ]
      refine wpAnyH_takeAt (i := 14) (d := 35) (v := ?vq14) (by kernel_rfl) (by kernel_rfl) (by kernel_rfl) (by kernel_rfl) (fun _ _ _ h => h) ?hyq14 (by assumption) ?restq14
      case hyq14 =>
        intro oi ho
        simp only [List.getElem?_toArray, List.getElem?_cons_succ, List.getElem?_cons_zero, Option.some.injEq] at ho
        subst ho
        refine Or.inl ⟨by rfl, ?_⟩
        intro wx hSw
        try dsimp only at hSw
        go_simp
        try rfl
      try simp only [Act.put, List.setIfInBounds_toArray, List.set_cons_zero, List.set_cons_succ]
      refine wpAnyH_takeAt (i := 15) (d := 36) (v := ?vq15) (by kernel_rfl) (by kernel_rfl) (by kernel_rfl) (by kernel_rfl) (fun _ _ _ h => h) ?hyq15 (by assumption) ?restq15
      case hyq15 =>
        intro oi ho
        simp only [List.getElem?_toArray, List.getElem?_cons_succ, List.getElem?_cons_zero, Option.some.injEq] at ho
        subst ho
        refine Or.inl ⟨by rfl, ?_⟩
        intro wx hSw
        try dsimp only at hSw
        go_simp
        try rfl
      try simp only [Act.put, List.setIfInBounds_toArray, List.set_cons_zero, List.set_cons_succ]
      refine wpAnyH_takeAt (i := 16) (d := 37) (v := ?vq16) (by kernel_rfl) (by kernel_rfl) (by kernel_rfl) (by kernel_rfl) (fun _ _ _ h => h) ?hyq16 (by assumption) ?restq16
      case hyq16 =>
        intro oi ho
        simp only [List.getElem?_toArray, List.getElem?_cons_succ, List.getElem?_cons_zero, Option.some.injEq] at ho
        subst ho
        refine Or.inl ⟨by rfl, ?_⟩
        intro wx hSw
        try dsimp only at hSw
        go_simp
        try rfl
      try simp only [Act.put, List.setIfInBounds_toArray, List.set_cons_zero, List.set_cons_succ]
      refine wpAnyH_takeAt (i := 17) (d := 38) (v := ?vq17) (by kernel_rfl) (by kernel_rfl) (by kernel_rfl) (by kernel_rfl) (fun _ _ _ h => h) ?hyq17 (by assumption) ?restq17
      case hyq17 =>
        intro oi ho
        simp only [List.getElem?_toArray, List.getElem?_cons_succ, List.getElem?_cons_zero, Option.some.injEq] at ho
        subst ho
        refine Or.inl ⟨by rfl, ?_⟩
        intro wx hSw
        try dsimp only at hSw
        go_simp
        try rfl
      try simp only [Act.put, List.setIfInBounds_toArray, List.set_cons_zero, List.set_cons_succ]
      refine wpAnyH_takeAt (i := 18) (d := 39) (v := ?vq18) (by kernel_rfl) (by kernel_rfl) (by kernel_rfl) (by kernel_rfl) (fun _ _ _ h => h) ?hyq18 (by assumption) ?restq18
      case hyq18 =>
        intro oi ho
        simp only [List.getElem?_toArray, List.getElem?_cons_succ, List.getElem?_cons_zero, Option.some.injEq] at ho
        subst ho
        refine Or.inl ⟨by rfl, ?_⟩
        intro wx hSw
        try dsimp only at hSw
        go_simp
        try rfl
      try simp only [Act.put, List.setIfInBounds_toArray, List.set_cons_zero, List.set_cons_succ]
      refine wpAnyH_takeAt (i := 19) (d := 40) (v := ?vq19) (by kernel_rfl) (by kernel_rfl) (by kernel_rfl) (by kernel_rfl) (fun _ _ _ h => h) ?hyq19 (by assumption) ?restq19
      case hyq19 =>
        intro oi ho
        simp only [List.getElem?_toArray, List.getElem?_cons_succ, List.getElem?_cons_zero, Option.some.injEq] at ho
        subst ho
        refine Or.inl ⟨by rfl, ?_⟩
        intro wx hSw
        try dsimp only at hSw
        go_simp
        try rfl
      try simp only [Act.put, List.setIfInBounds_toArray, List.set_cons_zero, List.set_cons_succ]
      refine wpAnyH_takeAt (i := 20) (d := 41) (v := ?vq20) (by kernel_rfl) (by kernel_rfl) (by kernel_rfl) (by kernel_rfl) (fun _ _ _ h => h) ?hyq20 (by assumption) ?restq20
      case hyq20 =>
        intro oi ho
        simp only [List.getElem?_toArray, List.getElem?_cons_succ, List.getElem?_cons_zero, Option.some.injEq] at ho
        subst ho
        refine Or.inl ⟨by rfl, ?_⟩
        intro wx hSw
        try dsimp only at hSw
        go_simp
        try rfl
      try simp only [Act.put, List.setIfInBounds_toArray, List.set_cons_zero, List.set_cons_succ]
      refine wpAnyH_comesAt (i := 21) (by kernel_rfl) (by kernel_rfl) ?_
      intro o ho K hK
      simp only [List.getElem?_toArray, List.getElem?_cons_succ, List.getElem?_cons_zero, Option.some.injEq] at ho
      subst ho
      go_simp
      clear hHeld
      refine hK.out _ _ HY2.out (fun hHeld => ?_)
      clear hK K
      try simp only [Act.put, List.setIfInBounds_toArray, List.set_cons_zero, List.set_cons_succ]
      refine wpAnyH_done (by kernel_rfl) ?_ _
      refine NoPanic.normal ?_
      go_wp2
      go_roundw
      case rel => exact ⟨k + 1, _, _, by omega, by go_num, HF.out⟩
      case measure => simp [intOf]; omega
    · have ek : k = t.m := by rw [HM.out]; omega
      have HE := HS2.out
      rw [ek, ← HM.out] at HE
      have HEE := hide HE
      have fz : ∀ i, wr.frozen? ⟨p, i, none⟩ = false := fun i => frz_blk hS.hp
      clear HE hS ek
      go_wp2
      go_ret
      obtain ⟨h1, h2, h3⟩ := chainR (b := b) HD.out.pB [(1, Value.slice none 0 0)] wr _ HEE.out.hp
      rw [headR_settle gk _ t 18446744073709551615 (-1) 0] at h1
      obtain ⟨r1, r2⟩ := HEE.out.fin HD.out HD.out.gB h1 h3 h2
      exact ⟨rfl, _, _, _, r1, HF1.out.trans r2⟩
set_option maxRecDepth 100000 in
set_option maxHeartbeats 2000000 in
theorem flushR_any (h : RV B p gk vo kv wv kb t w) (hB : B ≤ w.heap.size) (hlf : t.life < 100000) :
    Calls Try.prog 15 #[.pointer (some ⟨p, 0, none⟩)] w fun e w' => e = .returned (.int .i64 t.flushE) ∧ RN b B p gk wv t.flush w w' := by
  have HFE : Hid (t.flushE = if t.down then 20 else if t.after = 1 then 20 else 0) := rfl
  have HFL : Hid (t.flush = if t.down then t else if t.after = 1 then t.tick else t.tick.settle 18446744073709551615 (-1) 0) := rfl
  have d2 := h.d.2.2.1
  cases hd : t.down with
  | true =>
    rw [hd] at d2 HFE HFL
    rw [if_pos rfl] at HFE HFL
    rw [HFE.out]
    have H := hide h
    clear h
    go_enter Try.func15, Try.ntmps15
    go_wp2
    go_ret
    exact ⟨rfl, vo, kv, kb, by rw [HFL.out]; exact H.out, ⟨Below.refl _ _, fun _ _ _ _ e _ _ _ _ => e⟩⟩
  | false =>
    rw [hd] at d2 HFE HFL
    rw [if_neg (by simp)] at HFE HFL
    by_cases hf : t.after = 1
    · rw [if_pos hf] at HFE HFL
      rw [HFE.out]
      have HNW := hide (now_any (b := b) h hB hd hlf)
      rw [decide_eq_true hf] at HNW
      clear h
      go_enter Try.func15, Try.ntmps15
      go_wp2_with fail
      refine HNW.out.mono ?_
      rintro e w1 ⟨rfl, hR⟩
      have HR := hide hR
      clear hR
      go_wp2
      go_ret
      exact ⟨rfl, by rw [HFL.out]; exact HR.out⟩
    · rw [if_neg hf] at HFE HFL
      rw [HFE.out, HFL.out]
      exact flushR_go h hB hd hf hlf
end
end Go.Proofs.Ytnapapgmeghgjaa
