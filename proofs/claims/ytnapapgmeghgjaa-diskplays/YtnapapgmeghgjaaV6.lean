/- Contract of the document's own Write that is taken. -/
import Derived.Test.YtnapapgmeghgjaaV5
set_option linter.unusedVariables false
namespace Go.Proofs.Ytnapapgmeghgjaa
open Go.RowKit

theorem info_open : (Try.prog.info? 78).map (fun i => (i.zero, i.size, i.bytes)) = some (some (.agg #[.int .i64 0, .slice none 0 0]), 2, 32) := by kernel_rfl
section
variable [Gc] {b : Nat → Prop} {B p gk : Nat} {vo : Value} {kv wv : Nat → Value} {kb : Nat → List Nat} {t : DS} {a : Nat} {w1 w2 : World}
theorem RV.grownR (h : RV B p gk vo kv wv kb t w1) (hg : w1.grownBy w2 vo.ownBlock) : w2.heap[p]? = some (.cells (headR gk vo t) 44 (0, 0)) := by
  rw [hg.block p (Array.getElem?_eq_some_iff.1 h.hp).1 ?_, h.hp]
  intro e2
  obtain ⟨_, cur, hc⟩ := own_block h.hw e2.symm
  have h1 := h.hp
  rw [hc] at h1
  simp only [Option.some.injEq, Obj.cells.injEq] at h1
  exact absurd h1.2.1 (by decide)
/-- One open write more. -/
theorem RV.wroteR (h : RV B p gk vo kv wv kb t w1) (ha : a < t.n) (hB : B ≤ w1.heap.size) {xs : List Nat} (hx : xs.length ≤ blk) (hxb : ∀ c ∈ xs, c < 256) (hm : t.m < 100000) {vb vo' : Value} {N : Nat} (hob : w1.ownsRow B 5 1 vb N (cellsOf (pad xs))) (hob8 : ∀ j, Gc.c j → vb.ownBlock ≠ some j)
    (hnew : N = blk ∧ ∀ k, vb.ownBlock = some k → (∀ i, i < t.m → (wv i).ownBlock ≠ some k) ∧ ∀ i, i < t.n → (kv i).ownBlock ≠ some k) (ho : w2.ownsRow B 78 2 vo' (t.m + 1) (two (fun i => .int .i64 (t.at_ i : Nat)) wv t.m ++ [.int .i64 (a : Nat), vb])) (hg : w1.grownBy w2 vo.ownBlock) :
    RV B p gk vo' kv (upd wv t.m vb) kb (t.wrote a xs) (w2.setCell ⟨p, 1, none⟩ vo') ∧ Fd b B w1 (w2.setCell ⟨p, 1, none⟩ vo') := by
  have st : ∀ (k : Nat) (cs : Array Value) (t' : TypeId), w1.heap[k]? = some (Obj.cells cs t' (0, 0)) → t' ≠ 78 → w2.heap[k]? = some (Obj.cells cs t' (0, 0)) := by
    intro k cs t' e ht
    rw [hg.block k (Array.getElem?_eq_some_iff.1 e).1 ?_, e]
    intro e2
    obtain ⟨_, cur, hc⟩ := own_block h.hw e2.symm
    rw [hc] at e
    simp only [Option.some.injEq, Obj.cells.injEq] at e
    exact ht e.2.1.symm
  have hpb := st p _ _ h.hp (by decide)
  have f1 : Fd b B w1 w2 := by
    refine ⟨(Below.refl B w1).grown hg hB (fun k hk => (own_block h.hw hk).1), fun k cs t' fz e n1 n2 n3 n4 => ?_⟩
    rw [hg.block k (Array.getElem?_eq_some_iff.1 e).1 ?_, e]
    intro e2
    obtain ⟨_, cur, hc⟩ := own_block h.hw e2.symm
    rw [hc] at e
    simp only [Option.some.injEq, Obj.cells.injEq] at e
    exact n3 e.2.1.symm
  have f2 : Fd b B w2 (w2.setCell ⟨p, 1, none⟩ vo') := Fd.set hpb h.pB (Or.inl rfl)
  have st2 := stay_set (o := 1) (u := vo') hpb
  have st3 : ∀ (k : Nat) (cs : Array Value) (t' : TypeId), w1.heap[k]? = some (Obj.cells cs t' (0, 0)) → t' ≠ 78 → t' ≠ 44 → (w2.setCell ⟨p, 1, none⟩ vo').heap[k]? = some (.cells cs t' (0, 0)) := fun k cs t' e h1 h2 => st2 k cs t' (st k cs t' e h1) h2
  refine ⟨⟨?_, st3 _ _ _ h.hg (by decide) (by decide), ?_, fun i hi => own_stay (h.hk i hi) fun k cs _ e => st3 k cs _ e (by decide) (by decide), h.kp, ?_, ?_, ?_, h.pB, h.gB, wrote_ok t a xs h.ok ha hx hxb hm, h.dz, fun j hj => ⟨by obtain ⟨cs, e⟩ := (h.h8 j hj).1; exact ⟨cs, st3 _ _ _ e (by decide) (by decide)⟩, (h.h8 j hj).2.1, fun i hi => by
    rw [wrote_m] at hi
    rcases Nat.lt_or_ge i t.m with h1 | h1
    · rw [upd_ne _ _ (Nat.ne_of_lt h1)]; exact (h.h8 j hj).2.2 i h1
    · obtain rfl : i = t.m := by omega
      rw [upd_at]; exact hob8 j hj⟩⟩, f1.trans f2⟩
  · rw [heap_setCell_same w2 p _ _ _ vo' hpb]
    rfl
  · rw [wrote_m, two_succ, upd_at, wrote_at_m]
    have e : two (fun i => Value.int .i64 ((t.wrote a xs).at_ i : Nat)) (upd wv t.m vb) t.m = two (fun i => .int .i64 (t.at_ i : Nat)) wv t.m := by
      apply two_congr
      intro i hi
      rw [wrote_at t a xs hi, upd_ne _ _ (Nat.ne_of_lt hi)]
      exact ⟨rfl, rfl⟩
    rw [e]
    exact own_stay ho fun k cs _ e3 => st2 k cs _ e3 (by decide)
  · intro i hi
    rw [wrote_m] at hi
    rcases Nat.lt_or_ge i t.m with h1 | h1
    · rw [wrote_by t a xs h1, upd_ne _ _ (Nat.ne_of_lt h1)]
      exact own_stay (h.hb i h1) fun k cs _ e => st3 k cs _ e (by decide) (by decide)
    · obtain rfl : i = t.m := by omega
      rw [wrote_by_m, upd_at, ← hnew.1]
      exact own_stay hob fun k cs _ e => st3 k cs _ e (by decide) (by decide)
  · intro i j k hi hj hij hk
    rw [wrote_m] at hi hj
    rcases Nat.lt_or_ge i t.m with h1 | h1
    · rw [upd_ne _ _ (Nat.ne_of_lt h1)] at hk
      rcases Nat.lt_or_ge j t.m with h2 | h2
      · rw [upd_ne _ _ (Nat.ne_of_lt h2)]; exact h.ha i j k h1 h2 hij hk
      · obtain rfl : j = t.m := by omega
        rw [upd_at]
        intro e
        exact (hnew.2 k e).1 i h1 hk
    · obtain rfl : i = t.m := by omega
      rw [upd_at] at hk
      rw [upd_ne _ _ (fun e => hij e.symm)]
      exact (hnew.2 k hk).1 j (by omega)
  · intro i j k hi hj hk
    rw [wrote_m] at hi
    rcases Nat.lt_or_ge i t.m with h1 | h1
    · rw [upd_ne _ _ (Nat.ne_of_lt h1)] at hk
      exact h.hc i j k h1 hj hk
    · obtain rfl : i = t.m := by omega
      rw [upd_at] at hk
      exact (hnew.2 k hk).2 j hj
end
set_option maxRecDepth 100000 in
set_option maxHeartbeats 8000000 in
theorem writeR_ok [Gc] {b : Nat → Prop} {B p gk : Nat} {vo : Value} {kv wv : Nat → Value} {kb : Nat → List Nat} {t : DS} {w : World} (at_ : Nat) (a : Option Addr) (len cap : Nat) (xs : List Nat) (h : RV B p gk vo kv wv kb t w) (hB : B ≤ w.heap.size) (hd : t.down = false) (hat : at_ < t.n) (hf : ¬ t.after = 1) (hlf : t.life < 100000) (hmm : t.m < 100000) (hl : len ≤ blk) (hbs : ∀ ww, Fd b B w ww → BS ww a len cap xs) :
    Calls Try.prog 13 #[.pointer (some ⟨p, 0, none⟩), .int .i64 (at_ : Int), .slice a len cap] w fun e w' => e = .returned (.int .i64 0) ∧ ∃ g n1 c1, w.heap.size ≤ g ∧ RN b B p gk (upd wv t.m (.slice (some ⟨g, 0, none⟩) n1 c1)) (t.tick.wrote at_ xs) w w' := by
  obtain ⟨j0, hj, hy0, hy1, hy2⟩ := info_parts info_open
  obtain ⟨d0, -, d2, -, -, -, -, -⟩ := h.d
  rw [hd] at d2
  have hb0 := hbs w ⟨Below.refl _ _, fun _ _ _ _ e _ _ _ _ => e⟩
  have hxl : xs.length ≤ blk := by rw [hb0.hlen]; exact hl
  have hxb := hb0.hbyte
  have HNW := hide (now_any (b := b) h hB hd hlf)
  have HTF := hide (tickF hf)
  have e1 : decide (t.after = 1) = false := decide_eq_false hf
  rw [e1] at HNW
  have HN8 : Hid (blk = 8192) := rfl
  have HBSF := hide hbs
  obtain ⟨N, HN⟩ : ∃ N, Hid (blk = N) := ⟨_, rfl⟩
  have HFU : Hid (∀ ww, BS ww a len cap xs → Calls Try.prog 36 #[.slice a len cap] ww fun e w' => e = .returned (.slice (some ⟨ww.heap.size, 0, none⟩) N N) ∧ w'.ownsRow ww.heap.size 5 1 (.slice (some ⟨ww.heap.size, 0, none⟩) N N) N (cellsOf (pad xs)) ∧ Below ww.heap.size ww w') := by
    intro ww hh
    have := full_any a len cap xs ww hh hl
    rw [HN.out] at this
    exact this
  have q1 : decide ((at_ : Int) < 0) = false := decide_eq_false (by omega)
  have q2 : decide (((t.n : Nat) : Int) ≤ (at_ : Int)) = false := decide_eq_false (by omega)
  have q3 : decide ((8192 : Int) < (len : Int)) = false := decide_eq_false (by have := HN8.out; omega)
  have HBW := hide hB
  clear h hb0 hbs
  generalize htn : t.n = tn at *
  go_enter Try.func13, Try.ntmps13
  go_wp2_with fail
  refine HNW.out.mono ?_
  rintro e w6 ⟨rfl, vo6, kv6, kb6, hR6, hF6⟩
  obtain ⟨A, C, hvo⟩ := own_slice hR6.hw
  rw [HTF.out.2.2.2] at hvo
  subst hvo
  generalize hM : t.m = M at *
  have HM : Hid (t.tick.m = M) := HTF.out.2.2.2
  have HN1 : Hid (t.tick.n = tn) := HTF.out.2.2.1
  have HM6 := hide hR6
  have HF6 := hide hF6
  have HB6 := hide (Nat.le_trans HBW.out hF6.bel.size)
  have HF6s := hide hF6.bel.size
  have HC6 := hide hR6.d.2.1
  have HBS6 := hide (HBSF.out w6 hF6)
  have HNEW : Hid (N = blk ∧ ∀ k, Value.ownBlock (.slice (some ⟨w6.heap.size, 0, none⟩) N N) = some k → (∀ i, i < t.tick.m → (wv i).ownBlock ≠ some k) ∧ ∀ i, i < t.tick.n → (kv6 i).ownBlock ≠ some k) := by
    refine ⟨HN.out.symm, fun k hk => ?_⟩
    have e7 : w6.heap.size = k := Option.some.inj hk
    refine ⟨fun i hi e => ?_, fun i hi e => ?_⟩
    · obtain ⟨_, cur, hc⟩ := own_block (HM6.out.hb i hi) e
      have := (Array.getElem?_eq_some_iff.1 hc).1
      omega
    · obtain ⟨_, cur, hc⟩ := own_block (HM6.out.hk i hi) e
      have := (Array.getElem?_eq_some_iff.1 hc).1
      omega
  have HN88 : Hid (∀ j, Gc.c j → Value.ownBlock (.slice (some ⟨w6.heap.size, 0, none⟩) N N) ≠ some j) := by
    intro j hj e
    have e7 : w6.heap.size = j := Option.some.inj e
    obtain ⟨cs, e6⟩ := (HM6.out.h8 j hj).1
    have := (Array.getElem?_eq_some_iff.1 e6).1
    omega
  clear hR6 hF6 hM htn d0 d2
  go_wp2_with fail
  refine wp_region_noPanic ?_
  refine wp_region_held_drew (S := fun wx => True) (by kernel_rfl) trivial (fun hHeld => ?_)
  refine wpAnyH_takeAt (i := 0) (d := 32) (v := ?vz1y0) (by kernel_rfl) (by kernel_rfl) (by kernel_rfl) (by kernel_rfl) (fun _ _ _ h => h) ?hyz1y0 (by assumption) ?restz1y0
  case hyz1y0 =>
    intro oi ho
    simp only [List.getElem?_toArray, List.getElem?_cons_zero, Option.some.injEq] at ho
    subst ho
    refine Or.inl ⟨by rfl, ?_⟩
    intro wx hSw
    try dsimp only at hSw
    go_simp
    try rfl
  try simp only [Act.put, List.setIfInBounds_toArray, List.set_cons_zero, List.set_cons_succ]
  refine wpAnyH_takeAt (i := 1) (d := 33) (v := ?vz2y1) (by kernel_rfl) (by kernel_rfl) (by kernel_rfl) (by kernel_rfl) (fun _ _ _ h => h) ?hyz2y1 (by assumption) ?restz2y1
  case hyz2y1 =>
    intro oi ho
    simp only [List.getElem?_toArray, List.getElem?_cons_succ, List.getElem?_cons_zero, Option.some.injEq] at ho
    subst ho
    refine Or.inl ⟨by rfl, ?_⟩
    intro wx hSw
    try dsimp only at hSw
    go_simp
    try rfl
  try simp only [Act.put, List.setIfInBounds_toArray, List.set_cons_zero, List.set_cons_succ]
  refine wpAnyH_takeAt (i := 2) (d := 34) (v := ?vz3y2) (by kernel_rfl) (by kernel_rfl) (by kernel_rfl) (by kernel_rfl) (fun _ _ _ h => h) ?hyz3y2 (by assumption) ?restz3y2
  case hyz3y2 =>
    intro oi ho
    simp only [List.getElem?_toArray, List.getElem?_cons_succ, List.getElem?_cons_zero, Option.some.injEq] at ho
    subst ho
    refine Or.inl ⟨by rfl, ?_⟩
    intro wx hSw
    try dsimp only at hSw
    go_simp
    try rfl
  try simp only [Act.put, List.setIfInBounds_toArray, List.set_cons_zero, List.set_cons_succ]
  refine wpAnyH_takeAt (i := 3) (d := 35) (v := ?vz4y3) (by kernel_rfl) (by kernel_rfl) (by kernel_rfl) (by kernel_rfl) (fun _ _ _ h => h) ?hyz4y3 (by assumption) ?restz4y3
  case hyz4y3 =>
    intro oi ho
    simp only [List.getElem?_toArray, List.getElem?_cons_succ, List.getElem?_cons_zero, Option.some.injEq] at ho
    subst ho
    refine Or.inl ⟨by rfl, ?_⟩
    intro wx hSw
    try dsimp only at hSw
    go_simp
    try rfl
  try simp only [Act.put, List.setIfInBounds_toArray, List.set_cons_zero, List.set_cons_succ]
  refine wpAnyH_takeAt (i := 5) (d := 37) (v := ?vz5y5) (by kernel_rfl) (by kernel_rfl) (by kernel_rfl) (by kernel_rfl) (fun _ _ _ h => h) ?hyz5y5 (by assumption) ?restz5y5
  case hyz5y5 =>
    intro oi ho
    simp only [List.getElem?_toArray, List.getElem?_cons_succ, List.getElem?_cons_zero, Option.some.injEq] at ho
    subst ho
    refine Or.inl ⟨by rfl, ?_⟩
    intro wx hSw
    try dsimp only at hSw
    go_simp
    try rfl
  try simp only [Act.put, List.setIfInBounds_toArray, List.set_cons_zero, List.set_cons_succ]
  refine wpAnyH_takeAt (i := 6) (d := 38) (v := ?vz6y6) (by kernel_rfl) (by kernel_rfl) (by kernel_rfl) (by kernel_rfl) (fun _ _ _ h => h) ?hyz6y6 (by assumption) ?restz6y6
  case hyz6y6 =>
    intro oi ho
    simp only [List.getElem?_toArray, List.getElem?_cons_succ, List.getElem?_cons_zero, Option.some.injEq] at ho
    subst ho
    refine Or.inl ⟨by rfl, ?_⟩
    intro wx hSw
    try dsimp only at hSw
    go_simp
    try rfl
  try simp only [Act.put, List.setIfInBounds_toArray, List.set_cons_zero, List.set_cons_succ]
  refine wpAnyH_comes2At (i := 4) (j := 7) (by kernel_rfl) (by kernel_rfl) (by kernel_rfl) ?z7ya ?z7yb
  case z7ya =>
    intro o ho K hK
    simp only [List.getElem?_toArray, List.getElem?_cons_succ, List.getElem?_cons_zero, Option.some.injEq] at ho
    subst ho
    have c7 : w6.drew.cell? ⟨p, 1, none⟩ = some (.slice A M C) := HC6.out
    go_simp
    clear c7
    refine hK.out _ _ hHeld (fun hHeld => ?_)
    clear hK K
    try simp only [Act.put, List.setIfInBounds_toArray, List.set_cons_zero, List.set_cons_succ]
    refine wpAnyH_comesAt (i := 7) (by kernel_rfl) (by kernel_rfl) ?_
    intro o ho K hK
    simp only [List.getElem?_toArray, List.getElem?_cons_succ, List.getElem?_cons_zero, Option.some.injEq] at ho
    subst ho
    go_simp
    refine (HFU.out _ (HBS6.out.later (Below.refl w6.heap.size w6).drew (Nat.le_refl _))).mono ?_
    rintro e w7 ⟨rfl, hob, hb7⟩
    have HB7 := hide ((Below.refl w6.heap.size w6).drew.trans hb7)
    have HOB := hide (own_base hob HB6.out)
    clear hob hb7 hHeld
    refine hK.out _ _ trivial (fun hHeld => ?_)
    clear hK K
    try simp only [Act.put, List.setIfInBounds_toArray, List.set_cons_zero, List.set_cons_succ]
    refine wpAnyH_takeAt (i := 8) (d := 40) (v := ?vz8y8) (by kernel_rfl) (by kernel_rfl) (by kernel_rfl) (by kernel_rfl) (fun _ _ _ h => h) ?hyz8y8 (by assumption) ?restz8y8
    case hyz8y8 =>
      intro oi ho
      simp only [List.getElem?_toArray, List.getElem?_cons_succ, List.getElem?_cons_zero, Option.some.injEq] at ho
      subst ho
      refine Or.inl ⟨by rfl, ?_⟩
      intro wx hSw
      try dsimp only at hSw
      go_simp
      try rfl
    try simp only [Act.put, List.setIfInBounds_toArray, List.set_cons_zero, List.set_cons_succ]
    refine wpAnyH_comesAt (i := 9) (by kernel_rfl) (by kernel_rfl) ?_
    intro o ho K hK
    simp only [List.getElem?_toArray, List.getElem?_cons_succ, List.getElem?_cons_zero, Option.some.injEq] at ho
    subst ho
    go_simp
    clear hHeld
    refine hK.out _ _ trivial (fun hHeld => ?_)
    clear hK K
    try simp only [Act.put, List.setIfInBounds_toArray, List.set_cons_zero, List.set_cons_succ]
    refine wpAnyH_comesAt (i := 10) (by kernel_rfl) (by kernel_rfl) ?_
    intro o ho K hK
    simp only [List.getElem?_toArray, List.getElem?_cons_succ, List.getElem?_cons_zero, Option.some.injEq] at ho
    subst ho
    have HB8 := hide (HB7.out.trans ((below_box w7 (.cells #[.int .i64 (at_ : Int), .slice (some ⟨w6.heap.size, 0, none⟩) N N] 78)).mono HB7.out.size))
    have HM8 := hide (HM6.out.later HB8.out)
    have HO8 := hide HM8.out.hw
    rw [HM.out] at HO8
    rw [if_pos (by rfl)]
    refine wp_append_at (.tmp 36) (.tmp 41) 42 rfl B 78 j0 (.agg #[.int .i64 0, .slice none 0 0]) 2 32 Try.underlying42 hj hy0 hy1 hy2 rfl (by omega) (.slice A M C) M _ rfl HO8.out ⟨w7.heap.size, 0, none⟩ 1 1 [.int .i64 (at_ : Int), .slice (some ⟨w6.heap.size, 0, none⟩) N N] rfl rfl (news2 w7 _ _ _) (by intro u hu; simp at hu; rcases hu with rfl | rfl <;> rfl) (by unfold maxLen; omega) (by omega) (by have := HB6.out; have := HB8.out.size; omega) ?_
    intro v9 w9 ho9 hg9 _
    obtain ⟨a9, p9, rfl⟩ := own_slice ho9
    have HOB8 := hide (own_later HOB.out (below_box w7 (.cells #[.int .i64 (at_ : Int), .slice (some ⟨w6.heap.size, 0, none⟩) N N] 78)))
    have HE := hide (HM8.out.wroteR (b := b) (by rw [HN1.out]; exact hat) (by have := HB6.out; have := HB8.out.size; omega) hxl hxb (by rw [HM.out]; exact hmm) HOB8.out HN88.out HNEW.out (by rw [HM.out]; exact ho9) hg9)
    have hp9 := HM8.out.grownR hg9
    have c9 : w9.cell? ⟨p, 1, none⟩ = some (.slice A M C) := cell_blk hp9
    have f9 : w9.frozen? ⟨p, 1, none⟩ = false := frz_blk hp9
    clear ho9 hg9 hHeld hp9
    refine hK.out _ _ trivial (fun hHeld => ?_)
    clear hK K
    try simp only [Act.put, List.setIfInBounds_toArray, List.set_cons_zero, List.set_cons_succ]
    refine wpAnyH_takeAt (i := 11) (d := 43) (v := ?vz9y11) (by kernel_rfl) (by kernel_rfl) (by kernel_rfl) (by kernel_rfl) (fun _ _ _ h => h) ?hyz9y11 (by assumption) ?restz9y11
    case hyz9y11 =>
      intro oi ho
      simp only [List.getElem?_toArray, List.getElem?_cons_succ, List.getElem?_cons_zero, Option.some.injEq] at ho
      subst ho
      refine Or.inl ⟨by rfl, ?_⟩
      intro wx hSw
      try dsimp only at hSw
      go_simp
      try rfl
    try simp only [Act.put, List.setIfInBounds_toArray, List.set_cons_zero, List.set_cons_succ]
    refine wpAnyH_takeAt (i := 12) (d := 44) (v := ?vz10y12) (by kernel_rfl) (by kernel_rfl) (by kernel_rfl) (by kernel_rfl) (fun _ _ _ h => h) ?hyz10y12 (by assumption) ?restz10y12
    case hyz10y12 =>
      intro oi ho
      simp only [List.getElem?_toArray, List.getElem?_cons_succ, List.getElem?_cons_zero, Option.some.injEq] at ho
      subst ho
      refine Or.inl ⟨by rfl, ?_⟩
      intro wx hSw
      try dsimp only at hSw
      go_simp
      try rfl
    try simp only [Act.put, List.setIfInBounds_toArray, List.set_cons_zero, List.set_cons_succ]
    refine wpAnyH_comesAt (i := 13) (by kernel_rfl) (by kernel_rfl) ?_
    intro o ho K hK
    simp only [List.getElem?_toArray, List.getElem?_cons_succ, List.getElem?_cons_zero, Option.some.injEq] at ho
    subst ho
    go_simp
    clear hHeld
    refine hK.out _ _ trivial (fun hHeld => ?_)
    clear hK K
    try simp only [Act.put, List.setIfInBounds_toArray, List.set_cons_zero, List.set_cons_succ]
    refine wpAnyH_done (by kernel_rfl) ?_ _
    refine NoPanic.normal ?_
    go_wp2
    go_ret
    exact ⟨rfl, w6.heap.size, N, N, HF6s.out, _, _, _, by have q := HE.out.1; rw [(tickF hf).2.2.2] at q; exact q, HF6.out.trans ((Fd.of HB8.out HB6.out).trans HE.out.2)⟩
  case z7yb =>
    intro o ho K hK
    simp only [List.getElem?_toArray, List.getElem?_cons_succ, List.getElem?_cons_zero, Option.some.injEq] at ho
    subst ho
    go_simp
    refine (HFU.out _ (HBS6.out.later (Below.refl w6.heap.size w6).drew (Nat.le_refl _))).mono ?_
    rintro e w7 ⟨rfl, hob, hb7⟩
    have HB7 := hide ((Below.refl w6.heap.size w6).drew.trans hb7)
    have HOB := hide (own_base hob HB6.out)
    clear hob hb7 hHeld
    refine hK.out _ _ trivial (fun hHeld => ?_)
    clear hK K
    try simp only [Act.put, List.setIfInBounds_toArray, List.set_cons_zero, List.set_cons_succ]
    refine wpAnyH_takeAt (i := 8) (d := 40) (v := ?vz16y8) (by kernel_rfl) (by kernel_rfl) (by kernel_rfl) (by kernel_rfl) (fun _ _ _ h => h) ?hyz16y8 (by assumption) ?restz16y8
    case hyz16y8 =>
      intro oi ho
      simp only [List.getElem?_toArray, List.getElem?_cons_succ, List.getElem?_cons_zero, Option.some.injEq] at ho
      subst ho
      refine Or.inl ⟨by rfl, ?_⟩
      intro wx hSw
      try dsimp only at hSw
      go_simp
      try rfl
    try simp only [Act.put, List.setIfInBounds_toArray, List.set_cons_zero, List.set_cons_succ]
    refine wpAnyH_comes2At (i := 4) (j := 9) (by kernel_rfl) (by kernel_rfl) (by kernel_rfl) ?z11ya ?z11yb
    case z11ya =>
      intro o ho K hK
      simp only [List.getElem?_toArray, List.getElem?_cons_succ, List.getElem?_cons_zero, Option.some.injEq] at ho
      subst ho
      have c7 : w7.cell? ⟨p, 1, none⟩ = some (.slice A M C) := (HB7.out.cell (cell_lt HC6.out)).trans HC6.out
      go_simp
      clear c7
      refine hK.out _ _ hHeld (fun hHeld => ?_)
      clear hK K
      try simp only [Act.put, List.setIfInBounds_toArray, List.set_cons_zero, List.set_cons_succ]
      refine wpAnyH_comesAt (i := 9) (by kernel_rfl) (by kernel_rfl) ?_
      intro o ho K hK
      simp only [List.getElem?_toArray, List.getElem?_cons_succ, List.getElem?_cons_zero, Option.some.injEq] at ho
      subst ho
      go_simp
      clear hHeld
      refine hK.out _ _ trivial (fun hHeld => ?_)
      clear hK K
      try simp only [Act.put, List.setIfInBounds_toArray, List.set_cons_zero, List.set_cons_succ]
      refine wpAnyH_comesAt (i := 10) (by kernel_rfl) (by kernel_rfl) ?_
      intro o ho K hK
      simp only [List.getElem?_toArray, List.getElem?_cons_succ, List.getElem?_cons_zero, Option.some.injEq] at ho
      subst ho
      have HB8 := hide (HB7.out.trans ((below_box w7 (.cells #[.int .i64 (at_ : Int), .slice (some ⟨w6.heap.size, 0, none⟩) N N] 78)).mono HB7.out.size))
      have HM8 := hide (HM6.out.later HB8.out)
      have HO8 := hide HM8.out.hw
      rw [HM.out] at HO8
      rw [if_pos (by rfl)]
      refine wp_append_at (.tmp 36) (.tmp 41) 42 rfl B 78 j0 (.agg #[.int .i64 0, .slice none 0 0]) 2 32 Try.underlying42 hj hy0 hy1 hy2 rfl (by omega) (.slice A M C) M _ rfl HO8.out ⟨w7.heap.size, 0, none⟩ 1 1 [.int .i64 (at_ : Int), .slice (some ⟨w6.heap.size, 0, none⟩) N N] rfl rfl (news2 w7 _ _ _) (by intro u hu; simp at hu; rcases hu with rfl | rfl <;> rfl) (by unfold maxLen; omega) (by omega) (by have := HB6.out; have := HB8.out.size; omega) ?_
      intro v9 w9 ho9 hg9 _
      obtain ⟨a9, p9, rfl⟩ := own_slice ho9
      have HOB8 := hide (own_later HOB.out (below_box w7 (.cells #[.int .i64 (at_ : Int), .slice (some ⟨w6.heap.size, 0, none⟩) N N] 78)))
      have HE := hide (HM8.out.wroteR (b := b) (by rw [HN1.out]; exact hat) (by have := HB6.out; have := HB8.out.size; omega) hxl hxb (by rw [HM.out]; exact hmm) HOB8.out HN88.out HNEW.out (by rw [HM.out]; exact ho9) hg9)
      have hp9 := HM8.out.grownR hg9
      have c9 : w9.cell? ⟨p, 1, none⟩ = some (.slice A M C) := cell_blk hp9
      have f9 : w9.frozen? ⟨p, 1, none⟩ = false := frz_blk hp9
      clear ho9 hg9 hHeld hp9
      refine hK.out _ _ trivial (fun hHeld => ?_)
      clear hK K
      try simp only [Act.put, List.setIfInBounds_toArray, List.set_cons_zero, List.set_cons_succ]
      refine wpAnyH_takeAt (i := 11) (d := 43) (v := ?vz12y11) (by kernel_rfl) (by kernel_rfl) (by kernel_rfl) (by kernel_rfl) (fun _ _ _ h => h) ?hyz12y11 (by assumption) ?restz12y11
      case hyz12y11 =>
        intro oi ho
        simp only [List.getElem?_toArray, List.getElem?_cons_succ, List.getElem?_cons_zero, Option.some.injEq] at ho
        subst ho
        refine Or.inl ⟨by rfl, ?_⟩
        intro wx hSw
        try dsimp only at hSw
        go_simp
        try rfl
      try simp only [Act.put, List.setIfInBounds_toArray, List.set_cons_zero, List.set_cons_succ]
      refine wpAnyH_takeAt (i := 12) (d := 44) (v := ?vz13y12) (by kernel_rfl) (by kernel_rfl) (by kernel_rfl) (by kernel_rfl) (fun _ _ _ h => h) ?hyz13y12 (by assumption) ?restz13y12
      case hyz13y12 =>
        intro oi ho
        simp only [List.getElem?_toArray, List.getElem?_cons_succ, List.getElem?_cons_zero, Option.some.injEq] at ho
        subst ho
        refine Or.inl ⟨by rfl, ?_⟩
        intro wx hSw
        try dsimp only at hSw
        go_simp
        try rfl
      try simp only [Act.put, List.setIfInBounds_toArray, List.set_cons_zero, List.set_cons_succ]
      refine wpAnyH_comesAt (i := 13) (by kernel_rfl) (by kernel_rfl) ?_
      intro o ho K hK
      simp only [List.getElem?_toArray, List.getElem?_cons_succ, List.getElem?_cons_zero, Option.some.injEq] at ho
      subst ho
      go_simp
      clear hHeld
      refine hK.out _ _ trivial (fun hHeld => ?_)
      clear hK K
      try simp only [Act.put, List.setIfInBounds_toArray, List.set_cons_zero, List.set_cons_succ]
      refine wpAnyH_done (by kernel_rfl) ?_ _
      refine NoPanic.normal ?_
      go_wp2
      go_ret
      exact ⟨rfl, w6.heap.size, N, N, HF6s.out, _, _, _, by have q := HE.out.1; rw [(tickF hf).2.2.2] at q; exact q, HF6.out.trans ((Fd.of HB8.out HB6.out).trans HE.out.2)⟩
    case z11yb =>
      intro o ho K hK
      simp only [List.getElem?_toArray, List.getElem?_cons_succ, List.getElem?_cons_zero, Option.some.injEq] at ho
      subst ho
      go_simp
      clear hHeld
      refine hK.out _ _ trivial (fun hHeld => ?_)
      clear hK K
      try simp only [Act.put, List.setIfInBounds_toArray, List.set_cons_zero, List.set_cons_succ]
      refine wpAnyH_comesAt (i := 4) (by kernel_rfl) (by kernel_rfl) ?_
      intro o ho K hK
      simp only [List.getElem?_toArray, List.getElem?_cons_succ, List.getElem?_cons_zero, Option.some.injEq] at ho
      subst ho
      have c7 : (w7.alloc (.cells #[.int .i64 (at_ : Int), .slice (some ⟨w6.heap.size, 0, none⟩) N N] 78)).cell? ⟨p, 1, none⟩ = some (.slice A M C) := ((below_box w7 _).cell (Nat.lt_of_lt_of_le (cell_lt HC6.out) HB7.out.size)).trans ((HB7.out.cell (cell_lt HC6.out)).trans HC6.out)
      go_simp
      clear c7
      refine hK.out _ _ hHeld (fun hHeld => ?_)
      clear hK K
      try simp only [Act.put, List.setIfInBounds_toArray, List.set_cons_zero, List.set_cons_succ]
      refine wpAnyH_comesAt (i := 10) (by kernel_rfl) (by kernel_rfl) ?_
      intro o ho K hK
      simp only [List.getElem?_toArray, List.getElem?_cons_succ, List.getElem?_cons_zero, Option.some.injEq] at ho
      subst ho
      have HB8 := hide (HB7.out.trans ((below_box w7 (.cells #[.int .i64 (at_ : Int), .slice (some ⟨w6.heap.size, 0, none⟩) N N] 78)).mono HB7.out.size))
      have HM8 := hide (HM6.out.later HB8.out)
      have HO8 := hide HM8.out.hw
      rw [HM.out] at HO8
      rw [if_pos (by rfl)]
      refine wp_append_at (.tmp 36) (.tmp 41) 42 rfl B 78 j0 (.agg #[.int .i64 0, .slice none 0 0]) 2 32 Try.underlying42 hj hy0 hy1 hy2 rfl (by omega) (.slice A M C) M _ rfl HO8.out ⟨w7.heap.size, 0, none⟩ 1 1 [.int .i64 (at_ : Int), .slice (some ⟨w6.heap.size, 0, none⟩) N N] rfl rfl (news2 w7 _ _ _) (by intro u hu; simp at hu; rcases hu with rfl | rfl <;> rfl) (by unfold maxLen; omega) (by omega) (by have := HB6.out; have := HB8.out.size; omega) ?_
      intro v9 w9 ho9 hg9 _
      obtain ⟨a9, p9, rfl⟩ := own_slice ho9
      have HOB8 := hide (own_later HOB.out (below_box w7 (.cells #[.int .i64 (at_ : Int), .slice (some ⟨w6.heap.size, 0, none⟩) N N] 78)))
      have HE := hide (HM8.out.wroteR (b := b) (by rw [HN1.out]; exact hat) (by have := HB6.out; have := HB8.out.size; omega) hxl hxb (by rw [HM.out]; exact hmm) HOB8.out HN88.out HNEW.out (by rw [HM.out]; exact ho9) hg9)
      have hp9 := HM8.out.grownR hg9
      have c9 : w9.cell? ⟨p, 1, none⟩ = some (.slice A M C) := cell_blk hp9
      have f9 : w9.frozen? ⟨p, 1, none⟩ = false := frz_blk hp9
      clear ho9 hg9 hHeld hp9
      refine hK.out _ _ trivial (fun hHeld => ?_)
      clear hK K
      try simp only [Act.put, List.setIfInBounds_toArray, List.set_cons_zero, List.set_cons_succ]
      refine wpAnyH_takeAt (i := 11) (d := 43) (v := ?vz14y11) (by kernel_rfl) (by kernel_rfl) (by kernel_rfl) (by kernel_rfl) (fun _ _ _ h => h) ?hyz14y11 (by assumption) ?restz14y11
      case hyz14y11 =>
        intro oi ho
        simp only [List.getElem?_toArray, List.getElem?_cons_succ, List.getElem?_cons_zero, Option.some.injEq] at ho
        subst ho
        refine Or.inl ⟨by rfl, ?_⟩
        intro wx hSw
        try dsimp only at hSw
        go_simp
        try rfl
      try simp only [Act.put, List.setIfInBounds_toArray, List.set_cons_zero, List.set_cons_succ]
      refine wpAnyH_takeAt (i := 12) (d := 44) (v := ?vz15y12) (by kernel_rfl) (by kernel_rfl) (by kernel_rfl) (by kernel_rfl) (fun _ _ _ h => h) ?hyz15y12 (by assumption) ?restz15y12
      case hyz15y12 =>
        intro oi ho
        simp only [List.getElem?_toArray, List.getElem?_cons_succ, List.getElem?_cons_zero, Option.some.injEq] at ho
        subst ho
        refine Or.inl ⟨by rfl, ?_⟩
        intro wx hSw
        try dsimp only at hSw
        go_simp
        try rfl
      try simp only [Act.put, List.setIfInBounds_toArray, List.set_cons_zero, List.set_cons_succ]
      refine wpAnyH_comesAt (i := 13) (by kernel_rfl) (by kernel_rfl) ?_
      intro o ho K hK
      simp only [List.getElem?_toArray, List.getElem?_cons_succ, List.getElem?_cons_zero, Option.some.injEq] at ho
      subst ho
      go_simp
      clear hHeld
      refine hK.out _ _ trivial (fun hHeld => ?_)
      clear hK K
      try simp only [Act.put, List.setIfInBounds_toArray, List.set_cons_zero, List.set_cons_succ]
      refine wpAnyH_done (by kernel_rfl) ?_ _
      refine NoPanic.normal ?_
      go_wp2
      go_ret
      exact ⟨rfl, w6.heap.size, N, N, HF6s.out, _, _, _, by have q := HE.out.1; rw [(tickF hf).2.2.2] at q; exact q, HF6.out.trans ((Fd.of HB8.out HB6.out).trans HE.out.2)⟩
end Go.Proofs.Ytnapapgmeghgjaa
