/- The document's own New; both disks side by side. -/
import Derived.Test.YtnapapgmeghgjaaW2
import Derived.Test.YtnapapgmeghgjaaK3
import Derived.Test.YtnapapgmeghgjaaFA
set_option linter.unusedVariables false
namespace Go.Proofs.Ytnapapgmeghgjaa
open Go.RowKit

theorem made_wholeR {w : World} {B g n : Nat} {l : List Value} (h : w.ownsRow B 29 1 (.slice (some ⟨g, 0, none⟩) n n) n l) : w.heap[g]? = some (.cells l.toArray 29 (0, 0)) ∧ B ≤ g := by
  have hl := h.1
  rcases h.2 with ⟨e, _⟩ | ⟨g', cap, cur, e, h1, h2, h3, h4, h5, h6⟩
  · cases e
  · simp only [Value.slice.injEq, Option.some.injEq, Addr.mk.injEq, and_true, true_and] at e
    obtain ⟨rfl, rfl⟩ := e
    refine ⟨?_, h1⟩
    rw [h2]
    congr 2
    rw [List.take_of_length_le (by simp; omega)] at h6
    rw [← h6]
set_option maxRecDepth 100000 in
set_option maxHeartbeats 1000000 in
theorem newR_any [Gc] (B n : Nat) (w : World) (h1 : 1 ≤ n) (h2 : n ≤ 4096) (hB : B ≤ w.heap.size) (hc : ∀ k, ¬ Gc.c k) :
    Calls Try.prog 10 #[.int .i64 (n : Int)] w fun e w' => ∃ p, e = .returned (.pointer (some ⟨p, 0, none⟩)) ∧ (∃ gk vo kv wv kb, RV B p gk vo kv wv kb (DS.new n) w') ∧ Below w.heap.size w w' := by
  obtain ⟨i0, hi, hz0, hz1, hz2⟩ := info_parts info_bytes
  have HM := hide (made_nils n)
  have HOK := hide (new_ok h1 h2)
  go_enter Try.func10, Try.ntmps10
  go_wp2_with (refine wpList_make_full w rfl _ _ 41 rfl w.heap.size 29 i0 (.slice none 0 0) 1 Try.underlying41 hi hz0 hz1 .i64 .i64 n n n rfl rfl rfl rfl (by rw [hz2]; omega) (by unfold maxLen; omega) (Nat.le_refl _) ?_; intro w1 ho1 hg1; rw [HM.out] at ho1; have HO1 := hide (made_wholeR ho1); have HG1 := hide ((Below.refl w.heap.size w).grown hg1 (Nat.le_refl _) (fun k hk => by cases hk)); clear ho1 hg1)
  go_ret
  have HB2 := HG1.out.alloc HG1.out.size (.cells #[.slice (some ⟨w.heap.size, 0, none⟩) n n, .slice none 0 0, .bool false, .int .i64 0, .int .u64 0, .int .i64 0, .int .i64 0, .int .i64 0] 44)
  have e : (DS.new n).n = n := by simp [DS.n, DS.new]
  refine ⟨w1.heap.size, rfl, ⟨w.heap.size, .slice none 0 0, fun _ => .slice none 0 0, fun _ => .slice none 0 0, fun _ => [], ?_⟩, HB2⟩
  refine ⟨?_, ?_, World.ownsRow_nil _ _ _ _, fun i _ => World.ownsRow_nil _ _ _ _, fun i _ => ⟨by rw [new_K], Or.inl rfl⟩, fun i hi => by simp [DS.m, DS.new] at hi, fun i j k hi => by simp [DS.m, DS.new] at hi, fun i j k hi => by simp [DS.m, DS.new] at hi, Nat.le_trans hB HG1.out.size, hB, HOK.out, (fun q => by cases q), (fun k hk => absurd hk (hc k))⟩
  · unfold headR
    rw [e]
    exact heap_alloc_new w1 _
  · rw [e, Below.heap_alloc _ _ _ (Array.getElem?_eq_some_iff.1 HO1.out.1).1]
    exact HO1.out.1
/-- Other blocks are held apart. -/
theorem RV.reC {c1 c2 : Nat → Prop} {B p gk : Nat} {vo : Value} {kv wv : Nat → Value} {kb : Nat → List Nat} {t : DS} {w w' : World} (h : @RV ⟨c1⟩ B p gk vo kv wv kb t w) (hb : Below w.heap.size w w') (hc : ∀ k, c2 k → (c1 k ∨ w.heap.size ≤ k) ∧ ∃ cs, w'.heap[k]? = some (.cells cs 5 (0, 0))) : @RV ⟨c2⟩ B p gk vo kv wv kb t w' := by
  letI : Gc := ⟨c1⟩
  have h' := h.later hb
  refine @RV.mk ⟨c2⟩ _ _ _ _ _ _ _ _ _ h'.hp h'.hg h'.hw h'.hk h'.kp h'.hb h'.ha h'.hc h'.pB h'.gB h'.ok h'.dz ?_
  intro k hk
  obtain ⟨q1, q2⟩ := hc k hk
  refine ⟨q2, fun i hi e => ?_, fun i hi e => ?_⟩
  · rcases q1 with q | q
    · exact (h.h8 k q).2.1 i hi e
    · obtain ⟨_, cur, hc2⟩ := own_block (h.hk i hi) e
      have := (Array.getElem?_eq_some_iff.1 hc2).1
      omega
  · rcases q1 with q | q
    · exact (h.h8 k q).2.2 i hi e
    · obtain ⟨_, cur, hc2⟩ := own_block (h.hb i hi) e
      have := (Array.getElem?_eq_some_iff.1 hc2).1
      omega
/-- A block that is held apart is written. -/
theorem RV.wr [Gc] {B p gk : Nat} {vo : Value} {kv wv : Nat → Value} {kb : Nat → List Nat} {t : DS} {w : World} {k o : Nat} {u : Value} {cs0 : Array Value} (h : RV B p gk vo kv wv kb t w) (hk : Gc.c k) (e0 : w.heap[k]? = some (.cells cs0 5 (0, 0))) : RV B p gk vo kv wv kb t (w.setCell ⟨k, o, none⟩ u) := by
  have st := stay_set (o := o) (u := u) e0
  have oth : ∀ j, j ≠ k → (w.setCell ⟨k, o, none⟩ u).heap[j]? = w.heap[j]? := fun j hj => heap_setCell_other _ _ _ _ hj
  refine ⟨st _ _ _ h.hp (by decide), st _ _ _ h.hg (by decide), own_stay h.hw fun j cs _ e => st j cs _ e (by decide), fun i hi => own_stay (h.hk i hi) fun j cs hj e => by rw [oth j (fun q => (h.h8 k hk).2.1 i hi (by rw [hj, q])), e], h.kp, fun i hi => own_stay (h.hb i hi) fun j cs hj e => by rw [oth j (fun q => (h.h8 k hk).2.2 i hi (by rw [hj, q])), e], h.ha, h.hc, h.pB, h.gB, h.ok, h.dz, fun j hj => ⟨?_, (h.h8 j hj).2⟩⟩
  obtain ⟨cs, e⟩ := (h.h8 j hj).1
  by_cases q : j = k
  · subst q
    exact ⟨_, heap_setCell_same w j o _ _ u e0⟩
  · exact ⟨cs, by rw [oth j q, e]⟩
theorem DI.wr [Gd] {B p : Nat} {s : DS} {w : World} {k o : Nat} {u : Value} {cs0 : Array Value} (h : DI B p s w) (hk : Gd.b k) (e0 : w.heap[k]? = some (.cells cs0 5 (0, 0))) : DI B p s (w.setCell ⟨k, o, none⟩ u) := by
  obtain ⟨gb, vo, kv, ov, wv, h⟩ := h
  have st := stay_set (o := o) (u := u) e0
  have oth : ∀ j, j ≠ k → (w.setCell ⟨k, o, none⟩ u).heap[j]? = w.heap[j]? := fun j hj => heap_setCell_other _ _ _ _ hj
  refine ⟨gb, vo, kv, ov, wv, ⟨st _ _ _ h.hp (by decide), st _ _ _ h.hg (by decide), own_stay h.hw fun j cs _ e => st j cs _ e (by decide), fun i hi => own_stay (h.hk i hi) fun j cs hj e => by rw [oth j (fun q => (h.h8 k hk).2.1 i hi (by rw [hj, q])), e], fun i hi => own_stay (h.hb i hi) fun j cs hj e => by rw [oth j (fun q => (h.h8 k hk).2.2 i hi (by rw [hj, q])), e], fun i hi => own_stay (h.ho i hi) fun j cs _ e => st j cs _ e (by decide), h.ha, h.pB, h.gB, h.ok, fun j hj => ⟨by obtain ⟨cs, e⟩ := (h.hG j hj).1; exact ⟨cs, st _ _ _ e (by decide)⟩, (h.hG j hj).2⟩, fun j hj => ⟨?_, (h.h8 j hj).2⟩⟩⟩
  obtain ⟨cs, e⟩ := (h.h8 j hj).1
  by_cases q : j = k
  · subst q
    exact ⟨_, heap_setCell_same w j o _ _ u e0⟩
  · exact ⟨cs, by rw [oth j q, e]⟩
/-- Both disks in one state, side by side; c: blocks of bytes of the law's own. -/
def PD (c : Nat → Prop) (B p pr : Nat) (s : DS) (w : World) : Prop := ∃ gk vo kv wv kb, @RV ⟨c⟩ B pr gk vo kv wv kb s w ∧ @DI ⟨none, fun k => ob wv s.m k ∨ c k⟩ B p s w
section
variable {c : Nat → Prop} {B p pr : Nat} {s s' : DS} {w w1 w2 : World}
theorem PD.ok (h : PD c B p pr s w) : s.Ok := by
  obtain ⟨gk, vo, kv, wv, kb, hR, hD⟩ := h
  letI : Gc := ⟨c⟩
  exact hR.ok
theorem PD.later (h : PD c B p pr s w) (hb : Below w.heap.size w w1) : PD c B p pr s w1 := by
  obtain ⟨gk, vo, kv, wv, kb, hR, hD⟩ := h
  letI : Gc := ⟨c⟩
  letI : Gd := ⟨none, fun k => ob wv s.m k ∨ c k⟩
  exact ⟨gk, vo, kv, wv, kb, hR.later hb, hD.later hb⟩
/-- Behind a call of the document's disk. -/
theorem PD.both {gk : Nat} {vo : Value} {kv wv wv0 : Nat → Value} {kb : Nat → List Nat} {m0 : Nat} (hR : @RV ⟨c⟩ B pr gk vo kv wv kb s' w2) (hD : @DI ⟨none, fun k => ob wv0 m0 k ∨ c k⟩ B p s' w1) (f : Fd (fun k => ob wv0 m0 k) B w1 w2) (hs : ∀ i, i < s'.m → ∀ k, (wv i).ownBlock = some k → ob wv0 m0 k ∨ w1.heap.size ≤ k) : PD c B p pr s' w2 := by
  refine ⟨gk, vo, kv, wv, kb, hR, DI.ref hD ⟨f.bel, fun k cs t fz e n1 n2 n3 n4 => f.stay k cs t fz e n1 n2 n3 (fun q => n4 (Or.inl q))⟩ fun k hk => ?_⟩
  letI : Gc := ⟨c⟩
  rcases hk with ⟨i, hi, e⟩ | hk
  · refine ⟨?_, ?_⟩
    · rcases hs i hi k e with q | q
      · exact Or.inl (Or.inl q)
      · exact Or.inr q
    · obtain ⟨_, cur, hc⟩ := own_block (hR.hb i hi) e
      exact ⟨cur, hc⟩
  · exact ⟨Or.inl (Or.inr hk), (hR.h8 k hk).1⟩
theorem PD.same {gk : Nat} {vo : Value} {kv wv : Nat → Value} {kb : Nat → List Nat} {m0 : Nat} (hR : @RV ⟨c⟩ B pr gk vo kv wv kb s' w2) (hD : @DI ⟨none, fun k => ob wv m0 k ∨ c k⟩ B p s' w1) (f : Fd (fun k => ob wv m0 k) B w1 w2) (hm : s'.m ≤ m0) : PD c B p pr s' w2 :=
  PD.both hR hD f fun i hi k e => Or.inl ⟨i, by omega, e⟩
/-- Blocks of the law's own come and go. -/
theorem PD.reC {c2 : Nat → Prop} (h : PD c B p pr s w) (hB : B ≤ w.heap.size) (hb : Below w.heap.size w w1) (hc : ∀ k, c2 k → (c k ∨ w.heap.size ≤ k) ∧ ∃ cs, w1.heap[k]? = some (.cells cs 5 (0, 0))) : PD c2 B p pr s w1 := by
  obtain ⟨gk, vo, kv, wv, kb, hR, hD⟩ := h
  have hR2 := RV.reC (c2 := c2) hR hb hc
  refine ⟨gk, vo, kv, wv, kb, hR2, DI.ref hD (Fd.of hb hB) fun k hk => ?_⟩
  letI : Gc := ⟨c2⟩
  rcases hk with ⟨i, hi, e⟩ | hk
  · refine ⟨Or.inl (Or.inl ⟨i, hi, e⟩), ?_⟩
    obtain ⟨_, cur, hc⟩ := own_block (hR2.hb i hi) e
    exact ⟨cur, hc⟩
  · exact ⟨(hc k hk).1.imp Or.inr id, (hc k hk).2⟩
theorem PD.wr {k o : Nat} {u : Value} {cs0 : Array Value} (h : PD c B p pr s w) (hk : c k) (e0 : w.heap[k]? = some (.cells cs0 5 (0, 0))) : PD c B p pr s (w.setCell ⟨k, o, none⟩ u) := by
  obtain ⟨gk, vo, kv, wv, kb, hR, hD⟩ := h
  letI : Gc := ⟨c⟩
  letI : Gd := ⟨none, fun k => ob wv s.m k ∨ c k⟩
  exact ⟨gk, vo, kv, wv, kb, hR.wr hk e0, hD.wr (Or.inr hk) e0⟩
end
end Go.Proofs.Ytnapapgmeghgjaa
