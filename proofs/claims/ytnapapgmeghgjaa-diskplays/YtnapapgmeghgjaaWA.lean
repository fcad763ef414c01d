/- Write and Read of both disks, one contract each, whatever comes of them. -/
import Derived.Test.YtnapapgmeghgjaaW5
set_option linter.unusedVariables false
namespace Go.Proofs.Ytnapapgmeghgjaa
open Go.RowKit

/-- Behind the program's call and ahead of the document's. -/
def MD (c : Nat → Prop) (B p pr : Nat) (s s' : DS) (w : World) : Prop := ∃ gk vo kv wv kb, @RV ⟨c⟩ B pr gk vo kv wv kb s w ∧ @DI ⟨none, fun k => ob wv s.m k ∨ c k⟩ B p s' w
/-- A Write's end. -/
def DS.wr (s : DS) (a : Int) (xs : List Nat) : DS := if s.down = true then s else if ¬ (0 ≤ a ∧ a < s.n) then s else if blk < xs.length then s else if s.after = 1 then s.tick else s.tick.wrote a.toNat xs
def DS.wrE (s : DS) (a : Int) (xs : List Nat) : Int := if s.down = true then 20 else if ¬ (0 ≤ a ∧ a < s.n) then 1 else if blk < xs.length then 1 else if s.after = 1 then 20 else 0
/-- What a Read tells. -/
def DS.rdE (s : DS) (a : Int) : Int := if s.down = true then 20 else if ¬ (0 ≤ a ∧ a < s.n) then 1 else 0
def DS.rdY (s : DS) (a : Int) : List Nat := if s.down = true then [] else if ¬ (0 ≤ a ∧ a < s.n) then [] else pad (s.show a.toNat)
/-- Of a call of the program's disk: what stays. -/
def FP (B : Nat) (w w' : World) : Prop := Below B w w' ∧ ∀ (k : Nat) (cs : Array Value) (t : TypeId) (fz : Nat × Nat), w.heap[k]? = some (Obj.cells cs t fz) → t ≠ 69 → t ≠ 73 → t ≠ 76 → t ≠ 3 → w'.heap[k]? = some (Obj.cells cs t fz)
/-- Of a call of the document's disk: what stays. -/
def FQ (c : Nat → Prop) (B : Nat) (w w' : World) : Prop := Below B w w' ∧ ∀ (k : Nat) (cs : Array Value) (t : TypeId) (fz : Nat × Nat), w.heap[k]? = some (Obj.cells cs t fz) → t ≠ 44 → t ≠ 29 → t ≠ 78 → (c k ∨ t ≠ 5) → w'.heap[k]? = some (Obj.cells cs t fz)
theorem FP.refl (B : Nat) (w : World) : FP B w w := ⟨Below.refl _ _, fun _ _ _ _ h _ _ _ _ => h⟩
theorem FQ.refl (c : Nat → Prop) (B : Nat) (w : World) : FQ c B w w := ⟨Below.refl _ _, fun _ _ _ _ h _ _ _ _ => h⟩
theorem FP.of {g : Gd} {B : Nat} {w w' : World} (h : @Fr g B w w') : FP B w w' := ⟨@Fr.bel g _ _ _ h, @Fr.stay g _ _ _ h⟩
theorem FQ.of {c : Nat → Prop} {B p gk : Nat} {vo : Value} {kv wv : Nat → Value} {kb : Nat → List Nat} {t : DS} {w w' : World} (hR : @RV ⟨c⟩ B p gk vo kv wv kb t w) (h : Fd (fun x => ob wv t.m x) B w w') : FQ c B w w' := by
  letI : Gc := ⟨c⟩
  refine ⟨h.bel, fun k cs ty fz e n1 n2 n3 n4 => h.stay k cs ty fz e n1 n2 n3 ?_⟩
  rintro ⟨i, hi, e2⟩
  rcases n4 with q | q
  · exact (hR.h8 k q).2.2 i hi e2
  · obtain ⟨_, cur, hc⟩ := own_block (hR.hb i hi) e2
    rw [hc] at e
    simp only [Option.some.injEq, Obj.cells.injEq] at e
    exact q e.2.1.symm
theorem FP.own {B B' n size : Nat} {e : TypeId} {v : Value} {xs : List Value} {w w' : World} (f : FP B w w') (h : w.ownsRow B' e size v n xs) (n1 : e ≠ 69) (n2 : e ≠ 73) (n3 : e ≠ 76) (n4 : e ≠ 3) : w'.ownsRow B' e size v n xs :=
  own_stay h fun k cs _ e => f.2 k cs _ _ e n1 n2 n3 n4
theorem FQ.own {c : Nat → Prop} {B B' n : Nat} {v : Value} {xs : List Value} {w w' : World} (f : FQ c B w w') (h : w.ownsRow B' 5 1 v n xs) (hc : ∀ k, v.ownBlock = some k → c k) : w'.ownsRow B' 5 1 v n xs :=
  own_stay h fun k cs hk e => f.2 k cs _ _ e (by decide) (by decide) (by decide) (Or.inl (hc k hk))

theorem SB.wr {s : DS} {n k : Nat} (h : SB s n k) (a : Int) (xs : List Nat) : SB (s.wr a xs) n (k + 1) := by
  unfold DS.wr
  split
  · exact h.up
  split
  · exact h.up
  split
  · exact h.up
  split
  · exact h.tick
  · rename_i hf
    exact h.wrote hf _ _

section
variable {c : Nat → Prop} {B p pr : Nat} {s : DS} {w w0 : World}
theorem own_bs {B' : Nat} {a : Option Addr} {cap n : Nat} {xs : List Nat} {w : World} (h : w.ownsRow B' 5 1 (.slice a n cap) n (cellsOf xs)) (hn : xs.length = n) (hl : n ≤ 8193) (hb : ∀ x ∈ xs, x < 256) : BS w a n cap xs := by
  subst hn
  obtain ⟨a', cap', e, hb'⟩ := bs_row h (by omega) hb
  simp only [Value.slice.injEq] at e
  obtain ⟨rfl, -, rfl⟩ := e
  exact hb'
theorem OwnB.slice {B' : Nat} {v : Value} {xs : List Nat} {w : World} (h : OwnB B' v xs w) : ∃ a cap, v = .slice a xs.length cap ∧ BS w a xs.length cap xs := bs_row h.1 (by have := h.2.2; omega) h.2.1

theorem writeP_any (at_ : Int) (v : Value) (xs : List Nat) {B' : Nat} (h : PD c B p pr s w) (hB : B ≤ w.heap.size) (hlf : s.life < 100000) (hm : s.m < 100000) (hv : OwnB B' v xs w) :
    Calls Try.prog 12 #[.pointer (some ⟨p, 0, none⟩), .int .i64 at_, v] w fun e w' => e = .returned (.int .i64 (s.wrE at_ xs)) ∧ MD c B p pr s (s.wr at_ xs) w' ∧ FP B w w' := by
  obtain ⟨gk, vo, kv, wv, kb, hR, hD⟩ := h
  letI : Gc := ⟨c⟩
  letI : Gd := ⟨none, fun k => ob wv s.m k ∨ c k⟩
  obtain ⟨a, cap, rfl, hbs⟩ := hv.slice
  unfold DS.wr DS.wrE
  by_cases c1 : s.down = true
  · rw [if_pos c1, if_pos c1]
    refine (write_down B p s at_ _ w hD c1).mono ?_
    rintro e w' ⟨rfl, rfl⟩
    exact ⟨rfl, ⟨gk, vo, kv, wv, kb, hR, hD⟩, FP.refl _ _⟩
  have d1 : s.down = false := by simpa using c1
  rw [if_neg c1, if_neg c1]
  by_cases c2 : ¬ (0 ≤ at_ ∧ at_ < s.n)
  · rw [if_pos c2, if_pos c2]
    refine (write_arg B p s at_ _ _ _ w hD d1 c2).mono ?_
    rintro e w' ⟨rfl, rfl⟩
    exact ⟨rfl, ⟨gk, vo, kv, wv, kb, hR, hD⟩, FP.refl _ _⟩
  rw [if_neg c2, if_neg c2]
  have c2 := Classical.not_not.1 c2
  by_cases c3 : blk < xs.length
  · rw [if_pos c3, if_pos c3]
    refine (write_long B p s at_ _ _ _ w hD d1 c2 c3).mono ?_
    rintro e w' ⟨rfl, rfl⟩
    exact ⟨rfl, ⟨gk, vo, kv, wv, kb, hR, hD⟩, FP.refl _ _⟩
  rw [if_neg c3, if_neg c3]
  by_cases c4 : s.after = 1
  · rw [if_pos c4, if_pos c4]
    refine (write_fails B p s at_ _ _ _ w hD hB d1 c2 (by omega) c4 hlf).mono ?_
    rintro e w' ⟨rfl, hD', hF'⟩
    exact ⟨rfl, ⟨gk, vo, kv, wv, kb, hR.fr hF', hD'⟩, FP.of hF'⟩
  rw [if_neg c4, if_neg c4]
  obtain ⟨A, rfl⟩ : ∃ A : Nat, at_ = (A : Int) := ⟨at_.toNat, by omega⟩
  refine (write_ok B p s A a xs.length cap xs w hD hB d1 (by omega) c4 hlf hm (by omega) hv.2.1 rfl (fun ww f => own_bs (f.bytes hv.1) rfl hv.2.2 hv.2.1)).mono ?_
  rintro e w' ⟨rfl, hD', hF'⟩
  exact ⟨rfl, ⟨gk, vo, kv, wv, kb, hR.fr hF', hD'⟩, FP.of hF'⟩

theorem writeQ_any (at_ : Int) (v : Value) (xs : List Nat) {B' : Nat} (h : MD c B p pr s (s.wr at_ xs) w0) (hB : B ≤ w0.heap.size) (hb : Below w0.heap.size w0 w) (hlf : s.life < 100000) (hm : s.m < 100000) (hv : OwnB B' v xs w) (hB' : w0.heap.size ≤ B') :
    Calls Try.prog 13 #[.pointer (some ⟨pr, 0, none⟩), .int .i64 at_, v] w fun e w' => e = .returned (.int .i64 (s.wrE at_ xs)) ∧ PD c B p pr (s.wr at_ xs) w' ∧ FQ c B w w' := by
  obtain ⟨gk, vo, kv, wv, kb, hR0, hD0⟩ := h
  letI : Gc := ⟨c⟩
  letI : Gd := ⟨none, fun k => ob wv s.m k ∨ c k⟩
  obtain ⟨a, cap, rfl, hbs⟩ := hv.slice
  have hR := hR0.later hb
  have hD := hD0.later hb
  have hB1 : B ≤ w.heap.size := Nat.le_trans hB hb.size
  clear hD0
  have hno : ∀ k, Value.ownBlock (.slice a xs.length cap) = some k → ¬ ob wv s.m k := by
    rintro k hk ⟨i, hi, e⟩
    obtain ⟨_, cur, hc⟩ := own_block (hR0.hb i hi) e
    have h1 := (Array.getElem?_eq_some_iff.1 hc).1
    have h2 := (own_block hv.1 hk).1
    omega
  unfold DS.wrE
  by_cases c1 : s.down = true
  · have e1 : s.wr at_ xs = s := by unfold DS.wr; rw [if_pos c1]
    rw [e1] at hD ⊢
    rw [if_pos c1]
    refine (writeR_down at_ _ hR c1).mono ?_
    rintro e w' ⟨rfl, rfl⟩
    exact ⟨rfl, ⟨gk, vo, kv, wv, kb, hR, hD⟩, FQ.refl _ _ _⟩
  have d1 : s.down = false := by simpa using c1
  rw [if_neg c1]
  by_cases c2 : ¬ (0 ≤ at_ ∧ at_ < s.n)
  · have e1 : s.wr at_ xs = s := by unfold DS.wr; rw [if_neg c1, if_pos c2]
    rw [e1] at hD ⊢
    rw [if_pos c2]
    refine (writeR_arg at_ _ _ _ hR d1 c2).mono ?_
    rintro e w' ⟨rfl, rfl⟩
    exact ⟨rfl, ⟨gk, vo, kv, wv, kb, hR, hD⟩, FQ.refl _ _ _⟩
  rw [if_neg c2]
  have c2 := Classical.not_not.1 c2
  by_cases c3 : blk < xs.length
  · have e1 : s.wr at_ xs = s := by unfold DS.wr; rw [if_neg c1, if_neg (not_not_intro c2), if_pos c3]
    rw [e1] at hD ⊢
    rw [if_pos c3]
    refine (writeR_long at_ _ _ _ hR d1 c2 c3).mono ?_
    rintro e w' ⟨rfl, rfl⟩
    exact ⟨rfl, ⟨gk, vo, kv, wv, kb, hR, hD⟩, FQ.refl _ _ _⟩
  rw [if_neg c3]
  by_cases c4 : s.after = 1
  · have e1 : s.wr at_ xs = s.tick := by unfold DS.wr; rw [if_neg c1, if_neg (not_not_intro c2), if_neg c3, if_pos c4]
    rw [e1] at hD ⊢
    rw [if_pos c4]
    refine (writeR_fails (b := fun x => ob wv s.m x) at_ _ _ _ hR hB1 d1 c2 (by omega) c4 hlf).mono ?_
    rintro e w' ⟨rfl, vo', kv', kb', hR', hF'⟩
    exact ⟨rfl, PD.same hR' hD hF' (tick_m s), FQ.of hR hF'⟩
  rw [if_neg c4]
  obtain ⟨A, rfl⟩ : ∃ A : Nat, at_ = (A : Int) := ⟨at_.toNat, by omega⟩
  have e1 : s.wr (A : Int) xs = s.tick.wrote A xs := by unfold DS.wr; rw [if_neg c1, if_neg (not_not_intro c2), if_neg c3, if_neg c4, Int.toNat_natCast]
  rw [e1] at hD ⊢
  refine (writeR_ok (b := fun x => ob wv s.m x) A a xs.length cap xs hR hB1 d1 (by omega) c4 hlf hm (by omega) (fun ww f => own_bs (own_stay hv.1 fun k cs hk e => f.stay k cs _ _ e (by decide) (by decide) (by decide) (hno k hk)) rfl hv.2.2 hv.2.1)).mono ?_
  rintro e w' ⟨rfl, g, n1, q1, hg, vo', kv', kb', hR', hF'⟩
  refine ⟨rfl, PD.both hR' hD hF' fun i hi k e => ?_, FQ.of hR hF'⟩
  rw [wrote_m, (tickF c4).2.2.2] at hi
  by_cases q : i = s.m
  · subst q
    rw [upd_at] at e
    refine Or.inr ?_
    have : g = k := Option.some.inj e
    omega
  · rw [upd_ne _ _ q] at e
    exact Or.inl ⟨i, by omega, e⟩

theorem readP_any (at_ : Int) (h : PD c B p pr s w) (hB : B ≤ w.heap.size) :
    Calls Try.prog 23 #[.pointer (some ⟨p, 0, none⟩), .int .i64 at_] w fun e w' => ∃ v, e = .returned (.tuple #[v, .int .i64 (s.rdE at_)]) ∧ OwnB w.heap.size v (s.rdY at_) w' ∧ Below w.heap.size w w' := by
  have hok := h.ok
  obtain ⟨gk, vo, kv, wv, kb, hR, hD⟩ := h
  letI : Gd := ⟨none, fun k => ob wv s.m k ∨ c k⟩
  unfold DS.rdE DS.rdY
  by_cases c1 : s.down = true
  · rw [if_pos c1, if_pos c1]
    refine (read_down B p s at_ w hD c1).mono ?_
    rintro e w' ⟨rfl, rfl⟩
    exact ⟨_, rfl, ⟨World.ownsRow_nil _ _ _ _, by simp, by simp⟩, Below.refl _ _⟩
  have d1 : s.down = false := by simpa using c1
  rw [if_neg c1, if_neg c1]
  by_cases c2 : ¬ (0 ≤ at_ ∧ at_ < s.n)
  · rw [if_pos c2, if_pos c2]
    refine (read_arg B p s at_ w hD d1 c2).mono ?_
    rintro e w' ⟨rfl, rfl⟩
    exact ⟨_, rfl, ⟨World.ownsRow_nil _ _ _ _, by simp, by simp⟩, Below.refl _ _⟩
  rw [if_neg c2, if_neg c2]
  have c2 := Classical.not_not.1 c2
  obtain ⟨A, rfl⟩ : ∃ A : Nat, at_ = (A : Int) := ⟨at_.toNat, by omega⟩
  rw [Int.toNat_natCast]
  have hl := pad_len (show_len hok A)
  refine (read_ok B p s A w hD hB d1 (by omega)).mono ?_
  rintro e w' ⟨g, rfl, ho, hb⟩
  exact ⟨_, rfl, ⟨by rw [hl]; exact ho, pad_lt (show_lt hok A), by rw [hl]; unfold blk; omega⟩, hb⟩

theorem readQ_any (at_ : Int) (h : PD c B p pr s w) (hB : B ≤ w.heap.size) :
    Calls Try.prog 24 #[.pointer (some ⟨pr, 0, none⟩), .int .i64 at_] w fun e w' => ∃ v, e = .returned (.tuple #[v, .int .i64 (s.rdE at_)]) ∧ OwnB w.heap.size v (s.rdY at_) w' ∧ Below w.heap.size w w' := by
  have hok := h.ok
  obtain ⟨gk, vo, kv, wv, kb, hR, hD⟩ := h
  letI : Gc := ⟨c⟩
  unfold DS.rdE DS.rdY
  by_cases c1 : s.down = true
  · rw [if_pos c1, if_pos c1]
    refine (readR_down at_ hR c1).mono ?_
    rintro e w' ⟨rfl, rfl⟩
    exact ⟨_, rfl, ⟨World.ownsRow_nil _ _ _ _, by simp, by simp⟩, Below.refl _ _⟩
  have d1 : s.down = false := by simpa using c1
  rw [if_neg c1, if_neg c1]
  by_cases c2 : ¬ (0 ≤ at_ ∧ at_ < s.n)
  · rw [if_pos c2, if_pos c2]
    refine (readR_arg at_ hR d1 c2).mono ?_
    rintro e w' ⟨rfl, rfl⟩
    exact ⟨_, rfl, ⟨World.ownsRow_nil _ _ _ _, by simp, by simp⟩, Below.refl _ _⟩
  rw [if_neg c2, if_neg c2]
  have c2 := Classical.not_not.1 c2
  obtain ⟨A, rfl⟩ : ∃ A : Nat, at_ = (A : Int) := ⟨at_.toNat, by omega⟩
  rw [Int.toNat_natCast]
  have hl := pad_len (show_len hok A)
  refine (readR_ok A hR hB d1 (by omega)).mono ?_
  rintro e w' ⟨g, rfl, ho, hb⟩
  exact ⟨_, rfl, ⟨by rw [hl]; exact ho, pad_lt (show_lt hok A), by rw [hl]; unfold blk; omega⟩, hb⟩
theorem OwnB.text {B' : Nat} {v : Value} {xs : List Nat} {w : World} (h : OwnB B' v xs w) : (convert 29 9 v).run Try.prog w = .ok (.string (str xs)) w := by
  obtain ⟨a, cap, rfl, hb⟩ := h.slice
  exact run_text hb
end
end Go.Proofs.Ytnapapgmeghgjaa
