/- Rows of texts, of losses and of acts that came in, opened. -/
import Derived.Test.YtbjononpgcemgaaFR
import Derived.Test.YtbjononpgcemgaaFB
import Derived.Test.YtbjononpgcemgaaA1
import Derived.Deep.SlicePairs
import Derived.Deep.Matrix
namespace Go.Proofs.Ytbjononpgcemgaa
open Go.ChangeShapes Go.WideShapes Go.ChangeAt Go.RowKit
set_option linter.unusedVariables false

/-- A loss as its fields, and its cells. -/
structure LV where
  after : Int
  keep : Nat
  torn : Int
  cut : Int
structure LC (W : World) (b o : Nat) (q : LV) : Prop where
  c0 : W.cell? ⟨b, o, none⟩ = some (.int .i64 q.after)
  c1 : W.cell? ⟨b, o + 1, none⟩ = some (.int .u64 (q.keep : Int))
  c2 : W.cell? ⟨b, o + 2, none⟩ = some (.int .i64 q.torn)
  c3 : W.cell? ⟨b, o + 3, none⟩ = some (.int .i64 q.cut)
  keep : q.keep < 18446744073709551616
  after : q.after ≤ 9223372036854775807
theorem fields_loss : (Try.prog.fieldsOf 34).toList.map (fun f => (f.type, f.offset)) = [(3, 0), (32, 1), (3, 2), (3, 3)] := by kernel_rfl
theorem under_loss : Try.prog.underlying 34 = some (.struct (Try.prog.fieldsOf 34)) := by kernel_rfl
theorem fields_act : (Try.prog.fieldsOf 56).toList.map (fun f => (f.type, f.offset)) = [(3, 0), (3, 1), (35, 2), (34, 3)] := by kernel_rfl
theorem under_act : Try.prog.underlying 56 = some (.struct (Try.prog.fieldsOf 56)) := by kernel_rfl
theorem field_at {t : TypeId} {l : List (TypeId × Nat)} (h : (Try.prog.fieldsOf t).toList.map (fun f => (f.type, f.offset)) = l) {i : Nat} {e : TypeId} {o : Nat} (hi : l[i]? = some (e, o)) : ∃ f, (Try.prog.fieldsOf t)[i]? = some f ∧ f.type = e ∧ f.offset = o := by
  rw [← h, List.getElem?_map] at hi
  cases hf : (Try.prog.fieldsOf t).toList[i]? with
  | none => rw [hf] at hi; cases hi
  | some f =>
    rw [hf] at hi
    simp only [Option.map_some, Option.some.injEq, Prod.mk.injEq] at hi
    exact ⟨f, by simpa using hf, hi.1, hi.2⟩
theorem ints64 {z : Int} (h : (Lit.int .i64 z).wf = true) : -9223372036854775808 ≤ z ∧ z ≤ 9223372036854775807 := by simpa [Lit.wf, IntKind.min, IntKind.max, IntKind.signed, IntKind.bits] using h
theorem uints64 {z : Int} (h : (Lit.int .u64 z).wf = true) : 0 ≤ z ∧ z ≤ 18446744073709551615 := by simpa [Lit.wf, IntKind.min, IntKind.max, IntKind.signed, IntKind.bits] using h
theorem list4 {α : Type} {l : List α} (h : l.length = 4) : ∃ a b c d, l = [a, b, c, d] := by
  match l, h with
  | [a, b, c, d], _ => exact ⟨a, b, c, d, rfl⟩
theorem list7 {α : Type} {l : List α} (h : l.length = 7) : ∃ a b c d e f g, l = [a, b, c, d, e, f, g] := by
  match l, h with
  | [a, b, c, d, e, f, g], _ => exact ⟨a, b, c, d, e, f, g, rfl⟩
set_option maxRecDepth 100000 in
theorem loss_of {H : Type} {enc : TypeId × Value → H} {W : World} {n : Nat} {cs : List Value} {x : DataW H × List MemPlace} (hl : cs.length = 4)
    (h : DataW.trod enc Try.prog W 0 (fun _ => true) true n 34 cs = some x) :
    ∃ q : LV, (q.keep < 18446744073709551616 ∧ q.after ≤ 9223372036854775807) ∧ cs = [.int .i64 q.after, .int .u64 (q.keep : Int), .int .i64 q.torn, .int .i64 q.cut] := by
  have ci : Try.prog.cellsOf 3 = 1 := by kernel_rfl
  have cu : Try.prog.cellsOf 32 = 1 := by kernel_rfl
  obtain ⟨u4, u5, u6, u7, rfl⟩ := list4 hl
  obtain ⟨ys, k2, _, _, _, hyl, hgg⟩ := DataW.trod_struct under_loss h
  obtain ⟨e0, v0, p0, q0⟩ := field_at fields_loss (i := 0) rfl
  obtain ⟨e1, v1, p1, q1⟩ := field_at fields_loss (i := 1) rfl
  obtain ⟨e2, v2, p2, q2⟩ := field_at fields_loss (i := 2) rfl
  obtain ⟨e3, v3, p3, q3⟩ := field_at fields_loss (i := 3) rfl
  have hsy : ys.length = 4 := by
    rw [hyl]
    have := congrArg List.length fields_loss
    simpa using this
  have r0 := hgg 0 e0 v0
  have r1 := hgg 1 e1 v1
  have r2 := hgg 2 e2 v2
  have r3 := hgg 3 e3 v3
  rw [List.getElem?_eq_getElem (by omega), p0, q0, ci] at r0
  rw [List.getElem?_eq_getElem (by omega), p1, q1, cu] at r1
  rw [List.getElem?_eq_getElem (by omega), p2, q2, ci] at r2
  rw [List.getElem?_eq_getElem (by omega), p3, q3, ci] at r3
  simp only [List.drop_zero, List.drop_succ_cons, List.take_succ_cons, List.take_zero] at r0 r1 r2 r3
  obtain ⟨z4, hz4, _, w4⟩ := DataW.trod_int Try.underlying3 r0
  obtain ⟨z5, hz5, _, w5⟩ := DataW.trod_int Try.underlying32 r1
  obtain ⟨z6, hz6, _, _⟩ := DataW.trod_int Try.underlying3 r2
  obtain ⟨z7, hz7, _, _⟩ := DataW.trod_int Try.underlying3 r3
  simp only [List.cons.injEq, and_true] at hz4 hz5 hz6 hz7
  subst hz4 hz5 hz6 hz7
  have b4 := ints64 w4
  have b5 := uints64 w5
  have ek : ((z5.toNat : Nat) : Int) = z5 := by omega
  exact ⟨⟨z4, z5.toNat, z6, z7⟩, ⟨by show z5.toNat < _; omega, b4.2⟩, by simp only [ek]⟩
set_option maxRecDepth 100000 in
theorem act_loss {H : Type} {enc : TypeId × Value → H} {W : World} {n : Nat} {cs : List Value} {x : DataW H × List MemPlace} (hl : cs.length = 7)
    (h : DataW.trod enc Try.prog W 0 (fun _ => true) true n 56 cs = some x) :
    ∃ q : LV, (q.keep < 18446744073709551616 ∧ q.after ≤ 9223372036854775807) ∧ cs.drop 3 = [.int .i64 q.after, .int .u64 (q.keep : Int), .int .i64 q.torn, .int .i64 q.cut] := by
  have cl : Try.prog.cellsOf 34 = 4 := by kernel_rfl
  obtain ⟨u0, u1, u2, u3, u4, u5, u6, rfl⟩ := list7 hl
  obtain ⟨xs, k, _, _, _, hxl, hff⟩ := DataW.trod_struct under_act h
  obtain ⟨f3, g3, t3, o3⟩ := field_at fields_act (i := 3) rfl
  have hsz : xs.length = 4 := by
    rw [hxl]
    have := congrArg List.length fields_act
    simpa using this
  have s3 := hff 3 f3 g3
  rw [List.getElem?_eq_getElem (by omega), t3, o3, cl] at s3
  simp only [List.drop_zero, List.drop_succ_cons, List.take_succ_cons, List.take_zero] at s3
  obtain ⟨q, hq, e⟩ := loss_of rfl s3
  exact ⟨q, hq, by simpa using e⟩
/-- Rows of losses, and of acts (of them the loss): k cells each, the loss from j on. -/
structure LS (W : World) (a0 : Option Addr) (len k j : Nat) (q : Nat → LV) : Prop where
  hl : len ≤ 9223372036854775807
  place : 0 < len → ∃ b o, a0 = some ⟨b, o, none⟩ ∧ ∀ i, i < len → LC W b (o + i * k + j) (q i)
theorem loss_cells {W : World} {b o k j : Nat} {a : Addr} {cs : List Value} {q : LV} (ha : a = ⟨b, o, none⟩) (h : W.cells? 0 a k = some cs) (hk : j + 4 ≤ k) (hq : q.keep < 18446744073709551616 ∧ q.after ≤ 9223372036854775807) (he : (cs.drop j).take 4 = [.int .i64 q.after, .int .u64 (q.keep : Int), .int .i64 q.torn, .int .i64 q.cut]) : LC W b (o + j) q := by
  subst ha
  obtain ⟨_, hlen, hc⟩ := World.cells?_some h
  have g : ∀ i, i < 4 → cs[j + i]? = ([.int .i64 q.after, .int .u64 (q.keep : Int), .int .i64 q.torn, .int .i64 q.cut] : List Value)[i]? := by
    intro i hi
    rw [← he, List.getElem?_take_of_lt hi, List.getElem?_drop]
  have c0 := hc j (by omega)
  have c1 := hc (j + 1) (by omega)
  have c2 := hc (j + 2) (by omega)
  have c3 := hc (j + 3) (by omega)
  rw [add_plain] at c0 c1 c2 c3
  have g0 := g 0 (by omega)
  have g1 := g 1 (by omega)
  have g2 := g 2 (by omega)
  have g3 := g 3 (by omega)
  simp only [Nat.add_zero, List.getElem?_cons_zero, List.getElem?_cons_succ] at g0 g1 g2 g3
  rw [g0] at c0
  rw [g1] at c1
  rw [g2] at c2
  rw [g3] at c3
  exact ⟨c0, by rw [Nat.add_assoc]; exact c1, by rw [Nat.add_assoc]; exact c2, by rw [Nat.add_assoc]; exact c3, hq.1, hq.2⟩
theorem open_ls {H : Type} {enc : TypeId × Value → H} {W : World} {a0 : Option Addr} {len0 cap0 : Nat} {d0 : DataW H} {p0 : List MemPlace} (T e k j : Nat) (hu : Try.prog.underlying T = some (.slice e)) (ce : Try.prog.cellsOf e = k) (hk : j + 4 ≤ k)
    (ho : ∀ (n : Nat) (cs : List Value) (x : DataW H × List MemPlace), cs.length = k → DataW.trod enc Try.prog W 0 (fun _ => true) true n e cs = some x → ∃ q : LV, (q.keep < 18446744073709551616 ∧ q.after ≤ 9223372036854775807) ∧ (cs.drop j).take 4 = [.int .i64 q.after, .int .u64 (q.keep : Int), .int .i64 q.torn, .int .i64 q.cut])
    (h0 : DataW.Trod enc Try.prog W 0 (fun _ => true) true T (.slice a0 len0 cap0) d0 p0) : ∃ q, LS W a0 len0 k j q := by
  obtain ⟨fuel, hfu⟩ := h0
  rcases Deep.open_slice hu hfu with ⟨hcs, _⟩ | ⟨a, len, cap, m, n, D, Pl, hcs, hbb, hl, hm, hmm, hx, each⟩
  · simp [Value.cells] at hcs
    obtain ⟨rfl, rfl, rfl⟩ := hcs
    exact ⟨fun _ => ⟨0, 0, 0, 0⟩, ⟨by omega, fun h => by omega⟩⟩
  · simp [Value.cells] at hcs
    obtain ⟨rfl, rfl, rfl⟩ := hcs
    simp only [if_true] at hmm
    unfold maxLen at hm
    have hval : ∀ i, i < len0 → ∃ q : LV, ∃ cs, W.cells? 0 (a.add (i * k)) k = some cs ∧ (q.keep < 18446744073709551616 ∧ q.after ≤ 9223372036854775807) ∧ (cs.drop j).take 4 = [.int .i64 q.after, .int .u64 (q.keep : Int), .int .i64 q.torn, .int .i64 q.cut] := by
      intro i hi
      obtain ⟨cs', h1, h2⟩ := each i (by omega)
      rw [ce] at h1
      obtain ⟨_, hlen, _⟩ := World.cells?_some h1
      obtain ⟨q, hq, e⟩ := ho _ _ _ hlen h2
      exact ⟨q, cs', h1, hq, e⟩
    have inh : Inhabited LV := ⟨⟨0, 0, 0, 0⟩⟩
    obtain ⟨q, hq⟩ := Deep.choose_lt hval
    refine ⟨q, ⟨by omega, fun hp => ?_⟩⟩
    obtain ⟨b, o, s⟩ := a
    have hs2 : s = none := by
      obtain ⟨cs, h1, _⟩ := hq 0 hp
      obtain ⟨_, hln, hc⟩ := World.cells?_some h1
      have := hc 0 (by omega)
      rw [List.getElem?_eq_getElem (by omega)] at this
      have := World.cell?_spot this
      simpa [Addr.add] using this
    subst hs2
    exact ⟨b, o, rfl, fun i hi => by obtain ⟨cs, h1, h2, h3⟩ := hq i hi; exact loss_cells (add_plain b o (i * k)) h1 hk h2 h3⟩
theorem open_losses {H : Type} {enc : TypeId × Value → H} {W : World} {a0 : Option Addr} {len0 cap0 : Nat} {d0 : DataW H} {p0 : List MemPlace}
    (h0 : DataW.Trod enc Try.prog W 0 (fun _ => true) true 23 (.slice a0 len0 cap0) d0 p0) : ∃ q, LS W a0 len0 4 0 q :=
  open_ls 23 34 4 0 Try.underlying23 (by kernel_rfl) (by omega) (fun n cs x hl h => by
    obtain ⟨q, hq, e⟩ := loss_of hl h
    refine ⟨q, hq, ?_⟩
    rw [List.drop_zero, List.take_of_length_le (by omega)]
    exact e) h0
theorem open_acts {H : Type} {enc : TypeId × Value → H} {W : World} {a0 : Option Addr} {len0 cap0 : Nat} {d0 : DataW H} {p0 : List MemPlace}
    (h0 : DataW.Trod enc Try.prog W 0 (fun _ => true) true 54 (.slice a0 len0 cap0) d0 p0) : ∃ q, LS W a0 len0 7 3 q :=
  open_ls 54 56 7 3 Try.underlying54 (by kernel_rfl) (by omega) (fun n cs x hl h => by
    obtain ⟨q, hq, e⟩ := act_loss hl h
    refine ⟨q, hq, ?_⟩
    rw [List.take_of_length_le (by rw [List.length_drop]; omega)]
    exact e) h0
/-- A row of texts: of each the first lim bytes. -/
structure TXS (W : World) (a1 : Option Addr) (T lim : Nat) (b1 o1 : Nat) (A : Nat → Option Addr) (L C : Nat → Nat) (tf : Nat → List Nat) : Prop where
  hl : T ≤ 9223372036854775807
  place : 0 < T → a1 = some ⟨b1, o1, none⟩
  cell : ∀ r, r < T → W.cell? ⟨b1, o1 + r, none⟩ = some (.slice (A r) (L r) (C r))
  cap : ∀ r, r < T → L r ≤ C r ∧ C r ≤ 9223372036854775807
  bs : ∀ r, r < T → BS W (A r) (min (L r) lim) (C r) (tf r)
theorem open_texts {H : Type} {enc : TypeId × Value → H} {W : World} {a1 : Option Addr} {T cap1 : Nat} {d1 : DataW H} {p1 : List MemPlace} (lim : Nat) (hlim : lim ≤ 10000)
    (h1 : DataW.Trod enc Try.prog W 0 (fun _ => true) true 22 (.slice a1 T cap1) d1 p1) :
    ∃ (b1 o1 : Nat) (A : Nat → Option Addr) (L C : Nat → Nat) (tf : Nat → List Nat), TXS W a1 T lim b1 o1 A L C tf := by
  obtain ⟨fuel, hf⟩ := h1
  rcases Deep.open_int_rows Try.underlying22 Try.underlying35 Try.underlying5 (by kernel_rfl) (by kernel_rfl) hf with ⟨hcs, _⟩ | ⟨x, len, cap, A, L, C, Z, hcs, _, hl, hm, _, hrow⟩
  · simp [Value.cells] at hcs
    obtain ⟨rfl, rfl, rfl⟩ := hcs
    exact ⟨0, 0, fun _ => none, fun _ => 0, fun _ => 0, fun _ => [], by omega, fun h => by omega, fun r h => by omega, fun r h => by omega, fun r h => by omega⟩
  · simp [Value.cells] at hcs
    obtain ⟨rfl, rfl, rfl⟩ := hcs
    unfold maxLen at hm
    obtain ⟨b, o, hbo⟩ : ∃ b o, 0 < T → x = ⟨b, o, none⟩ := by
      rcases Nat.eq_zero_or_pos T with z | z
      · exact ⟨0, 0, fun h => by omega⟩
      · obtain ⟨b, o, hh⟩ := place_of (hrow 0 (by omega)).1
        exact ⟨b, o, fun _ => hh⟩
    have hby : ∀ r, r < T → ∀ n ∈ ((Z r).take (min (L r) lim)).map Int.toNat, n < 256 := fun r hr n hn => by
      simp only [List.mem_map] at hn
      obtain ⟨z, hz1, rfl⟩ := hn
      have := u8_bounds ((hrow r (by omega)).2.2.2.2.1 z (List.mem_of_mem_take hz1))
      omega
    refine ⟨b, o, A, L, C, fun r => ((Z r).take (min (L r) lim)).map Int.toNat, by omega, fun h => by rw [hbo h], fun r hr => ?_, fun r hr => ?_, fun r hr => ?_⟩
    · have := (hrow r (by omega)).1
      rwa [hbo (by omega), add_plain] at this
    · obtain ⟨_, h2, h3, _⟩ := hrow r (by omega)
      unfold maxLen at h3
      exact ⟨h2, by omega⟩
    · obtain ⟨_, h2, h3, h4, h5, h6, h7⟩ := hrow r (by omega)
      unfold maxLen at h3
      refine ⟨by simp; omega, by omega, by omega, by omega, hby r hr, h6, fun y hy i hi => ?_⟩
      rw [(h7 y hy).2 i (by omega)]
      have hi' : i < (Z r).length := by omega
      have hb3 := u8_bounds (h5 (Z r)[i] (List.getElem_mem hi'))
      simp only [List.getD_eq_getElem?_getD, List.getElem?_map, List.getElem?_take_of_lt hi, List.getElem?_eq_getElem hi', Option.map_some, Option.getD_some]
      rw [Int.toNat_of_nonneg hb3.1]
end Go.Proofs.Ytbjononpgcemgaa
