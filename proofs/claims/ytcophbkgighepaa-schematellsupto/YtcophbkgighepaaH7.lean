/- A row behind a row; the law's few and copied. -/
import Derived.Test.YtcophbkgighepaaH4
import Derived.Test.YtcophbkgighepaaJ1
import Derived.Laws.Rows
set_option linter.unusedVariables false
namespace Go.Proofs.Ytcophbkgighepaa
open Go.RowKit

section
variable {α : Type} {f : α → List Value} {k : Nat}
theorem fl_len (hk : ∀ x, (f x).length = k) (l : List α) : (l.flatMap f).length = l.length * k := by
  induction l with
  | nil => simp
  | cons x l ih => rw [List.flatMap_cons, List.length_append, ih, hk, List.length_cons, Nat.add_mul]; omega
theorem fl_get (hk : ∀ x, (f x).length = k) : ∀ {l : List α} {i : Nat} {x : α}, l[i]? = some x → ∀ j, j < k → (l.flatMap f)[i * k + j]? = (f x)[j]?
  | [], i, x, h, _, _ => by simp at h
  | y :: l, 0, x, h, j, hj => by
    simp only [List.getElem?_cons_zero, Option.some.injEq] at h
    subst h
    rw [List.flatMap_cons, List.getElem?_append_left (by rw [hk]; omega), Nat.zero_mul, Nat.zero_add]
  | y :: l, i + 1, x, h, j, hj => by
    rw [List.flatMap_cons, List.getElem?_append_right (by rw [hk, Nat.add_mul]; omega), hk, show (i + 1) * k + j - k = i * k + j by rw [Nat.add_mul]; omega]
    exact fl_get hk (by simpa using h) j hj
theorem fl_inv (hk : ∀ x, (f x).length = k) : ∀ {l : List α} {t : Nat} {u : Value}, (l.flatMap f)[t]? = some u → ∃ (i j : Nat) (x : α), t = i * k + j ∧ j < k ∧ l[i]? = some x ∧ (f x)[j]? = some u
  | [], t, u, h => by simp at h
  | y :: l, t, u, h => by
    rw [List.flatMap_cons] at h
    by_cases c : t < k
    · rw [List.getElem?_append_left (by rw [hk]; exact c)] at h
      exact ⟨0, t, y, by omega, c, rfl, h⟩
    · rw [List.getElem?_append_right (by rw [hk]; omega), hk] at h
      obtain ⟨i, j, x, h1, h2, h3, h4⟩ := fl_inv hk h
      exact ⟨i + 1, j, x, by rw [Nat.add_mul]; omega, h2, by simpa using h3, h4⟩
/-- A row that is owned lies there. -/
theorem own_sv (hk : ∀ x, (f x).length = k) {B te n : Nat} {w : World} {v : Value} {l : List α} (h : w.ownsRow B te k v n (l.flatMap f)) (hl : l.length = n) : ∃ a c, v = .slice a n c ∧ SV f k w a n c l := by
  rcases h.2 with ⟨e, h0⟩ | ⟨g, cap, cur, e, h5, h6, h7, h8, h9, h10⟩
  · subst h0
    exact ⟨none, 0, e, hl, by omega, by omega, fun _ => rfl, fun q => by omega⟩
  · refine ⟨_, _, e, hl, h7, by unfold maxLen at h8; omega, (fun q => by cases q), fun h0 => ⟨g, 0, rfl, blk_lt h6, fun i x hx t ht => ?_⟩⟩
    have hg := fl_get hk hx t ht
    obtain ⟨u, hu⟩ : ∃ u, (f x)[t]? = some u := ⟨_, List.getElem?_eq_getElem (by rw [hk]; exact ht)⟩
    rw [hu] at hg ⊢
    rw [Nat.zero_add, cell_blk h6, ← Array.getElem?_toList]
    rw [← h10, List.getElem?_take] at hg
    split at hg
    · exact hg
    · cases hg
theorem wpList_app_sv (hk : ∀ x, (f x).length = k) (hk1 : 0 < k) (hone : ∀ x, ∀ u ∈ f x, u.oneCell' = true) {ts te bt : Nat} {z : Value} (hu : Try.prog.underlying ts = some (.slice te)) (hinfo : (Try.prog.info? te).map (fun i => (i.zero, i.size, i.bytes)) = some (some z, k, bt)) (hzc : z.cells.size = k) (hbt : bt ≤ 64)
    {ops : Array Oper} {rest : List Oper} {o : Oper} {a : Act} {Q : Exit → Act → World → Prop} {wr : World} (hgd : o.guard = none) (s x : Operand)
    (ho : o.op = .call { callee := .builtin .append, args := #[s, x], argTypes := #[ts, ts] })
    {B1 n c : Nat} {v : Value} {ad : Option Addr} {F G : List α} (hs : a.eval s = v) (hx : a.eval x = .slice ad n c) (hF : wr.ownsRow B1 te k v F.length (F.flatMap f)) (hG : SV f k wr ad n c G) (hB1 : B1 ≤ wr.heap.size) (hsize : F.length + n ≤ 100000000)
    (h : ∀ v' w', w'.ownsRow B1 te k v' (F ++ G).length ((F ++ G).flatMap f) → Below B1 wr w' → (∀ i, i < wr.heap.size → v.ownBlock ≠ some i → w'.heap[i]? = wr.heap[i]?) → wpList Try.prog ops Q rest (a.put o.dst v') w') : wpList Try.prog ops Q (o :: rest) a wr := by
  obtain ⟨i0, hi, hz0, hz1, hz2⟩ := info_parts hinfo
  cases ad with
  | none =>
    have hc0 := hG.hn rfl
    have hcc := hG.hc
    have e0 : n = 0 := by omega
    subst e0 hc0
    have e : G = [] := List.eq_nil_of_length_eq_zero hG.hl
    subst e
    refine wpList_append_own_none hgd s x _ ho B1 te i0 k hu hi v F.length (F.flatMap f) hs hF hx (h v wr ?_ (Below.refl _ _) (fun _ _ _ => rfl))
    simpa using hF
  | some ad =>
    have hbt2 : (F.length + n) * bt ≤ 140737488355328 := Nat.le_trans (Nat.mul_le_mul hsize hbt) (by omega)
    refine wpList_append_own_at _ hgd s x _ ho B1 te i0 z k bt hu hi hz0 hz1 hz2 hzc hk1 v F.length (F.flatMap f) hs hF ad n c (G.flatMap f) hx (by rw [fl_len hk, hG.hl]) ?_ (fun u hu => ?_) (by unfold maxLen; omega) hbt2 hB1 ?_
    · intro j u hj
      obtain ⟨i, t, y, e1, e2, e3, e4⟩ := fl_inv hk hj
      obtain ⟨b, o, h1, _, h3⟩ := hG.pl (by rw [← hG.hl]; have := (List.getElem?_eq_some_iff.1 e3).1; omega)
      simp only [Option.some.injEq] at h1
      subst h1
      rw [add_plain, e1, ← Nat.add_assoc, h3 i y e3 t e2]
      exact e4
    · obtain ⟨y, _, hu⟩ := List.mem_flatMap.1 hu
      exact hone y u hu
    · intro v' w' h2 h3 _ h5
      refine h v' w' ?_ ((Below.refl B1 _).grown h3 hB1 (fun j hj => (hF.lt j hj).1)) (fun i hi hn => h3.block i hi (fun e => hn e.symm))
      rw [List.length_append, hG.hl, List.flatMap_append]
      exact h2
end
theorem fV_len (x : Val) : (fV x).length = 3 := rfl
theorem fC_len (x : Col) : (fC x).length = 3 := rfl
theorem fX_len (x : Idx) : (fX x).length = 2 := rfl
theorem fV_one (x : Val) : ∀ u ∈ fV x, u.oneCell' = true := by intro u hu; simp only [fV, List.mem_cons, List.not_mem_nil, or_false] at hu; rcases hu with rfl | rfl | rfl <;> rfl
theorem fC_one (x : Col) : ∀ u ∈ fC x, u.oneCell' = true := by intro u hu; simp only [fC, List.mem_cons, List.not_mem_nil, or_false] at hu; rcases hu with rfl | rfl | rfl <;> rfl
theorem fX_one (x : Idx) : ∀ u ∈ fX x, u.oneCell' = true := by intro u hu; simp only [fX, List.mem_cons, List.not_mem_nil, or_false] at hu; rcases hu with rfl | rfl <;> rfl
theorem info_val : (Try.prog.info? 39).map (fun i => (i.zero, i.size, i.bytes)) = some (some (.agg #[.int .i64 0, .int .i64 0, .string ⟨#[]⟩]), 3, 32) := by kernel_rfl
theorem info_col : (Try.prog.info? 59).map (fun i => (i.zero, i.size, i.bytes)) = some (some (.agg #[.string ⟨#[]⟩, .int .i64 0, .int .i64 0]), 3, 32) := by kernel_rfl
theorem info_ix : (Try.prog.info? 61).map (fun i => (i.zero, i.size, i.bytes)) = some (some (.agg #[.int .i64 0, .bool false]), 2, 16) := by kernel_rfl
theorem own_nil (w : World) (B te k : Nat) : w.ownsRow B te k (.slice none 0 0) 0 ([] : List Value) := ⟨by simp, Or.inl ⟨rfl, rfl⟩⟩
set_option maxRecDepth 100000 in
set_option maxHeartbeats 2000000 in
theorem few_ok {w : World} {a : Option Addr} {n c : Nat} {l : List Val} (h : SV fV 3 w a n c l) :
    Calls Try.prog 7 #[.slice a n c] w fun e w' => ∃ a' c', e = .returned (.slice a' (min n 5) c') ∧ SV fV 3 w' a' (min n 5) c' (l.take 5) ∧ Below w.heap.size w w' := by
  have ht := h.take (n := min n 5) (by omega)
  rw [show l.take (min n 5) = l.take 5 from by rw [← h.hl, List.take_eq_take_iff]; omega] at ht
  obtain ⟨m, hm⟩ : ∃ m, m = min n 5 := ⟨_, rfl⟩
  rw [← hm] at ht ⊢
  have HT := hide ht
  have y0 : (c : Int) ≤ 9223372036854775807 := by have := h.hm; omega
  have em : min (n : Int) 5 = (m : Int) := by omega
  have em' : (if (5 : Int) < (n : Int) then (5 : Int) else (n : Int)) = (m : Int) := by split <;> omega
  have u0 : (0 : Int) ≤ (m : Int) := by omega
  have v0 : (m : Int) ≤ (c : Int) := by have := h.hc; omega
  have HM : Hid (m ≤ 5) := by show m ≤ 5; omega
  clear h ht hm
  go_enter Try.func7, Try.ntmps7
  go_wp2_with (at_builtin; refine wpList_app_sv fV_len (by omega) fV_one Try.underlying26 info_val rfl (by omega) rfl (.tmp 4) (.tmp 9) rfl (B1 := w.heap.size) (F := []) (G := l.take 5) rfl rfl (own_nil _ _ _ _) HT.out (Nat.le_refl _) (by have := HM.out; show 0 + m ≤ _; omega) ?_; intro v' w' ho' hb' _; have HO := hide ho'; have HB := hide hb'; clear ho' hb')
  have h9 := HO.out
  rw [List.nil_append] at h9
  obtain ⟨a', c', e', hsv⟩ := own_sv fV_len h9 rfl
  rw [HT.out.hl] at e' hsv
  subst e'
  clear h9 HO
  go_wp2
  go_ret
  exact ⟨a', c', rfl, hsv, HB.out⟩
end Go.Proofs.Ytcophbkgighepaa
set_option linter.unusedVariables false
namespace Go.Proofs.Ytcophbkgighepaa
open Go.RowKit

theorem set3 {w : World} {g : Nat} {a0 a1 a2 b0 b1 b2 : Value} {t : TypeId} (h : w.heap[g]? = some (.cells #[a0, a1, a2] t (0, 0))) : (((w.setCell ⟨g, 0, none⟩ b0).setCell ⟨g, 1, none⟩ b1).setCell ⟨g, 2, none⟩ b2).heap[g]? = some (.cells #[b0, b1, b2] t (0, 0)) := (heap_setCell_same _ _ _ _ _ _ (heap_setCell_same _ _ _ _ _ _ (heap_setCell_same _ _ _ _ _ _ h)))
theorem frz_blk {w : World} {p i : Nat} {cs : Array Value} {t : TypeId} (h : w.heap[p]? = some (.cells cs t (0, 0))) : w.frozen? ⟨p, i, none⟩ = false := frozen_of_row w p i cs t h
theorem SV.blk {α : Type} {f : α → List Value} {k : Nat} {w w' : World} {a : Option Addr} {len cap : Nat} {l : List α} (h : SV f k w a len cap l) (hs : w.heap.size ≤ w'.heap.size) (hb : ∀ b o, a = some ⟨b, o, none⟩ → w'.heap[b]? = w.heap[b]?) : SV f k w' a len cap l := by
  refine ⟨h.hl, h.hc, h.hm, h.hn, fun h0 => ?_⟩
  obtain ⟨b, o, h1, h2, h3⟩ := h.pl h0
  exact ⟨b, o, h1, Nat.lt_of_lt_of_le h2 hs, fun i x hx t ht => (World.cell?_of_block (hb b o h1)).trans (h3 i x hx t ht)⟩
theorem own_ge {B te k n : Nat} {w : World} {v : Value} {xs : List Value} (h : w.ownsRow B te k v n xs) {a : Option Addr} {c : Nat} (e : v = .slice a n c) : ∀ b o, a = some ⟨b, o, none⟩ → B ≤ b := by
  intro b o e2
  rcases h.2 with ⟨e1, h0⟩ | ⟨g, cap, cur, e1, h5, _⟩
  · rw [e, e2] at e1; cases e1
  · rw [e, e2] at e1
    simp only [Value.slice.injEq, Option.some.injEq, Addr.mk.injEq] at e1
    omega
def Sch.t5 (s : Sch) : Sch := ⟨s.nm, s.cs.take 5, s.xs.take 5⟩
theorem info_sch : (Try.prog.info? 25).map (·.size) = some 3 := by kernel_rfl
set_option maxRecDepth 100000 in
set_option maxHeartbeats 4000000 in
theorem copied_ok {w : World} {ca xa : Option Addr} {cl cc xl xc : Nat} {s : Sch} (h : SC w ca cl cc xa xl xc s) :
    Calls Try.prog 6 #[.agg #[.string s.nm, .slice ca cl cc, .slice xa xl xc]] w fun e w' => ∃ ca' cc' xa' xc', e = .returned (.agg #[.string s.nm, .slice ca' (min cl 5) cc', .slice xa' (min xl 5) xc']) ∧ SC w' ca' (min cl 5) cc' xa' (min xl 5) xc' s.t5 ∧ Below w.heap.size w w' := by
  have hc := h.c.take (n := min cl 5) (by omega)
  have hx := h.x.take (n := min xl 5) (by omega)
  rw [show s.cs.take (min cl 5) = s.t5.cs from by show _ = s.cs.take 5; rw [← h.c.hl, List.take_eq_take_iff]; omega] at hc
  rw [show s.xs.take (min xl 5) = s.t5.xs from by show _ = s.xs.take 5; rw [← h.x.hl, List.take_eq_take_iff]; omega] at hx
  obtain ⟨m, hm⟩ : ∃ m, m = min cl 5 := ⟨_, rfl⟩
  obtain ⟨n, hn⟩ : ∃ n, n = min xl 5 := ⟨_, rfl⟩
  rw [← hm] at hc ⊢
  rw [← hn] at hx ⊢
  have y0 : (cc : Int) ≤ 9223372036854775807 := by have := h.c.hm; omega
  have y1 : (xc : Int) ≤ 9223372036854775807 := by have := h.x.hm; omega
  have em : min (cl : Int) 5 = (m : Int) := by omega
  have en : min (xl : Int) 5 = (n : Int) := by omega
  have em' : (if (5 : Int) < (cl : Int) then (5 : Int) else (cl : Int)) = (m : Int) := by split <;> omega
  have en' : (if (5 : Int) < (xl : Int) then (5 : Int) else (xl : Int)) = (n : Int) := by split <;> omega
  have u0 : (0 : Int) ≤ (m : Int) := by omega
  have v0 : (m : Int) ≤ (cc : Int) := by have := h.c.hc; omega
  have u1 : (0 : Int) ≤ (n : Int) := by omega
  have v1 : (n : Int) ≤ (xc : Int) := by have := h.x.hc; omega
  have HM : Hid (m ≤ 5) := by show m ≤ 5; omega
  have HN : Hid (n ≤ 5) := by show n ≤ 5; omega
  obtain ⟨w1, hw1⟩ : ∃ w1, w1 = (w.alloc (.cells #[.string s.nm, .slice ca cl cc, .slice xa xl xc] 25)).alloc (.cells #[.string ⟨#[]⟩, .slice none 0 0, .slice none 0 0] 25) := ⟨_, rfl⟩
  obtain ⟨L, hL⟩ : ∃ L, w.heap.size = L := ⟨_, rfl⟩
  have HS1 : Hid (w1.heap.size = L + 1 + 1) := by show _ = _; rw [hw1, ← hL]; simp only [World.alloc, Array.size_push]
  have HR1 : Hid (w1.heap[L]? = some (.cells #[.string s.nm, .slice ca cl cc, .slice xa xl xc] 25 (0, 0))) := by show _ = _; rw [hw1, ← hL]; exact heap_alloc2_old w _ _
  have HA1 : Hid (w1.heap[L + 1]? = some (.cells #[.string ⟨#[]⟩, .slice none 0 0, .slice none 0 0] 25 (0, 0))) := by show _ = _; rw [hw1, ← hL]; exact heap_alloc2_new w _ _
  have hb1 : Below w.heap.size w w1 := by rw [hw1]; exact (below_box w _).trans ((below_box _ _).mono (below_box w _).size)
  have HC1 := hide (hc.later hb1)
  have HX0 := hide hx
  have HB1 : Hid (Below L w w1) := by show Below L w w1; rw [← hL]; exact hb1
  have HW1 := hide hw1
  rw [hL]
  clear h hc hx hm hn hb1 hw1
  go_enter Try.func6, Try.ntmps6
  go_upto_region 1 with fail
  rw [← HW1.out]
  try simp only [hL]
  have z1 : w1.cell? ⟨L, 1, none⟩ = some (.slice ca cl cc) := cell_blk HR1.out
  go_upto_region 4 with (at_builtin; refine wpList_app_sv fC_len (by omega) fC_one Try.underlying22 info_col rfl (by omega) rfl (.tmp 5) (.tmp 12) rfl (B1 := w1.heap.size) (F := []) (G := s.t5.cs) rfl rfl (own_nil _ _ _ _) HC1.out (Nat.le_refl _) (by have := HM.out; show 0 + m ≤ _; omega) ?_; intro v2 w2 ho2 hb2 _; have HO2 := hide ho2; have HB2 := hide hb2; clear ho2 hb2; obtain ⟨ca', cc', e2⟩ : ∃ a c, v2 = .slice a m c := (by obtain ⟨a, c, e, _⟩ := own_sv fC_len HO2.out rfl; exact ⟨a, c, by rw [e, List.nil_append, HC1.out.hl]⟩); subst e2; have x1 : w2.cell? ⟨L, 1, none⟩ = some (.slice ca cl cc) := cell_blk ((HB2.out.block L (blk_lt HR1.out)).trans HR1.out); have xf1 : w2.frozen? ⟨L, 1, none⟩ = false := frz_blk ((HB2.out.block L (blk_lt HR1.out)).trans HR1.out))
  clear z1 x1 xf1
  have HR2 : Hid (w2.heap[L]? = some (.cells #[.string s.nm, .slice ca cl cc, .slice xa xl xc] 25 (0, 0))) := (HB2.out.block L (blk_lt HR1.out)).trans HR1.out
  have HA2 : Hid (w2.heap[L + 1]? = some (.cells #[.string ⟨#[]⟩, .slice none 0 0, .slice none 0 0] 25 (0, 0))) := (HB2.out.block (L + 1) (blk_lt HA1.out)).trans HA1.out
  have HC2 : Hid (SV fC 3 w2 ca' m cc' s.t5.cs ∧ ∀ b o, ca' = some ⟨b, o, none⟩ → L + 1 + 1 ≤ b) := by
    obtain ⟨a, c, e, hsv⟩ := own_sv fC_len HO2.out rfl
    have hge := own_ge HO2.out e
    rw [List.nil_append, HC1.out.hl] at e hsv
    simp only [Value.slice.injEq] at e
    obtain ⟨rfl, _, rfl⟩ := e
    exact ⟨hsv, fun b o q => by have := hge b o q; have := HS1.out; omega⟩
  have HW2 : Hid (Below L w w2) := HB1.out.trans (HB2.out.mono (by have := HS1.out; omega))
  clear HO2
  have HR3 : Hid ((w2.setCell ⟨L, 1, none⟩ (.slice ca' m cc')).heap[L]? = some (.cells #[.string s.nm, .slice ca' m cc', .slice xa xl xc] 25 (0, 0))) := heap_setCell_same _ _ _ _ _ _ HR2.out
  have HA3 : Hid ((w2.setCell ⟨L, 1, none⟩ (.slice ca' m cc')).heap[L + 1]? = some (.cells #[.string ⟨#[]⟩, .slice none 0 0, .slice none 0 0] 25 (0, 0))) := (heap_setCell_other _ _ _ _ (show L + 1 ≠ L by omega)).trans HA2.out
  have HW3 : Hid (Below L w (w2.setCell ⟨L, 1, none⟩ (.slice ca' m cc'))) := HW2.out.setCell (p := ⟨L, 1, none⟩) (Nat.le_refl _) _
  have hsz3 : w2.heap.size ≤ (w2.setCell ⟨L, 1, none⟩ (.slice ca' m cc')).heap.size := ((Below.refl 0 w2).setCell (p := ⟨L, 1, none⟩) (Nat.zero_le _) _).size
  have HC3 : Hid (SV fC 3 (w2.setCell ⟨L, 1, none⟩ (.slice ca' m cc')) ca' m cc' s.t5.cs ∧ ∀ b o, ca' = some ⟨b, o, none⟩ → L + 1 + 1 ≤ b) := ⟨HC2.out.1.blk hsz3 fun b o e => heap_setCell_other _ _ _ _ (by show b ≠ L; have := HC2.out.2 b o e; omega), HC2.out.2⟩
  have HX3 : Hid (SV fX 2 (w2.setCell ⟨L, 1, none⟩ (.slice ca' m cc')) xa n xc s.t5.xs) := HX0.out.later (by rw [hL]; exact HW3.out)
  clear hsz3 HC2 HR2 HA2 HW2 HB2 HC1
  generalize (w2.setCell ⟨L, 1, none⟩ (.slice ca' m cc')) = w3 at *
  have z2 : w3.cell? ⟨L, 2, none⟩ = some (.slice xa xl xc) := cell_blk HR3.out
  go_upto_region 5 with (at_builtin; refine wpList_app_sv fX_len (by omega) fX_one Try.underlying23 info_ix rfl (by omega) rfl (.tmp 15) (.tmp 22) rfl (B1 := w3.heap.size) (F := []) (G := s.t5.xs) rfl rfl (own_nil _ _ _ _) HX3.out (Nat.le_refl _) (by have := HN.out; show 0 + n ≤ _; omega) ?_; intro v4 w4 ho4 hb4 _; have HO4 := hide ho4; have HB4 := hide hb4; clear ho4 hb4; obtain ⟨xa', xc', e4⟩ : ∃ a c, v4 = .slice a n c := (by obtain ⟨a, c, e, _⟩ := own_sv fX_len HO4.out rfl; exact ⟨a, c, by rw [e, List.nil_append, HX3.out.hl]⟩); subst e4; have x2 : w4.cell? ⟨L, 2, none⟩ = some (.slice xa xl xc) := cell_blk ((HB4.out.block L (blk_lt HR3.out)).trans HR3.out); have xf2 : w4.frozen? ⟨L, 2, none⟩ = false := frz_blk ((HB4.out.block L (blk_lt HR3.out)).trans HR3.out))
  clear z2 x2 xf2
  have HR4 : Hid (w4.heap[L]? = some (.cells #[.string s.nm, .slice ca' m cc', .slice xa xl xc] 25 (0, 0))) := (HB4.out.block L (blk_lt HR3.out)).trans HR3.out
  have HA4 : Hid (w4.heap[L + 1]? = some (.cells #[.string ⟨#[]⟩, .slice none 0 0, .slice none 0 0] 25 (0, 0))) := (HB4.out.block (L + 1) (blk_lt HA3.out)).trans HA3.out
  have HX4 : Hid (SV fX 2 w4 xa' n xc' s.t5.xs ∧ ∀ b o, xa' = some ⟨b, o, none⟩ → L + 1 + 1 ≤ b) := by
    obtain ⟨a, c, e, hsv⟩ := own_sv fX_len HO4.out rfl
    have hge := own_ge HO4.out e
    rw [List.nil_append, HX3.out.hl] at e hsv
    simp only [Value.slice.injEq] at e
    obtain ⟨rfl, _, rfl⟩ := e
    exact ⟨hsv, fun b o q => by have := hge b o q; have := blk_lt HA3.out; omega⟩
  have HC4 := hide (HC3.out.1.later HB4.out)
  have HW4 : Hid (Below L w w4) := HW3.out.trans (HB4.out.mono (by have := blk_lt HR3.out; omega))
  clear HO4
  have HR5 : Hid ((w4.setCell ⟨L, 2, none⟩ (.slice xa' n xc')).heap[L]? = some (.cells #[.string s.nm, .slice ca' m cc', .slice xa' n xc'] 25 (0, 0))) := heap_setCell_same _ _ _ _ _ _ HR4.out
  have HA5 : Hid ((w4.setCell ⟨L, 2, none⟩ (.slice xa' n xc')).heap[L + 1]? = some (.cells #[.string ⟨#[]⟩, .slice none 0 0, .slice none 0 0] 25 (0, 0))) := (heap_setCell_other _ _ _ _ (show L + 1 ≠ L by omega)).trans HA4.out
  have HW5 : Hid (Below L w (w4.setCell ⟨L, 2, none⟩ (.slice xa' n xc'))) := HW4.out.setCell (p := ⟨L, 2, none⟩) (Nat.le_refl _) _
  have hsz5 : w4.heap.size ≤ (w4.setCell ⟨L, 2, none⟩ (.slice xa' n xc')).heap.size := ((Below.refl 0 w4).setCell (p := ⟨L, 2, none⟩) (Nat.zero_le _) _).size
  have HC5 : Hid (SV fC 3 (w4.setCell ⟨L, 2, none⟩ (.slice xa' n xc')) ca' m cc' s.t5.cs) := HC4.out.blk hsz5 fun b o e => heap_setCell_other _ _ _ _ (by show b ≠ L; have := HC3.out.2 b o e; omega)
  have HX5 : Hid (SV fX 2 (w4.setCell ⟨L, 2, none⟩ (.slice xa' n xc')) xa' n xc' s.t5.xs) := HX4.out.1.blk hsz5 fun b o e => heap_setCell_other _ _ _ _ (by show b ≠ L; have := HX4.out.2 b o e; omega)
  have HGE : Hid ((∀ b o, ca' = some ⟨b, o, none⟩ → L + 1 + 1 ≤ b) ∧ ∀ b o, xa' = some ⟨b, o, none⟩ → L + 1 + 1 ≤ b) := ⟨HC3.out.2, HX4.out.2⟩
  clear hsz5 HC3 HX4 HC4 HR4 HA4 HW4 HB4 HX3 HR3 HA3 HW3
  generalize (w4.setCell ⟨L, 2, none⟩ (.slice xa' n xc')) = w5 at *
  have s0 : w5.cell? ⟨L, 0, none⟩ = some (.string s.nm) := cell_blk HR5.out
  have s1 : w5.cell? ⟨L, 1, none⟩ = some (.slice ca' m cc') := cell_blk HR5.out
  have s2 : w5.cell? ⟨L, 2, none⟩ = some (.slice xa' n xc') := cell_blk HR5.out
  obtain ⟨n1, hn1⟩ : ∃ n1, L + 1 = n1 := ⟨_, rfl⟩
  have HN1 := hide hn1
  rw [hn1] at HA5
  try simp only [hn1]
  clear hn1
  have t0 : w5.cell? ⟨n1, 0, none⟩ = some (.string ⟨#[]⟩) := cell_blk HA5.out
  have tf0 : w5.frozen? ⟨n1, 0, none⟩ = false := frz_blk HA5.out
  have t1 : w5.cell? ⟨n1, 1, none⟩ = some (.slice none 0 0) := cell_blk HA5.out
  have tf1 : w5.frozen? ⟨n1, 1, none⟩ = false := frz_blk HA5.out
  have t2 : w5.cell? ⟨n1, 2, none⟩ = some (.slice none 0 0) := cell_blk HA5.out
  have tf2 : w5.frozen? ⟨n1, 2, none⟩ = false := frz_blk HA5.out
  go_wp2
  (try simp only [Exit.inBlock, Exit.then])
  refine bodyPost_ret (results_cell_row Try.results6 _ _ n1 _ _ _ _ rfl (set3 HA5.out) Try.underlying25 rfl info_sch) rfl ?_
  have hn : L ≤ n1 := by have := HN1.out; omega
  have hsz : w5.heap.size ≤ (((w5.setCell ⟨n1, 0, none⟩ (.string s.nm)).setCell ⟨n1, 1, none⟩ (.slice ca' m cc')).setCell ⟨n1, 2, none⟩ (.slice xa' n xc')).heap.size := ((((Below.refl 0 w5).setCell (p := ⟨n1, 0, none⟩) (Nat.zero_le _) _).setCell (p := ⟨n1, 1, none⟩) (Nat.zero_le _) _).setCell (p := ⟨n1, 2, none⟩) (Nat.zero_le _) _).size
  have hoth : ∀ b, b ≠ n1 → (((w5.setCell ⟨n1, 0, none⟩ (.string s.nm)).setCell ⟨n1, 1, none⟩ (.slice ca' m cc')).setCell ⟨n1, 2, none⟩ (.slice xa' n xc')).heap[b]? = w5.heap[b]? := fun b hb => by
    rw [heap_setCell_other _ _ _ _ (show b ≠ n1 from hb), heap_setCell_other _ _ _ _ (show b ≠ n1 from hb), heap_setCell_other _ _ _ _ (show b ≠ n1 from hb)]
  refine ⟨ca', cc', xa', xc', rfl, ⟨HC5.out.blk hsz fun b o e => hoth b (by have := HGE.out.1 b o e; have := HN1.out; omega), HX5.out.blk hsz fun b o e => hoth b (by have := HGE.out.2 b o e; have := HN1.out; omega)⟩, ?_⟩
  exact ((HW5.out.setCell (p := ⟨n1, 0, none⟩) hn _).setCell (p := ⟨n1, 1, none⟩) hn _).setCell (p := ⟨n1, 2, none⟩) hn _
/-- Are two schemas the same? -/
def Sch.same (s t : Sch) : Bool := (s.nm.toList == t.nm.toList) && decide (s.cs = t.cs) && decide (s.xs = t.xs)
set_option maxRecDepth 100000 in
set_option maxHeartbeats 2000000 in
theorem ssame_any {w : World} {ca xa ca' xa' : Option Addr} {cl cc xl xc cl' cc' xl' xc' : Nat} {s t : Sch} (h : SC w ca cl cc xa xl xc s) (h' : SC w ca' cl' cc' xa' xl' xc' t) (h1 : cl ≤ 1000) (h2 : xl ≤ 1000) :
    Calls Try.prog 24 #[.agg #[.string s.nm, .slice ca cl cc, .slice xa xl xc], .agg #[.string t.nm, .slice ca' cl' cc', .slice xa' xl' xc']] w fun e w' => e = .returned (.bool (s.same t)) ∧ Below w.heap.size w w' := by
  obtain ⟨w1, hw1⟩ : ∃ w1, w1 = (w.alloc (.cells #[.string s.nm, .slice ca cl cc, .slice xa xl xc] 25)).alloc (.cells #[.string t.nm, .slice ca' cl' cc', .slice xa' xl' xc'] 25) := ⟨_, rfl⟩
  obtain ⟨L, hL⟩ : ∃ L, w.heap.size = L := ⟨_, rfl⟩
  have HR1 : Hid (w1.heap[L]? = some (.cells #[.string s.nm, .slice ca cl cc, .slice xa xl xc] 25 (0, 0))) := by show _ = _; rw [hw1, ← hL]; exact heap_alloc2_old w _ _
  have HA1 : Hid (w1.heap[L + 1]? = some (.cells #[.string t.nm, .slice ca' cl' cc', .slice xa' xl' xc'] 25 (0, 0))) := by show _ = _; rw [hw1, ← hL]; exact heap_alloc2_new w _ _
  have hb1 : Below w.heap.size w w1 := by rw [hw1]; exact (below_box w _).trans ((below_box _ _).mono (below_box w _).size)
  have H1 := hide (h.later hb1)
  have H1' := hide (h'.later hb1)
  have HW1 := hide hw1
  have HB1 : Hid (Below L w w1) := by show Below L w w1; rw [← hL]; exact hb1
  rw [hL]
  clear h h' hb1 hw1
  go_enter Try.func24, Try.ntmps24
  go_upto_region 1 with fail
  rw [← HW1.out]
  try simp only [hL]
  have y0 : w1.cell? ⟨L, 0, none⟩ = some (.string s.nm) := cell_blk HR1.out
  have y1 : w1.cell? ⟨L, 1, none⟩ = some (.slice ca cl cc) := cell_blk HR1.out
  have z0 : w1.cell? ⟨L + 1, 0, none⟩ = some (.string t.nm) := cell_blk HA1.out
  have z1 : w1.cell? ⟨L + 1, 1, none⟩ = some (.slice ca' cl' cc') := cell_blk HA1.out
  cases hn : (s.nm.toList == t.nm.toList) with
  | false =>
    have HE : Hid (s.same t = false) := by show _ = _; unfold Sch.same; rw [hn]; rfl
    go_wp2
    go_ret
    exact ⟨by rw [HE.out]; rfl, HB1.out⟩
  | true =>
    have HE : Hid (s.same t = (decide (s.cs = t.cs) && decide (s.xs = t.xs))) := by show _ = _; unfold Sch.same; rw [hn]; rfl
    have HC := hide (col_eq H1.out.c H1'.out.c h1)
    go_wp2_with fail
    refine HC.out.mono ?_
    rintro e w2 ⟨rfl, hb2⟩
    have HB2 : Hid (Below L w w2) := HB1.out.trans (hb2.mono (by have := blk_lt HR1.out; omega))
    have HR2 := hide ((hb2.block L (blk_lt HR1.out)).trans HR1.out)
    have HA2 := hide ((hb2.block (L + 1) (blk_lt HA1.out)).trans HA1.out)
    have HX := hide (ix_eq (H1.out.x.later hb2) (H1'.out.x.later hb2) h2)
    have u2 : w2.cell? ⟨L, 2, none⟩ = some (.slice xa xl xc) := cell_blk HR2.out
    have v2 : w2.cell? ⟨L + 1, 2, none⟩ = some (.slice xa' xl' xc') := cell_blk HA2.out
    clear hb2 y0 y1 z0 z1 HC hn H1 H1'
    generalize decide (s.cs = t.cs) = bc at *
    generalize decide (s.xs = t.xs) = bx at *
    cases bc with
    | false =>
      go_wp2
      go_ret
      exact ⟨by rw [HE.out]; rfl, HB2.out⟩
    | true =>
      go_wp2_with fail
      refine HX.out.mono ?_
      rintro e w3 ⟨rfl, hb3⟩
      have HB3 : Hid (Below L w w3) := HB2.out.trans (hb3.mono (by have := blk_lt HR2.out; omega))
      clear hb3 HX
      go_wp2
      go_ret
      exact ⟨by rw [HE.out]; rfl, HB3.out⟩
end Go.Proofs.Ytcophbkgighepaa
