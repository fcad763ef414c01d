/- A row behind a row; the law's few and copied. -/
import Derived.Test.YtcophbkgighepaaH6
import Derived.Test.YtcophbkgighepaaJ1
import Derived.Laws.Rows
set_option linter.unusedVariables false
namespace Go.Proofs.Ytcophbkgighepaa
open Go.RowKit

section
variable {α : Type} {f : α → List Value} {k : Nat}
theorem fl_len (hk : ∀ x, (f x).length = k) (l : List α) : (l.flatMap f).length = l.length * k := by
  induction l with
  | nil => simp
  | cons x l ih => rw [List.flatMap_cons, List.length_append, ih, hk, List.length_cons, Nat.add_mul]; omega
theorem fl_get (hk : ∀ x, (f x).length = k) : ∀ {l : List α} {i : Nat} {x : α}, l[i]? = some x → ∀ j, j < k → (l.flatMap f)[i * k + j]? = (f x)[j]?
  | [], i, x, h, _, _ => by simp at h
  | y :: l, 0, x, h, j, hj => by
    simp only [List.getElem?_cons_zero, Option.some.injEq] at h
    subst h
    rw [List.flatMap_cons, List.getElem?_append_left (by rw [hk]; omega), Nat.zero_mul, Nat.zero_add]
  | y :: l, i + 1, x, h, j, hj => by
    rw [List.flatMap_cons, List.getElem?_append_right (by rw [hk, Nat.add_mul]; omega), hk, show (i + 1) * k + j - k = i * k + j by rw [Nat.add_mul]; omega]
    exact fl_get hk (by simpa using h) j hj
theorem fl_inv (hk : ∀ x, (f x).length = k) : ∀ {l : List α} {t : Nat} {u : Value}, (l.flatMap f)[t]? = some u → ∃ (i j : Nat) (x : α), t = i * k + j ∧ j < k ∧ l[i]? = some x ∧ (f x)[j]? = some u
  | [], t, u, h => by simp at h
  | y :: l, t, u, h => by
    rw [List.flatMap_cons] at h
    by_cases c : t < k
    · rw [List.getElem?_append_left (by rw [hk]; exact c)] at h
      exact ⟨0, t, y, by omega, c, rfl, h⟩
    · rw [List.getElem?_append_right (by rw [hk]; omega), hk] at h
      obtain ⟨i, j, x, h1, h2, h3, h4⟩ := fl_inv hk h
      exact ⟨i + 1, j, x, by rw [Nat.add_mul]; omega, h2, by simpa using h3, h4⟩
/-- A row that is owned lies there. -/
theorem own_sv (hk : ∀ x, (f x).length = k) {B te n : Nat} {w : World} {v : Value} {l : List α} (h : w.ownsRow B te k v n (l.flatMap f)) (hl : l.length = n) : ∃ a c, v = .slice a n c ∧ SV f k w a n c l := by
  rcases h.2 with ⟨e, h0⟩ | ⟨g, cap, cur, e, h5, h6, h7, h8, h9, h10⟩
  · subst h0
    exact ⟨none, 0, e, hl, by omega, by omega, fun _ => rfl, fun q => by omega⟩
  · refine ⟨_, _, e, hl, h7, by unfold maxLen at h8; omega, (fun q => by cases q), fun h0 => ⟨g, 0, rfl, blk_lt h6, fun i x hx t ht => ?_⟩⟩
    have hg := fl_get hk hx t ht
    obtain ⟨u, hu⟩ : ∃ u, (f x)[t]? = some u := ⟨_, List.getElem?_eq_getElem (by rw [hk]; exact ht)⟩
    rw [hu] at hg ⊢
    rw [Nat.zero_add, cell_blk h6, ← Array.getElem?_toList]
    rw [← h10, List.getElem?_take] at hg
    split at hg
    · exact hg
    · cases hg
theorem wpList_app_sv (hk : ∀ x, (f x).length = k) (hk1 : 0 < k) (hone : ∀ x, ∀ u ∈ f x, u.oneCell' = true) {ts te bt : Nat} {z : Value} (hu : Try.prog.underlying ts = some (.slice te)) (hinfo : (Try.prog.info? te).map (fun i => (i.zero, i.size, i.bytes)) = some (some z, k, bt)) (hzc : z.cells.size = k) (hbt : bt ≤ 64)
    {ops : Array Oper} {rest : List Oper} {o : Oper} {a : Act} {Q : Exit → Act → World → Prop} {wr : World} (hgd : o.guard = none) (s x : Operand)
    (ho : o.op = .call { callee := .builtin .append, args := #[s, x], argTypes := #[ts, ts] })
    {B1 n c : Nat} {v : Value} {ad : Option Addr} {F G : List α} (hs : a.eval s = v) (hx : a.eval x = .slice ad n c) (hF : wr.ownsRow B1 te k v F.length (F.flatMap f)) (hG : SV f k wr ad n c G) (hB1 : B1 ≤ wr.heap.size) (hsize : F.length + n ≤ 100000000)
    (h : ∀ v' w', w'.ownsRow B1 te k v' (F ++ G).length ((F ++ G).flatMap f) → Below B1 wr w' → (∀ i, i < wr.heap.size → v.ownBlock ≠ some i → w'.heap[i]? = wr.heap[i]?) → wpList Try.prog ops Q rest (a.put o.dst v') w') : wpList Try.prog ops Q (o :: rest) a wr := by
  obtain ⟨i0, hi, hz0, hz1, hz2⟩ := info_parts hinfo
  cases ad with
  | none =>
    have hc0 := hG.hn rfl
    have hcc := hG.hc
    have e0 : n = 0 := by omega
    subst e0 hc0
    have e : G = [] := List.eq_nil_of_length_eq_zero hG.hl
    subst e
    refine wpList_append_own_none hgd s x _ ho B1 te i0 k hu hi v F.length (F.flatMap f) hs hF hx (h v wr ?_ (Below.refl _ _) (fun _ _ _ => rfl))
    simpa using hF
  | some ad =>
    have hbt2 : (F.length + n) * bt ≤ 140737488355328 := Nat.le_trans (Nat.mul_le_mul hsize hbt) (by omega)
    refine wpList_append_own_at _ hgd s x _ ho B1 te i0 z k bt hu hi hz0 hz1 hz2 hzc hk1 v F.length (F.flatMap f) hs hF ad n c (G.flatMap f) hx (by rw [fl_len hk, hG.hl]) ?_ (fun u hu => ?_) (by unfold maxLen; omega) hbt2 hB1 ?_
    · intro j u hj
      obtain ⟨i, t, y, e1, e2, e3, e4⟩ := fl_inv hk hj
      obtain ⟨b, o, h1, _, h3⟩ := hG.pl (by rw [← hG.hl]; have := (List.getElem?_eq_some_iff.1 e3).1; omega)
      simp only [Option.some.injEq] at h1
      subst h1
      rw [add_plain, e1, ← Nat.add_assoc, h3 i y e3 t e2]
      exact e4
    · obtain ⟨y, _, hu⟩ := List.mem_flatMap.1 hu
      exact hone y u hu
    · intro v' w' h2 h3 _ h5
      refine h v' w' ?_ ((Below.refl B1 _).grown h3 hB1 (fun j hj => (hF.lt j hj).1)) (fun i hi hn => h3.block i hi (fun e => hn e.symm))
      rw [List.length_append, hG.hl, List.flatMap_append]
      exact h2
end
theorem fV_len (x : Val) : (fV x).length = 3 := rfl
theorem fC_len (x : Col) : (fC x).length = 3 := rfl
theorem fX_len (x : Idx) : (fX x).length = 2 := rfl
theorem fV_one (x : Val) : ∀ u ∈ fV x, u.oneCell' = true := by intro u hu; simp only [fV, List.mem_cons, List.not_mem_nil, or_false] at hu; rcases hu with rfl | rfl | rfl <;> rfl
theorem fC_one (x : Col) : ∀ u ∈ fC x, u.oneCell' = true := by intro u hu; simp only [fC, List.mem_cons, List.not_mem_nil, or_false] at hu; rcases hu with rfl | rfl | rfl <;> rfl
theorem fX_one (x : Idx) : ∀ u ∈ fX x, u.oneCell' = true := by intro u hu; simp only [fX, List.mem_cons, List.not_mem_nil, or_false] at hu; rcases hu with rfl | rfl <;> rfl
theorem info_val : (Try.prog.info? 39).map (fun i => (i.zero, i.size, i.bytes)) = some (some (.agg #[.int .i64 0, .int .i64 0, .string ⟨#[]⟩]), 3, 32) := by kernel_rfl
theorem info_col : (Try.prog.info? 59).map (fun i => (i.zero, i.size, i.bytes)) = some (some (.agg #[.string ⟨#[]⟩, .int .i64 0, .int .i64 0]), 3, 32) := by kernel_rfl
theorem info_ix : (Try.prog.info? 61).map (fun i => (i.zero, i.size, i.bytes)) = some (some (.agg #[.int .i64 0, .bool false]), 2, 16) := by kernel_rfl
theorem own_nil (w : World) (B te k : Nat) : w.ownsRow B te k (.slice none 0 0) 0 ([] : List Value) := ⟨by simp, Or.inl ⟨rfl, rfl⟩⟩
set_option maxRecDepth 100000 in
set_option maxHeartbeats 2000000 in
theorem few_ok {w : World} {a : Option Addr} {n c : Nat} {l : List Val} (h : SV fV 3 w a n c l) :
    Calls Try.prog 7 #[.slice a n c] w fun e w' => ∃ a' c', e = .returned (.slice a' (min n 5) c') ∧ SV fV 3 w' a' (min n 5) c' (l.take 5) ∧ Below w.heap.size w w' := by
  have ht := h.take (n := min n 5) (by omega)
  rw [show l.take (min n 5) = l.take 5 from by rw [← h.hl, List.take_eq_take_iff]; omega] at ht
  obtain ⟨m, hm⟩ : ∃ m, m = min n 5 := ⟨_, rfl⟩
  rw [← hm] at ht ⊢
  have HT := hide ht
  have y0 : (c : Int) ≤ 9223372036854775807 := by have := h.hm; omega
  have em : min (n : Int) 5 = (m : Int) := by omega
  have em' : (if (5 : Int) < (n : Int) then (5 : Int) else (n : Int)) = (m : Int) := by split <;> omega
  have u0 : (0 : Int) ≤ (m : Int) := by omega
  have v0 : (m : Int) ≤ (c : Int) := by have := h.hc; omega
  have HM : Hid (m ≤ 5) := by show m ≤ 5; omega
  clear h ht hm
  go_enter Try.func7, Try.ntmps7
  go_wp2_with (at_builtin; refine wpList_app_sv fV_len (by omega) fV_one Try.underlying26 info_val rfl (by omega) rfl (.tmp 4) (.tmp 9) rfl (B1 := w.heap.size) (F := []) (G := l.take 5) rfl rfl (own_nil _ _ _ _) HT.out (Nat.le_refl _) (by have := HM.out; show 0 + m ≤ _; omega) ?_; intro v' w' ho' hb' _; have HO := hide ho'; have HB := hide hb'; clear ho' hb')
  have h9 := HO.out
  rw [List.nil_append] at h9
  obtain ⟨a', c', e', hsv⟩ := own_sv fV_len h9 rfl
  rw [HT.out.hl] at e' hsv
  subst e'
  clear h9 HO
  go_wp2
  go_ret
  exact ⟨a', c', rfl, hsv, HB.out⟩
end Go.Proofs.Ytcophbkgighepaa
