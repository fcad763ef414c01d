/- Two rows that the call owns, bytes and numbers, which both grow; what came in stays. -/
import Derived.Test.YtblgagjifaeadabM7
import Derived.Test.YtblgagjifaeadabAP
import Derived.Test.YtblgagjifaeadabC4a
namespace Go.Proofs.Ytblgagjifaeadab
open Go.RowKit

def intsOf (es : List Nat) : List Value := es.map fun (n : Nat) => Value.int .i64 (n : Int)
theorem intsOf_length (es : List Nat) : (intsOf es).length = es.length := by simp [intsOf]
theorem intsOf_append (es fs : List Nat) : intsOf (es ++ fs) = intsOf es ++ intsOf fs := by simp [intsOf]
theorem intsOf_get (es : List Nat) (j : Nat) (hj : j < es.length) : (intsOf es)[j]? = some (.int .i64 (es.getD j 0 : Nat)) := by simp [intsOf, hj]
theorem infoInt : (Try.prog.info? 3).map (fun i => (i.zero, i.size, i.bytes)) = some (some (.int .i64 0), 1, 8) := by kernel_rfl

structure RW (w : World) (v u : Value) (wr : World) (xs es : List Nat) : Prop where
  bel : Below w.heap.size w wr
  own : wr.ownsRow w.heap.size 5 1 v xs.length (cellsOf xs)
  num : wr.ownsRow w.heap.size 3 1 u es.length (intsOf es)
  ne : v.ownBlock = none ∨ u.ownBlock = none ∨ v.ownBlock ≠ u.ownBlock

section
variable {w wr wr' : World} {v u : Value} {xs es : List Nat}
theorem RW.hid (h : RW w v u wr xs es) : Hid (RW w v u wr xs es) := h
theorem RW.ends (h : RW w v u wr xs es) {fs : List Nat} (e : es = fs) : RW w v u wr xs fs := e ▸ h
theorem RW.start (w : World) : RW w (.slice none 0 0) (.slice none 0 0) w [] [] :=
  ⟨Below.refl _ _, World.ownsRow_nil _ _ _ _, World.ownsRow_nil _ _ _ _, Or.inl rfl⟩
theorem RW.later (h : RW w v u wr xs es) (hb : Below wr.heap.size wr wr') : RW w v u wr' xs es :=
  ⟨h.bel.trans (hb.mono h.bel.size), ownsRow_later h.own hb, ownsRow_later h.num hb, h.ne⟩
theorem RW.drew (h : RW w v u wr xs es) : RW w v u wr.drew xs es := ⟨h.bel.drew, h.own.drew, h.num.drew, h.ne⟩
theorem RW.alloc (h : RW w v u wr xs es) (o : Obj) : RW w v u (wr.alloc o) xs es := ⟨h.bel.alloc h.bel.size _, h.own.alloc _, h.num.alloc _, h.ne⟩
theorem RW.grownA (h : RW w v u wr xs es) {v' : Value} {ys : List Nat} (ho : wr'.ownsRow w.heap.size 5 1 v' (xs.length + ys.length) (cellsOf xs ++ cellsOf ys)) (hg : wr.grownBy wr' v.ownBlock)
    (hat : v'.ownBlock = v.ownBlock ∨ v'.ownBlock = some wr.heap.size) : RW w v' u wr' (xs ++ ys) es := by
  refine ⟨h.bel.grown hg h.bel.size (fun k hk => (h.own.lt k hk).1), by rw [List.length_append, cellsOf_append]; exact ho, h.num.kept hg ?_, ?_⟩
  · rcases h.ne with z | z | z
    · rw [z]
      cases u.ownBlock <;> simp
    · exact Or.inl z
    · exact Or.inr z.symm
  · rcases hat with z | z
    · rw [z]; exact h.ne
    · right
      rw [z]
      cases hu : u.ownBlock with
      | none => exact Or.inl rfl
      | some k => right; intro e; have := (h.num.lt k hu).2; simp at e; omega
theorem RW.grownE (h : RW w v u wr xs es) {u' : Value} {n : Nat} (ho : wr'.ownsRow w.heap.size 3 1 u' (es.length + 1) (intsOf es ++ intsOf [n])) (hg : wr.grownBy wr' u.ownBlock)
    (hat : u'.ownBlock = u.ownBlock ∨ u'.ownBlock = some wr.heap.size) : RW w v u' wr' xs (es ++ [n]) := by
  refine ⟨h.bel.grown hg h.bel.size (fun k hk => (h.num.lt k hk).1), h.own.kept hg ?_, by rw [List.length_append, intsOf_append]; exact ho, ?_⟩
  · rcases h.ne with z | z | z
    · exact Or.inl z
    · rw [z]
      cases v.ownBlock <;> simp
    · exact Or.inr z
  · rcases hat with z | z
    · rw [z]; exact h.ne
    · rw [z]
      cases hv : v.ownBlock with
      | none => exact Or.inl rfl
      | some k => right; right; intro e; have := (h.own.lt k hv).2; simp at e; omega
theorem RW.formA (h : RW w v u wr xs es) (h0 : 0 < xs.length) : ∃ g c, v = .slice (some ⟨g, 0, none⟩) xs.length c := by
  obtain ⟨g, c, hv, _⟩ := h.own.form h0
  exact ⟨g, c, hv⟩
theorem RW.formE (h : RW w v u wr xs es) (h0 : 0 < es.length) : ∃ g c, u = .slice (some ⟨g, 0, none⟩) es.length c := by
  obtain ⟨g, c, hv, _⟩ := h.num.form h0
  exact ⟨g, c, hv⟩
end

theorem wp_append_a {o : Oper} {a : Act} {K : Act → World → Prop} {Q : Exit → Act → World → Prop} {wr : World} (s x : Operand)
    (ho : o.op = .call { callee := .builtin .append, args := #[s, x], argTypes := #[24, 24] })
    (w : World) (v u : Value) (xs es : List Nat) (hs : a.eval s = v) (hR : RW w v u wr xs es) (ax : Addr) (m cx : Nat) (ys : List Nat)
    (hx : a.eval x = .slice (some ax) m cx) (hbs : BS wr (some ax) m cx ys) (hsize : xs.length + m ≤ 140737488355328)
    (h : ∀ v' w', RW w v' u w' (xs ++ ys) es → K (a.put o.dst v') w') : o.wp Try.prog a wr K Q := by
  obtain ⟨i0, hi, hz0, hz1, hz2⟩ := info_parts info5
  have hl := hbs.hlen
  obtain ⟨v', w', hr, h2, h3, h4, h5⟩ := run_append_own_at (P := Try.prog) wr w.heap.size 24 o.type 5 i0 (.int .u8 0) 1 1 Try.underlying24 hi hz0 hz1 hz2 rfl (by omega) v xs.length (cellsOf xs) hR.own ax m cx (cellsOf ys) (by rw [cellsOf_length]; omega) hbs.news (cellsOf_one ys) (by unfold maxLen; omega) (by omega) hR.bel.size
  unfold Oper.wp execOp
  simp only [ho, resolve, invoke, builtin, Sem.run_bind, Sem.run_pure, Result.andThen_ok, List.map_toArray, List.map_cons, List.map_nil, hs, hx, hr]
  exact h v' w' (hR.grownA (by rw [hl]; exact h2) h3 h5)
theorem wpList_append_a {ops : Array Oper} {rest : List Oper} {o : Oper} {a : Act} {Q : Exit → Act → World → Prop} {wr : World} (hgd : o.guard = none) (s x : Operand)
    (ho : o.op = .call { callee := .builtin .append, args := #[s, x], argTypes := #[24, 24] })
    (w : World) (v u : Value) (xs es : List Nat) (hs : a.eval s = v) (hR : RW w v u wr xs es) (ax : Addr) (m cx : Nat) (ys : List Nat)
    (hx : a.eval x = .slice (some ax) m cx) (hbs : BS wr (some ax) m cx ys) (hsize : xs.length + m ≤ 140737488355328)
    (h : ∀ v' w', RW w v' u w' (xs ++ ys) es → wpList Try.prog ops Q rest (a.put o.dst v') w') : wpList Try.prog ops Q (o :: rest) a wr :=
  wpList_plain hgd fun _ hK => wp_append_a s x ho w v u xs es hs hR ax m cx ys hx hbs hsize fun v' w' hR' => hK _ _ (h v' w' hR')
theorem wpList_append_e {ops : Array Oper} {rest : List Oper} {o : Oper} {a : Act} {Q : Exit → Act → World → Prop} {wr : World} (hgd : o.guard = none) (s x : Operand)
    (ho : o.op = .call { callee := .builtin .append, args := #[s, x], argTypes := #[22, 22] })
    (w : World) (v u : Value) (xs es : List Nat) (hs : a.eval s = u) (hR : RW w v u wr xs es) (n : Nat) (g : Nat)
    (hx : a.eval x = .slice (some ⟨g, 0, none⟩) 1 1) (hc : wr.cell? ⟨g, 0, none⟩ = some (.int .i64 (n : Int))) (hsize : es.length ≤ 1000)
    (h : ∀ u' w', RW w v u' w' xs (es ++ [n]) → wpList Try.prog ops Q rest (a.put o.dst u') w') : wpList Try.prog ops Q (o :: rest) a wr := by
  obtain ⟨i0, hi, hz0, hz1, hz2⟩ := info_parts infoInt
  refine wpList_append_own_at wr hgd s x _ ho w.heap.size 3 i0 (.int .i64 0) 1 8 Try.underlying22 hi hz0 hz1 hz2 rfl (by omega) u es.length (intsOf es) hs hR.num ⟨g, 0, none⟩ 1 1 (intsOf [n]) hx (by simp [intsOf]) ?_ ?_ (by unfold maxLen; omega) (by omega) hR.bel.size ?_
  · intro j y hj
    match j, hj with
    | 0, hj => simp [intsOf] at hj; subst hj; rw [add_plain]; exact hc
  · intro y hy; simp [intsOf] at hy; subst hy; rfl
  · intro u' w' h2 h3 _ h5
    exact h u' w' (hR.grownE h2 h3 h5)
end Go.Proofs.Ytblgagjifaeadab
