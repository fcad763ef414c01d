/- Contract of keys.Read: all values of some bytes. -/
import Derived.Test.YtcophbkgighepaaR3
import Derived.Test.YtcophbkgighepaaD2
set_option linter.unusedVariables false
namespace Go.Proofs.Ytcophbkgighepaa
open Go.RowKit

abbrev v0 : Val := (0, 0, ⟨#[]⟩)
/-- A held value, put out. -/
def H.ov : H → Val
  | .nothing => (0, 0, ⟨#[]⟩)
  | .number n => (1, n, ⟨#[]⟩)
  | .text s => (2, 0, s)
  | .truth b => (3, bi b, ⟨#[]⟩)
  | .none => (0, 0, ⟨#[]⟩)
def vc (x : Val) : List Value := [.int .i64 x.1, .int .i64 x.2.1, .string x.2.2]
def vcells (vs : List Val) : List Value := vs.flatMap vc
theorem out_ov (h : H) : h.out = av h.ov.1 h.ov.2.1 h.ov.2.2 := by cases h <;> rfl
theorem vcells_len (vs : List Val) : (vcells vs).length = vs.length * 3 := by
  induction vs with
  | nil => rfl
  | cons x r ih => simp only [vcells, List.flatMap_cons, List.length_append, List.length_cons] at ih ⊢; simp only [vc, List.length_cons, List.length_nil]; omega
theorem vcells_snoc (vs : List Val) (x : Val) : vcells (vs ++ [x]) = vcells vs ++ vc x := by simp [vcells]
theorem vcells_at : ∀ (vs : List Val) (i j : Nat), i < vs.length → j < 3 → (vcells vs)[i * 3 + j]? = (vc (vs.getD i (0, 0, ⟨#[]⟩)))[j]?
  | [], i, j, h, _ => by simp at h
  | x :: r, 0, j, _, hj => by
    simp only [vcells, List.flatMap_cons, Nat.zero_mul, Nat.zero_add, List.getD_cons_zero]
    rw [List.getElem?_append_left (by simp [vc]; omega)]
  | x :: r, i + 1, j, h, hj => by
    have ih := vcells_at r i j (by simpa using h) hj
    simp only [vcells, List.flatMap_cons] at ih ⊢
    rw [List.getElem?_append_right (by simp [vc]; omega)]
    simp only [List.getD_cons_succ]
    rw [← ih]
    congr 1
    simp [vc]
    omega

/-- All values of some bytes. -/
def rdF : Nat → List Nat → Option (List Val)
  | 0, _ => some []
  | f + 1, xs => if xs = [] then some [] else match rh xs with
    | none => none
    | some (h, k) => (rdF f (xs.drop k)).map (h.ov :: ·)
def rd (xs : List Nat) : Option (List Val) := rdF xs.length xs
theorem rh_size {xs : List Nat} {h : H} {k : Nat} (hx : xs ≠ []) (e : rh xs = some (h, k)) : 1 ≤ k ∧ k ≤ xs.length := by
  have h0 : 0 < xs.length := List.length_pos_iff.2 hx
  have hd : (xs.drop 1).length = xs.length - 1 := by rw [List.length_drop]
  unfold rh at e
  split at e
  · cases e; omega
  · split at e
    · split at e
      · cases e; omega
      · cases e
    · split at e
      · split at e
        · cases e; omega
        · cases e
      · split at e
        · cases hr : rt (xs.drop 1) with
          | none => rw [hr] at e; cases e
          | some q =>
            have := rt_le (xs.drop 1) q.1 q.2 hr
            rw [hr] at e
            simp only [Option.map_some, Option.some.injEq, Prod.mk.injEq] at e
            omega
        · cases e
theorem rdF_fuel : ∀ (f : Nat) (xs : List Nat), xs.length ≤ f → rdF f xs = rd xs
  | 0, xs, h => by
    have : xs = [] := List.eq_nil_of_length_eq_zero (by omega)
    subst this; rfl
  | f + 1, xs, h => by
    by_cases hx : xs = []
    · subst hx; rfl
    · have h0 : 0 < xs.length := List.length_pos_iff.2 hx
      obtain ⟨n, hn⟩ : ∃ n, xs.length = n + 1 := ⟨xs.length - 1, by omega⟩
      unfold rd
      rw [hn]
      simp only [rdF, if_neg hx]
      cases e : rh xs with
      | none => rfl
      | some q =>
        obtain ⟨hh, k⟩ := q
        have := rh_size hx e
        simp only
        rw [rdF_fuel f _ (by rw [List.length_drop]; omega), rdF_fuel n _ (by rw [List.length_drop]; omega)]
  termination_by f => f
theorem rd_nil : rd [] = some [] := rfl
theorem rd_none {xs : List Nat} (hx : xs ≠ []) (e : rh xs = none) : rd xs = none := by
  obtain ⟨n, hn⟩ : ∃ n, xs.length = n + 1 := ⟨xs.length - 1, by have := List.length_pos_iff.2 hx; omega⟩
  unfold rd
  rw [hn]
  simp only [rdF, if_neg hx, e]
theorem rd_some {xs : List Nat} {h : H} {k : Nat} (hx : xs ≠ []) (e : rh xs = some (h, k)) : rd xs = (rd (xs.drop k)).map (h.ov :: ·) := by
  obtain ⟨n, hn⟩ : ∃ n, xs.length = n + 1 := ⟨xs.length - 1, by have := List.length_pos_iff.2 hx; omega⟩
  have := rh_size hx e
  conv => lhs; unfold rd
  rw [hn]
  simp only [rdF, if_neg hx, e]
  rw [rdF_fuel n _ (by rw [List.length_drop]; omega)]

theorem info_av : (Try.prog.info? 39).map (fun i => (i.zero, i.size, i.bytes)) = some (some (.agg #[.int .i64 0, .int .i64 0, .string ⟨#[]⟩]), 3, 32) := by kernel_rfl

/-- A row of values of the call's own, which grows. -/
structure VW (w : World) (wr : World) (v : Value) (vs : List Val) : Prop where
  own : wr.ownsRow w.heap.size 39 3 v vs.length (vcells vs)
  bel : Below w.heap.size w wr
theorem VW.hid {w wr : World} {v : Value} {vs : List Val} (h : VW w wr v vs) : Hid (VW w wr v vs) := h
theorem VW.later {w wr w1 : World} {v : Value} {vs : List Val} (h : VW w wr v vs) (hb : Below wr.heap.size wr w1) : VW w w1 v vs := ⟨ownsRow_later h.own hb, h.bel.trans (hb.mono h.bel.size)⟩
theorem VW.alloc {w wr : World} {v : Value} {vs : List Val} (h : VW w wr v vs) (o : Obj) : VW w (wr.alloc o) v vs := h.later ((Below.refl _ _).alloc (Nat.le_refl _) _)

theorem news_av (wr : World) (k n : Int) (s : ByteArray) (t : TypeId) : ∀ j u, (vc (k, n, s))[j]? = some u → (wr.alloc (.cells #[.int .i64 k, .int .i64 n, .string s] t)).cell? ((⟨wr.heap.size, 0, none⟩ : Addr).add j) = some u := by
  intro j u hj
  match j, hj with
  | 0, hj => simp [vc] at hj; subst hj; simp [Addr.add]
  | 1, hj => simp [vc] at hj; subst hj; simp [Addr.add]
  | 2, hj => simp [vc] at hj; subst hj; simp [Addr.add]
theorem one_av (k n : Int) (s : ByteArray) : ∀ u ∈ vc (k, n, s), u.oneCell' = true := by
  intro u hu
  simp only [vc, List.mem_cons, List.mem_nil_iff, or_false] at hu
  rcases hu with rfl | rfl | rfl <;> rfl
theorem wpList_append_v {ops : Array Oper} {rest : List Oper} {o : Oper} {a : Act} {Q : Exit → Act → World → Prop} {wr : World} (hgd : o.guard = none) (s x : Operand)
    (ho : o.op = .call { callee := .builtin .append, args := #[s, x], argTypes := #[26, 26] })
    (w : World) (v : Value) (vs : List Val) (hs : a.eval s = v) (k n : Int) (t : ByteArray) (hR : VW w wr v vs) (hx : a.eval x = .slice (some ⟨wr.heap.size, 0, none⟩) 1 1) (hsize : vs.length ≤ 33554432)
    (h : ∀ v' w', VW w w' v' (vs ++ [(k, n, t)]) → wpList Try.prog ops Q rest (a.put o.dst v') w') : wpList Try.prog ops Q (o :: rest) a (wr.alloc (.cells #[.int .i64 k, .int .i64 n, .string t] 39)) := by
  obtain ⟨i0, hi, hz0, hz1, hz2⟩ := info_parts info_av
  refine wpList_append_own_at _ hgd s x _ ho w.heap.size 39 i0 (.agg #[.int .i64 0, .int .i64 0, .string ⟨#[]⟩]) 3 32 Try.underlying26 hi hz0 hz1 hz2 rfl (by omega) v vs.length (vcells vs) hs (hR.alloc _).own ⟨wr.heap.size, 0, none⟩ 1 1 (vc (k, n, t)) hx rfl (news_av _ _ _ _ _) (one_av _ _ _) (by unfold maxLen; omega) (by omega) (by have := hR.bel.size; simp; omega) ?_
  intro v' w' h2 h3 _ h5
  refine h v' w' ⟨?_, (hR.alloc _).bel.grown h3 (by have := hR.bel.size; simp; omega) (fun j hj => (hR.own.lt j hj).1)⟩
  rw [List.length_append, vcells_snoc]
  exact h2

/-- What Read tells. -/
def RdR (o : Option (List Val)) (B : Nat) (e : Ending) (w' : World) : Prop := match o with
  | none => e = .returned (.tuple #[.slice none 0 0, .int .i64 11])
  | some vs => ∃ v, e = .returned (.tuple #[v, .int .i64 0]) ∧ w'.ownsRow B 39 3 v vs.length (vcells vs)
end Go.Proofs.Ytcophbkgighepaa
set_option linter.unusedVariables false
namespace Go.Proofs.Ytcophbkgighepaa
open Go.RowKit

theorem bs_some_drop {w : World} {b o len cap : Nat} {xs : List Nat} (h : BS w (some ⟨b, o, none⟩) len cap xs) (p : Nat) (hp : p ≤ len) : BS w (some ⟨b, o + p, none⟩) (len - p) (cap - p) (xs.drop p) := by
  rcases Nat.eq_zero_or_pos len with h0 | h0
  · have e : p = 0 := by omega
    subst e
    simpa using h
  · obtain ⟨b', o', e, _, hc⟩ := h.place h0
    cases e
    exact bs_drop h p hp hc
theorem map_cons_append {α : Type} (o : Option (List α)) (p : List α) (x : α) : (o.map (x :: ·)).map (p ++ ·) = o.map ((p ++ [x]) ++ ·) := by
  cases o <;> simp

set_option maxRecDepth 100000 in
set_option maxHeartbeats 2000000 in
theorem read_any (a : Option Addr) (len cap : Nat) (xs : List Nat) (w : World) (h : BS w a len cap xs) (hl : len ≤ 33554432) :
    Calls Try.prog 46 #[.slice a len cap] w fun e w' => RdR (rd xs) w.heap.size e w' ∧ Below w.heap.size w w' := by
  have HX := hidr h
  clear h
  go_enter Try.func46, Try.ntmps46
  go_wp2
  go_loopw [0, 4] (fun s v wr => ∃ (a' : Option Addr) (l' c' : Nat) (ys : List Nat) (pre : List Val), s = .slice a' l' c' ∧ l' ≤ len ∧ pre.length + l' ≤ len ∧ BS w a' l' c' ys ∧ VW w wr v pre ∧ rd xs = (rd ys).map (pre ++ ·)) (fun s _ _ => match s with | .slice _ l _ => l | _ => 0)
  case atStart =>
    refine ⟨a, len, cap, xs, [], rfl, by omega, by simp, HX.out, ⟨World.ownsRow_nil _ _ _ _, Below.refl _ _⟩, ?_⟩
    cases rd xs <;> simp
  case round =>
    obtain ⟨a', l', c', ys, pre, rfl, hl1, hl2, hB, hV, hR⟩ := hrel
    have HB := hidr hB
    have HV := hV.hid
    have HR := hidr hR
    have hcap := hB.hcap
    have hmax := hB.hmax
    clear hB hV hR
    by_cases h0 : 0 < l'
    · obtain ⟨b, o, rfl, hbl, _⟩ := HB.out.place h0
      have h0' : (0 : Int) < (l' : Int) := by omega
      have hne : ys ≠ [] := by
        intro e
        have := HB.out.hlen
        rw [e] at this
        simp at this
        omega
      have HBr := hidr (HB.out.later HV.out.bel (Nat.le_refl _))
      cases hq : rh ys with
      | none =>
        have HQ := hidr (rd_none hne hq)
        have cR := fun ww (hh : BS ww (some ⟨b, o, none⟩) l' c' ys) => readHeld_any b o l' c' ys ww hh h0 (by omega)
        rw [hq] at cR
        unfold RHR at cR
        simp only at cR
        go_wp2_with (go_at_call 70; refine (cR _ HBr.out).mono ?_; rintro e w1 ⟨⟨hh, kk, rfl⟩, hb1⟩; have HB1 := hidr (HV.out.bel.trans (hb1.mono HV.out.bel.size)); clear hb1)
        go_ret2
        rw [HR.out, HQ.out]
        exact ⟨rfl, HB1.out⟩
      | some q =>
        obtain ⟨hh, k⟩ := q
        have HQ := hidr (rd_some hne hq)
        have hks := rh_size hne hq
        rw [HB.out.hlen] at hks
        obtain ⟨hk1, hk2⟩ := hks
        have cR := fun ww (hh : BS ww (some ⟨b, o, none⟩) l' c' ys) => readHeld_any b o l' c' ys ww hh h0 (by omega)
        rw [hq] at cR
        unfold RHR at cR
        simp only at cR
        have cL := release_any hh
        rw [out_ov] at cL
        unfold av at cL
        have k0 : (0 : Int) ≤ (k : Int) := by omega
        have k1 : (k : Int) ≤ (l' : Int) := by omega
        by_cases hkc : k < c'
        · have hkc' : (k : Int) < (c' : Int) := by omega
          go_wp2_with (first
            | (go_at_call 70; refine (cR _ HBr.out).mono ?_; rintro e w1 ⟨rfl, hb1⟩; have HV1 := (HV.out.later hb1).hid; clear hb1)
            | (go_at_call 71; refine (cL _).mono ?_; rintro e w2 ⟨rfl, hb2⟩; have HV2 := (HV1.out.later hb2).hid; clear hb2)
            | (at_builtin; refine wpList_append_v rfl (.tmp 19) (.tmp 22) rfl w _ pre rfl hh.ov.1 hh.ov.2.1 hh.ov.2.2 HV2.out rfl (by omega) ?_; intro v3 w3 hV3; have HV3 := hV3.hid; clear hV3))
          go_roundw
          case rel =>
            refine ⟨_, _, _, ys.drop k, pre ++ [hh.ov], rfl, by omega, by simp; omega, bs_some_drop HB.out k hk2, HV3.out, ?_⟩
            rw [HR.out, HQ.out]
            exact map_cons_append _ _ _
          case measure => simp; omega
        · have e1 : l' = c' := by omega
          have e2 : k = c' := by omega
          have HD : Hid (ys.drop k = []) := List.drop_eq_nil_of_le (by rw [HB.out.hlen]; omega)
          subst e1 e2
          go_wp2_with (first
            | (go_at_call 70; refine (cR _ HBr.out).mono ?_; rintro e w1 ⟨rfl, hb1⟩; have HV1 := (HV.out.later hb1).hid; clear hb1)
            | (go_at_call 71; refine (cL _).mono ?_; rintro e w2 ⟨rfl, hb2⟩; have HV2 := (HV1.out.later hb2).hid; clear hb2)
            | (at_builtin; refine wpList_append_v rfl (.tmp 19) (.tmp 22) rfl w _ pre rfl hh.ov.1 hh.ov.2.1 hh.ov.2.2 HV2.out rfl (by omega) ?_; intro v3 w3 hV3; have HV3 := hV3.hid; clear hV3))
          go_roundw
          case rel =>
            refine ⟨_, _, _, [], pre ++ [hh.ov], rfl, by omega, by simp; omega, BS.none w _ 0 (by omega) (fun h => by cases h), HV3.out, ?_⟩
            rw [HR.out, HQ.out, HD.out]
            exact map_cons_append _ _ _
          case measure => simp; omega
    · go_wp2
      go_ret2
      have e : ys = [] := List.eq_nil_of_length_eq_zero (by rw [HB.out.hlen]; omega)
      rw [HR.out, e, rd_nil]
      refine ⟨?_, HV.out.bel⟩
      simp only [Option.map_some, List.append_nil, RdR]
      exact ⟨_, rfl, HV.out.own⟩
end Go.Proofs.Ytcophbkgighepaa
