/- schema.EncodeRow. -/
import Derived.Test.YtcophbkgighepaaHA
import Derived.Test.YtcophbkgighepaaXY
set_option linter.unusedVariables false
namespace Go.Proofs.Ytcophbkgighepaa
open Go.RowKit

theorem val_clo {w : World} (x : Val) (h : x.err = 0 ∧ x.2.2.size ≤ 1048576) : Calls Try.prog 41 #[.agg #[.int .i64 x.1, .int .i64 x.2.1, .string x.2.2]] w fun e w' => e = .returned (.bool (decide (8 < rcn x.2.2))) ∧ Below w.heap.size w w' := islong_ok x w (by have := h.2; omega) h.1
set_option maxRecDepth 100000 in
set_option maxHeartbeats 2000000 in
theorem val_idx {w : World} {a : Option Addr} {len cap : Nat} {l : List Val} (h : SV fV 3 w a len cap l) (hlen : len ≤ 1000) (hr : ∀ x ∈ l, x.err = 0 ∧ x.2.2.size ≤ 1048576) :
    Calls Try.prog 66 #[.slice a len cap, .func (Fn.func 41) #[] #[]] w fun e w' => ∃ i : Int, e = .returned (.int .i64 i) ∧ (decide (0 ≤ i) = l.any (fun x => decide (8 < rcn x.2.2))) ∧ Below w.heap.size w w' := by
  have H := hide h
  have hx := h.hl
  have HL := hide hx
  clear h hx
  have HR := hide hr
  clear hr
  go_enter Try.func66, Try.ntmps66
  go_wp2_with fail
  go_loopg [8] len (fun gh s8 wx => ∃ j : Nat, j + gh = len ∧ s8 = .int .i64 (j : Int) ∧ (l.take j).any (fun x => decide (8 < rcn x.2.2)) = false ∧ Below w.heap.size w wx)
  case atStart => exact ⟨0, by omega, rfl, by simp, Below.refl _ _⟩
  case round =>
    obtain ⟨j, hj, rfl, hno, hbr⟩ := hrel
    have HNO := hide hno
    have HBR := hide hbr
    clear hno hbr
    by_cases hjn : j < len
    · have xj : (j : Int) < (len : Int) := by omega
      obtain ⟨x, hxj⟩ : ∃ x, l[j]? = some x := ⟨_, List.getElem?_eq_getElem (by rw [HL.out]; exact hjn)⟩
      have HTK : Hid ((l.take (j + 1)).any (fun x => decide (8 < rcn x.2.2)) = (decide (8 < rcn x.2.2))) := by
        show _ = _
        rw [List.take_add_one, hxj, List.any_append, HNO.out]
        simp
      have HYES : Hid ((decide (8 < rcn x.2.2)) = true → l.any (fun x => decide (8 < rcn x.2.2)) = true) := fun q => List.any_eq_true.2 ⟨x, List.mem_of_getElem? hxj, q⟩
      obtain ⟨b, o, e0, hb, hcs⟩ := H.out.pl (by omega)
      have hcell := fun t (ht : t < 3) => hcs j x hxj t ht
      subst e0
      have y0 : wr.cell? ⟨b, o + j * 3, none⟩ = some (.int .i64 x.1) := (HBR.out.cell hb).trans (hcell 0 (by omega))
      have y1 : wr.cell? ⟨b, o + j * 3 + 1, none⟩ = some (.int .i64 x.2.1) := (HBR.out.cell hb).trans (hcell 1 (by omega))
      have y2 : wr.cell? ⟨b, o + j * 3 + 2, none⟩ = some (.string x.2.2) := (HBR.out.cell hb).trans (hcell 2 (by omega))
      have hrx := HR.out x (List.mem_of_getElem? hxj)
      have HCL := hide (val_clo (w := wr) x hrx)
      obtain ⟨pb, hpb⟩ : ∃ pb : Bool, pb = (decide (8 < rcn x.2.2)) := ⟨_, rfl⟩
      rw [← hpb] at HTK HYES HCL
      clear hcs hcell hxj hpb
      go_wp2_with fail
      refine HCL.out.mono ?_
      rintro e w1 ⟨rfl, hb1⟩
      have HB1 : Hid (Below w.heap.size w w1) := HBR.out.trans (hb1.mono HBR.out.size)
      clear hb1 HCL
      cases pb with
      | true =>
        have HY := hide (HYES.out rfl)
        go_wp2_with fail
        go_ret
        exact ⟨(j : Int), rfl, by rw [HY.out]; exact decide_eq_true (by omega), HB1.out⟩
      | false =>
        go_wp2_with fail
        go_roundg (gk - 1)
        case measure => omega
        case rel => exact ⟨j + 1, by omega, rfl, HTK.out, HB1.out⟩
    · have xj : ¬ (j : Int) < (len : Int) := by omega
      have HN : Hid (l.any (fun x => decide (8 < rcn x.2.2)) = false) := by
        have h9 := HNO.out
        rw [List.take_of_length_le (by rw [HL.out]; omega)] at h9
        exact h9
      go_wp2
      go_ret
      exact ⟨-1, rfl, by rw [HN.out]; rfl, HBR.out⟩
set_option maxRecDepth 100000 in
theorem val_has {w : World} {a : Option Addr} {len cap : Nat} {l : List Val} (h : SV fV 3 w a len cap l) (hlen : len ≤ 1000) (hr : ∀ x ∈ l, x.err = 0 ∧ x.2.2.size ≤ 1048576) :
    Calls Try.prog 40 #[.slice a len cap, .func (Fn.func 41) #[] #[]] w fun e w' => e = .returned (.bool (l.any (fun x => decide (8 < rcn x.2.2)))) ∧ Below w.heap.size w w' := by
  have HI := hide (val_idx h hlen hr)
  clear h hr
  generalize l.any (fun x => decide (8 < rcn x.2.2)) = bb at *
  go_enter Try.func40, Try.ntmps40
  go_wp2_with fail
  refine HI.out.mono ?_
  rintro e w1 ⟨i, rfl, hi, hb1⟩
  have HB1 := hide hb1
  have HE := hide hi
  clear hb1 HI hi
  go_wp2
  go_ret
  exact ⟨by rw [← HE.out]; rfl, HB1.out⟩
/-- Bytes that the call owns. -/
abbrev OB (B : Nat) (w : World) (v : Value) (xs : List Nat) : Prop := w.ownsRow B 5 1 v xs.length (cellsOf xs)
def fB (n : Nat) : List Value := [.int .u8 (n : Int)]
theorem fB_cells (xs : List Nat) : xs.flatMap fB = cellsOf xs := by
  induction xs with
  | nil => rfl
  | cons x xs ih => rw [List.flatMap_cons, ih]; rfl
theorem fB_len (n : Nat) : (fB n).length = 1 := rfl
theorem fB_one (n : Nat) : ∀ u ∈ fB n, u.oneCell' = true := by intro u hu; simp only [fB, List.mem_cons, List.not_mem_nil, or_false] at hu; subst hu; rfl
theorem OB.later {B : Nat} {w w' : World} {v : Value} {xs : List Nat} (h : OB B w v xs) (hb : Below w.heap.size w w') : OB B w' v xs := ownsRow_later h hb
theorem OB.form {B : Nat} {w : World} {v : Value} {xs : List Nat} (h : OB B w v xs) : ∃ a c, v = .slice a xs.length c := by
  rcases h.2 with ⟨e, h0⟩ | ⟨g, cap, cur, e, _⟩
  · exact ⟨none, 0, by rw [e, h0]⟩
  · exact ⟨_, _, e⟩
theorem wpList_app_ob {ops : Array Oper} {rest : List Oper} {o : Oper} {a : Act} {Q : Exit → Act → World → Prop} {wr : World} (hgd : o.guard = none) (s x : Operand)
    (ho : o.op = .call { callee := .builtin .append, args := #[s, x], argTypes := #[42, 42] })
    {B1 B2 : Nat} {v u : Value} {xs ys : List Nat} (hs : a.eval s = v) (hx : a.eval x = u) (hF : OB B1 wr v xs) (hG : OB B2 wr u ys) (hB1 : B1 ≤ wr.heap.size) (hsize : xs.length + ys.length ≤ 100000000)
    (h : ∀ v' w', OB B1 w' v' (xs ++ ys) → Below B1 wr w' → (∀ i, i < wr.heap.size → v.ownBlock ≠ some i → w'.heap[i]? = wr.heap[i]?) → wpList Try.prog ops Q rest (a.put o.dst v') w') : wpList Try.prog ops Q (o :: rest) a wr := by
  have hF' := hF
  have hG' := hG
  unfold OB at hF' hG'
  rw [← fB_cells] at hF' hG'
  obtain ⟨ad, c, e, hsv⟩ := own_sv fB_len hG' rfl
  subst e
  refine wpList_app_sv fB_len (by omega) fB_one Try.underlying42 info5 rfl (by omega) hgd s x ho (F := xs) (G := ys) hs hx hF' hsv hB1 hsize ?_
  intro v' w' h1 h2 h3
  refine h v' w' ?_ h2 h3
  rw [fB_cells] at h1
  exact h1
theorem OB.ne {B V : Nat} {w : World} {v : Value} {xs : List Nat} (h : OB B w v xs) {cs : Array Value} {t : TypeId} {fz : Nat × Nat} (hV : w.heap[V]? = some (.cells cs t fz)) (ht : t ≠ 5) : v.ownBlock ≠ some V := by
  intro q
  rcases h.2 with ⟨e, _⟩ | ⟨g, cap, cur, e, _, h6, _⟩
  · rw [e] at q; cases q
  · rw [e] at q
    have q : g = V := by simpa [Value.ownBlock] using q
    subst q
    rw [h6] at hV
    simp only [Option.some.injEq, Obj.cells.injEq] at hV
    exact ht hV.2.1.symm
/-- What EncodeRow tells. -/
def rowE (l : List Val) : Int := if 3 < l.length then 2 else if keyErr l ≠ 0 then 62 else if l.any (fun x => decide (8 < rcn x.2.2)) = true then 62 else 0
def rowB (l : List Val) : List Nat := encW l.length ++ keyBytes l
theorem keyErr_zero : ∀ {l : List Val}, keyErr l = 0 → ∀ x ∈ l, x.err = 0
  | [], _, x, hx => by simp at hx
  | y :: l, h, x, hx => by
    unfold keyErr at h
    by_cases e : y.err = 0
    · rw [if_pos e] at h
      rcases List.mem_cons.1 hx with rfl | hx
      · exact e
      · exact keyErr_zero h x hx
    · rw [if_neg e] at h
      exact absurd h e
end Go.Proofs.Ytcophbkgighepaa
set_option linter.unusedVariables false
namespace Go.Proofs.Ytcophbkgighepaa
open Go.RowKit

theorem bytes_len (x : Val) (hz : x.2.2.size ≤ 1048576) : x.bytes.length ≤ 3145732 := by
  unfold Val.bytes
  cases hh : holdOf x.1 x.2.1 x.2.2 with
  | text s =>
    simp only [H.bytes, List.length_cons, List.length_append, runeB_len, hiB_len]
    cases hr : runes (bl x.2.2) with
    | none => simp
    | some rs =>
      have := runes_len hr
      rw [bl_len] at this
      simp only [Option.getD_some]
      omega
  | _ => simp [H.bytes, hiB_len]
theorem kb_le {l : List Val} (h : ∀ x ∈ l, x.2.2.size ≤ 1048576) : (keyBytes l).length ≤ l.length * 3145732 := by
  unfold keyBytes
  induction l with
  | nil => simp
  | cons y l ih =>
    have h1 := bytes_len y (h y List.mem_cons_self)
    have h2 := ih fun x hx => h x (List.mem_cons_of_mem _ hx)
    rw [List.flatMap_cons, List.length_append, List.length_cons, Nat.add_mul]
    omega
theorem SV.vs {w : World} {a : Option Addr} {n c : Nat} {l : List Val} (h : SV fV 3 w a n c l) (hn : n ≤ 1000) (hok : ∀ x ∈ l, x.ok) : VS w a n c l := by
  refine ⟨h.hl, h.hc, by omega, h.hm, hok, fun b o e i hi => ?_, fun h0 => ?_⟩
  · obtain ⟨b', o', e', _, h3⟩ := h.pl (by omega)
    rw [e] at e'
    simp only [Option.some.injEq, Addr.mk.injEq] at e'
    obtain ⟨rfl, rfl, _⟩ := e'
    obtain ⟨x, hx⟩ : ∃ x, l[i]? = some x := ⟨_, List.getElem?_eq_getElem (by rw [h.hl]; exact hi)⟩
    have hg : l.getD i (0, 0, ⟨#[]⟩) = x := by rw [List.getD_eq_getElem?_getD, hx]; rfl
    rw [hg]
    exact ⟨h3 i x hx 0 (by omega), h3 i x hx 1 (by omega), h3 i x hx 2 (by omega)⟩
  · obtain ⟨b, o, e, _⟩ := h.pl h0
    exact ⟨b, o, e⟩
/-- What EncodeRow leaves. -/
def EncR (l : List Val) (B : Nat) (e : Ending) (w' : World) : Prop := ∃ v, e = .returned (.tuple #[v, .int .i64 (rowE l)]) ∧ (rowE l = 0 → OB B w' v (rowB l)) ∧ (rowE l ≠ 0 → v = .slice none 0 0)
set_option maxRecDepth 100000 in
set_option maxHeartbeats 2000000 in
theorem encrow_any {w : World} {a : Option Addr} {n c : Nat} {l : List Val} (h : SV fV 3 w a n c l) (hn : n ≤ 1000) (hok : ∀ x ∈ l, x.ok) (hs : ∀ x ∈ l, x.2.2.size ≤ 1048576) :
    Calls Try.prog 20 #[.slice a n c] w fun e w' => EncR l w.heap.size e w' ∧ Below w.heap.size w w' := by
  have HL := hide h.hl
  by_cases h3 : 3 < n
  · have HE : Hid (rowE l = 2) := if_pos (by rw [h.hl]; exact h3)
    have x3 : (3 : Int) < (n : Int) := by omega
    clear h h3
    go_enter Try.func20, Try.ntmps20
    go_wp2
    go_ret2
    exact ⟨⟨_, by rw [HE.out]; rfl, fun q => absurd (HE.out.symm.trans q) (by decide), fun _ => rfl⟩, Below.refl _ _⟩
  · have x3 : ¬ (3 : Int) < (n : Int) := by omega
    have HE0 : Hid (rowE l = if keyErr l ≠ 0 then 62 else if l.any (fun x => decide (8 < rcn x.2.2)) = true then 62 else 0) := if_neg (by rw [h.hl]; exact h3)
    have HKL : Hid ((keyBytes l).length ≤ 9437196) := by show _ ≤ _; have := kb_le hs; rw [h.hl] at this; have : n * 3145732 ≤ 3 * 3145732 := Nat.mul_le_mul_right _ (by omega); omega
    have HKY := hide (key_any a n c l w (h.vs hn hok) (by have := HKL.out; omega))
    have HV := hide h
    have HS := hide hs
    have HN3 : Hid (n ≤ 3) := by show n ≤ 3; omega
    clear h hs hok h3
    go_enter Try.func20, Try.ntmps20
    go_wp2_with fail
    refine HKY.out.mono ?_
    rintro e w1 ⟨hk, hb1⟩
    have HB1 := hide hb1
    unfold KeyR at hk
    by_cases hke : keyErr l = 0
    · rw [if_pos hke] at hk
      obtain ⟨v1, rfl, ho1⟩ := hk
      have HO1 : Hid (OB w.heap.size w1 v1 (keyBytes l)) := ho1
      have HR : Hid (∀ x ∈ l, x.err = 0 ∧ x.2.2.size ≤ 1048576) := fun x hx => ⟨keyErr_zero hke x hx, HS.out x hx⟩
      rw [if_neg (by rw [hke]; simp)] at HE0
      have HHS := hide (val_has (HV.out.later hb1) hn HR.out)
      clear ho1 hb1 hke HKY
      obtain ⟨bb, hbb⟩ : ∃ bb, l.any (fun x => decide (8 < rcn x.2.2)) = bb := ⟨_, rfl⟩
      rw [hbb] at HHS HE0
      clear hbb
      go_wp2_with fail
      refine HHS.out.mono ?_
      rintro e w2 ⟨rfl, hb2⟩
      have HB2 : Hid (Below w.heap.size w w2) := HB1.out.trans (hb2.mono HB1.out.size)
      have HO2 := hide (HO1.out.later hb2)
      clear hb2 HHS HO1
      cases bb with
      | true =>
        have HE : Hid (rowE l = 62) := HE0.out
        go_wp2
        go_ret2
        exact ⟨⟨_, by rw [HE.out]; rfl, fun q => absurd (HE.out.symm.trans q) (by decide), fun _ => rfl⟩, HB2.out⟩
      | false =>
        have HE : Hid (rowE l = 0) := HE0.out
        have HUI := hide (uint_owns n w2 (by omega))
        go_wp2_with fail
        refine HUI.out.mono ?_
        rintro e w3 ⟨g3, c3, rfl, ho3, hb3⟩
        have HG3 : Hid ((encW n).length = grp n ∧ grp n ≤ 9) := ⟨enc_length n (grp_spec n (by omega)).1, (grp_spec n (by omega)).2.1⟩
        have HO3 : Hid (OB w2.heap.size w3 (.slice (some ⟨g3, 0, none⟩) (grp n) c3) (encW n)) := by
          show World.ownsRow _ _ _ _ _ _ _
          rw [HG3.out.1]
          exact ho3
        have HO2' := hide (HO2.out.later hb3)
        have HB3 : Hid (Below w.heap.size w w3) := HB2.out.trans (hb3.mono HB2.out.size)
        have HZ3 : Hid (w2.heap.size ≤ w3.heap.size) := hb3.size
        have HZ2 : Hid (w.heap.size ≤ w2.heap.size) := HB2.out.size
        clear ho3 hb3 HUI HO2
        go_wp2_with (at_builtin; refine wpList_app_ob rfl (.tmp 22) (.tmp 23) rfl rfl rfl HO3.out HO2'.out HZ3.out (by have := HG3.out; have := HKL.out; omega) ?_; intro v4 w4 ho4 hb4 _; have HO4 := hide ho4; have HB4 := hide hb4; clear ho4 hb4)
        go_ret2
        refine ⟨⟨v4, by rw [HE.out]; rfl, fun _ => ?_, fun q => absurd HE.out q⟩, HB3.out.trans (HB4.out.mono HZ2.out)⟩
        have h9 := HO4.out
        unfold rowB
        rw [HL.out]
        exact own_mono h9 HZ2.out
    · rw [if_neg hke] at hk
      subst hk
      rw [if_pos hke] at HE0
      have HE : Hid (rowE l = 62) := HE0.out
      have q0 : (keyErr l != 0) = true := by simp [hke]
      clear hke hb1 HKY
      generalize keyErr l = ke at *
      go_wp2
      go_ret2
      exact ⟨⟨_, by rw [HE.out]; rfl, fun q => absurd (HE.out.symm.trans q) (by decide), fun _ => rfl⟩, HB1.out⟩
end Go.Proofs.Ytcophbkgighepaa
