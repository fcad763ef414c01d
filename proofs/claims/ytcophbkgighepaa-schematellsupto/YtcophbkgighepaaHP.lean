/- The law's state; its helpers' contracts in one form. -/
import Derived.Test.YtcophbkgighepaaHO
import Derived.Test.YtcophbkgighepaaHK
import Derived.Test.YtcophbkgighepaaFW
set_option linter.unusedVariables false
namespace Go.Proofs.Ytcophbkgighepaa
open Go.RowKit

theorem hiB_lt (n s : Nat) : ∀ c ∈ hiB n s, c < 256 := by
  intro c hc
  simp only [hiB, List.mem_map] at hc
  obtain ⟨i, _, rfl⟩ := hc
  omega
theorem vbytes_lt (x : Val) : ∀ c ∈ x.bytes, c < 256 := by
  unfold Val.bytes
  cases holdOf x.1 x.2.1 x.2.2 with
  | nothing => simp [H.bytes]
  | number n =>
    intro c hc
    simp only [H.bytes, List.mem_cons] at hc
    rcases hc with rfl | hc
    · omega
    · exact hiB_lt _ _ c hc
  | text s =>
    intro c hc
    simp only [H.bytes, List.mem_cons, List.mem_append, runeB, List.mem_flatMap] at hc
    rcases hc with rfl | ⟨r, _, hc⟩ | hc
    · omega
    · exact hiB_lt _ _ c hc
    · exact hiB_lt _ _ c hc
  | truth b => intro c hc; cases b <;> simp [H.bytes, bi] at hc <;> omega
  | none => simp [H.bytes]
theorem kbytes_lt (a : List Val) : ∀ c ∈ keyBytes a, c < 256 := by
  intro c hc
  simp only [keyBytes, List.mem_flatMap] at hc
  obtain ⟨x, _, hx⟩ := hc
  exact vbytes_lt x c hx
theorem rowB_lt (l : List Val) : ∀ c ∈ rowB l, c < 256 := by
  intro c hc
  unfold rowB at hc
  rcases List.mem_append.1 hc with h | h
  · exact encW_lt _ c h
  · exact kbytes_lt l c h
theorem rowB_len {l : List Val} (hl : l.length ≤ 3) (h : ∀ x ∈ l, x.2.2.size ≤ 1048576) : (rowB l).length ≤ 100000000 := by
  have h1 := kb_le h
  have h2 := encW_len l.length (by omega)
  unfold rowB
  rw [List.length_append]
  have : l.length * 3145732 ≤ 3 * 3145732 := Nat.mul_le_mul_right _ hl
  omega
theorem rowE_zero {l : List Val} (h : rowE l = 0) : l.length ≤ 3 ∧ keyErr l = 0 := by
  unfold rowE at h
  split at h
  · omega
  · split at h
    · omega
    · rename_i h1 h2
      exact ⟨by omega, by simpa using h2⟩
/-- What came in lies where it lay, and so do the two boxes. -/
structure SS (W : World) (g4 g5 : Nat) (s : Sch) (ca : Option Addr) (cl cc : Nat) (xa : Option Addr) (xl xc : Nat) (t : Sch) (da : Option Addr) (dl dc : Nat) (ya : Option Addr) (yl yc : Nat) (a : Option Addr) (n c : Nat) (la : List Val) (b : Option Addr) (m d : Nat) (lb : List Val) (w : World) : Prop where
  k4 : w.heap[g4]? = some (.cells #[.string s.nm, .slice ca cl cc, .slice xa xl xc] 25 (0, 0))
  k5 : w.heap[g5]? = some (.cells #[.string t.nm, .slice da dl dc, .slice ya yl yc] 25 (0, 0))
  s : SC w ca cl cc xa xl xc s
  t : SC w da dl dc ya yl yc t
  a : SV fV 3 w a n c la
  b : SV fV 3 w b m d lb
  bel : Below W.heap.size W w
theorem SS.next {W w w' : World} {g4 g5 : Nat} {s : Sch} {ca : Option Addr} {cl cc : Nat} {xa : Option Addr} {xl xc : Nat} {t : Sch} {da : Option Addr} {dl dc : Nat} {ya : Option Addr} {yl yc : Nat} {a : Option Addr} {n c : Nat} {la : List Val} {b : Option Addr} {m d : Nat} {lb : List Val} (h : SS W g4 g5 s ca cl cc xa xl xc t da dl dc ya yl yc a n c la b m d lb w) (hb : Below w.heap.size w w') : SS W g4 g5 s ca cl cc xa xl xc t da dl dc ya yl yc a n c la b m d lb w' :=
  ⟨(hb.block g4 (blk_lt h.k4)).trans h.k4, (hb.block g5 (blk_lt h.k5)).trans h.k5, h.s.later hb, h.t.later hb, h.a.later hb, h.b.later hb, h.bel.trans (hb.mono h.bel.size)⟩
theorem copied5 {w : World} {ca xa : Option Addr} {cl cc xl xc : Nat} {s : Sch} (h : SC w ca cl cc xa xl xc s) :
    Calls Try.prog 6 #[.agg #[.string s.nm, .slice ca cl cc, .slice xa xl xc]] w fun e w' => ∃ ea el ec za zl zc, e = .returned (.agg #[.string s.t5.nm, .slice ea el ec, .slice za zl zc]) ∧ SC w' ea el ec za zl zc s.t5 ∧ el ≤ 5 ∧ zl ≤ 5 ∧ Below w.heap.size w w' := by
  refine (copied_ok h).mono ?_
  rintro e w' ⟨a1, a2, a3, a4, he, hs, hb⟩
  exact ⟨a1, _, a2, a3, _, a4, he, hs, by omega, by omega, hb⟩
theorem few5 {w : World} {a : Option Addr} {n c : Nat} {l : List Val} (h : SV fV 3 w a n c l) :
    Calls Try.prog 7 #[.slice a n c] w fun e w' => ∃ a' n' c', e = .returned (.slice a' n' c') ∧ SV fV 3 w' a' n' c' (l.take 5) ∧ n' ≤ 5 ∧ Below w.heap.size w w' := by
  refine (few_ok h).mono ?_
  rintro e w' ⟨a1, a2, he, hs, hb⟩
  exact ⟨a1, _, a2, he, hs, by omega, hb⟩
theorem encode5 {w : World} {ca xa : Option Addr} {cl cc xl xc : Nat} {s : Sch} (h : SC w ca cl cc xa xl xc s) :
    Calls Try.prog 19 #[.agg #[.string s.nm, .slice ca cl cc, .slice xa xl xc]] w fun e w' => ∃ ax nx cx, e = .returned (.tuple #[.slice ax nx cx, .int .i64 s.err]) ∧ (s.ok = true → BS w' ax nx cx (encS s)) ∧ Below w.heap.size w w' := by
  cases hok : s.ok with
  | false =>
    refine (encode_no h hok).mono ?_
    rintro e w' ⟨he, hb⟩
    exact ⟨none, 0, 0, by rw [he]; unfold Sch.err; rw [hok]; rfl, (fun q => nomatch q), hb⟩
  | true =>
    refine (encode_ok h hok).mono ?_
    rintro e w' ⟨v, he, ho, hb⟩
    obtain ⟨a, c, e1⟩ := OB.form ho
    subst e1
    exact ⟨a, _, c, by rw [he]; unfold Sch.err; rw [hok]; rfl, fun _ => OB.bs ho (encS_lt s) (by have := encS_len hok; omega), hb⟩
theorem encrow5 {w : World} {a : Option Addr} {n c : Nat} {l : List Val} (h : SV fV 3 w a n c l) (hn : n ≤ 5) (hok : ∀ x ∈ l, ValP x) :
    Calls Try.prog 20 #[.slice a n c] w fun e w' => ∃ ax nx cx, e = .returned (.tuple #[.slice ax nx cx, .int .i64 (rowE l)]) ∧ (rowE l = 0 → BS w' ax nx cx (rowB l)) ∧ Below w.heap.size w w' := by
  refine (encrow_any h (by omega) (fun x hx => (hok x hx).1) (fun x hx => (hok x hx).2)).mono ?_
  rintro e w' ⟨⟨v, he, h0, h1⟩, hb⟩
  by_cases hz : rowE l = 0
  · have ho := h0 hz
    obtain ⟨a, c, e1⟩ := OB.form ho
    subst e1
    exact ⟨a, _, c, he, fun _ => OB.bs ho (rowB_lt l) (rowB_len (rowE_zero hz).1 (fun x hx => (hok x hx).2)), hb⟩
  · have e1 := h1 hz
    subst e1
    exact ⟨none, 0, 0, he, fun q => absurd q hz, hb⟩
theorem same_iff {s t : Sch} (hs : s.ok = true) (ht : t.ok = true) : ((str (encS s)).toList == (str (encS t)).toList) = s.same t := by
  rw [str_beq _ _ (encS_lt s) (encS_lt t)]
  unfold Sch.same
  rw [ba_beq]
  by_cases h : encS s = encS t
  · obtain ⟨h1, h2, h3⟩ := encS_inj hs ht h
    rw [decide_eq_true h, decide_eq_true h1, decide_eq_true h2, decide_eq_true h3]
    rfl
  · rw [decide_eq_false h]
    by_cases h1 : s.nm = t.nm
    · by_cases h2 : s.cs = t.cs
      · by_cases h3 : s.xs = t.xs
        · exact absurd (by unfold encS; rw [h1, h2, h3]) h
        · rw [decide_eq_false h3]; simp
      · rw [decide_eq_false h2]; simp
    · rw [decide_eq_false h1]; simp
theorem samerow_iff {l m : List Val} (hl : rowE l = 0) (hm : rowE m = 0) (pl : ∀ x ∈ l, ValP x) (pm : ∀ x ∈ m, ValP x) : ((str (rowB l)).toList == (str (rowB m)).toList) = decide (l = m) := by
  rw [str_beq _ _ (rowB_lt l) (rowB_lt m)]
  by_cases h : rowB l = rowB m
  · rw [decide_eq_true h, decide_eq_true (rowB_inj (rowE_zero hl).1 (rowE_zero hm).1 (fun x hx => (pl x hx).1) (fun x hx => (pm x hx).1) (rowE_zero hl).2 (rowE_zero hm).2 h)]
  · rw [decide_eq_false h, decide_eq_false (fun e => h (by rw [e]))]
theorem fitsN_at {s : Sch} {l : List Val} : ∀ {n : Nat}, fitsN s l n = true → ∀ {j : Nat} {c : Col} {v : Val}, j < n → s.cs[j]? = some c → l[j]? = some v → fitsB c v = true
  | 0, _, j, c, v, hj, _, _ => by omega
  | n + 1, h, j, c, v, hj, hc, hv => by
    have h' : (fitsN s l n && (match s.cs[n]?, l[n]? with | some c, some v => fitsB c v | _, _ => true)) = true := h
    rw [Bool.and_eq_true] at h'
    by_cases e : j = n
    · subst e
      have h2 := h'.2
      rw [hc, hv] at h2
      exact h2
    · exact fitsN_at h'.1 (by omega) hc hv
theorem fold_small {s : Sch} {l : List Val} (h : s.fits l = 0) (hs : ∀ x ∈ l, x.2.2.size ≤ 1048576) : ∀ x ∈ l.map foldV, x.2.2.size ≤ 1048576 := by
  intro x hx
  obtain ⟨v, hv, rfl⟩ := List.mem_map.1 hx
  unfold foldV
  split
  · unfold Sch.fits at h
    split at h
    · cases h
    · rename_i h1
      split at h
      · cases h
      · rename_i h2
        split at h
        · cases h
        · split at h
          · rename_i h4
            obtain ⟨j, hj⟩ := List.getElem?_of_mem hv
            have hjl : j < l.length := (List.getElem?_eq_some_iff.1 hj).1
            obtain ⟨c, hc⟩ : ∃ c, s.cs[j]? = some c := ⟨_, List.getElem?_eq_getElem (by omega)⟩
            have hf := fitsN_at h4 hjl hc hj
            have hok := (Sch.parts (by simpa using h1)).2.2.2.1 j c hc
            unfold fitsB at hf
            simp only [Bool.and_eq_true, decide_eq_true_eq] at hf
            have h9 := hf.2
            show (foldS v.2.2).size ≤ 1048576
            unfold foldS
            cases hr : runes (bl v.2.2) with
            | none => simp [ByteArray.size]
            | some rs =>
              have e1 : rcn v.2.2 = rs.length := by unfold rcn; rw [hr]; rfl
              have e2 := encs_le (rs.map foldR)
              rw [List.length_map] at e2
              rw [e1] at h9
              show (encs (rs.map foldR)).toArray.size ≤ _
              rw [List.size_toArray]
              have := hok.m1
              omega
          · cases h
  · exact hs v hv
theorem same_self (s : Sch) : s.same s = true := by
  unfold Sch.same
  rw [ba_beq]
  simp
end Go.Proofs.Ytcophbkgighepaa
set_option linter.unusedVariables false
namespace Go.Proofs.Ytcophbkgighepaa
open Go.RowKit

set_option maxRecDepth 100000 in
set_option maxHeartbeats 4000000 in
theorem sfold_own {w : World} {ca xa : Option Addr} {cl cc xl xc : Nat} {nm : ByteArray} {a : Option Addr} {n c : Nat} {l : List Val} (h : SV fV 3 w a n c l) (hn : n ≤ 1000) (hs : ∀ x ∈ l, x.2.2.size ≤ 1048576) :
    Calls Try.prog 9 #[.agg #[.string nm, .slice ca cl cc, .slice xa xl xc], .slice a n c] w fun e w' => ∃ a' c', e = .returned (.slice a' n c') ∧ w'.ownsRow w.heap.size 39 3 (.slice a' n c') n ((l.map foldV).flatMap fV) ∧ Below w.heap.size w w' := by
  have hbx := below_box w (.cells #[.string nm, .slice ca cl cc, .slice xa xl xc] 25)
  have HCL := hide (vclone_ok (h.later hbx) hn)
  have HL := hide h.hl
  have HS := hide hs
  have HB1 := hide hbx
  clear h hbx hs
  go_enter Try.func9, Try.ntmps9
  go_wp2_with fail
  refine HCL.out.mono ?_
  rintro e w2 ⟨v2, rfl, ho2, hb2⟩
  have HN0 : Hid (w.heap.size ≤ w2.heap.size) := Nat.le_trans HB1.out.size hb2.size
  have HO2 : Hid (w2.ownsRow w.heap.size 39 3 v2 n (l.flatMap fV)) := own_mono ho2 HB1.out.size
  have HB2 : Hid (Below w.heap.size w w2) := HB1.out.trans (hb2.mono HB1.out.size)
  obtain ⟨a2, c2, e2, hsv2⟩ := own_sv fV_len ho2 HL.out
  subst e2
  clear ho2 hb2 hsv2 HCL HB1
  generalize hn0 : w.heap.size = n0 at *
  go_wp2_with fail
  go_loopg [12] n (fun gh s12 wx => ∃ j : Nat, j + gh = n ∧ s12 = .int .i64 (j : Int) ∧ wx.ownsRow n0 39 3 (.slice a2 n c2) n (((l.take j).map foldV ++ l.drop j).flatMap fV) ∧ Below n0 w wx)
  case atStart => exact ⟨0, by omega, rfl, by simpa using HO2.out, HB2.out⟩
  case round =>
    obtain ⟨j, hj, rfl, hor, hbr⟩ := hrel
    have HOR := hide hor
    have HBR := hide hbr
    clear hor hbr
    by_cases hjn : j < n
    · have xj : (j : Int) < (n : Int) := by omega
      obtain ⟨x, hxj⟩ : ∃ x, l[j]? = some x := ⟨_, List.getElem?_eq_getElem (by rw [HL.out]; exact hjn)⟩
      have hlj : ((l.take j).map foldV).length = j := by rw [List.length_map, List.length_take, HL.out]; omega
      have HAT : Hid (((l.take j).map foldV ++ l.drop j)[j]? = some x) := by
        show _ = _
        rw [List.getElem?_append_right (by omega), hlj, Nat.sub_self, List.getElem?_drop, Nat.add_zero]
        exact hxj
      have HNX : Hid (((l.take j).map foldV ++ l.drop j).set j (foldV x) = (l.take (j + 1)).map foldV ++ l.drop (j + 1)) := by
        show _ = _
        have hd : l.drop j = x :: l.drop (j + 1) := by
          rw [List.drop_eq_getElem_cons (by rw [HL.out]; exact hjn)]
          congr 1
          exact (List.getElem?_eq_some_iff.1 hxj).2
        rw [List.set_append_right _ _ (by omega), hlj, Nat.sub_self, List.take_add_one, hxj, hd, List.set_cons_zero]
        simp
      have HSX : Hid (x.2.2.size ≤ 1048576) := HS.out x (List.mem_of_getElem? hxj)
      obtain ⟨aa, ac, ea, hsv⟩ := own_sv fV_len HOR.out (by rw [List.length_append, hlj, List.length_drop, HL.out]; omega)
      simp only [Value.slice.injEq] at ea
      obtain ⟨rfl, _, rfl⟩ := ea
      obtain ⟨g, o, e0, hg, hcs⟩ := hsv.pl (by omega)
      have ho0 : o = 0 := by
        rcases HOR.out.2 with ⟨e, _⟩ | ⟨g', cap', cur, e, _⟩
        · rw [e0] at e; cases e
        · rw [e0] at e
          simp only [Value.slice.injEq, Option.some.injEq, Addr.mk.injEq] at e
          exact e.1.2.1
      subst ho0 e0
      have y0 : wr.cell? ⟨g, j * 3, none⟩ = some (.int .i64 x.1) := by have := hcs j x HAT.out 0 (by omega); simpa [fV] using this
      have y1 : wr.cell? ⟨g, j * 3 + 1, none⟩ = some (.int .i64 x.2.1) := by have := hcs j x HAT.out 1 (by omega); simpa [fV] using this
      have y2 : wr.cell? ⟨g, j * 3 + 2, none⟩ = some (.string x.2.2) := by have := hcs j x HAT.out 2 (by omega); simpa [fV] using this
      have hbk := below_box wr (.cells #[.int .i64 x.1, .int .i64 x.2.1, .string x.2.2] 39)
      have HR3 : Hid ((wr.alloc (.cells #[.int .i64 x.1, .int .i64 x.2.1, .string x.2.2] 39)).heap[wr.heap.size]? = some (.cells #[.int .i64 x.1, .int .i64 x.2.1, .string x.2.2] 39 (0, 0))) := boxed wr _
      have HO3 := hide (ownsRow_later HOR.out hbk)
      have HNR : Hid (n0 ≤ wr.heap.size) := by show n0 ≤ _; have := HBR.out.size; omega
      have HB3 : Hid (Below n0 w (wr.alloc (.cells #[.int .i64 x.1, .int .i64 x.2.1, .string x.2.2] 39))) := HBR.out.trans (hbk.mono HNR.out)
      have HLT : Hid (g < wr.heap.size) := hg
      clear hcs hsv hbk hlj hg
      by_cases hk2 : x.1 = 2
      · have HFV : Hid (fV (foldV x) = (fV x).set 2 (.string (foldS x.2.2))) := by show fV (foldV x) = _; unfold foldV; rw [if_pos hk2]; rfl
        have hk2' : (x.1 == 2) = true := by rw [hk2]; rfl
        clear hk2
        go_upto_region 5 with fail
        generalize (wr.alloc (.cells #[.int .i64 x.1, .int .i64 x.2.1, .string x.2.2] 39)) = w3 at *
        have z0 : w3.cell? ⟨wr.heap.size, 0, none⟩ = some (.int .i64 x.1) := cell_blk HR3.out
        have z2 : w3.cell? ⟨wr.heap.size, 2, none⟩ = some (.string x.2.2) := cell_blk HR3.out
        have HFD := hide (fold_any x.2.2 w3 HSX.out)
        go_wp2_with fail
        refine HFD.out.mono ?_
        rintro e w4 ⟨rfl, hb4⟩
        have HO4 := hide (ownsRow_later HO3.out hb4)
        have HB4 : Hid (Below n0 w w4) := HB3.out.trans (hb4.mono (by have := blk_lt HR3.out; have := HNR.out; omega))
        obtain ⟨cur, hcur⟩ : ∃ cur, w4.heap[g]? = some (.cells cur 39 (0, 0)) := by
          rcases HO4.out.2 with ⟨e, _⟩ | ⟨g', cap', cur, e, _, h6, _⟩
          · cases e
          · simp only [Value.slice.injEq, Option.some.injEq, Addr.mk.injEq] at e
            rw [e.1.1]
            exact ⟨cur, h6⟩
        have f2 : w4.frozen? ⟨g, j * 3 + 2, none⟩ = false := frz_blk hcur
        have q2 : w4.cell? ⟨g, j * 3 + 2, none⟩ = some (.string x.2.2) := by
          obtain ⟨aa, ac, ea, hsv⟩ := own_sv fV_len HO4.out (by rw [List.length_append, List.length_map, List.length_take, List.length_drop, HL.out]; omega)
          simp only [Value.slice.injEq] at ea
          obtain ⟨rfl, _, rfl⟩ := ea
          obtain ⟨g', o', e0, _, hcs⟩ := hsv.pl (by omega)
          simp only [Option.some.injEq, Addr.mk.injEq] at e0
          obtain ⟨rfl, rfl, _⟩ := e0
          have := hcs j x HAT.out 2 (by omega)
          simpa [fV] using this
        have HO5 : Hid ((w4.setCell ⟨g, j * 3 + 2, none⟩ (.string (foldS x.2.2))).ownsRow n0 39 3 (.slice (some ⟨g, 0, none⟩) n c2) n (((l.take (j + 1)).map foldV ++ l.drop (j + 1)).flatMap fV)) := by
          have h9 := own_set (u := .string (foldS x.2.2)) (i := j * 3 + 2) HO4.out (by omega)
          rw [fl_set fV_len (by omega) HAT.out HFV.out, HNX.out] at h9
          exact h9
        have hge : n0 ≤ g := by
          rcases HO4.out.2 with ⟨e, _⟩ | ⟨g', cap', cur, e, h5, _⟩
          · cases e
          · simp only [Value.slice.injEq, Option.some.injEq, Addr.mk.injEq] at e
            rw [e.1.1]; exact h5
        have HB5 : Hid (Below n0 w (w4.setCell ⟨g, j * 3 + 2, none⟩ (.string (foldS x.2.2)))) := HB4.out.setCell (p := ⟨g, j * 3 + 2, none⟩) hge _
        clear hb4 hcur hge HFD
        go_wp2
        go_roundg (gk - 1)
        case measure => omega
        case rel => exact ⟨j + 1, by omega, rfl, HO5.out, HB5.out⟩
      · have HFV : Hid (foldV x = x) := if_neg hk2
        have hk2' : (x.1 == 2) = false := by simp [hk2]
        have HO5 : Hid ((wr.alloc (.cells #[.int .i64 x.1, .int .i64 x.2.1, .string x.2.2] 39)).ownsRow n0 39 3 (.slice (some ⟨g, 0, none⟩) n c2) n (((l.take (j + 1)).map foldV ++ l.drop (j + 1)).flatMap fV)) := by
          have h9 := HO3.out
          rw [← HNX.out, HFV.out]
          rw [show ((l.take j).map foldV ++ l.drop j).set j x = (l.take j).map foldV ++ l.drop j from by
            apply List.ext_getElem?
            intro t
            rw [List.getElem?_set]
            split
            · rename_i q
              subst q
              rw [if_pos (List.getElem?_eq_some_iff.1 HAT.out).1, HAT.out]
            · rfl]
          exact h9
        clear hk2
        go_wp2
        go_roundg (gk - 1)
        case measure => omega
        case rel => exact ⟨j + 1, by omega, rfl, HO5.out, HB3.out⟩
    · have xj : ¬ (j : Int) < (n : Int) := by omega
      have ej : j = n := by omega
      have HE : Hid ((l.take j).map foldV ++ l.drop j = l.map foldV) := by
        show _ = _
        rw [ej, ← HL.out, List.take_length, List.drop_length, List.append_nil]
      have h9 := HOR.out
      rw [HE.out] at h9
      obtain ⟨aa, ac, ea, hsv⟩ := own_sv fV_len h9 (by rw [List.length_map]; exact HL.out)
      simp only [Value.slice.injEq] at ea
      obtain ⟨rfl, _, rfl⟩ := ea
      have HSV := hide h9
      clear hsv h9 ej
      go_wp2
      go_ret
      exact ⟨a2, c2, rfl, by first | exact HSV.out | (rw [hn0]; exact HSV.out), by first | exact HBR.out | (rw [hn0]; exact HBR.out)⟩
/-- A row that is owned, cell by cell. -/
theorem own_any {B te n g c : Nat} {w : World} {xs : List Value} (h : w.ownsRow B te 3 (.slice (some ⟨g, 0, none⟩) n c) n xs) : B ≤ g ∧ ∀ i, i < n * 3 → w.frozen? ⟨g, i, none⟩ = false ∧ ∃ u, w.cell? ⟨g, i, none⟩ = some u := by
  rcases h.2 with ⟨e, _⟩ | ⟨g', cap, cur, e, h5, h6, h7, h8, h9, h10⟩
  · cases e
  · simp only [Value.slice.injEq, Option.some.injEq, Addr.mk.injEq] at e
    obtain ⟨⟨rfl, _⟩, _, rfl⟩ := e
    refine ⟨h5, fun i hi => ⟨frz_blk h6, ?_⟩⟩
    rw [cell_blk h6]
    have : i < cur.size := by
      have h11 := h.1
      rw [← h10, List.length_take] at h11
      have : cur.toList.length = cur.size := by simp
      omega
    exact ⟨_, Array.getElem?_eq_getElem this⟩
theorem own_put {B te n g c j : Nat} {w : World} {xs : List Value} (h : w.ownsRow B te 3 (.slice (some ⟨g, 0, none⟩) n c) n xs) (hj : j < n) (x y z : Value) : ∃ ys, (((w.setCell ⟨g, j * 3, none⟩ x).setCell ⟨g, j * 3 + 1, none⟩ y).setCell ⟨g, j * 3 + 2, none⟩ z).ownsRow B te 3 (.slice (some ⟨g, 0, none⟩) n c) n ys :=
  ⟨_, own_set (own_set (own_set h (by omega)) (by omega)) (by omega)⟩
end Go.Proofs.Ytcophbkgighepaa
set_option linter.unusedVariables false
namespace Go.Proofs.Ytcophbkgighepaa
open Go.RowKit

/-- What is read of bytes, and where the reader stands behind each part. -/
structure RP (xs : List Nat) (s : Sch) (P0 : Nat) (PC PX : Nat → Nat) : Prop where
  nm : str (rbS xs 0 8) = s.nm
  p0 : rbP xs 0 8 = P0
  cn : min (ruN xs (P0 : Int)) 3 = s.cs.length
  c0 : ruP xs (P0 : Int) = PC 0
  col : ∀ (j : Nat) (c : Col), s.cs[j]? = some c → ∃ kk mm p1 p2 : Nat, str (rbS xs ((PC j : Nat) : Int) 8) = c.1 ∧ rbP xs ((PC j : Nat) : Int) 8 = p1 ∧ ruN xs (p1 : Int) = kk ∧ ruP xs (p1 : Int) = p2 ∧ ruN xs (p2 : Int) = mm ∧ ruP xs (p2 : Int) = PC (j + 1) ∧ c.2.1 = (kk : Int) ∧ c.2.2 = (mm : Int)
  xn : min (ruN xs ((PC s.cs.length : Nat) : Int)) 3 = s.xs.length
  x0 : ruP xs ((PC s.cs.length : Nat) : Int) = PX 0
  ix : ∀ (j : Nat) (x : Idx), s.xs[j]? = some x → ∃ kk mm p1 : Nat, ruN xs ((PX j : Nat) : Int) = kk ∧ ruP xs ((PX j : Nat) : Int) = p1 ∧ ruN xs (p1 : Int) = mm ∧ ruP xs (p1 : Int) = PX (j + 1) ∧ x.1 = (kk : Int) ∧ ((mm : Int) == 1) = x.2
def stepC (xs : List Nat) (p : Nat) : Nat := ruP xs ((ruP xs ((rbP xs (p : Int) 8 : Nat) : Int) : Nat) : Int)
def stepX (xs : List Nat) (p : Nat) : Nat := ruP xs ((ruP xs (p : Int) : Nat) : Int)
def posn (f : Nat → Nat) (p : Nat) : Nat → Nat
  | 0 => p
  | j + 1 => f (posn f p j)
theorem rp_ex (xs : List Nat) : ∃ s P0 PC PX, RP xs s P0 PC PX := by
  obtain ⟨P0, hP0⟩ : ∃ p, rbP xs 0 8 = p := ⟨_, rfl⟩
  obtain ⟨PC, hPC⟩ : ∃ f, f = posn (stepC xs) (ruP xs (P0 : Int)) := ⟨_, rfl⟩
  obtain ⟨cl, hcl⟩ : ∃ k, min (ruN xs (P0 : Int)) 3 = k := ⟨_, rfl⟩
  obtain ⟨PX, hPX⟩ : ∃ f, f = posn (stepX xs) (ruP xs ((PC cl : Nat) : Int)) := ⟨_, rfl⟩
  obtain ⟨xl, hxl⟩ : ∃ k, min (ruN xs ((PC cl : Nat) : Int)) 3 = k := ⟨_, rfl⟩
  refine ⟨⟨str (rbS xs 0 8), (List.range cl).map (fun j => (str (rbS xs ((PC j : Nat) : Int) 8), ((ruN xs ((rbP xs ((PC j : Nat) : Int) 8 : Nat) : Int) : Nat) : Int), ((ruN xs ((ruP xs ((rbP xs ((PC j : Nat) : Int) 8 : Nat) : Int) : Nat) : Int) : Nat) : Int))), (List.range xl).map (fun j => (((ruN xs ((PX j : Nat) : Int) : Nat) : Int), (((ruN xs ((ruP xs ((PX j : Nat) : Int) : Nat) : Int) : Nat) : Int) == 1)))⟩, P0, PC, PX, ⟨rfl, hP0, by simpa using hcl, by rw [hPC]; rfl, fun j c hc => ?_, by simpa using hxl, by rw [hPX]; simp [posn], fun j x hx => ?_⟩⟩
  · dsimp only at hc
    rw [List.getElem?_map] at hc
    obtain ⟨i, hi, rfl⟩ := Option.map_eq_some_iff.1 hc
    have e : i = j := by
      have := (List.getElem?_eq_some_iff.1 hi).2
      simpa using this.symm
    subst e
    refine ⟨_, _, _, _, rfl, rfl, rfl, rfl, rfl, ?_, rfl, rfl⟩
    rw [hPC]
    rfl
  · dsimp only at hx
    rw [List.getElem?_map] at hx
    obtain ⟨i, hi, rfl⟩ := Option.map_eq_some_iff.1 hx
    have e : i = j := by
      have := (List.getElem?_eq_some_iff.1 hi).2
      simpa using this.symm
    subst e
    refine ⟨_, _, _, rfl, rfl, rfl, ?_, rfl, rfl⟩
    rw [hPX]
    rfl
theorem BS.zero {w w' : World} {a : Option Addr} {c : Nat} {xs : List Nat} (h : BS w a 0 c xs) : BS w' a 0 c xs := ⟨h.hlen, h.hcap, h.hroom, h.hmax, h.hbyte, h.hnil, fun x hx i hi => by omega⟩
theorem bs_rd0 {rb n c : Nat} {a : Option Addr} {xs : List Nat} {w w' : World} (h : BS w a n c xs) (hf : RdF rb w w') (ha : ∀ b o, a = some ⟨b, o, none⟩ → 0 < n → b ≠ rb) : BS w' a n c xs := by
  cases n with
  | zero => exact h.zero
  | succ n => exact bs_rd h hf fun b o q => ha b o q (by omega)
theorem bs_put0 {b i n c : Nat} {a : Option Addr} {xs : List Nat} {u : Value} {w : World} (h : BS w a n c xs) (ha : ∀ b' o, a = some ⟨b', o, none⟩ → 0 < n → b' ≠ b) : BS (w.setCell ⟨b, i, none⟩ u) a n c xs := by
  cases n with
  | zero => exact h.zero
  | succ n => exact bs_put h fun b o q => ha b o q (by omega)
/-- What the first loop of schema keeps. -/
structure ID (rb N S0 g cl n c : Nat) (a : Option Addr) (s : Sch) (xs : List Nat) (PC : Nat → Nat) (w : World) (j : Nat) (wx : World) : Prop where
  rd : RDR rb a n c ((PC j : Nat) : Int) wx
  sb : wx.heap[S0]? = some (.cells #[.string s.nm, .slice (some ⟨g, 0, none⟩) cl cl, .slice none 0 0] 25 (0, 0))
  zb : wx.heap[N]? = some (.cells #[.string ⟨#[]⟩, .slice none 0 0, .slice none 0 0] 25 (0, 0))
  ow : wx.ownsRow g 59 3 (.slice (some ⟨g, 0, none⟩) cl cl) cl ((rowJ z1 s.cs j).flatMap fC)
  fr : RdF rb w wx
  bs : BS wx a n c xs
theorem ID.drew {rb N S0 g cl n c : Nat} {a : Option Addr} {s : Sch} {xs : List Nat} {PC : Nat → Nat} {w : World} {j : Nat} {wx : World} (h : ID rb N S0 g cl n c a s xs PC w j wx) : ID rb N S0 g cl n c a s xs PC w j wx.drew := ⟨h.rd, h.sb, h.zb, ownsRow_later h.ow (Below.refl _ _).drew, ⟨⟨h.fr.bel.os, h.fr.bel.tape, h.fr.bel.output, h.fr.bel.size, h.fr.bel.block⟩, h.fr.oth⟩, h.bs.later (Below.refl _ _).drew (Nat.le_refl _)⟩
/-- What the second loop of schema keeps. -/
structure IY (rb N S0 g g2 cl xl n c : Nat) (a : Option Addr) (s : Sch) (xs : List Nat) (PX : Nat → Nat) (w : World) (j : Nat) (wx : World) : Prop where
  rd : RDR rb a n c ((PX j : Nat) : Int) wx
  sb : wx.heap[S0]? = some (.cells #[.string s.nm, .slice (some ⟨g, 0, none⟩) cl cl, .slice (some ⟨g2, 0, none⟩) xl xl] 25 (0, 0))
  zb : wx.heap[N]? = some (.cells #[.string ⟨#[]⟩, .slice none 0 0, .slice none 0 0] 25 (0, 0))
  oc : wx.ownsRow g 59 3 (.slice (some ⟨g, 0, none⟩) cl cl) cl (s.cs.flatMap fC)
  ow : wx.ownsRow g2 61 2 (.slice (some ⟨g2, 0, none⟩) xl xl) xl ((rowJ zx s.xs j).flatMap fX)
  fr : RdF rb w wx
  bs : BS wx a n c xs
theorem IY.drew {rb N S0 g g2 cl xl n c : Nat} {a : Option Addr} {s : Sch} {xs : List Nat} {PX : Nat → Nat} {w : World} {j : Nat} {wx : World} (h : IY rb N S0 g g2 cl xl n c a s xs PX w j wx) : IY rb N S0 g g2 cl xl n c a s xs PX w j wx.drew := ⟨h.rd, h.sb, h.zb, ownsRow_later h.oc (Below.refl _ _).drew, ownsRow_later h.ow (Below.refl _ _).drew, ⟨⟨h.fr.bel.os, h.fr.bel.tape, h.fr.bel.output, h.fr.bel.size, h.fr.bel.block⟩, h.fr.oth⟩, h.bs.later (Below.refl _ _).drew (Nat.le_refl _)⟩
set_option maxRecDepth 100000 in
set_option maxHeartbeats 8000000 in
theorem rschema_any {rb n c : Nat} {a : Option Addr} {s : Sch} {xs : List Nat} {P0 : Nat} {PC PX : Nat → Nat} {w : World} (h : RDR rb a n c 0 w) (hb : BS w a n c xs) (hrp : RP xs s P0 PC PX) (har : ∀ b o, a = some ⟨b, o, none⟩ → 0 < n → b ≠ rb) :
    Calls Try.prog 43 #[.pointer (some ⟨rb, 0, none⟩)] w fun e w' => ∃ ca cc xa xc, e = .returned (.agg #[.string s.nm, .slice ca s.cs.length cc, .slice xa s.xs.length xc]) ∧ SC w' ca s.cs.length cc xa s.xs.length xc s ∧ RdF rb w w' ∧ (∀ b o, ca = some ⟨b, o, none⟩ → w.heap.size ≤ b) ∧ ∀ b o, xa = some ⟨b, o, none⟩ → w.heap.size ≤ b := by
  have HRP := hide hrp
  have HBY := hide hb
  have HAR := hide har
  have HAN : Hid (∀ b o, a = some ⟨b, o, none⟩ → 0 < n → b < w.heap.size) := by
    intro b o q hpos
    have := cell_lt (hb.hcell _ q 0 hpos)
    simpa [Addr.add] using this
  obtain ⟨cl, hcl⟩ : ∃ k, s.cs.length = k := ⟨_, rfl⟩
  obtain ⟨xl, hxl⟩ : ∃ k, s.xs.length = k := ⟨_, rfl⟩
  have HCL := hide hcl
  have HXL := hide hxl
  have hcl3 : cl ≤ 3 := by rw [← hcl, ← HRP.out.cn]; omega
  have hxl3 : xl ≤ 3 := by rw [← hxl, ← HRP.out.xn]; omega
  have HRB : Hid (rb < w.heap.size) := blk_lt h
  have hbz := below_box w (.cells #[.string ⟨#[]⟩, .slice none 0 0, .slice none 0 0] 25)
  have HZ1 : Hid ((w.alloc (.cells #[.string ⟨#[]⟩, .slice none 0 0, .slice none 0 0] 25)).heap[w.heap.size]? = some (.cells #[.string ⟨#[]⟩, .slice none 0 0, .slice none 0 0] 25 (0, 0))) := boxed w _
  have HR1 : Hid (RDR rb a n c 0 (w.alloc (.cells #[.string ⟨#[]⟩, .slice none 0 0, .slice none 0 0] 25))) := (hbz.block rb (blk_lt h)).trans h
  have HB1 := hide (hb.later hbz (Nat.le_refl _))
  have HF1 : Hid (RdF rb w (w.alloc (.cells #[.string ⟨#[]⟩, .slice none 0 0, .slice none 0 0] 25))) := RdF.of hbz (by have := HRB.out; omega)
  rw [hcl, hxl]
  clear h hb hrp har hbz hcl hxl
  go_enter Try.func43, Try.ntmps43
  go_upto_region 1 with fail
  generalize w.alloc (.cells #[.string ⟨#[]⟩, .slice none 0 0, .slice none 0 0] 25) = w1 at *
  generalize hN : w.heap.size = N at *
  have HC1 := hide (rname_any HR1.out HB1.out)
  rw [HRP.out.nm, HRP.out.p0] at HC1
  go_wp2_with fail
  refine HC1.out.mono ?_
  rintro e w2 ⟨rfl, hr2, hf2⟩
  have HF2 := hide (HF1.out.trans hf2)
  have HR2 := hide hr2
  have HB2 := hide (bs_rd0 HB1.out hf2 HAR.out)
  have HZ2 := hide ((hf2.oth N (blk_lt HZ1.out) (by have := HRB.out; omega)).trans HZ1.out)
  clear hr2 hf2 HC1 HR1 HB1 HZ1
  have hb3 := below_box w2 (.cells #[.string s.nm, .slice none 0 0, .slice none 0 0] 25)
  have HS3 : Hid ((w2.alloc (.cells #[.string s.nm, .slice none 0 0, .slice none 0 0] 25)).heap[w2.heap.size]? = some (.cells #[.string s.nm, .slice none 0 0, .slice none 0 0] 25 (0, 0))) := boxed w2 _
  have HR3 : Hid (RDR rb a n c (P0 : Int) (w2.alloc (.cells #[.string s.nm, .slice none 0 0, .slice none 0 0] 25))) := (hb3.block rb (blk_lt HR2.out)).trans HR2.out
  have HZ3 := hide ((hb3.block N (blk_lt HZ2.out)).trans HZ2.out)
  have HB3 := hide (HB2.out.later hb3 (Nat.le_refl _))
  have HF3 := hide (HF2.out.trans (RdF.of hb3 (by have := blk_lt HR2.out; omega)))
  have HNS : Hid (N < w2.heap.size ∧ rb < w2.heap.size) := ⟨blk_lt HZ2.out, blk_lt HR2.out⟩
  clear hb3 HR2 HB2 HZ2
  go_upto_region 2 with fail
  generalize w2.alloc (.cells #[.string s.nm, .slice none 0 0, .slice none 0 0] 25) = w3 at *
  generalize w2.heap.size = S0 at *
  have HC3 := hide (rcount_any HR3.out HB3.out)
  rw [HRP.out.cn, HCL.out, HRP.out.c0] at HC3
  go_wp2_with fail
  refine HC3.out.mono ?_
  rintro e w4 ⟨rfl, hr4, hf4⟩
  have HF4 := hide (HF3.out.trans hf4)
  have HR4 := hide hr4
  have HB4 := hide (bs_rd0 HB3.out hf4 HAR.out)
  have HS4 := hide ((hf4.oth S0 (blk_lt HS3.out) (by have := HNS.out; omega)).trans HS3.out)
  have HZ4 := hide ((hf4.oth N (blk_lt HZ3.out) (by have := HRB.out; omega)).trans HZ3.out)
  clear hr4 hf4 HC3 HR3 HB3 HS3 HZ3
  obtain ⟨i0, hi, hz0, hz1', hz2⟩ := info_parts info_col
  go_upto_region 3 with (refine wpList_make_full w4 rfl _ _ 22 rfl w4.heap.size 59 i0 (.agg #[.string ⟨#[]⟩, .int .i64 0, .int .i64 0]) 3 Try.underlying22 hi hz0 hz1' .i64 .i64 (cl : Int) (cl : Int) cl rfl rfl rfl rfl (by rw [hz2]; omega) (by unfold maxLen; omega) (Nat.le_refl _) ?_; intro w5 ho5 hg5; rw [made_col hcl3] at ho5; have HO5 := hide ho5; have HG5 := hide ((Below.refl w4.heap.size w4).grown hg5 (Nat.le_refl _) (fun k hk => by cases hk)); clear ho5 hg5; have x1 : w5.cell? ⟨S0, 1, none⟩ = some (.slice none 0 0) := cell_blk ((HG5.out.block S0 (blk_lt HS4.out)).trans HS4.out); have xf1 : w5.frozen? ⟨S0, 1, none⟩ = false := frz_blk ((HG5.out.block S0 (blk_lt HS4.out)).trans HS4.out))
  clear x1 xf1
  have hgs : S0 < w4.heap.size := blk_lt HS4.out
  have hgr : rb < w4.heap.size := blk_lt HR4.out
  have hgn : N < w4.heap.size := blk_lt HZ4.out
  have HIC : Hid (ID rb N S0 w4.heap.size cl n c a s xs PC w 0 (w5.setCell ⟨S0, 1, none⟩ (.slice (some ⟨w4.heap.size, 0, none⟩) cl cl))) := by
    have hg5 := HG5.out
    have hns := HNS.out
    refine ⟨?_, heap_setCell_same _ _ _ _ _ _ ((hg5.block S0 hgs).trans HS4.out), ?_, ?_, ?_, ?_⟩
    · exact (heap_setCell_other _ _ _ _ (show rb ≠ S0 by omega)).trans ((hg5.block rb hgr).trans HR4.out)
    · exact (heap_setCell_other _ _ _ _ (show N ≠ S0 by omega)).trans ((hg5.block N hgn).trans HZ4.out)
    · have h9 := HO5.out
      rw [rowJ_zero, HCL.out]
      exact ownsRow_setCell_other h9 (by show some w4.heap.size ≠ some S0; simp; omega) _
    · exact (HF4.out.trans (RdF.of hg5 (by omega))).put (by rw [hN]; omega) (by omega) 1 _
    · refine bs_put0 (HB4.out.later hg5 (Nat.le_refl _)) fun b' o q hpz => ?_
      have h8 := HAN.out b' o q hpz
      first | omega | (rw [hN] at h8; omega)
  clear HO5 HG5 HR4 HS4 HZ4 HB4 HF4 hi hz0 hz1' hz2
  generalize (w5.setCell ⟨S0, 1, none⟩ (.slice (some ⟨w4.heap.size, 0, none⟩) cl cl)) = w6 at *
  generalize w4.heap.size = g at *
  have HSG : Hid (S0 ≠ g) := by show S0 ≠ g; omega
  have HSR : Hid (S0 ≠ rb) := by show S0 ≠ rb; have := HNS.out; omega
  have HGR : Hid (rb < g ∧ N < g ∧ N ≤ S0) := ⟨hgr, hgn, by have := HNS.out; omega⟩
  have x1 : w6.cell? ⟨S0, 1, none⟩ = some (.slice (some ⟨g, 0, none⟩) cl cl) := cell_blk HIC.out.sb
  go_wp2_with fail
  clear x1
  go_loopg [16] cl (fun gh s16 wx => ∃ j : Nat, j + gh = cl ∧ s16 = .int .i64 (j : Int) ∧ ID rb N S0 g cl n c a s xs PC w j wx)
  case atStart => exact ⟨0, by omega, rfl, HIC.out⟩
  case round =>
    obtain ⟨j, hj, rfl, hic⟩ := hrel
    have HI := hide hic
    clear hic
    by_cases hjn : j < cl
    · have xj : (j : Int) < (cl : Int) := by omega
      have xj4 : (j : Int) < 4 := by omega
      obtain ⟨cj, hcj⟩ : ∃ c, s.cs[j]? = some c := ⟨_, List.getElem?_eq_getElem (by rw [HCL.out]; exact hjn)⟩
      obtain ⟨kk, mm, p1, p2, n1, n2, n3, n4, n5, n6, n7, n8⟩ := HRP.out.col j cj hcj
      have HNX := hide (rowJ_next (z := z1) hcj)
      have HATZ : Hid ((rowJ z1 s.cs j)[j]? = some z1) := rowJ_at (by rw [HCL.out]; exact hjn)
      obtain ⟨cn, ck, cm⟩ := cj
      dsimp only at n1 n7 n8
      subst n7 n8
      have HNM : Hid (str (rbS xs ((PC j : Nat) : Int) 8) = cn ∧ rbP xs ((PC j : Nat) : Int) 8 = p1) := ⟨n1, n2⟩
      have HKN : Hid (ruN xs (p1 : Int) = kk ∧ ruP xs (p1 : Int) = p2) := ⟨n3, n4⟩
      have HMN : Hid (ruN xs (p2 : Int) = mm ∧ ruP xs (p2 : Int) = PC (j + 1)) := ⟨n5, n6⟩
      clear n1 n2 n3 n4 n5 n6
      have HRD := hide HI.out.drew.rd
      have HBD := hide HI.out.drew.bs
      have HSD := hide HI.out.drew.sb
      have HOD := hide HI.out.drew.ow
      have HX : Hid ((fun wx => wx.cell? ⟨S0, 1, none⟩ = some (.slice (some ⟨g, 0, none⟩) cl cl)) wr.drew) := cell_blk HSD.out
      clear hcj
      go_upto_region 6 with fail
      refine wp_region_noPanic ?_
      refine wp_region_held_drew (S := fun wx => wx.cell? ⟨S0, 1, none⟩ = some (.slice (some ⟨g, 0, none⟩) cl cl)) (by kernel_rfl) HX.out (fun hHeld => ?_)
      refine wpAnyH_takeAt (i := 0) (d := 19) (v := ?va0) (by kernel_rfl) (by kernel_rfl) (by kernel_rfl) (by kernel_rfl) (fun _ _ _ h => h) ?hya0 (by assumption) ?resta0
      case hya0 =>
        intro oi ho
        simp only [List.getElem?_toArray, List.getElem?_cons_zero, Option.some.injEq] at ho
        subst ho
        refine Or.inl ⟨by rfl, ?_⟩
        intro wx hSw
        try dsimp only at hSw
        go_simp
        try rfl
      try simp only [Act.put, List.setIfInBounds_toArray, List.set_cons_zero, List.set_cons_succ]
      refine wpAnyH_takeAt (i := 1) (d := 20) (v := ?va1) (by kernel_rfl) (by kernel_rfl) (by kernel_rfl) (by kernel_rfl) (fun _ _ _ h => h) ?hya1 (by assumption) ?resta1
      case hya1 =>
        intro oi ho
        simp only [List.getElem?_toArray, List.getElem?_cons_succ, List.getElem?_cons_zero, Option.some.injEq] at ho
        subst ho
        refine Or.inl ⟨by rfl, ?_⟩
        intro wx hSw
        try dsimp only at hSw
        go_simp
        try rfl
      try simp only [Act.put, List.setIfInBounds_toArray, List.set_cons_zero, List.set_cons_succ]
      refine wpAnyH_takeAt (i := 2) (d := 21) (v := ?va2) (by kernel_rfl) (by kernel_rfl) (by kernel_rfl) (by kernel_rfl) (fun _ _ _ h => h) ?hya2 (by assumption) ?resta2
      case hya2 =>
        intro oi ho
        simp only [List.getElem?_toArray, List.getElem?_cons_succ, List.getElem?_cons_zero, Option.some.injEq] at ho
        subst ho
        refine Or.inl ⟨by rfl, ?_⟩
        intro wx hSw
        try dsimp only at hSw
        go_simp
        try rfl
      try simp only [Act.put, List.setIfInBounds_toArray, List.set_cons_zero, List.set_cons_succ]
      refine wpAnyH_takeAt (i := 3) (d := 22) (v := ?va3) (by kernel_rfl) (by kernel_rfl) (by kernel_rfl) (by kernel_rfl) (fun _ _ _ h => h) ?hya3 (by assumption) ?resta3
      case hya3 =>
        intro oi ho
        simp only [List.getElem?_toArray, List.getElem?_cons_succ, List.getElem?_cons_zero, Option.some.injEq] at ho
        subst ho
        refine Or.inl ⟨by rfl, ?_⟩
        intro wx hSw
        try dsimp only at hSw
        go_simp
        try rfl
      try simp only [Act.put, List.setIfInBounds_toArray, List.set_cons_zero, List.set_cons_succ]
      refine wpAnyH_takeAt (i := 5) (d := 24) (v := ?va5) (by kernel_rfl) (by kernel_rfl) (by kernel_rfl) (by kernel_rfl) (fun _ _ _ h => h) ?hya5 (by assumption) ?resta5
      case hya5 =>
        intro oi ho
        simp only [List.getElem?_toArray, List.getElem?_cons_succ, List.getElem?_cons_zero, Option.some.injEq] at ho
        subst ho
        refine Or.inl ⟨by rfl, ?_⟩
        intro wx hSw
        try dsimp only at hSw
        go_simp
        try rfl
      try simp only [Act.put, List.setIfInBounds_toArray, List.set_cons_zero, List.set_cons_succ]
      refine wpAnyH_takeAt (i := 7) (d := 26) (v := ?va7) (by kernel_rfl) (by kernel_rfl) (by kernel_rfl) (by kernel_rfl) (fun _ _ _ h => h) ?hya7 (by assumption) ?resta7
      case hya7 =>
        intro oi ho
        simp only [List.getElem?_toArray, List.getElem?_cons_succ, List.getElem?_cons_zero, Option.some.injEq] at ho
        subst ho
        refine Or.inl ⟨by rfl, ?_⟩
        intro wx hSw
        try dsimp only at hSw
        go_simp
        try rfl
      try simp only [Act.put, List.setIfInBounds_toArray, List.set_cons_zero, List.set_cons_succ]
      refine wpAnyH_comesAt (i := 4) (by kernel_rfl) (by kernel_rfl) ?_
      intro o ho K hK
      simp only [List.getElem?_toArray, List.getElem?_cons_succ, List.getElem?_cons_zero, Option.some.injEq] at ho
      subst ho
      go_simp
      refine (rname_any HRD.out HBD.out).mono ?_
      rintro e w1 ⟨rfl, hr1, hf1⟩
      rw [HNM.out.1]
      rw [HNM.out.2] at hr1
      have HR1 := hide hr1
      have HF1 := hide hf1
      have HS1 := hide ((hf1.oth S0 (blk_lt HSD.out) HSR.out).trans HSD.out)
      have HB1 := hide (bs_rd0 HBD.out hf1 HAR.out)
      have HO1 := hide (own_rd HOD.out hf1 (by have := HGR.out; omega))
      clear hr1 hf1 hHeld
      refine hK.out _ _ (cell_blk HS1.out) (fun hHeld => ?_)
      clear hK K
      try simp only [Act.put, List.setIfInBounds_toArray, List.set_cons_zero, List.set_cons_succ]
      refine wpAnyH_comesAt (i := 6) (by kernel_rfl) (by kernel_rfl) ?_
      intro o ho K hK
      simp only [List.getElem?_toArray, List.getElem?_cons_succ, List.getElem?_cons_zero, Option.some.injEq] at ho
      subst ho
      go_simp
      refine (rnum_any HR1.out HB1.out).mono ?_
      rintro e w2 ⟨rfl, hr2, hf2⟩
      rw [HKN.out.1]
      rw [HKN.out.2] at hr2
      have HR2 := hide hr2
      have HF2 := hide (HF1.out.trans hf2)
      have HS2 := hide ((hf2.oth S0 (blk_lt HS1.out) HSR.out).trans HS1.out)
      have HB2 := hide (bs_rd0 HB1.out hf2 HAR.out)
      have HO2 := hide (own_rd HO1.out hf2 (by have := HGR.out; omega))
      clear hr2 hf2 hHeld
      refine hK.out _ _ (cell_blk HS2.out) (fun hHeld => ?_)
      clear hK K
      try simp only [Act.put, List.setIfInBounds_toArray, List.set_cons_zero, List.set_cons_succ]
      refine wpAnyH_comesAt (i := 8) (by kernel_rfl) (by kernel_rfl) ?_
      intro o ho K hK
      simp only [List.getElem?_toArray, List.getElem?_cons_succ, List.getElem?_cons_zero, Option.some.injEq] at ho
      subst ho
      go_simp
      refine (rnum_any HR2.out HB2.out).mono ?_
      rintro e w3 ⟨rfl, hr3, hf3⟩
      rw [HMN.out.1]
      rw [HMN.out.2] at hr3
      have HR3 := hide hr3
      have HF3 := hide (HF2.out.trans hf3)
      have HS3 := hide ((hf3.oth S0 (blk_lt HS2.out) HSR.out).trans HS2.out)
      have HO3 := hide (own_rd HO2.out hf3 (by have := HGR.out; omega))
      have HB3 := hide (bs_rd0 HB2.out hf3 HAR.out)
      clear hr3 hf3 hHeld
      refine hK.out _ _ (cell_blk HS3.out) (fun hHeld => ?_)
      clear hK K
      try simp only [Act.put, List.setIfInBounds_toArray, List.set_cons_zero, List.set_cons_succ]
      refine wpAnyH_takeAt (i := 9) (d := 28) (v := ?vb9) (by kernel_rfl) (by kernel_rfl) (by kernel_rfl) (by kernel_rfl) (fun _ _ _ h => h) ?hyb9 (by assumption) ?restb9
      case hyb9 =>
        intro oi ho
        simp only [List.getElem?_toArray, List.getElem?_cons_succ, List.getElem?_cons_zero, Option.some.injEq] at ho
        subst ho
        refine Or.inl ⟨by rfl, ?_⟩
        intro wx hSw
        try dsimp only at hSw
        go_simp
        try rfl
      try simp only [Act.put, List.setIfInBounds_toArray, List.set_cons_zero, List.set_cons_succ]
      refine wpAnyH_takeAt (i := 10) (d := 29) (v := ?vb10) (by kernel_rfl) (by kernel_rfl) (by kernel_rfl) (by kernel_rfl) (fun _ _ _ h => h) ?hyb10 (by assumption) ?restb10
      case hyb10 =>
        intro oi ho
        simp only [List.getElem?_toArray, List.getElem?_cons_succ, List.getElem?_cons_zero, Option.some.injEq] at ho
        subst ho
        refine Or.inl ⟨by rfl, ?_⟩
        intro wx hSw
        try dsimp only at hSw
        go_simp
        try rfl
      try simp only [Act.put, List.setIfInBounds_toArray, List.set_cons_zero, List.set_cons_succ]
      obtain ⟨cur, hcur, hold⟩ := own_cells fC_len HO3.out HATZ.out
      have q0 : w3.cell? ⟨g, j * 3, none⟩ = some (.string ⟨#[]⟩) := hold 0 (by omega)
      have q1 : w3.cell? ⟨g, j * 3 + 1, none⟩ = some (.int .i64 0) := hold 1 (by omega)
      have q2 : w3.cell? ⟨g, j * 3 + 2, none⟩ = some (.int .i64 0) := hold 2 (by omega)
      clear hold
      have f0 : w3.frozen? ⟨g, j * 3, none⟩ = false := frz_blk hcur
      have f1 : w3.frozen? ⟨g, j * 3 + 1, none⟩ = false := frz_blk hcur
      have f2 : w3.frozen? ⟨g, j * 3 + 2, none⟩ = false := frz_blk hcur
      refine wpAnyH_comesAt (i := 11) (by kernel_rfl) (by kernel_rfl) ?_
      intro o ho K hK
      simp only [List.getElem?_toArray, List.getElem?_cons_succ, List.getElem?_cons_zero, Option.some.injEq] at ho
      subst ho
      go_simp
      clear hHeld hcur
      refine hK.out _ _ ?_ (fun hHeld => ?_)
      · exact cell_blk ((set_oth3 (show S0 ≠ g from HSG.out)).trans HS3.out)
      clear q0 q1 q2 f0 f1 f2
      clear hK K
      try simp only [Act.put, List.setIfInBounds_toArray, List.set_cons_zero, List.set_cons_succ]
      refine wpAnyH_done (by kernel_rfl) ?_ _
      refine NoPanic.normal ?_
      have HIN : Hid (ID rb N S0 g cl n c a s xs PC w (j + 1) (((w3.setCell ⟨g, j * 3, none⟩ (.string cn)).setCell ⟨g, j * 3 + 1, none⟩ (.int .i64 (kk : Int))).setCell ⟨g, j * 3 + 2, none⟩ (.int .i64 (mm : Int)))) := by
        have hgr := HGR.out
        have hfr : RdF rb w w3 := HI.out.drew.fr.trans HF3.out
        have hab : ∀ b' o, a = some ⟨b', o, none⟩ → 0 < n → b' ≠ g := fun b' o q hpz => by
          have h8 := HAN.out b' o q hpz
          first | omega | (rw [hN] at h8; omega)
        refine ⟨(set_oth3 (show rb ≠ g by omega)).trans HR3.out, (set_oth3 HSG.out).trans HS3.out, (set_oth3 (show N ≠ g by omega)).trans ?_, ?_, ?_, bs_put0 (bs_put0 (bs_put0 HB3.out hab) hab) hab⟩
        · have h7 := HF3.out.oth N (blk_lt HI.out.drew.zb) (by have := HRB.out; omega)
          exact h7.trans HI.out.drew.zb
        · have h9 := set_row3 (x' := (cn, (kk : Int), (mm : Int))) HO3.out HATZ.out hjn
          rw [HNX.out] at h9
          exact h9
        · exact ((hfr.put (by rw [hN]; omega) (by omega) _ _).put (by rw [hN]; omega) (by omega) _ _).put (by rw [hN]; omega) (by omega) _ _
      clear HR3 HS3 HF3 HO3 HB3 HRD HBD HSD HOD HX hHeld
      go_wp2
      go_roundg (gk - 1)
      case measure => omega
      case rel => exact ⟨j + 1, by omega, rfl, HIN.out⟩
    · have xj : ¬ (j : Int) < (cl : Int) := by omega
      have ej : j = cl := by omega
      subst ej
      have HOC : Hid (wr.ownsRow g 59 3 (.slice (some ⟨g, 0, none⟩) j j) j (s.cs.flatMap fC)) := by
        have h9 := HI.out.ow
        rw [show rowJ z1 s.cs j = s.cs from by rw [← HCL.out]; exact rowJ_all _ _] at h9
        exact h9
      have HC8 := hide (rcount_any HI.out.rd HI.out.bs)
      rw [show ((PC j : Nat) : Int) = ((PC s.cs.length : Nat) : Int) from by rw [HCL.out], HRP.out.xn, HXL.out, HRP.out.x0] at HC8
      go_wp2_with fail
      refine HC8.out.mono ?_
      rintro e w8 ⟨rfl, hr8, hf8⟩
      have HF8 := hide (HI.out.fr.trans hf8)
      have HR8 := hide hr8
      have HB8 := hide (bs_rd0 HI.out.bs hf8 HAR.out)
      have HS8 := hide ((hf8.oth S0 (blk_lt HI.out.sb) HSR.out).trans HI.out.sb)
      have HZ8 := hide ((hf8.oth N (blk_lt HI.out.zb) (by have := HRB.out; omega)).trans HI.out.zb)
      have HO8 := hide (own_rd HOC.out hf8 (by have := HGR.out; omega))
      clear hr8 hf8 HC8 HOC
      obtain ⟨i0, hi, hz0, hz1', hz2⟩ := info_parts info_ix
      go_upto_region 9 with (refine wpList_make_full w8 rfl _ _ 23 rfl w8.heap.size 61 i0 (.agg #[.int .i64 0, .bool false]) 2 Try.underlying23 hi hz0 hz1' .i64 .i64 (xl : Int) (xl : Int) xl rfl rfl rfl rfl (by rw [hz2]; omega) (by unfold maxLen; omega) (Nat.le_refl _) ?_; intro w9 ho9 hg9; rw [made_ix hxl3] at ho9; have HO9 := hide ho9; have HG9 := hide ((Below.refl w8.heap.size w8).grown hg9 (Nat.le_refl _) (fun k hk => by cases hk)); clear ho9 hg9; have x1 : w9.cell? ⟨S0, 2, none⟩ = some (.slice none 0 0) := cell_blk ((HG9.out.block S0 (blk_lt HS8.out)).trans HS8.out); have xf1 : w9.frozen? ⟨S0, 2, none⟩ = false := frz_blk ((HG9.out.block S0 (blk_lt HS8.out)).trans HS8.out))
      clear x1 xf1
      have hgs2 : S0 < w8.heap.size := blk_lt HS8.out
      have hgr2 : rb < w8.heap.size := blk_lt HR8.out
      have hgn2 : N < w8.heap.size := blk_lt HZ8.out
      obtain ⟨hgg, hggx⟩ : g < w8.heap.size ∧ True := by
        rcases HO8.out.2 with ⟨e, _⟩ | ⟨g', cap', cur, e, _, h6, _⟩
        · cases e
        · simp only [Value.slice.injEq, Option.some.injEq, Addr.mk.injEq] at e
          rw [e.1.1]
          exact ⟨blk_lt h6, trivial⟩
      have HIX : Hid (IY rb N S0 g w8.heap.size j xl n c a s xs PX w 0 (w9.setCell ⟨S0, 2, none⟩ (.slice (some ⟨w8.heap.size, 0, none⟩) xl xl))) := by
        have hg9 := HG9.out
        have hns := HNS.out
        have hsg := HSG.out
        refine ⟨?_, heap_setCell_same _ _ _ _ _ _ ((hg9.block S0 hgs2).trans HS8.out), ?_, ?_, ?_, ?_, ?_⟩
        · exact (heap_setCell_other _ _ _ _ (show rb ≠ S0 by omega)).trans ((hg9.block rb hgr2).trans HR8.out)
        · exact (heap_setCell_other _ _ _ _ (show N ≠ S0 by omega)).trans ((hg9.block N hgn2).trans HZ8.out)
        · exact ownsRow_setCell_other (ownsRow_later HO8.out hg9) (by show some g ≠ some S0; simp; omega) _
        · have h9 := HO9.out
          rw [rowJ_zero, HXL.out]
          exact ownsRow_setCell_other h9 (by show some w8.heap.size ≠ some S0; simp; omega) _
        · exact (HF8.out.trans (RdF.of hg9 (by omega))).put (by rw [hN]; omega) (by omega) 2 _
        · refine bs_put0 (HB8.out.later hg9 (Nat.le_refl _)) fun b' o q hpz => ?_
          have h8 := HAN.out b' o q hpz
          first | omega | (rw [hN] at h8; omega)
      clear HO9 HG9 HR8 HS8 HZ8 HB8 HF8 HO8 hi hz0 hz1' hz2 HI hggx
      generalize (w9.setCell ⟨S0, 2, none⟩ (.slice (some ⟨w8.heap.size, 0, none⟩) xl xl)) = w10 at *
      generalize w8.heap.size = g2 at *
      have HSG2 : Hid (S0 ≠ g2) := by show S0 ≠ g2; omega
      have HGR2 : Hid (rb < g2 ∧ N < g2 ∧ g < g2) := ⟨hgr2, hgn2, hgg⟩
      have x1 : w10.cell? ⟨S0, 2, none⟩ = some (.slice (some ⟨g2, 0, none⟩) xl xl) := cell_blk HIX.out.sb
      have HCJ := HCL
      generalize hjc : j = cl at *
      go_wp2_with fail
      clear x1
      go_loopg [38] xl (fun gh s38 wx => ∃ j : Nat, j + gh = xl ∧ s38 = .int .i64 (j : Int) ∧ IY rb N S0 g g2 cl xl n c a s xs PX w j wx)
      case atStart => exact ⟨0, by omega, rfl, HIX.out⟩
      case round =>
        obtain ⟨j, hj, rfl, hix⟩ := hrel
        have HI := hide hix
        clear hix
        by_cases hjn : j < xl
        · have xj : (j : Int) < (xl : Int) := by omega
          have xj4 : (j : Int) < 4 := by omega
          obtain ⟨cj, hcj⟩ : ∃ c, s.xs[j]? = some c := ⟨_, List.getElem?_eq_getElem (by rw [HXL.out]; exact hjn)⟩
          obtain ⟨kk, mm, p1, n1, n2, n3, n4, n5, n6⟩ := HRP.out.ix j cj hcj
          have HNX := hide (rowJ_next (z := zx) hcj)
          have HATZ : Hid ((rowJ zx s.xs j)[j]? = some zx) := rowJ_at (by rw [HXL.out]; exact hjn)
          obtain ⟨ck, ub⟩ := cj
          dsimp only at n5 n6
          subst n5
          have hbe : ((mm : Int) == 1) = ub := n6
          have HKN : Hid (ruN xs ((PX j : Nat) : Int) = kk ∧ ruP xs ((PX j : Nat) : Int) = p1) := ⟨n1, n2⟩
          have HMN : Hid (ruN xs (p1 : Int) = mm ∧ ruP xs (p1 : Int) = PX (j + 1)) := ⟨n3, n4⟩
          clear n1 n2 n3 n4 n6
          have HRD := hide HI.out.drew.rd
          have HBD := hide HI.out.drew.bs
          have HSD := hide HI.out.drew.sb
          have HOD := hide HI.out.drew.ow
          have HCD := hide HI.out.drew.oc
          have HX : Hid ((fun wx => wx.cell? ⟨S0, 2, none⟩ = some (.slice (some ⟨g2, 0, none⟩) xl xl)) wr.drew) := cell_blk HSD.out
          clear hcj
          go_upto_region 12 with fail
          refine wp_region_noPanic ?_
          refine wp_region_held_drew (S := fun wx => wx.cell? ⟨S0, 2, none⟩ = some (.slice (some ⟨g2, 0, none⟩) xl xl)) (by kernel_rfl) HX.out (fun hHeld => ?_)
          refine wpAnyH_takeAt (i := 0) (d := 41) (v := ?vc0) (by kernel_rfl) (by kernel_rfl) (by kernel_rfl) (by kernel_rfl) (fun _ _ _ h => h) ?hyc0 (by assumption) ?restc0
          case hyc0 =>
            intro oi ho
            simp only [List.getElem?_toArray, List.getElem?_cons_zero, Option.some.injEq] at ho
            subst ho
            refine Or.inl ⟨by rfl, ?_⟩
            intro wx hSw
            try dsimp only at hSw
            go_simp
            try rfl
          try simp only [Act.put, List.setIfInBounds_toArray, List.set_cons_zero, List.set_cons_succ]
          refine wpAnyH_takeAt (i := 1) (d := 42) (v := ?vc1) (by kernel_rfl) (by kernel_rfl) (by kernel_rfl) (by kernel_rfl) (fun _ _ _ h => h) ?hyc1 (by assumption) ?restc1
          case hyc1 =>
            intro oi ho
            simp only [List.getElem?_toArray, List.getElem?_cons_succ, List.getElem?_cons_zero, Option.some.injEq] at ho
            subst ho
            refine Or.inl ⟨by rfl, ?_⟩
            intro wx hSw
            try dsimp only at hSw
            go_simp
            try rfl
          try simp only [Act.put, List.setIfInBounds_toArray, List.set_cons_zero, List.set_cons_succ]
          refine wpAnyH_takeAt (i := 2) (d := 43) (v := ?vc2) (by kernel_rfl) (by kernel_rfl) (by kernel_rfl) (by kernel_rfl) (fun _ _ _ h => h) ?hyc2 (by assumption) ?restc2
          case hyc2 =>
            intro oi ho
            simp only [List.getElem?_toArray, List.getElem?_cons_succ, List.getElem?_cons_zero, Option.some.injEq] at ho
            subst ho
            refine Or.inl ⟨by rfl, ?_⟩
            intro wx hSw
            try dsimp only at hSw
            go_simp
            try rfl
          try simp only [Act.put, List.setIfInBounds_toArray, List.set_cons_zero, List.set_cons_succ]
          refine wpAnyH_takeAt (i := 3) (d := 44) (v := ?vc3) (by kernel_rfl) (by kernel_rfl) (by kernel_rfl) (by kernel_rfl) (fun _ _ _ h => h) ?hyc3 (by assumption) ?restc3
          case hyc3 =>
            intro oi ho
            simp only [List.getElem?_toArray, List.getElem?_cons_succ, List.getElem?_cons_zero, Option.some.injEq] at ho
            subst ho
            refine Or.inl ⟨by rfl, ?_⟩
            intro wx hSw
            try dsimp only at hSw
            go_simp
            try rfl
          try simp only [Act.put, List.setIfInBounds_toArray, List.set_cons_zero, List.set_cons_succ]
          refine wpAnyH_takeAt (i := 5) (d := 46) (v := ?vc5) (by kernel_rfl) (by kernel_rfl) (by kernel_rfl) (by kernel_rfl) (fun _ _ _ h => h) ?hyc5 (by assumption) ?restc5
          case hyc5 =>
            intro oi ho
            simp only [List.getElem?_toArray, List.getElem?_cons_succ, List.getElem?_cons_zero, Option.some.injEq] at ho
            subst ho
            refine Or.inl ⟨by rfl, ?_⟩
            intro wx hSw
            try dsimp only at hSw
            go_simp
            try rfl
          try simp only [Act.put, List.setIfInBounds_toArray, List.set_cons_zero, List.set_cons_succ]
          refine wpAnyH_comesAt (i := 4) (by kernel_rfl) (by kernel_rfl) ?_
          intro o ho K hK
          simp only [List.getElem?_toArray, List.getElem?_cons_succ, List.getElem?_cons_zero, Option.some.injEq] at ho
          subst ho
          go_simp
          refine (rnum_any HRD.out HBD.out).mono ?_
          rintro e w1 ⟨rfl, hr1, hf1⟩
          rw [HKN.out.1]
          rw [HKN.out.2] at hr1
          have HR1 := hide hr1
          have HF1 := hide hf1
          have HS1 := hide ((hf1.oth S0 (blk_lt HSD.out) HSR.out).trans HSD.out)
          have HB1 := hide (bs_rd0 HBD.out hf1 HAR.out)
          have HO1 := hide (own_rd HOD.out hf1 (by have := HGR2.out; omega))
          have HC1 := hide (own_rd HCD.out hf1 (by have := HGR.out; omega))
          clear hr1 hf1 hHeld
          refine hK.out _ _ (cell_blk HS1.out) (fun hHeld => ?_)
          clear hK K
          try simp only [Act.put, List.setIfInBounds_toArray, List.set_cons_zero, List.set_cons_succ]
          refine wpAnyH_comesAt (i := 6) (by kernel_rfl) (by kernel_rfl) ?_
          intro o ho K hK
          simp only [List.getElem?_toArray, List.getElem?_cons_succ, List.getElem?_cons_zero, Option.some.injEq] at ho
          subst ho
          go_simp
          refine (rnum_any HR1.out HB1.out).mono ?_
          rintro e w2 ⟨rfl, hr2, hf2⟩
          rw [HMN.out.1]
          rw [HMN.out.2] at hr2
          have HR3 := hide hr2
          have HF3 := hide (HF1.out.trans hf2)
          have HS3 := hide ((hf2.oth S0 (blk_lt HS1.out) HSR.out).trans HS1.out)
          have HB3 := hide (bs_rd0 HB1.out hf2 HAR.out)
          have HO3 := hide (own_rd HO1.out hf2 (by have := HGR2.out; omega))
          have HC3 := hide (own_rd HC1.out hf2 (by have := HGR.out; omega))
          clear hr2 hf2 hHeld
          refine hK.out _ _ (cell_blk HS3.out) (fun hHeld => ?_)
          clear hK K
          try simp only [Act.put, List.setIfInBounds_toArray, List.set_cons_zero, List.set_cons_succ]
          refine wpAnyH_comesAt (i := 7) (by kernel_rfl) (by kernel_rfl) ?_
          intro o ho K hK
          simp only [List.getElem?_toArray, List.getElem?_cons_succ, List.getElem?_cons_zero, Option.some.injEq] at ho
          subst ho
          go_simp
          refine (bit_any true w2).mono ?_
          rintro e w3 ⟨rfl, hw3⟩
          have hw3 := hw3.symm
          subst hw3
          clear hw3
          refine hK.out _ _ (cell_blk HS3.out) (fun hHeld => ?_)
          clear hK K
          refine wpAnyH_takeAt (i := 8) (d := 49) (v := ?vd8) (by kernel_rfl) (by kernel_rfl) (by kernel_rfl) (by kernel_rfl) (fun _ _ _ h => h) ?hyd8 (by assumption) ?restd8
          case hyd8 =>
            intro oi ho
            simp only [List.getElem?_toArray, List.getElem?_cons_succ, List.getElem?_cons_zero, Option.some.injEq] at ho
            subst ho
            refine Or.inl ⟨by rfl, ?_⟩
            intro wx hSw
            try dsimp only at hSw
            go_simp
            try rfl
          try simp only [Act.put, List.setIfInBounds_toArray, List.set_cons_zero, List.set_cons_succ]
          refine wpAnyH_takeAt (i := 9) (d := 50) (v := ?vd9) (by kernel_rfl) (by kernel_rfl) (by kernel_rfl) (by kernel_rfl) (fun _ _ _ h => h) ?hyd9 (by assumption) ?restd9
          case hyd9 =>
            intro oi ho
            simp only [List.getElem?_toArray, List.getElem?_cons_succ, List.getElem?_cons_zero, Option.some.injEq] at ho
            subst ho
            refine Or.inl ⟨by rfl, ?_⟩
            intro wx hSw
            try dsimp only at hSw
            go_simp
            try rfl
          try simp only [Act.put, List.setIfInBounds_toArray, List.set_cons_zero, List.set_cons_succ]
          refine wpAnyH_takeAt (i := 10) (d := 51) (v := ?vd10) (by kernel_rfl) (by kernel_rfl) (by kernel_rfl) (by kernel_rfl) (fun _ _ _ h => h) ?hyd10 (by assumption) ?restd10
          case hyd10 =>
            intro oi ho
            simp only [List.getElem?_toArray, List.getElem?_cons_succ, List.getElem?_cons_zero, Option.some.injEq] at ho
            subst ho
            refine Or.inl ⟨by rfl, ?_⟩
            intro wx hSw
            try dsimp only at hSw
            go_simp
            try rfl
          try simp only [Act.put, List.setIfInBounds_toArray, List.set_cons_zero, List.set_cons_succ]
          obtain ⟨cur, hcur, hold⟩ := own_cells fX_len HO3.out HATZ.out
          have q0 : w2.cell? ⟨g2, j * 2, none⟩ = some (.int .i64 0) := hold 0 (by omega)
          have q1 : w2.cell? ⟨g2, j * 2 + 1, none⟩ = some (.bool false) := hold 1 (by omega)
          clear hold
          have f0 : w2.frozen? ⟨g2, j * 2, none⟩ = false := frz_blk hcur
          have f1 : w2.frozen? ⟨g2, j * 2 + 1, none⟩ = false := frz_blk hcur
          refine wpAnyH_comesAt (i := 11) (by kernel_rfl) (by kernel_rfl) ?_
          intro o ho K hK
          simp only [List.getElem?_toArray, List.getElem?_cons_succ, List.getElem?_cons_zero, Option.some.injEq] at ho
          subst ho
          go_simp
          clear hHeld hcur
          refine hK.out _ _ ?_ (fun hHeld => ?_)
          · exact cell_blk ((set_oth2 (show S0 ≠ g2 from HSG2.out)).trans HS3.out)
          clear q0 q1 f0 f1
          clear hK K
          try simp only [Act.put, List.setIfInBounds_toArray, List.set_cons_zero, List.set_cons_succ]
          refine wpAnyH_done (by kernel_rfl) ?_ _
          refine NoPanic.normal ?_
          have HIN : Hid (IY rb N S0 g g2 cl xl n c a s xs PX w (j + 1) ((w2.setCell ⟨g2, j * 2, none⟩ (.int .i64 (kk : Int))).setCell ⟨g2, j * 2 + 1, none⟩ (.bool ub))) := by
            have hgr := HGR2.out
            have hfr : RdF rb w w2 := HI.out.drew.fr.trans HF3.out
            have hab : ∀ b' o, a = some ⟨b', o, none⟩ → 0 < n → b' ≠ g2 := fun b' o q hpz => by
              have h8 := HAN.out b' o q hpz
              first | omega | (rw [hN] at h8; omega)
            refine ⟨(set_oth2 (show rb ≠ g2 by omega)).trans HR3.out, (set_oth2 HSG2.out).trans HS3.out, (set_oth2 (show N ≠ g2 by omega)).trans ?_, ?_, ?_, ?_, bs_put0 (bs_put0 HB3.out hab) hab⟩
            · have h7 := HF3.out.oth N (blk_lt HI.out.drew.zb) (by have := HRB.out; omega)
              exact h7.trans HI.out.drew.zb
            · exact ownsRow_setCell_other (ownsRow_setCell_other HC3.out (by show some g ≠ some g2; simp; omega) _) (by show some g ≠ some g2; simp; omega) _
            · have h9 := set_row2 (x' := ((kk : Int), ub)) HO3.out HATZ.out hjn
              rw [HNX.out] at h9
              exact h9
            · exact (hfr.put (by rw [hN]; omega) (by omega) _ _).put (by rw [hN]; omega) (by omega) _ _
          clear HR3 HS3 HF3 HO3 HB3 HC3 HRD HBD HSD HOD HCD HX hHeld
          go_wp2
          go_roundg (gk - 1)
          case measure => omega
          case rel => exact ⟨j + 1, by omega, rfl, HIN.out⟩
        · have xj : ¬ (j : Int) < (xl : Int) := by omega
          have ex : j = xl := by omega
          have HRX : Hid (rowJ zx s.xs j = s.xs) := by show _ = _; rw [ex, ← HXL.out]; exact rowJ_all _ _
          have HZB := hide HI.out.zb
          have y0 : wr.cell? ⟨S0, 0, none⟩ = some (.string s.nm) := cell_blk HI.out.sb
          have y1 : wr.cell? ⟨S0, 1, none⟩ = some (.slice (some ⟨g, 0, none⟩) cl cl) := cell_blk HI.out.sb
          have y2 : wr.cell? ⟨S0, 2, none⟩ = some (.slice (some ⟨g2, 0, none⟩) xl xl) := cell_blk HI.out.sb
          have t0 : wr.cell? ⟨N, 0, none⟩ = some (.string ⟨#[]⟩) := cell_blk HZB.out
          have tf0 : wr.frozen? ⟨N, 0, none⟩ = false := frz_blk HZB.out
          have t1 : wr.cell? ⟨N, 1, none⟩ = some (.slice none 0 0) := cell_blk HZB.out
          have tf1 : wr.frozen? ⟨N, 1, none⟩ = false := frz_blk HZB.out
          have t2 : wr.cell? ⟨N, 2, none⟩ = some (.slice none 0 0) := cell_blk HZB.out
          have tf2 : wr.frozen? ⟨N, 2, none⟩ = false := frz_blk HZB.out
          clear ex
          go_wp2
          (try simp only [Exit.inBlock, Exit.then])
          refine bodyPost_ret (results_cell_row Try.results43 _ _ N _ _ _ _ rfl (set3 HZB.out) Try.underlying25 rfl info_sch) rfl ?_
          have hgr := HGR.out
          have hgr2 := HGR2.out
          have hrb := HRB.out
          obtain ⟨ga, gc, ge, hsv⟩ := own_sv fC_len HI.out.oc HCL.out
          have h9 := HI.out.ow
          rw [HRX.out] at h9
          obtain ⟨xa, xc, xe, hsx⟩ := own_sv fX_len h9 HXL.out
          simp only [Value.slice.injEq] at ge xe
          obtain ⟨rfl, _, rfl⟩ := ge
          obtain ⟨rfl, _, rfl⟩ := xe
          have hfr := ((HI.out.fr.put (b := N) (by omega) (by omega) 0 (.string s.nm)).put (b := N) (by omega) (by omega) 1 (.slice (some ⟨g, 0, none⟩) cl cl)).put (b := N) (by omega) (by omega) 2 (.slice (some ⟨g2, 0, none⟩) xl xl)
          have hsz : wr.heap.size ≤ (((wr.setCell ⟨N, 0, none⟩ (.string s.nm)).setCell ⟨N, 1, none⟩ (.slice (some ⟨g, 0, none⟩) cl cl)).setCell ⟨N, 2, none⟩ (.slice (some ⟨g2, 0, none⟩) xl xl)).heap.size := ((((Below.refl 0 wr).setCell (p := ⟨N, 0, none⟩) (Nat.zero_le _) _).setCell (p := ⟨N, 1, none⟩) (Nat.zero_le _) _).setCell (p := ⟨N, 2, none⟩) (Nat.zero_le _) _).size
          refine ⟨some ⟨g, 0, none⟩, cl, some ⟨g2, 0, none⟩, xl, rfl, ⟨hsv.blk hsz fun b o e => set_oth3 ?_, hsx.blk hsz fun b o e => set_oth3 ?_⟩, hfr, fun b o e => ?_, fun b o e => ?_⟩
          · simp only [Option.some.injEq, Addr.mk.injEq] at e
            omega
          · simp only [Option.some.injEq, Addr.mk.injEq] at e
            omega
          · simp only [Option.some.injEq, Addr.mk.injEq] at e
            omega
          · simp only [Option.some.injEq, Addr.mk.injEq] at e
            omega
end Go.Proofs.Ytcophbkgighepaa
set_option linter.unusedVariables false
namespace Go.Proofs.Ytcophbkgighepaa
open Go.RowKit

set_option maxRecDepth 100000 in
set_option maxHeartbeats 8000000 in
theorem decodeS_any {n c : Nat} {a : Option Addr} {xs : List Nat} {w : World} (hb : BS w a n c xs) :
    Calls Try.prog 22 #[.slice a n c] w fun e w' => (e = .returned (.tuple #[.agg #[.string ⟨#[]⟩, .slice none 0 0, .slice none 0 0], .int .i64 11]) ∨ ∃ s ca cc xa xc, e = .returned (.tuple #[.agg #[.string s.nm, .slice ca s.cs.length cc, .slice xa s.xs.length xc], .int .i64 0]) ∧ SC w' ca s.cs.length cc xa s.xs.length xc s ∧ s.ok = true ∧ encS s = xs) ∧ Below w.heap.size w w' := by
  obtain ⟨s, P0, PC, PX, hrp⟩ := rp_ex xs
  obtain ⟨N, hN⟩ : ∃ N, w.heap.size = N := ⟨_, rfl⟩
  obtain ⟨w1, hw1⟩ : ∃ w1, w1 = (w.alloc (.cells #[.string ⟨#[]⟩, .slice none 0 0, .slice none 0 0] 25)).alloc (.cells #[.slice a n c, .int .i64 0] 73) := ⟨_, rfl⟩
  have HZ1 : Hid (w1.heap[N]? = some (.cells #[.string ⟨#[]⟩, .slice none 0 0, .slice none 0 0] 25 (0, 0))) := by show _ = _; rw [hw1, ← hN]; exact heap_alloc2_old w _ _
  have HR1 : Hid (RDR (N + 1) a n c 0 w1) := by show _ = _; rw [hw1, ← hN]; exact heap_alloc2_new w _ _
  have hb1 : Below w.heap.size w w1 := by rw [hw1]; exact (below_box w _).trans ((below_box _ _).mono (below_box w _).size)
  have HB1 := hide (hb.later hb1 (Nat.le_refl _))
  have HW1 : Hid (Below N w w1) := by show Below N w w1; rw [← hN]; exact hb1
  have HAN : Hid (∀ b o, a = some ⟨b, o, none⟩ → 0 < n → b < N) := by
    intro b o q hpos
    have := cell_lt (hb.hcell _ q 0 hpos)
    rw [← hN]
    simpa [Addr.add] using this
  have HSC := hide (rschema_any HR1.out HB1.out hrp fun b o q hp => by have := HAN.out b o q hp; omega)
  have HE1 := hide hw1
  rw [hN]
  clear hb hrp hb1 hw1
  go_enter Try.func22, Try.ntmps22
  go_upto_region 2 with fail
  rw [← HE1.out]
  try simp only [hN]
  go_wp2_with fail
  refine HSC.out.mono ?_
  rintro e w2 ⟨ca, cc, xa, xc, rfl, hsc, hf, hca, hxa⟩
  have HNB : Hid ((∀ b o, ca = some ⟨b, o, none⟩ → b ≠ N) ∧ ∀ b o, xa = some ⟨b, o, none⟩ → b ≠ N) := ⟨fun b o q => by have := hca b o q; have := blk_lt HR1.out; omega, fun b o q => by have := hxa b o q; have := blk_lt HR1.out; omega⟩
  clear hca hxa
  have hbx := below_box w2 (.cells #[.string s.nm, .slice ca s.cs.length cc, .slice xa s.xs.length xc] 25)
  have HV3 : Hid ((w2.alloc (.cells #[.string s.nm, .slice ca s.cs.length cc, .slice xa s.xs.length xc] 25)).heap[w2.heap.size]? = some (.cells #[.string s.nm, .slice ca s.cs.length cc, .slice xa s.xs.length xc] 25 (0, 0))) := boxed w2 _
  have HSC3 := hide (hsc.later hbx)
  have HZ3 : Hid ((w2.alloc (.cells #[.string s.nm, .slice ca s.cs.length cc, .slice xa s.xs.length xc] 25)).heap[N]? = some (.cells #[.string ⟨#[]⟩, .slice none 0 0, .slice none 0 0] 25 (0, 0))) := (hbx.block N (by have := blk_lt HZ1.out; have := hf.bel.size; omega)).trans ((hf.oth N (blk_lt HZ1.out) (by omega)).trans HZ1.out)
  have HB3 := hide ((bs_rd0 HB1.out hf fun b o q hp => by have := HAN.out b o q hp; omega).later hbx (Nat.le_refl _))
  have HW3 : Hid (Below N w (w2.alloc (.cells #[.string s.nm, .slice ca s.cs.length cc, .slice xa s.xs.length xc] 25))) := HW1.out.trans ((hf.bel.mono (by omega)).trans (hbx.mono (by have := blk_lt HZ1.out; have := hf.bel.size; omega)))
  clear hsc hf hbx HSC
  go_upto_region 3 with fail
  generalize (w2.alloc (.cells #[.string s.nm, .slice ca s.cs.length cc, .slice xa s.xs.length xc] 25)) = w3 at *
  generalize w2.heap.size = V at *
  have y0 : w3.cell? ⟨V, 0, none⟩ = some (.string s.nm) := cell_blk HV3.out
  have y1 : w3.cell? ⟨V, 1, none⟩ = some (.slice ca s.cs.length cc) := cell_blk HV3.out
  have y2 : w3.cell? ⟨V, 2, none⟩ = some (.slice xa s.xs.length xc) := cell_blk HV3.out
  have HEN := hide (encode5 HSC3.out)
  go_wp2_with fail
  refine HEN.out.mono ?_
  rintro e w4 ⟨a4, n4, c4, rfl, hx4, hb4⟩
  have HX4 := hide hx4
  have HB4 := hide (HB3.out.later hb4 (Nat.le_refl _))
  have HV4 := hide ((hb4.block V (blk_lt HV3.out)).trans HV3.out)
  have HZ4 := hide ((hb4.block N (blk_lt HZ3.out)).trans HZ3.out)
  have HSC4 := hide (HSC3.out.later hb4)
  have HW4 : Hid (Below N w w4) := HW3.out.trans (hb4.mono (by have := blk_lt HZ3.out; omega))
  clear hx4 hb4 HEN y0 y1 y2
  cases hok : s.ok with
  | false =>
    have he : s.err = 61 := by unfold Sch.err; rw [hok]; rfl
    rw [he]
    clear he hok
    have t0 : w4.cell? ⟨N, 0, none⟩ = some (.string ⟨#[]⟩) := cell_blk HZ4.out
    have tf0 : w4.frozen? ⟨N, 0, none⟩ = false := frz_blk HZ4.out
    have t1 : w4.cell? ⟨N, 1, none⟩ = some (.slice none 0 0) := cell_blk HZ4.out
    have tf1 : w4.frozen? ⟨N, 1, none⟩ = false := frz_blk HZ4.out
    have t2 : w4.cell? ⟨N, 2, none⟩ = some (.slice none 0 0) := cell_blk HZ4.out
    have tf2 : w4.frozen? ⟨N, 2, none⟩ = false := frz_blk HZ4.out
    go_wp2
    (try simp only [Exit.inBlock, Exit.then])
    refine bodyPost_ret (results_sch Try.results22 _ _ N _ _ _ _ _ rfl (set3 HZ4.out)) rfl ?_
    exact ⟨Or.inl rfl, ((HW4.out.setCell (p := ⟨N, 0, none⟩) (Nat.le_refl _) _).setCell (p := ⟨N, 1, none⟩) (Nat.le_refl _) _).setCell (p := ⟨N, 2, none⟩) (Nat.le_refl _) _⟩
  | true =>
    have he : s.err = 0 := by unfold Sch.err; rw [hok]; rfl
    have HOKT := hide hok
    have HEQ := hide (bequal_any a4 a n4 c4 n c (encS s) xs w4 (HX4.out hok) HB4.out)
    rw [he]
    clear he hok
    go_wp2_with fail
    refine HEQ.out.mono ?_
    rintro e w9 ⟨rfl, hw⟩
    have hw := hw.symm
    subst hw
    clear hw HEQ
    by_cases hq : encS s = xs
    · have HEQS := hide hq
      rw [decide_eq_true hq]
      clear hq
      have z0 : w4.cell? ⟨V, 0, none⟩ = some (.string s.nm) := cell_blk HV4.out
      have z1 : w4.cell? ⟨V, 1, none⟩ = some (.slice ca s.cs.length cc) := cell_blk HV4.out
      have z2 : w4.cell? ⟨V, 2, none⟩ = some (.slice xa s.xs.length xc) := cell_blk HV4.out
      have t0 : w4.cell? ⟨N, 0, none⟩ = some (.string ⟨#[]⟩) := cell_blk HZ4.out
      have tf0 : w4.frozen? ⟨N, 0, none⟩ = false := frz_blk HZ4.out
      have t1 : w4.cell? ⟨N, 1, none⟩ = some (.slice none 0 0) := cell_blk HZ4.out
      have tf1 : w4.frozen? ⟨N, 1, none⟩ = false := frz_blk HZ4.out
      have t2 : w4.cell? ⟨N, 2, none⟩ = some (.slice none 0 0) := cell_blk HZ4.out
      have tf2 : w4.frozen? ⟨N, 2, none⟩ = false := frz_blk HZ4.out
      go_wp2
      (try simp only [Exit.inBlock, Exit.then])
      refine bodyPost_ret (results_sch Try.results22 _ _ N _ _ _ _ _ rfl (set3 HZ4.out)) rfl ?_
      have hsz : w4.heap.size ≤ (((w4.setCell ⟨N, 0, none⟩ (.string s.nm)).setCell ⟨N, 1, none⟩ (.slice ca s.cs.length cc)).setCell ⟨N, 2, none⟩ (.slice xa s.xs.length xc)).heap.size := ((((Below.refl 0 w4).setCell (p := ⟨N, 0, none⟩) (Nat.zero_le _) _).setCell (p := ⟨N, 1, none⟩) (Nat.zero_le _) _).setCell (p := ⟨N, 2, none⟩) (Nat.zero_le _) _).size
      have hoth : ∀ b, b ≠ N → (((w4.setCell ⟨N, 0, none⟩ (.string s.nm)).setCell ⟨N, 1, none⟩ (.slice ca s.cs.length cc)).setCell ⟨N, 2, none⟩ (.slice xa s.xs.length xc)).heap[b]? = w4.heap[b]? := fun b hb => by
        rw [heap_setCell_other _ _ _ _ (show b ≠ N from hb), heap_setCell_other _ _ _ _ (show b ≠ N from hb), heap_setCell_other _ _ _ _ (show b ≠ N from hb)]
      exact ⟨Or.inr ⟨s, ca, cc, xa, xc, rfl, ⟨HSC4.out.c.blk hsz fun b o e => hoth b (HNB.out.1 b o e), HSC4.out.x.blk hsz fun b o e => hoth b (HNB.out.2 b o e)⟩, HOKT.out, HEQS.out⟩, ((HW4.out.setCell (p := ⟨N, 0, none⟩) (Nat.le_refl _) _).setCell (p := ⟨N, 1, none⟩) (Nat.le_refl _) _).setCell (p := ⟨N, 2, none⟩) (Nat.le_refl _) _⟩
    · rw [decide_eq_false hq]
      clear hq
      have t0 : w4.cell? ⟨N, 0, none⟩ = some (.string ⟨#[]⟩) := cell_blk HZ4.out
      have tf0 : w4.frozen? ⟨N, 0, none⟩ = false := frz_blk HZ4.out
      have t1 : w4.cell? ⟨N, 1, none⟩ = some (.slice none 0 0) := cell_blk HZ4.out
      have tf1 : w4.frozen? ⟨N, 1, none⟩ = false := frz_blk HZ4.out
      have t2 : w4.cell? ⟨N, 2, none⟩ = some (.slice none 0 0) := cell_blk HZ4.out
      have tf2 : w4.frozen? ⟨N, 2, none⟩ = false := frz_blk HZ4.out
      go_wp2
      (try simp only [Exit.inBlock, Exit.then])
      refine bodyPost_ret (results_sch Try.results22 _ _ N _ _ _ _ _ rfl (set3 HZ4.out)) rfl ?_
      exact ⟨Or.inl rfl, ((HW4.out.setCell (p := ⟨N, 0, none⟩) (Nat.le_refl _) _).setCell (p := ⟨N, 1, none⟩) (Nat.le_refl _) _).setCell (p := ⟨N, 2, none⟩) (Nat.le_refl _) _⟩
end Go.Proofs.Ytcophbkgighepaa
