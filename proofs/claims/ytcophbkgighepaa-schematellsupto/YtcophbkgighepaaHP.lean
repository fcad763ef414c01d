/- The law's state; its helpers' contracts in one form. -/
import Derived.Test.YtcophbkgighepaaHO
import Derived.Test.YtcophbkgighepaaHK
import Derived.Test.YtcophbkgighepaaFW
set_option linter.unusedVariables false
namespace Go.Proofs.Ytcophbkgighepaa
open Go.RowKit

theorem hiB_lt (n s : Nat) : ∀ c ∈ hiB n s, c < 256 := by
  intro c hc
  simp only [hiB, List.mem_map] at hc
  obtain ⟨i, _, rfl⟩ := hc
  omega
theorem vbytes_lt (x : Val) : ∀ c ∈ x.bytes, c < 256 := by
  unfold Val.bytes
  cases holdOf x.1 x.2.1 x.2.2 with
  | nothing => simp [H.bytes]
  | number n =>
    intro c hc
    simp only [H.bytes, List.mem_cons] at hc
    rcases hc with rfl | hc
    · omega
    · exact hiB_lt _ _ c hc
  | text s =>
    intro c hc
    simp only [H.bytes, List.mem_cons, List.mem_append, runeB, List.mem_flatMap] at hc
    rcases hc with rfl | ⟨r, _, hc⟩ | hc
    · omega
    · exact hiB_lt _ _ c hc
    · exact hiB_lt _ _ c hc
  | truth b => intro c hc; cases b <;> simp [H.bytes, bi] at hc <;> omega
  | none => simp [H.bytes]
theorem kbytes_lt (a : List Val) : ∀ c ∈ keyBytes a, c < 256 := by
  intro c hc
  simp only [keyBytes, List.mem_flatMap] at hc
  obtain ⟨x, _, hx⟩ := hc
  exact vbytes_lt x c hx
theorem rowB_lt (l : List Val) : ∀ c ∈ rowB l, c < 256 := by
  intro c hc
  unfold rowB at hc
  rcases List.mem_append.1 hc with h | h
  · exact encW_lt _ c h
  · exact kbytes_lt l c h
theorem rowB_len {l : List Val} (hl : l.length ≤ 3) (h : ∀ x ∈ l, x.2.2.size ≤ 1048576) : (rowB l).length ≤ 100000000 := by
  have h1 := kb_le h
  have h2 := encW_len l.length (by omega)
  unfold rowB
  rw [List.length_append]
  have : l.length * 3145732 ≤ 3 * 3145732 := Nat.mul_le_mul_right _ hl
  omega
theorem rowE_zero {l : List Val} (h : rowE l = 0) : l.length ≤ 3 ∧ keyErr l = 0 := by
  unfold rowE at h
  split at h
  · omega
  · split at h
    · omega
    · rename_i h1 h2
      exact ⟨by omega, by simpa using h2⟩
/-- What came in lies where it lay, and so do the two boxes. -/
structure SS (W : World) (g4 g5 : Nat) (s : Sch) (ca : Option Addr) (cl cc : Nat) (xa : Option Addr) (xl xc : Nat) (t : Sch) (da : Option Addr) (dl dc : Nat) (ya : Option Addr) (yl yc : Nat) (a : Option Addr) (n c : Nat) (la : List Val) (b : Option Addr) (m d : Nat) (lb : List Val) (w : World) : Prop where
  k4 : w.heap[g4]? = some (.cells #[.string s.nm, .slice ca cl cc, .slice xa xl xc] 25 (0, 0))
  k5 : w.heap[g5]? = some (.cells #[.string t.nm, .slice da dl dc, .slice ya yl yc] 25 (0, 0))
  s : SC w ca cl cc xa xl xc s
  t : SC w da dl dc ya yl yc t
  a : SV fV 3 w a n c la
  b : SV fV 3 w b m d lb
  bel : Below W.heap.size W w
theorem SS.next {W w w' : World} {g4 g5 : Nat} {s : Sch} {ca : Option Addr} {cl cc : Nat} {xa : Option Addr} {xl xc : Nat} {t : Sch} {da : Option Addr} {dl dc : Nat} {ya : Option Addr} {yl yc : Nat} {a : Option Addr} {n c : Nat} {la : List Val} {b : Option Addr} {m d : Nat} {lb : List Val} (h : SS W g4 g5 s ca cl cc xa xl xc t da dl dc ya yl yc a n c la b m d lb w) (hb : Below w.heap.size w w') : SS W g4 g5 s ca cl cc xa xl xc t da dl dc ya yl yc a n c la b m d lb w' :=
  ⟨(hb.block g4 (blk_lt h.k4)).trans h.k4, (hb.block g5 (blk_lt h.k5)).trans h.k5, h.s.later hb, h.t.later hb, h.a.later hb, h.b.later hb, h.bel.trans (hb.mono h.bel.size)⟩
theorem copied5 {w : World} {ca xa : Option Addr} {cl cc xl xc : Nat} {s : Sch} (h : SC w ca cl cc xa xl xc s) :
    Calls Try.prog 6 #[.agg #[.string s.nm, .slice ca cl cc, .slice xa xl xc]] w fun e w' => ∃ ea el ec za zl zc, e = .returned (.agg #[.string s.t5.nm, .slice ea el ec, .slice za zl zc]) ∧ SC w' ea el ec za zl zc s.t5 ∧ el ≤ 5 ∧ zl ≤ 5 ∧ Below w.heap.size w w' := by
  refine (copied_ok h).mono ?_
  rintro e w' ⟨a1, a2, a3, a4, he, hs, hb⟩
  exact ⟨a1, _, a2, a3, _, a4, he, hs, by omega, by omega, hb⟩
theorem few5 {w : World} {a : Option Addr} {n c : Nat} {l : List Val} (h : SV fV 3 w a n c l) :
    Calls Try.prog 7 #[.slice a n c] w fun e w' => ∃ a' n' c', e = .returned (.slice a' n' c') ∧ SV fV 3 w' a' n' c' (l.take 5) ∧ n' ≤ 5 ∧ Below w.heap.size w w' := by
  refine (few_ok h).mono ?_
  rintro e w' ⟨a1, a2, he, hs, hb⟩
  exact ⟨a1, _, a2, he, hs, by omega, hb⟩
theorem encode5 {w : World} {ca xa : Option Addr} {cl cc xl xc : Nat} {s : Sch} (h : SC w ca cl cc xa xl xc s) :
    Calls Try.prog 19 #[.agg #[.string s.nm, .slice ca cl cc, .slice xa xl xc]] w fun e w' => ∃ ax nx cx, e = .returned (.tuple #[.slice ax nx cx, .int .i64 s.err]) ∧ (s.ok = true → BS w' ax nx cx (encS s)) ∧ Below w.heap.size w w' := by
  cases hok : s.ok with
  | false =>
    refine (encode_no h hok).mono ?_
    rintro e w' ⟨he, hb⟩
    exact ⟨none, 0, 0, by rw [he]; unfold Sch.err; rw [hok]; rfl, (fun q => nomatch q), hb⟩
  | true =>
    refine (encode_ok h hok).mono ?_
    rintro e w' ⟨v, he, ho, hb⟩
    obtain ⟨a, c, e1⟩ := OB.form ho
    subst e1
    exact ⟨a, _, c, by rw [he]; unfold Sch.err; rw [hok]; rfl, fun _ => OB.bs ho (encS_lt s) (by have := encS_len hok; omega), hb⟩
theorem encrow5 {w : World} {a : Option Addr} {n c : Nat} {l : List Val} (h : SV fV 3 w a n c l) (hn : n ≤ 5) (hok : ∀ x ∈ l, ValP x) :
    Calls Try.prog 20 #[.slice a n c] w fun e w' => ∃ ax nx cx, e = .returned (.tuple #[.slice ax nx cx, .int .i64 (rowE l)]) ∧ (rowE l = 0 → BS w' ax nx cx (rowB l)) ∧ Below w.heap.size w w' := by
  refine (encrow_any h (by omega) (fun x hx => (hok x hx).1) (fun x hx => (hok x hx).2)).mono ?_
  rintro e w' ⟨⟨v, he, h0, h1⟩, hb⟩
  by_cases hz : rowE l = 0
  · have ho := h0 hz
    obtain ⟨a, c, e1⟩ := OB.form ho
    subst e1
    exact ⟨a, _, c, he, fun _ => OB.bs ho (rowB_lt l) (rowB_len (rowE_zero hz).1 (fun x hx => (hok x hx).2)), hb⟩
  · have e1 := h1 hz
    subst e1
    exact ⟨none, 0, 0, he, fun q => absurd q hz, hb⟩
theorem same_iff {s t : Sch} (hs : s.ok = true) (ht : t.ok = true) : ((str (encS s)).toList == (str (encS t)).toList) = s.same t := by
  rw [str_beq _ _ (encS_lt s) (encS_lt t)]
  unfold Sch.same
  rw [ba_beq]
  by_cases h : encS s = encS t
  · obtain ⟨h1, h2, h3⟩ := encS_inj hs ht h
    rw [decide_eq_true h, decide_eq_true h1, decide_eq_true h2, decide_eq_true h3]
    rfl
  · rw [decide_eq_false h]
    by_cases h1 : s.nm = t.nm
    · by_cases h2 : s.cs = t.cs
      · by_cases h3 : s.xs = t.xs
        · exact absurd (by unfold encS; rw [h1, h2, h3]) h
        · rw [decide_eq_false h3]; simp
      · rw [decide_eq_false h2]; simp
    · rw [decide_eq_false h1]; simp
theorem samerow_iff {l m : List Val} (hl : rowE l = 0) (hm : rowE m = 0) (pl : ∀ x ∈ l, ValP x) (pm : ∀ x ∈ m, ValP x) : ((str (rowB l)).toList == (str (rowB m)).toList) = decide (l = m) := by
  rw [str_beq _ _ (rowB_lt l) (rowB_lt m)]
  by_cases h : rowB l = rowB m
  · rw [decide_eq_true h, decide_eq_true (rowB_inj (rowE_zero hl).1 (rowE_zero hm).1 (fun x hx => (pl x hx).1) (fun x hx => (pm x hx).1) (rowE_zero hl).2 (rowE_zero hm).2 h)]
  · rw [decide_eq_false h, decide_eq_false (fun e => h (by rw [e]))]
theorem fitsN_at {s : Sch} {l : List Val} : ∀ {n : Nat}, fitsN s l n = true → ∀ {j : Nat} {c : Col} {v : Val}, j < n → s.cs[j]? = some c → l[j]? = some v → fitsB c v = true
  | 0, _, j, c, v, hj, _, _ => by omega
  | n + 1, h, j, c, v, hj, hc, hv => by
    have h' : (fitsN s l n && (match s.cs[n]?, l[n]? with | some c, some v => fitsB c v | _, _ => true)) = true := h
    rw [Bool.and_eq_true] at h'
    by_cases e : j = n
    · subst e
      have h2 := h'.2
      rw [hc, hv] at h2
      exact h2
    · exact fitsN_at h'.1 (by omega) hc hv
theorem fold_small {s : Sch} {l : List Val} (h : s.fits l = 0) (hs : ∀ x ∈ l, x.2.2.size ≤ 1048576) : ∀ x ∈ l.map foldV, x.2.2.size ≤ 1048576 := by
  intro x hx
  obtain ⟨v, hv, rfl⟩ := List.mem_map.1 hx
  unfold foldV
  split
  · unfold Sch.fits at h
    split at h
    · cases h
    · rename_i h1
      split at h
      · cases h
      · rename_i h2
        split at h
        · cases h
        · split at h
          · rename_i h4
            obtain ⟨j, hj⟩ := List.getElem?_of_mem hv
            have hjl : j < l.length := (List.getElem?_eq_some_iff.1 hj).1
            obtain ⟨c, hc⟩ : ∃ c, s.cs[j]? = some c := ⟨_, List.getElem?_eq_getElem (by omega)⟩
            have hf := fitsN_at h4 hjl hc hj
            have hok := (Sch.parts (by simpa using h1)).2.2.2.1 j c hc
            unfold fitsB at hf
            simp only [Bool.and_eq_true, decide_eq_true_eq] at hf
            have h9 := hf.2
            show (foldS v.2.2).size ≤ 1048576
            unfold foldS
            cases hr : runes (bl v.2.2) with
            | none => simp [ByteArray.size]
            | some rs =>
              have e1 : rcn v.2.2 = rs.length := by unfold rcn; rw [hr]; rfl
              have e2 := encs_le (rs.map foldR)
              rw [List.length_map] at e2
              rw [e1] at h9
              show (encs (rs.map foldR)).toArray.size ≤ _
              rw [List.size_toArray]
              have := hok.m1
              omega
          · cases h
  · exact hs v hv
theorem same_self (s : Sch) : s.same s = true := by
  unfold Sch.same
  rw [ba_beq]
  simp
end Go.Proofs.Ytcophbkgighepaa
set_option linter.unusedVariables false
namespace Go.Proofs.Ytcophbkgighepaa
open Go.RowKit

set_option maxRecDepth 100000 in
set_option maxHeartbeats 4000000 in
theorem sfold_own {w : World} {ca xa : Option Addr} {cl cc xl xc : Nat} {nm : ByteArray} {a : Option Addr} {n c : Nat} {l : List Val} (h : SV fV 3 w a n c l) (hn : n ≤ 1000) (hs : ∀ x ∈ l, x.2.2.size ≤ 1048576) :
    Calls Try.prog 9 #[.agg #[.string nm, .slice ca cl cc, .slice xa xl xc], .slice a n c] w fun e w' => ∃ a' c', e = .returned (.slice a' n c') ∧ w'.ownsRow w.heap.size 39 3 (.slice a' n c') n ((l.map foldV).flatMap fV) ∧ Below w.heap.size w w' := by
  have hbx := below_box w (.cells #[.string nm, .slice ca cl cc, .slice xa xl xc] 25)
  have HCL := hide (vclone_ok (h.later hbx) hn)
  have HL := hide h.hl
  have HS := hide hs
  have HB1 := hide hbx
  clear h hbx hs
  go_enter Try.func9, Try.ntmps9
  go_wp2_with fail
  refine HCL.out.mono ?_
  rintro e w2 ⟨v2, rfl, ho2, hb2⟩
  have HN0 : Hid (w.heap.size ≤ w2.heap.size) := Nat.le_trans HB1.out.size hb2.size
  have HO2 : Hid (w2.ownsRow w.heap.size 39 3 v2 n (l.flatMap fV)) := own_mono ho2 HB1.out.size
  have HB2 : Hid (Below w.heap.size w w2) := HB1.out.trans (hb2.mono HB1.out.size)
  obtain ⟨a2, c2, e2, hsv2⟩ := own_sv fV_len ho2 HL.out
  subst e2
  clear ho2 hb2 hsv2 HCL HB1
  generalize hn0 : w.heap.size = n0 at *
  go_wp2_with fail
  go_loopg [12] n (fun gh s12 wx => ∃ j : Nat, j + gh = n ∧ s12 = .int .i64 (j : Int) ∧ wx.ownsRow n0 39 3 (.slice a2 n c2) n (((l.take j).map foldV ++ l.drop j).flatMap fV) ∧ Below n0 w wx)
  case atStart => exact ⟨0, by omega, rfl, by simpa using HO2.out, HB2.out⟩
  case round =>
    obtain ⟨j, hj, rfl, hor, hbr⟩ := hrel
    have HOR := hide hor
    have HBR := hide hbr
    clear hor hbr
    by_cases hjn : j < n
    · have xj : (j : Int) < (n : Int) := by omega
      obtain ⟨x, hxj⟩ : ∃ x, l[j]? = some x := ⟨_, List.getElem?_eq_getElem (by rw [HL.out]; exact hjn)⟩
      have hlj : ((l.take j).map foldV).length = j := by rw [List.length_map, List.length_take, HL.out]; omega
      have HAT : Hid (((l.take j).map foldV ++ l.drop j)[j]? = some x) := by
        show _ = _
        rw [List.getElem?_append_right (by omega), hlj, Nat.sub_self, List.getElem?_drop, Nat.add_zero]
        exact hxj
      have HNX : Hid (((l.take j).map foldV ++ l.drop j).set j (foldV x) = (l.take (j + 1)).map foldV ++ l.drop (j + 1)) := by
        show _ = _
        have hd : l.drop j = x :: l.drop (j + 1) := by
          rw [List.drop_eq_getElem_cons (by rw [HL.out]; exact hjn)]
          congr 1
          exact (List.getElem?_eq_some_iff.1 hxj).2
        rw [List.set_append_right _ _ (by omega), hlj, Nat.sub_self, List.take_add_one, hxj, hd, List.set_cons_zero]
        simp
      have HSX : Hid (x.2.2.size ≤ 1048576) := HS.out x (List.mem_of_getElem? hxj)
      obtain ⟨aa, ac, ea, hsv⟩ := own_sv fV_len HOR.out (by rw [List.length_append, hlj, List.length_drop, HL.out]; omega)
      simp only [Value.slice.injEq] at ea
      obtain ⟨rfl, _, rfl⟩ := ea
      obtain ⟨g, o, e0, hg, hcs⟩ := hsv.pl (by omega)
      have ho0 : o = 0 := by
        rcases HOR.out.2 with ⟨e, _⟩ | ⟨g', cap', cur, e, _⟩
        · rw [e0] at e; cases e
        · rw [e0] at e
          simp only [Value.slice.injEq, Option.some.injEq, Addr.mk.injEq] at e
          exact e.1.2.1
      subst ho0 e0
      have y0 : wr.cell? ⟨g, j * 3, none⟩ = some (.int .i64 x.1) := by have := hcs j x HAT.out 0 (by omega); simpa [fV] using this
      have y1 : wr.cell? ⟨g, j * 3 + 1, none⟩ = some (.int .i64 x.2.1) := by have := hcs j x HAT.out 1 (by omega); simpa [fV] using this
      have y2 : wr.cell? ⟨g, j * 3 + 2, none⟩ = some (.string x.2.2) := by have := hcs j x HAT.out 2 (by omega); simpa [fV] using this
      have hbk := below_box wr (.cells #[.int .i64 x.1, .int .i64 x.2.1, .string x.2.2] 39)
      have HR3 : Hid ((wr.alloc (.cells #[.int .i64 x.1, .int .i64 x.2.1, .string x.2.2] 39)).heap[wr.heap.size]? = some (.cells #[.int .i64 x.1, .int .i64 x.2.1, .string x.2.2] 39 (0, 0))) := boxed wr _
      have HO3 := hide (ownsRow_later HOR.out hbk)
      have HNR : Hid (n0 ≤ wr.heap.size) := by show n0 ≤ _; have := HBR.out.size; omega
      have HB3 : Hid (Below n0 w (wr.alloc (.cells #[.int .i64 x.1, .int .i64 x.2.1, .string x.2.2] 39))) := HBR.out.trans (hbk.mono HNR.out)
      have HLT : Hid (g < wr.heap.size) := hg
      clear hcs hsv hbk hlj hg
      by_cases hk2 : x.1 = 2
      · have HFV : Hid (fV (foldV x) = (fV x).set 2 (.string (foldS x.2.2))) := by show fV (foldV x) = _; unfold foldV; rw [if_pos hk2]; rfl
        have hk2' : (x.1 == 2) = true := by rw [hk2]; rfl
        clear hk2
        go_upto_region 5 with fail
        generalize (wr.alloc (.cells #[.int .i64 x.1, .int .i64 x.2.1, .string x.2.2] 39)) = w3 at *
        have z0 : w3.cell? ⟨wr.heap.size, 0, none⟩ = some (.int .i64 x.1) := cell_blk HR3.out
        have z2 : w3.cell? ⟨wr.heap.size, 2, none⟩ = some (.string x.2.2) := cell_blk HR3.out
        have HFD := hide (fold_any x.2.2 w3 HSX.out)
        go_wp2_with fail
        refine HFD.out.mono ?_
        rintro e w4 ⟨rfl, hb4⟩
        have HO4 := hide (ownsRow_later HO3.out hb4)
        have HB4 : Hid (Below n0 w w4) := HB3.out.trans (hb4.mono (by have := blk_lt HR3.out; have := HNR.out; omega))
        obtain ⟨cur, hcur⟩ : ∃ cur, w4.heap[g]? = some (.cells cur 39 (0, 0)) := by
          rcases HO4.out.2 with ⟨e, _⟩ | ⟨g', cap', cur, e, _, h6, _⟩
          · cases e
          · simp only [Value.slice.injEq, Option.some.injEq, Addr.mk.injEq] at e
            rw [e.1.1]
            exact ⟨cur, h6⟩
        have f2 : w4.frozen? ⟨g, j * 3 + 2, none⟩ = false := frz_blk hcur
        have q2 : w4.cell? ⟨g, j * 3 + 2, none⟩ = some (.string x.2.2) := by
          obtain ⟨aa, ac, ea, hsv⟩ := own_sv fV_len HO4.out (by rw [List.length_append, List.length_map, List.length_take, List.length_drop, HL.out]; omega)
          simp only [Value.slice.injEq] at ea
          obtain ⟨rfl, _, rfl⟩ := ea
          obtain ⟨g', o', e0, _, hcs⟩ := hsv.pl (by omega)
          simp only [Option.some.injEq, Addr.mk.injEq] at e0
          obtain ⟨rfl, rfl, _⟩ := e0
          have := hcs j x HAT.out 2 (by omega)
          simpa [fV] using this
        have HO5 : Hid ((w4.setCell ⟨g, j * 3 + 2, none⟩ (.string (foldS x.2.2))).ownsRow n0 39 3 (.slice (some ⟨g, 0, none⟩) n c2) n (((l.take (j + 1)).map foldV ++ l.drop (j + 1)).flatMap fV)) := by
          have h9 := own_set (u := .string (foldS x.2.2)) (i := j * 3 + 2) HO4.out (by omega)
          rw [fl_set fV_len (by omega) HAT.out HFV.out, HNX.out] at h9
          exact h9
        have hge : n0 ≤ g := by
          rcases HO4.out.2 with ⟨e, _⟩ | ⟨g', cap', cur, e, h5, _⟩
          · cases e
          · simp only [Value.slice.injEq, Option.some.injEq, Addr.mk.injEq] at e
            rw [e.1.1]; exact h5
        have HB5 : Hid (Below n0 w (w4.setCell ⟨g, j * 3 + 2, none⟩ (.string (foldS x.2.2)))) := HB4.out.setCell (p := ⟨g, j * 3 + 2, none⟩) hge _
        clear hb4 hcur hge HFD
        go_wp2
        go_roundg (gk - 1)
        case measure => omega
        case rel => exact ⟨j + 1, by omega, rfl, HO5.out, HB5.out⟩
      · have HFV : Hid (foldV x = x) := if_neg hk2
        have hk2' : (x.1 == 2) = false := by simp [hk2]
        have HO5 : Hid ((wr.alloc (.cells #[.int .i64 x.1, .int .i64 x.2.1, .string x.2.2] 39)).ownsRow n0 39 3 (.slice (some ⟨g, 0, none⟩) n c2) n (((l.take (j + 1)).map foldV ++ l.drop (j + 1)).flatMap fV)) := by
          have h9 := HO3.out
          rw [← HNX.out, HFV.out]
          rw [show ((l.take j).map foldV ++ l.drop j).set j x = (l.take j).map foldV ++ l.drop j from by
            apply List.ext_getElem?
            intro t
            rw [List.getElem?_set]
            split
            · rename_i q
              subst q
              rw [if_pos (List.getElem?_eq_some_iff.1 HAT.out).1, HAT.out]
            · rfl]
          exact h9
        clear hk2
        go_wp2
        go_roundg (gk - 1)
        case measure => omega
        case rel => exact ⟨j + 1, by omega, rfl, HO5.out, HB3.out⟩
    · have xj : ¬ (j : Int) < (n : Int) := by omega
      have ej : j = n := by omega
      have HE : Hid ((l.take j).map foldV ++ l.drop j = l.map foldV) := by
        show _ = _
        rw [ej, ← HL.out, List.take_length, List.drop_length, List.append_nil]
      have h9 := HOR.out
      rw [HE.out] at h9
      obtain ⟨aa, ac, ea, hsv⟩ := own_sv fV_len h9 (by rw [List.length_map]; exact HL.out)
      simp only [Value.slice.injEq] at ea
      obtain ⟨rfl, _, rfl⟩ := ea
      have HSV := hide h9
      clear hsv h9 ej
      go_wp2
      go_ret
      exact ⟨a2, c2, rfl, by first | exact HSV.out | (rw [hn0]; exact HSV.out), by first | exact HBR.out | (rw [hn0]; exact HBR.out)⟩
/-- A row that is owned, cell by cell. -/
theorem own_any {B te n g c : Nat} {w : World} {xs : List Value} (h : w.ownsRow B te 3 (.slice (some ⟨g, 0, none⟩) n c) n xs) : B ≤ g ∧ ∀ i, i < n * 3 → w.frozen? ⟨g, i, none⟩ = false ∧ ∃ u, w.cell? ⟨g, i, none⟩ = some u := by
  rcases h.2 with ⟨e, _⟩ | ⟨g', cap, cur, e, h5, h6, h7, h8, h9, h10⟩
  · cases e
  · simp only [Value.slice.injEq, Option.some.injEq, Addr.mk.injEq] at e
    obtain ⟨⟨rfl, _⟩, _, rfl⟩ := e
    refine ⟨h5, fun i hi => ⟨frz_blk h6, ?_⟩⟩
    rw [cell_blk h6]
    have : i < cur.size := by
      have h11 := h.1
      rw [← h10, List.length_take] at h11
      have : cur.toList.length = cur.size := by simp
      omega
    exact ⟨_, Array.getElem?_eq_getElem this⟩
theorem own_put {B te n g c j : Nat} {w : World} {xs : List Value} (h : w.ownsRow B te 3 (.slice (some ⟨g, 0, none⟩) n c) n xs) (hj : j < n) (x y z : Value) : ∃ ys, (((w.setCell ⟨g, j * 3, none⟩ x).setCell ⟨g, j * 3 + 1, none⟩ y).setCell ⟨g, j * 3 + 2, none⟩ z).ownsRow B te 3 (.slice (some ⟨g, 0, none⟩) n c) n ys :=
  ⟨_, own_set (own_set (own_set h (by omega)) (by omega)) (by omega)⟩
end Go.Proofs.Ytcophbkgighepaa
