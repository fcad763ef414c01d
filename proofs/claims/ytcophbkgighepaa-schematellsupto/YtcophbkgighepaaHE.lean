/- Bytes of schemas: schema.Encode. -/
import Derived.Test.YtcophbkgighepaaHC
import Derived.Laws.IdiomStrings
set_option linter.unusedVariables false
namespace Go.Proofs.Ytcophbkgighepaa
open Go.RowKit

/-- A text's bytes. -/
def sl (s : ByteArray) : List Nat := s.data.toList.map UInt8.toNat
theorem sl_len (s : ByteArray) : (sl s).length = s.size := by simp [sl]
theorem sl_lt (s : ByteArray) : ∀ c ∈ sl s, c < 256 := by
  intro c hc
  simp only [sl, List.mem_map] at hc
  obtain ⟨u, _, rfl⟩ := hc
  exact u.toNat_lt
theorem str_sl (s : ByteArray) : str (sl s) = s := by
  apply ByteArray.ext
  apply Array.toList_inj.1
  rw [str, strOfNums_data, sl, List.map_map, List.map_map]
  conv => rhs; rw [← List.map_id s.data.toList]
  apply List.map_congr_left
  intro u _
  simp
theorem sl_str {xs : List Nat} (h : ∀ n ∈ xs, n < 256) : sl (str xs) = xs := by
  rw [sl, str, strOfNums_data, List.map_map, List.map_map]
  conv => rhs; rw [← List.map_id xs]
  apply List.map_congr_left
  intro n hn
  have := h n hn
  simp only [Function.comp, Int.ofNat_eq_natCast, Int.toNat_natCast, UInt8.toNat_ofNat', id]
  omega
theorem conv_bs {w : World} {g cap : Nat} {s : ByteArray} {fz : Nat × Nat} (h : w.heap[g]? = some (.cells (bytesRow s cap) 5 fz)) (h1 : s.size ≤ cap) (h2 : cap ≤ 9223372036854775807) (h3 : s.size ≤ 140737488355328) : BS w (some ⟨g, 0, none⟩) s.size cap (sl s) := by
  refine BS.of (sl_len s) h1 h3 h2 (sl_lt s) ?_
  intro i hi
  have hi2 : i < s.data.size := hi
  rw [Nat.zero_add, cell_of_row w g i _ _ _ h, bytesRow_at s cap i hi2]
  congr 3
  simp only [sl, List.getD_eq_getElem?_getD, List.getElem?_map, Array.getElem?_toList, Array.getElem?_eq_getElem hi2, Option.map_some, Option.getD_some]

theorem conv_ok (s : ByteArray) (w : World) (h : s.size ≤ 1000) : ∃ cap w', (convert 9 42 (.string s)).run Try.prog w = .ok (.slice (some ⟨w.heap.size, 0, none⟩) s.size cap) w' ∧ Below w.heap.size w w' ∧ BS w' (some ⟨w.heap.size, 0, none⟩) s.size cap (sl s) := by
  refine ⟨_, _, run_bytes_of_string w 9 42 5 s Try.underlying9 Try.underlying42 Try.underlying5, (Below.refl _ _).drew.alloc (Nat.le_refl _) _, ?_⟩
  have hge := grownCap_ge w s.size 0 5
  have hle := grownCap_le_maxLen w s.size 0 5 (by unfold maxLen; omega)
  unfold maxLen at hle
  exact conv_bs (heap_alloc_new w.drew _) hge (by omega) (by omega)
theorem uint_ob (n : Nat) (w : World) (h : n < 9223372036854775808) : Calls Try.prog 37 #[.int .i64 n] w fun e w' => ∃ g c, e = .returned (.slice (some ⟨g, 0, none⟩) (grp n) c) ∧ OB w.heap.size w' (.slice (some ⟨g, 0, none⟩) (grp n) c) (encW n) ∧ Below w.heap.size w w' := by
  refine (uint_owns n w h).mono ?_
  rintro e w' ⟨g, c, rfl, h1, h2⟩
  refine ⟨g, c, rfl, ?_, h2⟩
  show World.ownsRow _ _ _ _ _ _ _
  rw [enc_length n (grp_spec n h).1]
  exact h1
/-- A name's bytes, with their number ahead. -/
def wb (s : ByteArray) : List Nat := encW s.size ++ sl s
theorem wire_name (s : ByteArray) (w : World) {cap : Nat} {a : Option Addr} (h : BS w a s.size cap (sl s)) (hs : s.size ≤ 1000) : Calls Try.prog 36 #[.slice a s.size cap] w fun e w' => ∃ g c, e = .returned (.slice (some ⟨g, 0, none⟩) (grp s.size + s.size) c) ∧ OB w.heap.size w' (.slice (some ⟨g, 0, none⟩) (grp s.size + s.size) c) (wb s) ∧ Below w.heap.size w w' := by
  refine (bytes_any a s.size cap (sl s) w h (by omega)).mono ?_
  rintro e w' ⟨g, c, rfl, h1, h2⟩
  refine ⟨g, c, rfl, ?_, h2⟩
  show World.ownsRow _ _ _ _ _ _ _
  unfold wb
  rw [List.length_append, enc_length s.size (grp_spec s.size (by omega)).1, sl_len]
  exact h1
theorem encW_len (n : Nat) (h : n < 9223372036854775808) : (encW n).length ≤ 9 := by rw [enc_length n (grp_spec n h).1]; exact (grp_spec n h).2.1
theorem wb_len (s : ByteArray) (h : s.size ≤ 8) : (wb s).length ≤ 17 := by
  unfold wb
  have := encW_len s.size (by omega)
  rw [List.length_append, sl_len]
  omega
def encC (c : Col) : List Nat := wb c.1 ++ encW c.2.1.toNat ++ encW c.2.2.toNat
def encX (x : Idx) : List Nat := encW x.1.toNat ++ encW (if x.2 then 1 else 0)
def encS (s : Sch) : List Nat := wb s.nm ++ encW s.cs.length ++ s.cs.flatMap encC ++ encW s.xs.length ++ s.xs.flatMap encX
/-- What a Right column is. -/
theorem colsN_at {l : List Col} : ∀ {n j : Nat} {c : Col}, colsN l n = true → j < n → l[j]? = some c → colAt l j c = true
  | 0, j, c, _, hj, _ => by omega
  | n + 1, j, c, h, hj, hc => by
    have h' : (colsN l n && (match l[n]? with | some c => colAt l n c | none => true)) = true := h
    rw [Bool.and_eq_true] at h'
    by_cases e : j = n
    · subst e
      have := h'.2
      rw [hc] at this
      exact this
    · exact colsN_at h'.1 (by omega) hc
theorem ixsN_at {m : Nat} {l : List Idx} : ∀ {n j : Nat} {c : Idx}, ixsN m l n = true → j < n → l[j]? = some c → ixAt m l j c = true
  | 0, j, c, _, hj, _ => by omega
  | n + 1, j, c, h, hj, hc => by
    have h' : (ixsN m l n && (match l[n]? with | some c => ixAt m l n c | none => true)) = true := h
    rw [Bool.and_eq_true] at h'
    by_cases e : j = n
    · subst e
      have := h'.2
      rw [hc] at this
      exact this
    · exact ixsN_at h'.1 (by omega) hc
theorem isNm_size {s : ByteArray} (h : isNm s = true) : s.size ≤ 8 := by
  unfold isNm at h
  simp only [Bool.and_eq_true, decide_eq_true_eq] at h
  exact h.1.2
theorem isMx_num {k m : Int} (h : isMx k m = true) : 1 ≤ k ∧ k ≤ 3 ∧ 0 ≤ m ∧ m ≤ 8 := by
  unfold isMx at h
  split at h
  · simp only [Bool.and_eq_true, decide_eq_true_eq] at h
    omega
  · split at h
    · simp only [beq_iff_eq] at h
      omega
    · cases h
structure ColOk (c : Col) : Prop where
  nm : c.1.size ≤ 8
  k0 : 1 ≤ c.2.1
  k1 : c.2.1 ≤ 3
  m0 : 0 ≤ c.2.2
  m1 : c.2.2 ≤ 8
theorem Sch.parts {s : Sch} (h : s.ok = true) : s.nm.size ≤ 8 ∧ s.cs.length ≤ 3 ∧ s.xs.length ≤ 3 ∧ (∀ (j : Nat) c, s.cs[j]? = some c → ColOk c) ∧ (∀ (j : Nat) x, s.xs[j]? = some x → 1 ≤ x.1 ∧ x.1 ≤ 3) := by
  unfold Sch.ok colsOk ixsOk at h
  simp only [Bool.and_eq_true, decide_eq_true_eq] at h
  obtain ⟨⟨h1, ⟨h2, h3⟩, h4⟩, h5, h6⟩ := h
  refine ⟨isNm_size h1, h3, h5, fun j c hc => ?_, fun j x hx => ?_⟩
  · have := colsN_at h4 (List.getElem?_eq_some_iff.1 hc).1 hc
    unfold colAt at this
    simp only [Bool.and_eq_true] at this
    have hm := isMx_num this.1.2
    exact ⟨isNm_size this.1.1, hm.1, hm.2.1, hm.2.2.1, hm.2.2.2⟩
  · have := ixsN_at h6 (List.getElem?_eq_some_iff.1 hx).1 hx
    unfold ixAt at this
    simp only [Bool.and_eq_true, decide_eq_true_eq] at this
    omega
theorem encC_len {c : Col} (h : ColOk c) : (encC c).length ≤ 35 := by
  unfold encC
  have h1 := wb_len c.1 h.nm
  have h2 := encW_len c.2.1.toNat (by have := h.k1; omega)
  have h3 := encW_len c.2.2.toNat (by have := h.m1; omega)
  simp only [List.length_append]
  omega
theorem encX_len {x : Idx} (h : 1 ≤ x.1 ∧ x.1 ≤ 3) : (encX x).length ≤ 18 := by
  unfold encX
  have h2 := encW_len x.1.toNat (by omega)
  have h3 := encW_len (if x.2 then 1 else 0) (by split <;> omega)
  simp only [List.length_append]
  omega
end Go.Proofs.Ytcophbkgighepaa
set_option linter.unusedVariables false
namespace Go.Proofs.Ytcophbkgighepaa
open Go.RowKit

set_option maxRecDepth 100000 in
set_option maxHeartbeats 2000000 in
theorem encode_no {w : World} {ca xa : Option Addr} {cl cc xl xc : Nat} {s : Sch} (h : SC w ca cl cc xa xl xc s) (hok : s.ok = false) :
    Calls Try.prog 19 #[.agg #[.string s.nm, .slice ca cl cc, .slice xa xl xc]] w fun e w' => e = .returned (.tuple #[.slice none 0 0, .int .i64 61]) ∧ Below w.heap.size w w' := by
  have hbx := below_box w (.cells #[.string s.nm, .slice ca cl cc, .slice xa xl xc] 25)
  have HR1 : Hid ((w.alloc (.cells #[.string s.nm, .slice ca cl cc, .slice xa xl xc] 25)).heap[w.heap.size]? = some (.cells #[.string s.nm, .slice ca cl cc, .slice xa xl xc] 25 (0, 0))) := boxed w _
  have HW1 := hide hbx
  have HRT := hide (sright_any (h.later hbx))
  rw [show s.err = 61 from if_neg (by rw [hok]; decide)] at HRT
  clear h hbx hok
  go_enter Try.func19, Try.ntmps19
  go_upto_region 1 with fail
  generalize w.alloc (.cells #[.string s.nm, .slice ca cl cc, .slice xa xl xc] 25) = w1 at *
  generalize hL : w.heap.size = L at *
  have y0 : w1.cell? ⟨L, 0, none⟩ = some (.string s.nm) := cell_blk HR1.out
  have y1 : w1.cell? ⟨L, 1, none⟩ = some (.slice ca cl cc) := cell_blk HR1.out
  have y2 : w1.cell? ⟨L, 2, none⟩ = some (.slice xa xl xc) := cell_blk HR1.out
  go_wp2_with fail
  refine HRT.out.mono ?_
  rintro e w2 ⟨rfl, hb2⟩
  have HW2 : Hid (Below L w w2) := HW1.out.trans (hb2.mono (by have := blk_lt HR1.out; omega))
  clear hb2 HRT
  go_wp2
  go_ret2
  exact ⟨rfl, by first | exact HW2.out | (rw [hL]; exact HW2.out)⟩
theorem flat_le {α : Type} {f : α → List Nat} {m : Nat} {l : List α} (h : ∀ (j : Nat) x, l[j]? = some x → (f x).length ≤ m) : ∀ j, ((l.take j).flatMap f).length ≤ m * j
  | 0 => by simp
  | j + 1 => by
    have ih := flat_le h j
    rw [List.take_add_one, List.flatMap_append, List.length_append, Nat.mul_add]
    cases hx : l[j]? with
    | none =>
      show ((l.take j).flatMap f).length + 0 ≤ m * j + m * 1
      omega
    | some x =>
      have h1 := h j x hx
      have e : [x].flatMap f = f x := by simp
      show ((l.take j).flatMap f).length + ([x].flatMap f).length ≤ m * j + m * 1
      rw [e]
      omega
theorem flat_next {α : Type} {f : α → List Nat} {l : List α} {j : Nat} {x : α} (h : l[j]? = some x) : (l.take (j + 1)).flatMap f = (l.take j).flatMap f ++ f x := by
  rw [List.take_add_one, h, List.flatMap_append]
  simp
set_option maxRecDepth 100000 in
set_option maxHeartbeats 8000000 in
theorem encode_ok {w : World} {ca xa : Option Addr} {cl cc xl xc : Nat} {s : Sch} (h : SC w ca cl cc xa xl xc s) (hok : s.ok = true) :
    Calls Try.prog 19 #[.agg #[.string s.nm, .slice ca cl cc, .slice xa xl xc]] w fun e w' => ∃ v, e = .returned (.tuple #[v, .int .i64 0]) ∧ OB w.heap.size w' v (encS s) ∧ Below w.heap.size w w' := by
  have hbx := below_box w (.cells #[.string s.nm, .slice ca cl cc, .slice xa xl xc] 25)
  have HR1 : Hid ((w.alloc (.cells #[.string s.nm, .slice ca cl cc, .slice xa xl xc] 25)).heap[w.heap.size]? = some (.cells #[.string s.nm, .slice ca cl cc, .slice xa xl xc] 25 (0, 0))) := boxed w _
  have HW1 := hide hbx
  have HRT := hide (sright_any (h.later hbx))
  rw [show s.err = 0 from if_pos hok] at HRT
  have HPA := hide (Sch.parts hok)
  have H0 := hide h
  have HCL := hide h.c.hl
  have HXL := hide h.x.hl
  have HNZ : Hid (s.nm.size ≤ 8) := HPA.out.1
  have hcl3 : cl ≤ 3 := by rw [← HCL.out]; exact HPA.out.2.1
  have hxl3 : xl ≤ 3 := by rw [← HXL.out]; exact HPA.out.2.2.1
  clear h hbx hok
  go_enter Try.func19, Try.ntmps19
  go_upto_region 1 with fail
  generalize w.alloc (.cells #[.string s.nm, .slice ca cl cc, .slice xa xl xc] 25) = w1 at *
  generalize hL : w.heap.size = L at *
  have y0 : w1.cell? ⟨L, 0, none⟩ = some (.string s.nm) := cell_blk HR1.out
  have y1 : w1.cell? ⟨L, 1, none⟩ = some (.slice ca cl cc) := cell_blk HR1.out
  have y2 : w1.cell? ⟨L, 2, none⟩ = some (.slice xa xl xc) := cell_blk HR1.out
  go_wp2_with fail
  refine HRT.out.mono ?_
  rintro e w2 ⟨rfl, hb2⟩
  have HW2 : Hid (Below L w w2) := HW1.out.trans (hb2.mono (by have := blk_lt HR1.out; omega))
  have HR2 := hide ((hb2.block L (blk_lt HR1.out)).trans HR1.out)
  clear hb2 HRT y0 y1 y2 HR1 HW1
  have y0 : w2.cell? ⟨L, 0, none⟩ = some (.string s.nm) := cell_blk HR2.out
  obtain ⟨cp3, w3, hcv3, hb3, hbs3⟩ := conv_ok s.nm w2 (by have := HNZ.out; omega)
  have HP4 := hide (wire_name s.nm w3 hbs3 (by have := HNZ.out; omega))
  have HR3 := hide ((hb3.block L (blk_lt HR2.out)).trans HR2.out)
  have HW3 : Hid (Below L w w3) := HW2.out.trans (hb3.mono (by have := blk_lt HR2.out; omega))
  clear hb3 hbs3
  go_wp2_with fail
  refine HP4.out.mono ?_
  rintro e w4 ⟨g4, c4, rfl, ho4, hb4⟩
  have HO4 := hide ho4
  have HR4 := hide ((hb4.block L (blk_lt HR3.out)).trans HR3.out)
  have HW4 : Hid (Below L w w4) := HW3.out.trans (hb4.mono (by have := blk_lt HR3.out; omega))
  have HN0 : Hid (w3.heap.size ≤ w4.heap.size) := hb4.size
  have HL0 : Hid (L < w3.heap.size) := blk_lt HR3.out
  clear ho4 hb4 HP4 hcv3 y0
  generalize w3.heap.size = n0 at *
  have y1 : w4.cell? ⟨L, 1, none⟩ = some (.slice ca cl cc) := cell_blk HR4.out
  have HWL := hide (wb_len s.nm HNZ.out)
  have HUC := hide (encW_len cl (by omega))
  have HP5 := hide (uint_ob cl w4 (by omega))
  go_wp2_with fail
  refine HP5.out.mono ?_
  rintro e w5 ⟨g5, c5, rfl, ho5, hb5⟩
  have HO5 := hide ho5
  have HO5' := hide (HO4.out.later hb5)
  have HR5 := hide ((hb5.block L (blk_lt HR4.out)).trans HR4.out)
  have HN5 : Hid (n0 ≤ w5.heap.size) := Nat.le_trans HN0.out hb5.size
  have HW5 : Hid (Below L w w5) := HW4.out.trans (hb5.mono (by have := blk_lt HR4.out; omega))
  clear ho5 hb5 HP5 HO4 y1
  go_upto_region 6 with (at_builtin; refine wpList_app_ob rfl (.tmp 19) (.tmp 23) rfl rfl rfl HO5'.out HO5.out HN5.out (by have := HWL.out; have := HUC.out; omega) ?_; intro v6 w6 ho6 hb6 hk6; have HO6 := hide ho6; have HB6 := hide hb6; clear ho6 hb6 hk6)
  have HR6 := hide ((HB6.out.block L HL0.out).trans HR5.out)
  have HW6 : Hid (Below L w w6) := HW5.out.trans (HB6.out.mono (by have := HL0.out; omega))
  have HN6 : Hid (n0 ≤ w6.heap.size) := Nat.le_trans HN5.out HB6.out.size
  obtain ⟨a6, c6, e6⟩ := HO6.out.form
  obtain ⟨P6, hP6⟩ : ∃ P, P = wb s.nm ++ encW cl := ⟨_, rfl⟩
  have HP6 := hide hP6
  have HPL : Hid (P6.length ≤ 26) := by show _ ≤ _; rw [hP6, List.length_append]; have := HWL.out; have := HUC.out; omega
  rw [← hP6] at HO6 e6
  obtain ⟨k6, hk6⟩ : ∃ k, P6.length = k := ⟨_, rfl⟩
  rw [hk6] at e6
  subst e6
  have HK6 := hide hk6
  have HPLC := HPL
  have HNBC := HN6
  clear hP6 hk6 HO5 HO5' HB6 HR5 HW5 HN5
  have y1 : w6.cell? ⟨L, 1, none⟩ = some (.slice ca cl cc) := cell_blk HR6.out
  go_wp2_with fail
  clear y1
  go_loopg [5, 28] cl (fun gh s5 s28 wx => ∃ j : Nat, j + gh = cl ∧ s28 = .int .i64 (j : Int) ∧ ∃ a k c P, s5 = .slice a k c ∧ P.length = k ∧ P = P6 ++ (s.cs.take j).flatMap encC ∧ OB n0 wx (.slice a k c) P ∧ Below n0 w6 wx)
  case atStart => exact ⟨0, by omega, rfl, a6, k6, c6, P6, rfl, HK6.out, by simp, HO6.out, Below.refl _ _⟩
  case round =>
    obtain ⟨j, hj, rfl, a, k, c0, P, rfl, hPk, hP, hO, hB⟩ := hrel
    have HRW := hide hO
    have HBW := hide hB
    have HPP := hide hP
    have HPK := hide hPk
    have HNW : Hid (n0 ≤ wr.heap.size) := Nat.le_trans HNBC.out hB.size
    have HLW : Hid (Below L w wr) := HW6.out.trans (hB.mono (by have := HL0.out; omega))
    have HPZ : Hid (P.length ≤ 300) := by
      show _ ≤ _
      rw [hP, List.length_append]
      have h9 := flat_le (f := encC) (m := 35) (l := s.cs) (fun j c hc => encC_len (HPA.out.2.2.2.1 j c hc)) j
      have := HPLC.out
      omega
    clear hPk hP hO hB
    by_cases hjn : j < cl
    · have xj : (j : Int) < (cl : Int) := by omega
      have xj4 : (j : Int) < 4 := by omega
      obtain ⟨c, hcj⟩ : ∃ c, s.cs[j]? = some c := ⟨_, List.getElem?_eq_getElem (by rw [HCL.out]; exact hjn)⟩
      have HOKC := hide (HPA.out.2.2.2.1 j c hcj)
      have HFN := hide (flat_next (f := encC) hcj)
      have hbw : Below w.heap.size w wr := by rw [hL]; exact HLW.out
      obtain ⟨b, o, ec, hb, hcc⟩ := (H0.out.c.later hbw).pl (by omega)
      have y0 : wr.cell? ⟨b, o + j * 3, none⟩ = some (.string c.1) := hcc j c hcj 0 (by omega)
      have y1 : wr.cell? ⟨b, o + j * 3 + 1, none⟩ = some (.int .i64 c.2.1) := hcc j c hcj 1 (by omega)
      have y2 : wr.cell? ⟨b, o + j * 3 + 2, none⟩ = some (.int .i64 c.2.2) := hcc j c hcj 2 (by omega)
      have HNZ : Hid (c.1.size ≤ 8) := HOKC.out.nm
      obtain ⟨kk, hkk⟩ : ∃ kk : Nat, c.2.1 = (kk : Int) := ⟨c.2.1.toNat, by have := HOKC.out.k0; omega⟩
      obtain ⟨mm, hmm⟩ : ∃ mm : Nat, c.2.2 = (mm : Int) := ⟨c.2.2.toNat, by have := HOKC.out.m0; omega⟩
      have hk8 : kk ≤ 8 := by have := HOKC.out.k1; omega
      have hm8 : mm ≤ 8 := by have := HOKC.out.m1; omega
      have HEC : Hid (encC c = wb c.1 ++ encW kk ++ encW mm) := by show encC c = _; unfold encC; rw [hkk, hmm]; rfl
      have HWL := hide (wb_len c.1 HNZ.out)
      have HU1 := hide (encW_len kk (by omega))
      have HU2 := hide (encW_len mm (by omega))
      rw [hkk] at y1
      rw [hmm] at y2
      clear hkk hmm
      have hbk := below_box wr (.cells #[.string c.1, .int .i64 (kk : Int), .int .i64 (mm : Int)] 59)
      have HV : Hid ((wr.alloc (.cells #[.string c.1, .int .i64 (kk : Int), .int .i64 (mm : Int)] 59)).heap[wr.heap.size]? = some (.cells #[.string c.1, .int .i64 (kk : Int), .int .i64 (mm : Int)] 59 (0, 0))) := boxed wr _
      have HOA := hide (HRW.out.later hbk)
      have HBA : Hid (Below n0 w6 (wr.alloc (.cells #[.string c.1, .int .i64 (kk : Int), .int .i64 (mm : Int)] 59))) := HBW.out.trans (hbk.mono HNW.out)
      have HNA : Hid (n0 ≤ (wr.alloc (.cells #[.string c.1, .int .i64 (kk : Int), .int .i64 (mm : Int)] 59)).heap.size) := Nat.le_trans HNW.out hbk.size
      subst ec
      clear hcc hcj hbk hbw
      go_upto_region 9 with fail
      clear y0 y1 y2
      generalize wr.alloc (.cells #[.string c.1, .int .i64 (kk : Int), .int .i64 (mm : Int)] 59) = wa at *
      generalize wr.heap.size = V at *
      have z0 : wa.cell? ⟨V, 0, none⟩ = some (.string c.1) := cell_blk HV.out
      obtain ⟨cp9, wc9, hcv9, hbc9, hbs9⟩ := conv_ok c.1 wa (by have := HNZ.out; omega)
      have HBC9 := hide hbc9
      have HP9 := hide (wire_name c.1 wc9 hbs9 (by have := HNZ.out; omega))
      clear hbc9 hbs9
      go_wp2_with fail
      refine HP9.out.mono ?_
      rintro e wp9 ⟨gp9, cq9, rfl, hop9, hbp9⟩
      have hbx9 : Below wa.heap.size wa wp9 := HBC9.out.trans (hbp9.mono HBC9.out.size)
      clear hcv9
      have HOP9 := hide hop9
      have HR9 := hide (HOA.out.later hbx9)
      have HVp9 := hide ((hbx9.block V (blk_lt HV.out)).trans HV.out)
      have HZ9 : Hid (n0 ≤ wp9.heap.size) := Nat.le_trans HNA.out hbx9.size
      have HY9 : Hid (Below n0 w6 wp9) := HBA.out.trans (hbx9.mono HNA.out)
      clear hop9 hbp9 hbx9 HP9
      go_upto_region 10 with (at_builtin; refine wpList_app_ob rfl (.tmp 32) (.tmp 36) rfl rfl rfl HR9.out HOP9.out HZ9.out (by have := HPZ.out; have := HWL.out; omega) ?_; intro v9 w9 ho9 hb9 hk9; have HO9 := hide ho9; have HB9 := hide hb9; have HK9 := hide hk9; clear ho9 hb9 hk9)
      have HVq9 := hide ((HK9.out V (blk_lt HVp9.out) (HR9.out.ne HVp9.out (by decide))).trans HVp9.out)
      have HX9 : Hid (Below n0 w6 w9) := HY9.out.trans HB9.out
      have HS9 : Hid (n0 ≤ w9.heap.size) := Nat.le_trans HZ9.out HB9.out.size
      obtain ⟨a9, c9, e9⟩ := HO9.out.form
      obtain ⟨k9, hk9⟩ : ∃ k, (P ++ wb c.1).length = k := ⟨_, rfl⟩
      rw [hk9] at e9
      subst e9
      have HKL9 := hide hk9
      clear hk9 HR9 HOP9 HB9 HK9
      have z1 : w9.cell? ⟨V, 1, none⟩ = some (.int .i64 (kk : Int)) := cell_blk HVq9.out
      clear z0
      have HP10 := hide (uint_ob kk w9 (by omega))
      go_wp2_with fail
      refine HP10.out.mono ?_
      rintro e wp10 ⟨gp10, cq10, rfl, hop10, hbp10⟩
      have hbx10 : Below w9.heap.size w9 wp10 := hbp10
      have HOP10 := hide hop10
      have HR10 := hide (HO9.out.later hbx10)
      have HVq9p10 := hide ((hbx10.block V (blk_lt HVq9.out)).trans HVq9.out)
      have HZ10 : Hid (n0 ≤ wp10.heap.size) := Nat.le_trans HS9.out hbx10.size
      have HY10 : Hid (Below n0 w6 wp10) := HX9.out.trans (hbx10.mono HS9.out)
      clear hop10 hbp10 hbx10 HP10
      go_upto_region 11 with (at_builtin; refine wpList_app_ob rfl (.tmp 38) (.tmp 41) rfl rfl rfl HR10.out HOP10.out HZ10.out (by have := HPZ.out; have := HWL.out; have := HU1.out; rw [List.length_append]; omega) ?_; intro v10 w10 ho10 hb10 hk10; have HO10 := hide ho10; have HB10 := hide hb10; have HK10 := hide hk10; clear ho10 hb10 hk10)
      have HVq9q10 := hide ((HK10.out V (blk_lt HVq9p10.out) (HR10.out.ne HVq9p10.out (by decide))).trans HVq9p10.out)
      have HX10 : Hid (Below n0 w6 w10) := HY10.out.trans HB10.out
      have HS10 : Hid (n0 ≤ w10.heap.size) := Nat.le_trans HZ10.out HB10.out.size
      obtain ⟨a10, c10, e10⟩ := HO10.out.form
      obtain ⟨k10, hk10⟩ : ∃ k, ((P ++ wb c.1) ++ encW kk).length = k := ⟨_, rfl⟩
      rw [hk10] at e10
      subst e10
      have HKL10 := hide hk10
      clear hk10 HR10 HOP10 HB10 HK10
      have z2 : w10.cell? ⟨V, 2, none⟩ = some (.int .i64 (mm : Int)) := cell_blk HVq9q10.out
      clear z1
      have HP11 := hide (uint_ob mm w10 (by omega))
      go_wp2_with fail
      refine HP11.out.mono ?_
      rintro e wp11 ⟨gp11, cq11, rfl, hop11, hbp11⟩
      have hbx11 : Below w10.heap.size w10 wp11 := hbp11
      have HOP11 := hide hop11
      have HR11 := hide (HO10.out.later hbx11)
      have HZ11 : Hid (n0 ≤ wp11.heap.size) := Nat.le_trans HS10.out hbx11.size
      have HY11 : Hid (Below n0 w6 wp11) := HX10.out.trans (hbx11.mono HS10.out)
      clear hop11 hbp11 hbx11 HP11
      go_upto_region 12 with (at_builtin; refine wpList_app_ob rfl (.tmp 43) (.tmp 46) rfl rfl rfl HR11.out HOP11.out HZ11.out (by have := HPZ.out; have := HWL.out; have := HU1.out; have := HU2.out; rw [List.length_append, List.length_append]; omega) ?_; intro v11 w11 ho11 hb11 hk11; have HO11 := hide ho11; have HB11 := hide hb11; have HK11 := hide hk11; clear ho11 hb11 hk11)
      have HX11 : Hid (Below n0 w6 w11) := HY11.out.trans HB11.out
      have HS11 : Hid (n0 ≤ w11.heap.size) := Nat.le_trans HZ11.out HB11.out.size
      obtain ⟨a11, c11, e11⟩ := HO11.out.form
      obtain ⟨k11, hk11⟩ : ∃ k, ((P ++ wb c.1 ++ encW kk) ++ encW mm).length = k := ⟨_, rfl⟩
      rw [hk11] at e11
      subst e11
      have HKL11 := hide hk11
      clear hk11 HR11 HOP11 HB11 HK11
      go_wp2
      go_roundg (gk - 1)
      case measure => omega
      case rel => exact ⟨j + 1, by omega, rfl, a11, k11, c11, P ++ wb c.1 ++ encW kk ++ encW mm, rfl, HKL11.out, by rw [HFN.out, HEC.out, HPP.out]; simp only [List.append_assoc], HO11.out, HX11.out⟩
    · have xj : ¬ (j : Int) < (cl : Int) := by omega
      have HPE : Hid (P = P6 ++ s.cs.flatMap encC) := by
        show P = _
        rw [HPP.out, List.take_of_length_le (by rw [HCL.out]; omega)]
      have HRS := hide ((HBW.out.block L HL0.out).trans HR6.out)
      have y2 : wr.cell? ⟨L, 2, none⟩ = some (.slice xa xl xc) := cell_blk HRS.out
      have HUX := hide (encW_len xl (by omega))
      go_upto_region 13 with fail
      have HP13 := hide (uint_ob xl wr (by omega))
      go_wp2_with fail
      refine HP13.out.mono ?_
      rintro e wp13 ⟨gp13, cq13, rfl, hop13, hbp13⟩
      have hbx13 : Below wr.heap.size wr wp13 := hbp13
      have HOP13 := hide hop13
      have HR13 := hide (HRW.out.later hbx13)
      have HRSp13 := hide ((hbx13.block L (blk_lt HRS.out)).trans HRS.out)
      have HZ13 : Hid (n0 ≤ wp13.heap.size) := Nat.le_trans HNW.out hbx13.size
      have HY13 : Hid (Below n0 w6 wp13) := HBW.out.trans (hbx13.mono HNW.out)
      clear hop13 hbp13 hbx13 HP13
      go_upto_region 14 with (at_builtin; refine wpList_app_ob rfl (.tmp 49) (.tmp 53) rfl rfl rfl HR13.out HOP13.out HZ13.out (by have := HPZ.out; have := HUX.out; omega) ?_; intro v13 w13 ho13 hb13 hk13; have HO13 := hide ho13; have HB13 := hide hb13; have HK13 := hide hk13; clear ho13 hb13 hk13)
      have HRSq13 := hide ((HK13.out L (blk_lt HRSp13.out) (HR13.out.ne HRSp13.out (by decide))).trans HRSp13.out)
      have HX13 : Hid (Below n0 w6 w13) := HY13.out.trans HB13.out
      have HS13 : Hid (n0 ≤ w13.heap.size) := Nat.le_trans HZ13.out HB13.out.size
      obtain ⟨a13, c13, e13⟩ := HO13.out.form
      obtain ⟨k13, hk13⟩ : ∃ k, (P ++ encW xl).length = k := ⟨_, rfl⟩
      rw [hk13] at e13
      subst e13
      have HKL13 := hide hk13
      clear hk13 HR13 HOP13 HB13 HK13
      obtain ⟨P13, hP13⟩ : ∃ P', P' = P ++ encW xl := ⟨_, rfl⟩
      have HP13 := hide hP13
      have HPLX : Hid (P13.length ≤ 240) := by
        show _ ≤ _
        have h9 := flat_le (f := encC) (m := 35) (l := s.cs) (fun j c hc => encC_len (HPA.out.2.2.2.1 j c hc)) j
        have h8 := HPP.out
        rw [hP13, List.length_append, h8, List.length_append]
        have := HPLC.out
        have := HUX.out
        omega
      rw [← hP13] at HO13 HKL13
      have HNBX : Hid (n0 ≤ w13.heap.size) := HS13.out
      have HLX : Hid (Below L w w13) := HW6.out.trans (HX13.out.mono (by have := HL0.out; omega))
      have y3 : w13.cell? ⟨L, 2, none⟩ = some (.slice xa xl xc) := cell_blk HRSq13.out
      clear y2 hP13
      go_wp2_with fail
      clear y3
      go_loopg [5, 58] xl (fun gh s5 s58 wx => ∃ j : Nat, j + gh = xl ∧ s58 = .int .i64 (j : Int) ∧ ∃ a k c P, s5 = .slice a k c ∧ P.length = k ∧ P = P13 ++ (s.xs.take j).flatMap encX ∧ OB n0 wx (.slice a k c) P ∧ Below n0 w13 wx)
      case atStart => exact ⟨0, by omega, rfl, a13, k13, c13, P13, rfl, HKL13.out, by simp, HO13.out, Below.refl _ _⟩
      case round =>
        have HPC := HPE
        clear HPE HPP HPK HRW HBW HNW HLW HPZ xj
        obtain ⟨j, hj, rfl, a, k, c0, P, rfl, hPk, hP, hO, hB⟩ := hrel
        have HRW := hide hO
        have HBW := hide hB
        have HPP := hide hP
        have HPK := hide hPk
        have HNW : Hid (n0 ≤ wr.heap.size) := Nat.le_trans HNBX.out hB.size
        have HLW : Hid (Below L w wr) := HLX.out.trans (hB.mono (by have := HL0.out; omega))
        have HPZ : Hid (P.length ≤ 300) := by
          show _ ≤ _
          rw [hP, List.length_append]
          have h9 := flat_le (f := encX) (m := 18) (l := s.xs) (fun j c hc => encX_len (HPA.out.2.2.2.2 j c hc)) j
          have := HPLX.out
          omega
        clear hPk hP hO hB
        by_cases hjn : j < xl
        · have xj : (j : Int) < (xl : Int) := by omega
          have xj4 : (j : Int) < 4 := by omega
          obtain ⟨c, hcj⟩ : ∃ c, s.xs[j]? = some c := ⟨_, List.getElem?_eq_getElem (by rw [HXL.out]; exact hjn)⟩
          have HOKC := hide (HPA.out.2.2.2.2 j c hcj)
          have HFN := hide (flat_next (f := encX) hcj)
          have hbw : Below w.heap.size w wr := by rw [hL]; exact HLW.out
          obtain ⟨b, o, ec, hb, hcc⟩ := (H0.out.x.later hbw).pl (by omega)
          have y0 : wr.cell? ⟨b, o + j * 2, none⟩ = some (.int .i64 c.1) := hcc j c hcj 0 (by omega)
          have y1 : wr.cell? ⟨b, o + j * 2 + 1, none⟩ = some (.bool c.2) := hcc j c hcj 1 (by omega)
          obtain ⟨kk, hkk⟩ : ∃ kk : Nat, c.1 = (kk : Int) := ⟨c.1.toNat, by have := HOKC.out.1; omega⟩
          obtain ⟨ub, hub⟩ : ∃ ub, c.2 = ub := ⟨_, rfl⟩
          have hk8 : kk ≤ 8 := by have := HOKC.out.2; omega
          obtain ⟨mm, hmm⟩ : ∃ mm : Nat, mm = (if ub then 1 else 0) := ⟨_, rfl⟩
          have hm8 : mm ≤ 8 := by rw [hmm]; split <;> omega
          have hmi : (if ub then (1 : Int) else 0) = (mm : Int) := by rw [hmm]; cases ub <;> rfl
          have HEC : Hid (encX c = encW kk ++ encW mm) := by show encX c = _; unfold encX; rw [hkk, hub, ← hmm]; rfl
          have HU1 := hide (encW_len kk (by omega))
          have HU2 := hide (encW_len mm (by omega))
          have HMI := hide hmi
          rw [hkk] at y0
          rw [hub] at y1
          clear hkk hub hmm hmi
          have hbk := below_box wr (.cells #[.int .i64 (kk : Int), .bool ub] 61)
          have HV : Hid ((wr.alloc (.cells #[.int .i64 (kk : Int), .bool ub] 61)).heap[wr.heap.size]? = some (.cells #[.int .i64 (kk : Int), .bool ub] 61 (0, 0))) := boxed wr _
          have HOA := hide (HRW.out.later hbk)
          have HBA : Hid (Below n0 w13 (wr.alloc (.cells #[.int .i64 (kk : Int), .bool ub] 61))) := HBW.out.trans (hbk.mono HNW.out)
          have HNA : Hid (n0 ≤ (wr.alloc (.cells #[.int .i64 (kk : Int), .bool ub] 61)).heap.size) := Nat.le_trans HNW.out hbk.size
          subst ec
          clear hcc hcj hbk hbw
          go_upto_region 17 with fail
          clear y0 y1
          generalize wr.alloc (.cells #[.int .i64 (kk : Int), .bool ub] 61) = wa at *
          generalize wr.heap.size = V at *
          have z0 : wa.cell? ⟨V, 0, none⟩ = some (.int .i64 (kk : Int)) := cell_blk HV.out
          have HP17 := hide (uint_ob kk wa (by omega))
          go_wp2_with fail
          refine HP17.out.mono ?_
          rintro e wp17 ⟨gp17, cq17, rfl, hop17, hbp17⟩
          have hbx17 : Below wa.heap.size wa wp17 := hbp17
          have HOP17 := hide hop17
          have HR17 := hide (HOA.out.later hbx17)
          have HVp17 := hide ((hbx17.block V (blk_lt HV.out)).trans HV.out)
          have HZ17 : Hid (n0 ≤ wp17.heap.size) := Nat.le_trans HNA.out hbx17.size
          have HY17 : Hid (Below n0 w13 wp17) := HBA.out.trans (hbx17.mono HNA.out)
          clear hop17 hbp17 hbx17 HP17
          go_upto_region 18 with (at_builtin; refine wpList_app_ob rfl (.tmp 62) (.tmp 65) rfl rfl rfl HR17.out HOP17.out HZ17.out (by have := HPZ.out; have := HU1.out; omega) ?_; intro v17 w17 ho17 hb17 hk17; have HO17 := hide ho17; have HB17 := hide hb17; have HK17 := hide hk17; clear ho17 hb17 hk17)
          have HVq17 := hide ((HK17.out V (blk_lt HVp17.out) (HR17.out.ne HVp17.out (by decide))).trans HVp17.out)
          have HX17 : Hid (Below n0 w13 w17) := HY17.out.trans HB17.out
          have HS17 : Hid (n0 ≤ w17.heap.size) := Nat.le_trans HZ17.out HB17.out.size
          obtain ⟨a17, c17, e17⟩ := HO17.out.form
          obtain ⟨k17, hk17⟩ : ∃ k, (P ++ encW kk).length = k := ⟨_, rfl⟩
          rw [hk17] at e17
          subst e17
          have HKL17 := hide hk17
          clear hk17 HR17 HOP17 HB17 HK17
          have z1 : w17.cell? ⟨V, 1, none⟩ = some (.bool ub) := cell_blk HVq17.out
          clear z0
          have HBT := hide (bit_any ub w17)
          rw [HMI.out] at HBT
          go_wp2_with fail
          refine HBT.out.mono ?_
          rintro e wt ⟨rfl, hwt⟩
          have hwt := hwt.symm
          subst hwt
          clear hwt HBT
          have HP18 := hide (uint_ob mm w17 (by omega))
          go_wp2_with fail
          refine HP18.out.mono ?_
          rintro e wp18 ⟨gp18, cq18, rfl, hop18, hbp18⟩
          have hbx18 : Below w17.heap.size w17 wp18 := hbp18
          have HOP18 := hide hop18
          have HR18 := hide (HO17.out.later hbx18)
          have HZ18 : Hid (n0 ≤ wp18.heap.size) := Nat.le_trans HS17.out hbx18.size
          have HY18 : Hid (Below n0 w13 wp18) := HX17.out.trans (hbx18.mono HS17.out)
          clear hop18 hbp18 hbx18 HP18
          go_upto_region 19 with (at_builtin; refine wpList_app_ob rfl (.tmp 67) (.tmp 71) rfl rfl rfl HR18.out HOP18.out HZ18.out (by have := HPZ.out; have := HU1.out; have := HU2.out; rw [List.length_append]; omega) ?_; intro v18 w18 ho18 hb18 hk18; have HO18 := hide ho18; have HB18 := hide hb18; have HK18 := hide hk18; clear ho18 hb18 hk18)
          have HX18 : Hid (Below n0 w13 w18) := HY18.out.trans HB18.out
          have HS18 : Hid (n0 ≤ w18.heap.size) := Nat.le_trans HZ18.out HB18.out.size
          obtain ⟨a18, c18, e18⟩ := HO18.out.form
          obtain ⟨k18, hk18⟩ : ∃ k, ((P ++ encW kk) ++ encW mm).length = k := ⟨_, rfl⟩
          rw [hk18] at e18
          subst e18
          have HKL18 := hide hk18
          clear hk18 HR18 HOP18 HB18 HK18
          go_wp2
          go_roundg (gk - 1)
          case measure => omega
          case rel => exact ⟨j + 1, by omega, rfl, a18, k18, c18, P ++ encW kk ++ encW mm, rfl, HKL18.out, by rw [HFN.out, HEC.out, HPP.out]; simp only [List.append_assoc], HO18.out, HX18.out⟩
        · have xj : ¬ (j : Int) < (xl : Int) := by omega
          have HFULL : Hid (P = encS s) := by
            show P = _
            rw [HPP.out, List.take_of_length_le (by rw [HXL.out]; omega), HP13.out, HPC.out, HP6.out]
            unfold encS
            rw [HCL.out, HXL.out]
          have HFB : Hid (Below L w wr) := HLW.out
          go_wp2
          go_ret2
          refine ⟨.slice a k c0, rfl, ?_, by first | exact HFB.out | (rw [hL]; exact HFB.out)⟩
          rw [← HFULL.out]
          first | exact own_mono HRW.out (by have := HL0.out; omega) | (rw [hL]; exact own_mono HRW.out (by have := HL0.out; omega))
end Go.Proofs.Ytcophbkgighepaa
