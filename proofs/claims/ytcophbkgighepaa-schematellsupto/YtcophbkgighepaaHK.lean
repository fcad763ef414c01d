/- schema.Decode of what Encode wrote; the law's Little and Row. -/
import Derived.Test.YtcophbkgighepaaHG
import Derived.Laws.ResultCell
set_option linter.unusedVariables false
namespace Go.Proofs.Ytcophbkgighepaa
open Go.RowKit

set_option maxRecDepth 100000 in
theorem bequal_any (a a' : Option Addr) (len cap len' cap' : Nat) (xs ys : List Nat) (w : World) (h : BS w a len cap xs) (h' : BS w a' len' cap' ys) :
    Calls Try.prog 44 #[.slice a len cap, .slice a' len' cap'] w fun e w' => e = .returned (.bool (decide (xs = ys))) ∧ w' = w := by
  have t1 := run_text h
  have t2 := run_text h'
  have HE : Hid (((str xs).toList == (str ys).toList) = decide (xs = ys)) := str_beq xs ys h.hbyte h'.hbyte
  clear h h'
  generalize str xs = sx at *
  generalize str ys = sy at *
  go_enter Try.func44, Try.ntmps44
  go_wp2
  go_ret
  refine ⟨?_, rfl⟩
  rw [← HE.out]
  rfl
theorem OB.bs {B : Nat} {w : World} {a : Option Addr} {k c : Nat} {xs : List Nat} (h : OB B w (.slice a k c) xs) (hb : ∀ n ∈ xs, n < 256) (hl : xs.length ≤ 100000000) : BS w a xs.length c xs := by
  have h1 := h
  unfold OB at h1
  rw [← fB_cells] at h1
  obtain ⟨a2, c2, e, hsv⟩ := own_sv fB_len h1 rfl
  simp only [Value.slice.injEq] at e
  obtain ⟨rfl, _, rfl⟩ := e
  refine ⟨rfl, hsv.hc, by omega, hsv.hm, hb, hsv.hn, fun x hx i hi => ?_⟩
  obtain ⟨b, o, e1, _, h3⟩ := hsv.pl (by omega)
  rw [hx] at e1
  simp only [Option.some.injEq] at e1
  subst e1
  have := h3 i xs[i] (List.getElem?_eq_getElem hi) 0 (by omega)
  rw [add_plain]
  rw [Nat.mul_one, Nat.add_zero] at this
  rw [this, List.getD_eq_getElem?_getD, List.getElem?_eq_getElem hi]
  rfl
theorem results_sch {fn : Func} {p u : Tmp} (h : fn.results = #[.cell p 25, .tmp u]) (tmps : Array Value) (w : World) (g : Nat) (t : TypeId) (x y z : Value) (fr : Nat × Nat)
    (hp : tmps.getD p undef = .pointer (some ⟨g, 0, none⟩)) (hg : w.heap[g]? = some (.cells #[x, y, z] t fr)) :
    (results fn tmps).run Try.prog w = .ok (.tuple #[.agg #[x, y, z], tmps.getD u undef]) w := by
  rw [results_cell_tmp h, hp]
  simp only [asAddr, Sem.run_pure, Result.andThen_ok, run_loadVar_row w g t 25 #[x, y, z] fr _ hg Try.underlying25 rfl info_sch]
theorem encW_lt (n : Nat) : ∀ x ∈ encW n, x < 256 := enc_byte n
theorem wb_lt (s : ByteArray) : ∀ x ∈ wb s, x < 256 := by
  intro x hx
  unfold wb at hx
  rcases List.mem_append.1 hx with h | h
  · exact encW_lt _ x h
  · exact sl_lt s x h
theorem encS_lt (s : Sch) : ∀ x ∈ encS s, x < 256 := by
  intro x hx
  unfold encS at hx
  simp only [List.mem_append, List.mem_flatMap] at hx
  rcases hx with (((h | h) | ⟨c, _, h⟩) | h) | ⟨c, _, h⟩
  · exact wb_lt _ x h
  · exact encW_lt _ x h
  · unfold encC at h
    simp only [List.mem_append] at h
    rcases h with (h | h) | h
    · exact wb_lt _ x h
    · exact encW_lt _ x h
    · exact encW_lt _ x h
  · exact encW_lt _ x h
  · unfold encX at h
    simp only [List.mem_append] at h
    rcases h with h | h
    · exact encW_lt _ x h
    · exact encW_lt _ x h
theorem encS_len {s : Sch} (h : s.ok = true) : (encS s).length ≤ 300 := by
  obtain ⟨h1, h2, h3, h4, h5⟩ := Sch.parts h
  have a1 := wb_len s.nm h1
  have a2 := encW_len s.cs.length (by omega)
  have a3 := encW_len s.xs.length (by omega)
  have a4 := flat_le (f := encC) (m := 35) (l := s.cs) (fun j c hc => encC_len (h4 j c hc)) s.cs.length
  have a5 := flat_le (f := encX) (m := 18) (l := s.xs) (fun j c hc => encX_len (h5 j c hc)) s.xs.length
  rw [List.take_length] at a4 a5
  unfold encS
  simp only [List.length_append]
  omega
set_option maxRecDepth 100000 in
set_option maxHeartbeats 4000000 in
theorem decode_ok {n c : Nat} {a : Option Addr} {s : Sch} {w : World} (hb : BS w a n c (encS s)) (hok : s.ok = true) :
    Calls Try.prog 22 #[.slice a n c] w fun e w' => ∃ ca cc xa xc, e = .returned (.tuple #[.agg #[.string s.nm, .slice ca s.cs.length cc, .slice xa s.xs.length xc], .int .i64 0]) ∧ SC w' ca s.cs.length cc xa s.xs.length xc s ∧ Below w.heap.size w w' := by
  have HOK := hide hok
  obtain ⟨N, hN⟩ : ∃ N, w.heap.size = N := ⟨_, rfl⟩
  obtain ⟨w1, hw1⟩ : ∃ w1, w1 = (w.alloc (.cells #[.string ⟨#[]⟩, .slice none 0 0, .slice none 0 0] 25)).alloc (.cells #[.slice a n c, .int .i64 0] 73) := ⟨_, rfl⟩
  have HZ1 : Hid (w1.heap[N]? = some (.cells #[.string ⟨#[]⟩, .slice none 0 0, .slice none 0 0] 25 (0, 0))) := by show _ = _; rw [hw1, ← hN]; exact heap_alloc2_old w _ _
  have HR1 : Hid (RDR (N + 1) a n c 0 w1) := by show _ = _; rw [hw1, ← hN]; exact heap_alloc2_new w _ _
  have hb1 : Below w.heap.size w w1 := by rw [hw1]; exact (below_box w _).trans ((below_box _ _).mono (below_box w _).size)
  have HB1 := hide (hb.later hb1 (Nat.le_refl _))
  have HW1 : Hid (Below N w w1) := by show Below N w w1; rw [← hN]; exact hb1
  have HAN : Hid (∀ b o, a = some ⟨b, o, none⟩ → b < N) := by
    intro b o q
    have hpos : 0 < n := by
      rw [← hb.hlen]
      unfold encS wb
      have h8 := (Sch.parts hok).1
      have := enc_length s.nm.size (grp_spec s.nm.size (by omega)).1
      have := (grp_spec s.nm.size (by omega)).1
      simp only [List.length_append]
      omega
    have := cell_lt (hb.hcell _ q 0 hpos)
    rw [← hN]
    simpa [Addr.add] using this
  have HSC := hide (rschema_ok HR1.out HB1.out hok fun b o q => by have := HAN.out b o q; omega)
  have HE1 := hide hw1
  rw [hN]
  clear hb hok hb1 hw1
  go_enter Try.func22, Try.ntmps22
  go_upto_region 2 with fail
  rw [← HE1.out]
  try simp only [hN]
  go_wp2_with fail
  refine HSC.out.mono ?_
  rintro e w2 ⟨ca, cc, xa, xc, rfl, hsc, hf, hca, hxa⟩
  have HNB : Hid ((∀ b o, ca = some ⟨b, o, none⟩ → b ≠ N) ∧ ∀ b o, xa = some ⟨b, o, none⟩ → b ≠ N) := ⟨fun b o q => by have := hca b o q; have := blk_lt HR1.out; omega, fun b o q => by have := hxa b o q; have := blk_lt HR1.out; omega⟩
  clear hca hxa
  have hbx := below_box w2 (.cells #[.string s.nm, .slice ca s.cs.length cc, .slice xa s.xs.length xc] 25)
  have HV3 : Hid ((w2.alloc (.cells #[.string s.nm, .slice ca s.cs.length cc, .slice xa s.xs.length xc] 25)).heap[w2.heap.size]? = some (.cells #[.string s.nm, .slice ca s.cs.length cc, .slice xa s.xs.length xc] 25 (0, 0))) := boxed w2 _
  have HSC3 := hide (hsc.later hbx)
  have HZ3 : Hid ((w2.alloc (.cells #[.string s.nm, .slice ca s.cs.length cc, .slice xa s.xs.length xc] 25)).heap[N]? = some (.cells #[.string ⟨#[]⟩, .slice none 0 0, .slice none 0 0] 25 (0, 0))) := (hbx.block N (by have := blk_lt HZ1.out; have := hf.bel.size; omega)).trans ((hf.oth N (blk_lt HZ1.out) (by omega)).trans HZ1.out)
  have HB3 := hide ((bs_rd HB1.out hf fun b o q => by have := HAN.out b o q; omega).later hbx (Nat.le_refl _))
  have HW3 : Hid (Below N w (w2.alloc (.cells #[.string s.nm, .slice ca s.cs.length cc, .slice xa s.xs.length xc] 25))) := HW1.out.trans ((hf.bel.mono (by omega)).trans (hbx.mono (by have := blk_lt HZ1.out; have := hf.bel.size; omega)))
  clear hsc hf hbx HSC
  go_upto_region 3 with fail
  generalize w2.alloc (.cells #[.string s.nm, .slice ca s.cs.length cc, .slice xa s.xs.length xc] 25) = w3 at *
  generalize w2.heap.size = V at *
  have y0 : w3.cell? ⟨V, 0, none⟩ = some (.string s.nm) := cell_blk HV3.out
  have y1 : w3.cell? ⟨V, 1, none⟩ = some (.slice ca s.cs.length cc) := cell_blk HV3.out
  have y2 : w3.cell? ⟨V, 2, none⟩ = some (.slice xa s.xs.length xc) := cell_blk HV3.out
  have HEN := hide (encode_ok HSC3.out HOK.out)
  go_wp2_with fail
  refine HEN.out.mono ?_
  rintro e w4 ⟨v4, rfl, ho4, hb4⟩
  obtain ⟨a4, c4, e4⟩ := OB.form ho4
  subst e4
  have HBS4 := hide (OB.bs ho4 (encS_lt s) (by have := encS_len HOK.out; omega))
  have HEQ := hide (bequal_any a4 a _ c4 n c (encS s) (encS s) w4 HBS4.out (HB3.out.later hb4 (Nat.le_refl _)))
  rw [decide_eq_true rfl] at HEQ
  have HV4 := hide ((hb4.block V (blk_lt HV3.out)).trans HV3.out)
  have HZ4 := hide ((hb4.block N (blk_lt HZ3.out)).trans HZ3.out)
  have HSC4 := hide (HSC3.out.later hb4)
  have HW4 : Hid (Below N w w4) := HW3.out.trans (hb4.mono (by have := blk_lt HZ3.out; omega))
  obtain ⟨k4, hk4⟩ : ∃ k, (encS s).length = k := ⟨_, rfl⟩
  rw [hk4] at HEQ ⊢
  clear ho4 hb4 HEN y0 y1 y2 hk4
  go_wp2_with fail
  refine HEQ.out.mono ?_
  rintro e w9 ⟨rfl, hw⟩
  have hw := hw.symm
  subst hw
  clear hw HEQ
  have z0 : w4.cell? ⟨V, 0, none⟩ = some (.string s.nm) := cell_blk HV4.out
  have z1 : w4.cell? ⟨V, 1, none⟩ = some (.slice ca s.cs.length cc) := cell_blk HV4.out
  have z2 : w4.cell? ⟨V, 2, none⟩ = some (.slice xa s.xs.length xc) := cell_blk HV4.out
  have t0 : w4.cell? ⟨N, 0, none⟩ = some (.string ⟨#[]⟩) := cell_blk HZ4.out
  have tf0 : w4.frozen? ⟨N, 0, none⟩ = false := frz_blk HZ4.out
  have t1 : w4.cell? ⟨N, 1, none⟩ = some (.slice none 0 0) := cell_blk HZ4.out
  have tf1 : w4.frozen? ⟨N, 1, none⟩ = false := frz_blk HZ4.out
  have t2 : w4.cell? ⟨N, 2, none⟩ = some (.slice none 0 0) := cell_blk HZ4.out
  have tf2 : w4.frozen? ⟨N, 2, none⟩ = false := frz_blk HZ4.out
  go_wp2
  (try simp only [Exit.inBlock, Exit.then])
  refine bodyPost_ret (results_sch Try.results22 _ _ N _ _ _ _ _ rfl (set3 HZ4.out)) rfl ?_
  have hsz : w4.heap.size ≤ (((w4.setCell ⟨N, 0, none⟩ (.string s.nm)).setCell ⟨N, 1, none⟩ (.slice ca s.cs.length cc)).setCell ⟨N, 2, none⟩ (.slice xa s.xs.length xc)).heap.size := ((((Below.refl 0 w4).setCell (p := ⟨N, 0, none⟩) (Nat.zero_le _) _).setCell (p := ⟨N, 1, none⟩) (Nat.zero_le _) _).setCell (p := ⟨N, 2, none⟩) (Nat.zero_le _) _).size
  refine ⟨ca, cc, xa, xc, rfl, ⟨HSC4.out.c.blk hsz fun b o e => set_oth3 (HNB.out.1 b o e), HSC4.out.x.blk hsz fun b o e => set_oth3 (HNB.out.2 b o e)⟩, ?_⟩
  exact ((HW4.out.setCell (p := ⟨N, 0, none⟩) (Nat.le_refl _) _).setCell (p := ⟨N, 1, none⟩) (Nat.le_refl _) _).setCell (p := ⟨N, 2, none⟩) (Nat.le_refl _) _
end Go.Proofs.Ytcophbkgighepaa
set_option linter.unusedVariables false
namespace Go.Proofs.Ytcophbkgighepaa
open Go.RowKit

def lit : Sch := ⟨⟨#[116]⟩, [(⟨#[107]⟩, 1, 0), (⟨#[110]⟩, 2, 3)], [(1, true)]⟩
theorem al2_size (w : World) (A B : Obj) : ((w.alloc A).alloc B).heap.size = w.heap.size + 1 + 1 := by simp only [World.alloc, Array.size_push]
theorem al3_0 (w : World) (A B C : Obj) : (((w.alloc A).alloc B).alloc C).heap[w.heap.size]? = some A := ((below_box _ C).block w.heap.size (by rw [al2_size]; omega)).trans (heap_alloc2_old w A B)
theorem al3_1 (w : World) (A B C : Obj) : (((w.alloc A).alloc B).alloc C).heap[w.heap.size + 1]? = some B := ((below_box _ C).block (w.heap.size + 1) (by rw [al2_size]; omega)).trans (heap_alloc2_new w A B)
theorem al3_2 (w : World) (A B C : Obj) : (((w.alloc A).alloc B).alloc C).heap[w.heap.size + 1 + 1]? = some C := by
  rw [← al2_size w A B]
  exact boxed _ C
theorem al3_below (w : World) (A B C : Obj) : Below w.heap.size w (((w.alloc A).alloc B).alloc C) := (below_box w A).trans (((below_box _ B).mono (below_box w A).size).trans ((below_box _ C).mono (by rw [al2_size]; omega)))
/-- A row that fills its block. -/
theorem SV.whole {α : Type} {f : α → List Value} {k : Nat} (hk : ∀ x, (f x).length = k) {w : World} {g n : Nat} {t : TypeId} {fz : Nat × Nat} {l : List α} (hl : l.length = n) (hn : n ≤ 1000) (h : w.heap[g]? = some (.cells (l.flatMap f).toArray t fz)) : SV f k w (some ⟨g, 0, none⟩) n n l := by
  refine ⟨hl, Nat.le_refl _, by omega, (fun q => by cases q), fun _ => ⟨g, 0, rfl, blk_lt h, fun i x hx t ht => ?_⟩⟩
  rw [Nat.zero_add, cell_blk h, List.getElem?_toArray]
  exact fl_get hk hx t ht
set_option maxRecDepth 100000 in
set_option maxHeartbeats 2000000 in
theorem row_ok (k : Int) (s : ByteArray) (w : World) : Calls Try.prog 31 #[.int .i64 k, .string s] w fun e w' => ∃ a c, e = .returned (.slice a 2 c) ∧ SV fV 3 w' a 2 c [(1, k, ⟨#[]⟩), (2, 0, s)] ∧ Below w.heap.size w w' := by
  have HB := hide (below_box w (.cells #[.int .i64 1, .int .i64 k, .string ⟨#[]⟩, .int .i64 2, .int .i64 0, .string s] 39))
  have HV : Hid (SV fV 3 (w.alloc (.cells #[.int .i64 1, .int .i64 k, .string ⟨#[]⟩, .int .i64 2, .int .i64 0, .string s] 39)) (some ⟨w.heap.size, 0, none⟩) 2 2 [(1, k, ⟨#[]⟩), (2, 0, s)]) := SV.whole fV_len rfl (by omega) (boxed w _)
  go_enter Try.func31, Try.ntmps31
  go_wp2
  go_ret
  exact ⟨_, _, rfl, HV.out, HB.out⟩
set_option maxRecDepth 100000 in
set_option maxHeartbeats 2000000 in
theorem little_ok (w : World) : Calls Try.prog 30 #[] w fun e w' => ∃ ca cc xa xc, e = .returned (.agg #[.string ⟨#[116]⟩, .slice ca 2 cc, .slice xa 1 xc]) ∧ SC w' ca 2 cc xa 1 xc lit ∧ Below w.heap.size w w' := by
  have HA : Hid ((((w.alloc (Obj.cells #[.string ⟨#[116]⟩, .slice (some ⟨w.heap.size + 1, 0, none⟩) 2 2, .slice (some ⟨w.heap.size + 1 + 1, 0, none⟩) 1 1] 25)).alloc (Obj.cells #[.string ⟨#[107]⟩, .int .i64 1, .int .i64 0, .string ⟨#[110]⟩, .int .i64 2, .int .i64 3] 59)).alloc (Obj.cells #[.int .i64 1, .bool true] 61)).heap[w.heap.size]? = some (Obj.cells #[.string ⟨#[116]⟩, .slice (some ⟨w.heap.size + 1, 0, none⟩) 2 2, .slice (some ⟨w.heap.size + 1 + 1, 0, none⟩) 1 1] 25)) := al3_0 w _ _ _
  have HBb : Hid ((((w.alloc (Obj.cells #[.string ⟨#[116]⟩, .slice (some ⟨w.heap.size + 1, 0, none⟩) 2 2, .slice (some ⟨w.heap.size + 1 + 1, 0, none⟩) 1 1] 25)).alloc (Obj.cells #[.string ⟨#[107]⟩, .int .i64 1, .int .i64 0, .string ⟨#[110]⟩, .int .i64 2, .int .i64 3] 59)).alloc (Obj.cells #[.int .i64 1, .bool true] 61)).heap[w.heap.size + 1]? = some (Obj.cells #[.string ⟨#[107]⟩, .int .i64 1, .int .i64 0, .string ⟨#[110]⟩, .int .i64 2, .int .i64 3] 59)) := al3_1 w _ _ _
  have HC : Hid ((((w.alloc (Obj.cells #[.string ⟨#[116]⟩, .slice (some ⟨w.heap.size + 1, 0, none⟩) 2 2, .slice (some ⟨w.heap.size + 1 + 1, 0, none⟩) 1 1] 25)).alloc (Obj.cells #[.string ⟨#[107]⟩, .int .i64 1, .int .i64 0, .string ⟨#[110]⟩, .int .i64 2, .int .i64 3] 59)).alloc (Obj.cells #[.int .i64 1, .bool true] 61)).heap[w.heap.size + 1 + 1]? = some (Obj.cells #[.int .i64 1, .bool true] 61)) := al3_2 w _ _ _
  have HW : Hid (Below w.heap.size w (((w.alloc (Obj.cells #[.string ⟨#[116]⟩, .slice (some ⟨w.heap.size + 1, 0, none⟩) 2 2, .slice (some ⟨w.heap.size + 1 + 1, 0, none⟩) 1 1] 25)).alloc (Obj.cells #[.string ⟨#[107]⟩, .int .i64 1, .int .i64 0, .string ⟨#[110]⟩, .int .i64 2, .int .i64 3] 59)).alloc (Obj.cells #[.int .i64 1, .bool true] 61))) := al3_below w _ _ _
  go_enter Try.func30, Try.ntmps30
  go_wp2
  (try simp only [Exit.inBlock, Exit.then])
  refine bodyPost_ret (results_cell_row Try.results30 _ _ w.heap.size _ _ _ _ rfl HA.out Try.underlying25 rfl info_sch) rfl ?_
  exact ⟨_, _, _, _, rfl, ⟨SV.whole fC_len (l := lit.cs) rfl (by omega) HBb.out, SV.whole fX_len (l := lit.xs) rfl (by omega) HC.out⟩, HW.out⟩
end Go.Proofs.Ytcophbkgighepaa
set_option linter.unusedVariables false
namespace Go.Proofs.Ytcophbkgighepaa
open Go.RowKit

theorem encW_inj {n m : Nat} {r r' : List Nat} (hn : n < 9223372036854775808) (hm : m < 9223372036854775808) (h : encW n ++ r = encW m ++ r') : n = m ∧ r = r' := by
  have h1 := (rd_num (pre := []) (rest := r) hn).1
  have h2 := (rd_num (pre := []) (rest := r') hm).1
  rw [List.nil_append] at h1 h2
  rw [h] at h1
  have e : n = m := h1.symm.trans h2
  subst e
  exact ⟨rfl, List.append_cancel_left h⟩
theorem wb_inj {s t : ByteArray} {r r' : List Nat} (hs : s.size ≤ 8) (ht : t.size ≤ 8) (h : wb s ++ r = wb t ++ r') : s = t ∧ r = r' := by
  unfold wb at h
  rw [List.append_assoc, List.append_assoc] at h
  obtain ⟨h1, h2⟩ := encW_inj (by omega) (by omega) h
  obtain ⟨h3, h4⟩ := List.append_inj h2 (by rw [sl_len, sl_len, h1])
  exact ⟨by rw [← str_sl s, ← str_sl t, h3], h4⟩
theorem encC_inj {c d : Col} {r r' : List Nat} (hc : ColOk c) (hd : ColOk d) (h : encC c ++ r = encC d ++ r') : c = d ∧ r = r' := by
  unfold encC at h
  simp only [List.append_assoc] at h
  obtain ⟨h1, h2⟩ := wb_inj hc.nm hd.nm h
  obtain ⟨h3, h4⟩ := encW_inj (by have := hc.k1; omega) (by have := hd.k1; omega) h2
  obtain ⟨h5, h6⟩ := encW_inj (by have := hc.m1; omega) (by have := hd.m1; omega) h4
  refine ⟨?_, h6⟩
  obtain ⟨c1, c2, c3⟩ := c
  obtain ⟨d1, d2, d3⟩ := d
  have := hc.k0
  have := hd.k0
  have := hc.m0
  have := hd.m0
  dsimp only at *
  rw [h1, show c2 = d2 by omega, show c3 = d3 by omega]
theorem encX_inj {x y : Idx} {r r' : List Nat} (hx : 1 ≤ x.1 ∧ x.1 ≤ 3) (hy : 1 ≤ y.1 ∧ y.1 ≤ 3) (h : encX x ++ r = encX y ++ r') : x = y ∧ r = r' := by
  unfold encX at h
  simp only [List.append_assoc] at h
  obtain ⟨h3, h4⟩ := encW_inj (by omega) (by omega) h
  obtain ⟨h5, h6⟩ := encW_inj (by split <;> omega) (by split <;> omega) h4
  refine ⟨?_, h6⟩
  obtain ⟨x1, x2⟩ := x
  obtain ⟨y1, y2⟩ := y
  dsimp only at *
  rw [show x1 = y1 by omega]
  cases x2 <;> cases y2 <;> simp_all
theorem flat_inj {α : Type} {f : α → List Nat} {P : α → Prop} (hf : ∀ {x y : α} {r r' : List Nat}, P x → P y → f x ++ r = f y ++ r' → x = y ∧ r = r') : ∀ {l m : List α} {r r' : List Nat}, l.length = m.length → (∀ x ∈ l, P x) → (∀ x ∈ m, P x) → l.flatMap f ++ r = m.flatMap f ++ r' → l = m ∧ r = r'
  | [], [], r, r', _, _, _, h => ⟨rfl, by simpa using h⟩
  | [], _ :: _, r, r', hl, _, _, _ => by simp at hl
  | _ :: _, [], r, r', hl, _, _, _ => by simp at hl
  | x :: l, y :: m, r, r', hl, h1, h2, h => by
    rw [List.flatMap_cons, List.flatMap_cons, List.append_assoc, List.append_assoc] at h
    obtain ⟨e1, e2⟩ := hf (h1 x List.mem_cons_self) (h2 y List.mem_cons_self) h
    obtain ⟨e3, e4⟩ := flat_inj hf (by simpa using hl) (fun z hz => h1 z (List.mem_cons_of_mem _ hz)) (fun z hz => h2 z (List.mem_cons_of_mem _ hz)) e2
    exact ⟨by rw [e1, e3], e4⟩
theorem encS_inj {s t : Sch} (hs : s.ok = true) (ht : t.ok = true) (h : encS s = encS t) : s.nm = t.nm ∧ s.cs = t.cs ∧ s.xs = t.xs := by
  obtain ⟨s1, s2, s3, s4, s5⟩ := Sch.parts hs
  obtain ⟨t1, t2, t3, t4, t5⟩ := Sch.parts ht
  unfold encS at h
  simp only [List.append_assoc] at h
  obtain ⟨e1, h⟩ := wb_inj s1 t1 h
  obtain ⟨e2, h⟩ := encW_inj (by omega) (by omega) h
  have get : ∀ {α : Type} {l : List α} {x : α}, x ∈ l → ∃ i, l[i]? = some x := fun hx => List.getElem?_of_mem hx
  obtain ⟨e3, h⟩ := flat_inj (f := encC) (P := ColOk) (fun a b c => encC_inj a b c) e2 (fun x hx => by obtain ⟨i, hi⟩ := get hx; exact s4 i x hi) (fun x hx => by obtain ⟨i, hi⟩ := get hx; exact t4 i x hi) h
  obtain ⟨e4, h⟩ := encW_inj (by omega) (by omega) h
  have h' : s.xs.flatMap encX ++ [] = t.xs.flatMap encX ++ [] := by rw [List.append_nil, List.append_nil]; exact h
  obtain ⟨e5, _⟩ := flat_inj (f := encX) (P := fun x : Idx => 1 ≤ x.1 ∧ x.1 ≤ 3) (fun a b c => encX_inj a b c) e4 (fun x hx => by obtain ⟨i, hi⟩ := get hx; exact s5 i x hi) (fun x hx => by obtain ⟨i, hi⟩ := get hx; exact t5 i x hi) h'
  exact ⟨e1, e3, e5⟩
end Go.Proofs.Ytcophbkgighepaa
set_option linter.unusedVariables false
namespace Go.Proofs.Ytcophbkgighepaa
open Go.RowKit

theorem rowB_inj {l m : List Val} (hl : l.length ≤ 3) (hm : m.length ≤ 3) (okl : ∀ x ∈ l, x.ok) (okm : ∀ x ∈ m, x.ok) (el : keyErr l = 0) (em : keyErr m = 0) (h : rowB l = rowB m) : l = m := by
  unfold rowB at h
  obtain ⟨_, h2⟩ := encW_inj (by omega) (by omega) h
  have h3 := rd_fore l okl el
  have h4 := rd_fore m okm em
  rw [h2, h4] at h3
  simpa using h3.symm
theorem bl_mk (l : List UInt8) : bl ⟨l.toArray⟩ = l := by unfold bl; simp
theorem fold_runes {s : ByteArray} {rs : List Nat} (h : runes (bl s) = some rs) : runes (bl (foldS s)) = some (rs.map foldR) := by
  unfold foldS
  rw [h]
  show runes (bl ⟨(encs (rs.map foldR)).toArray⟩) = _
  rw [bl_mk]
  refine runes_of_encs _ fun r hr => ?_
  obtain ⟨q, hq, rfl⟩ := List.mem_map.1 hr
  exact foldR_vr (((runes_iff _ _).1 h).2 q hq)
theorem foldV_fits {c : Col} {v : Val} (h : fitsB c v = true) : fitsB c (foldV v) = true := by
  unfold foldV
  split
  · rename_i h2
    unfold fitsB at h ⊢
    simp only [Bool.and_eq_true, Bool.or_eq_true, decide_eq_true_eq] at h ⊢
    obtain ⟨⟨h3, h4⟩, h5⟩ := h
    obtain ⟨k, n, s⟩ := v
    dsimp only at *
    subst h2
    have h6 : rightOf 2 n s = 0 := h3
    rw [r2] at h6
    split at h6
    · rename_i hn
      split at h6
      · cases h6
      · rename_i hr
        cases hq : runes (bl s) with
        | none => exact absurd hq hr
        | some rs =>
          have hf := fold_runes hq
          refine ⟨⟨?_, h4⟩, ?_⟩
          · show rightOf 2 n (foldS s) = 0
            rw [r2, if_pos hn, if_neg (by rw [hf]; simp)]
          · have e1 : rcn s = rs.length := by unfold rcn; rw [hq]; rfl
            have e2 : rcn (foldS s) = rs.length := by unfold rcn; rw [hf]; simp
            rw [e2]
            rw [e1] at h5
            exact h5
    · cases h6
  · exact h
theorem fitsN_fold {s : Sch} {l : List Val} : ∀ {n : Nat}, fitsN s l n = true → fitsN s (l.map foldV) n = true
  | 0, _ => rfl
  | n + 1, h => by
    have h' : (fitsN s l n && (match s.cs[n]?, l[n]? with | some c, some v => fitsB c v | _, _ => true)) = true := h
    rw [Bool.and_eq_true] at h'
    show (fitsN s (l.map foldV) n && (match s.cs[n]?, (l.map foldV)[n]? with | some c, some v => fitsB c v | _, _ => true)) = true
    rw [fitsN_fold h'.1, Bool.true_and, List.getElem?_map]
    have h2 := h'.2
    cases hc : s.cs[n]? with
    | none => rfl
    | some c =>
      cases hv : l[n]? with
      | none => rfl
      | some v =>
        rw [hc, hv] at h2
        exact foldV_fits h2
theorem fits_fold {s : Sch} {l : List Val} (h : s.fits l = 0) : s.fits (l.map foldV) = 0 := by
  unfold Sch.fits at h ⊢
  split at h
  · cases h
  · rename_i h1
    rw [if_neg h1]
    split at h
    · cases h
    · rename_i h2
      rw [List.length_map, if_neg h2]
      split at h
      · cases h
      · rename_i h3
        split at h
        · rename_i h4
          have hk : ((l.map foldV).getD 0 (0, 0, ⟨#[]⟩)).1 = (l.getD 0 (0, 0, ⟨#[]⟩)).1 := by
            cases l with
            | nil => rfl
            | cons v l =>
              show (foldV v).1 = v.1
              unfold foldV
              split <;> rfl
          rw [hk, if_neg h3, if_pos (fitsN_fold h4)]
        · cases h
end Go.Proofs.Ytcophbkgighepaa
