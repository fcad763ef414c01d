/- schema.Decode of what Encode wrote; the law's Little and Row. -/
import Derived.Test.YtcophbkgighepaaHJ
import Derived.Laws.ResultCell
set_option linter.unusedVariables false
namespace Go.Proofs.Ytcophbkgighepaa
open Go.RowKit

set_option maxRecDepth 100000 in
theorem bequal_any (a a' : Option Addr) (len cap len' cap' : Nat) (xs ys : List Nat) (w : World) (h : BS w a len cap xs) (h' : BS w a' len' cap' ys) :
    Calls Try.prog 44 #[.slice a len cap, .slice a' len' cap'] w fun e w' => e = .returned (.bool (decide (xs = ys))) ∧ w' = w := by
  have t1 := run_text h
  have t2 := run_text h'
  have HE : Hid (((str xs).toList == (str ys).toList) = decide (xs = ys)) := str_beq xs ys h.hbyte h'.hbyte
  clear h h'
  generalize str xs = sx at *
  generalize str ys = sy at *
  go_enter Try.func44, Try.ntmps44
  go_wp2
  go_ret
  refine ⟨?_, rfl⟩
  rw [← HE.out]
  rfl
theorem OB.bs {B : Nat} {w : World} {a : Option Addr} {k c : Nat} {xs : List Nat} (h : OB B w (.slice a k c) xs) (hb : ∀ n ∈ xs, n < 256) (hl : xs.length ≤ 100000000) : BS w a xs.length c xs := by
  have h1 := h
  unfold OB at h1
  rw [← fB_cells] at h1
  obtain ⟨a2, c2, e, hsv⟩ := own_sv fB_len h1 rfl
  simp only [Value.slice.injEq] at e
  obtain ⟨rfl, _, rfl⟩ := e
  refine ⟨rfl, hsv.hc, by omega, hsv.hm, hb, hsv.hn, fun x hx i hi => ?_⟩
  obtain ⟨b, o, e1, _, h3⟩ := hsv.pl (by omega)
  rw [hx] at e1
  simp only [Option.some.injEq] at e1
  subst e1
  have := h3 i xs[i] (List.getElem?_eq_getElem hi) 0 (by omega)
  rw [add_plain]
  rw [Nat.mul_one, Nat.add_zero] at this
  rw [this, List.getD_eq_getElem?_getD, List.getElem?_eq_getElem hi]
  rfl
theorem results_sch {fn : Func} {p u : Tmp} (h : fn.results = #[.cell p 25, .tmp u]) (tmps : Array Value) (w : World) (g : Nat) (t : TypeId) (x y z : Value) (fr : Nat × Nat)
    (hp : tmps.getD p undef = .pointer (some ⟨g, 0, none⟩)) (hg : w.heap[g]? = some (.cells #[x, y, z] t fr)) :
    (results fn tmps).run Try.prog w = .ok (.tuple #[.agg #[x, y, z], tmps.getD u undef]) w := by
  rw [results_cell_tmp h, hp]
  simp only [asAddr, Sem.run_pure, Result.andThen_ok, run_loadVar_row w g t 25 #[x, y, z] fr _ hg Try.underlying25 rfl info_sch]
theorem encW_lt (n : Nat) : ∀ x ∈ encW n, x < 256 := enc_byte n
theorem wb_lt (s : ByteArray) : ∀ x ∈ wb s, x < 256 := by
  intro x hx
  unfold wb at hx
  rcases List.mem_append.1 hx with h | h
  · exact encW_lt _ x h
  · exact sl_lt s x h
theorem encS_lt (s : Sch) : ∀ x ∈ encS s, x < 256 := by
  intro x hx
  unfold encS at hx
  simp only [List.mem_append, List.mem_flatMap] at hx
  rcases hx with (((h | h) | ⟨c, _, h⟩) | h) | ⟨c, _, h⟩
  · exact wb_lt _ x h
  · exact encW_lt _ x h
  · unfold encC at h
    simp only [List.mem_append] at h
    rcases h with (h | h) | h
    · exact wb_lt _ x h
    · exact encW_lt _ x h
    · exact encW_lt _ x h
  · exact encW_lt _ x h
  · unfold encX at h
    simp only [List.mem_append] at h
    rcases h with h | h
    · exact encW_lt _ x h
    · exact encW_lt _ x h
theorem encS_len {s : Sch} (h : s.ok = true) : (encS s).length ≤ 300 := by
  obtain ⟨h1, h2, h3, h4, h5⟩ := Sch.parts h
  have a1 := wb_len s.nm h1
  have a2 := encW_len s.cs.length (by omega)
  have a3 := encW_len s.xs.length (by omega)
  have a4 := flat_le (f := encC) (m := 35) (l := s.cs) (fun j c hc => encC_len (h4 j c hc)) s.cs.length
  have a5 := flat_le (f := encX) (m := 18) (l := s.xs) (fun j c hc => encX_len (h5 j c hc)) s.xs.length
  rw [List.take_length] at a4 a5
  unfold encS
  simp only [List.length_append]
  omega
set_option maxRecDepth 100000 in
set_option maxHeartbeats 4000000 in
theorem decode_ok {n c : Nat} {a : Option Addr} {s : Sch} {w : World} (hb : BS w a n c (encS s)) (hok : s.ok = true) :
    Calls Try.prog 22 #[.slice a n c] w fun e w' => ∃ ca cc xa xc, e = .returned (.tuple #[.agg #[.string s.nm, .slice ca s.cs.length cc, .slice xa s.xs.length xc], .int .i64 0]) ∧ SC w' ca s.cs.length cc xa s.xs.length xc s ∧ Below w.heap.size w w' := by
  have HOK := hide hok
  obtain ⟨N, hN⟩ : ∃ N, w.heap.size = N := ⟨_, rfl⟩
  obtain ⟨w1, hw1⟩ : ∃ w1, w1 = (w.alloc (.cells #[.string ⟨#[]⟩, .slice none 0 0, .slice none 0 0] 25)).alloc (.cells #[.slice a n c, .int .i64 0] 73) := ⟨_, rfl⟩
  have HZ1 : Hid (w1.heap[N]? = some (.cells #[.string ⟨#[]⟩, .slice none 0 0, .slice none 0 0] 25 (0, 0))) := by show _ = _; rw [hw1, ← hN]; exact heap_alloc2_old w _ _
  have HR1 : Hid (RDR (N + 1) a n c 0 w1) := by show _ = _; rw [hw1, ← hN]; exact heap_alloc2_new w _ _
  have hb1 : Below w.heap.size w w1 := by rw [hw1]; exact (below_box w _).trans ((below_box _ _).mono (below_box w _).size)
  have HB1 := hide (hb.later hb1 (Nat.le_refl _))
  have HW1 : Hid (Below N w w1) := by show Below N w w1; rw [← hN]; exact hb1
  have HAN : Hid (∀ b o, a = some ⟨b, o, none⟩ → b < N) := by
    intro b o q
    have hpos : 0 < n := by
      rw [← hb.hlen]
      unfold encS wb
      have h8 := (Sch.parts hok).1
      have := enc_length s.nm.size (grp_spec s.nm.size (by omega)).1
      have := (grp_spec s.nm.size (by omega)).1
      simp only [List.length_append]
      omega
    have := cell_lt (hb.hcell _ q 0 hpos)
    rw [← hN]
    simpa [Addr.add] using this
  have HSC := hide (rschema_ok HR1.out HB1.out hok fun b o q => by have := HAN.out b o q; omega)
  have HE1 := hide hw1
  rw [hN]
  clear hb hok hb1 hw1
  go_enter Try.func22, Try.ntmps22
  go_upto_region 2 with fail
  rw [← HE1.out]
  try simp only [hN]
  go_wp2_with fail
  refine HSC.out.mono ?_
  rintro e w2 ⟨ca, cc, xa, xc, rfl, hsc, hf, hca, hxa⟩
  have HNB : Hid ((∀ b o, ca = some ⟨b, o, none⟩ → b ≠ N) ∧ ∀ b o, xa = some ⟨b, o, none⟩ → b ≠ N) := ⟨fun b o q => by have := hca b o q; have := blk_lt HR1.out; omega, fun b o q => by have := hxa b o q; have := blk_lt HR1.out; omega⟩
  clear hca hxa
  have hbx := below_box w2 (.cells #[.string s.nm, .slice ca s.cs.length cc, .slice xa s.xs.length xc] 25)
  have HV3 : Hid ((w2.alloc (.cells #[.string s.nm, .slice ca s.cs.length cc, .slice xa s.xs.length xc] 25)).heap[w2.heap.size]? = some (.cells #[.string s.nm, .slice ca s.cs.length cc, .slice xa s.xs.length xc] 25 (0, 0))) := boxed w2 _
  have HSC3 := hide (hsc.later hbx)
  have HZ3 : Hid ((w2.alloc (.cells #[.string s.nm, .slice ca s.cs.length cc, .slice xa s.xs.length xc] 25)).heap[N]? = some (.cells #[.string ⟨#[]⟩, .slice none 0 0, .slice none 0 0] 25 (0, 0))) := (hbx.block N (by have := blk_lt HZ1.out; have := hf.bel.size; omega)).trans ((hf.oth N (blk_lt HZ1.out) (by omega)).trans HZ1.out)
  have HB3 := hide ((bs_rd HB1.out hf fun b o q => by have := HAN.out b o q; omega).later hbx (Nat.le_refl _))
  have HW3 : Hid (Below N w (w2.alloc (.cells #[.string s.nm, .slice ca s.cs.length cc, .slice xa s.xs.length xc] 25))) := HW1.out.trans ((hf.bel.mono (by omega)).trans (hbx.mono (by have := blk_lt HZ1.out; have := hf.bel.size; omega)))
  clear hsc hf hbx HSC
  go_upto_region 3 with fail
  generalize w2.alloc (.cells #[.string s.nm, .slice ca s.cs.length cc, .slice xa s.xs.length xc] 25) = w3 at *
  generalize w2.heap.size = V at *
  have y0 : w3.cell? ⟨V, 0, none⟩ = some (.string s.nm) := cell_blk HV3.out
  have y1 : w3.cell? ⟨V, 1, none⟩ = some (.slice ca s.cs.length cc) := cell_blk HV3.out
  have y2 : w3.cell? ⟨V, 2, none⟩ = some (.slice xa s.xs.length xc) := cell_blk HV3.out
  have HEN := hide (encode_ok HSC3.out HOK.out)
  go_wp2_with fail
  refine HEN.out.mono ?_
  rintro e w4 ⟨v4, rfl, ho4, hb4⟩
  obtain ⟨a4, c4, e4⟩ := OB.form ho4
  subst e4
  have HBS4 := hide (OB.bs ho4 (encS_lt s) (by have := encS_len HOK.out; omega))
  have HEQ := hide (bequal_any a4 a _ c4 n c (encS s) (encS s) w4 HBS4.out (HB3.out.later hb4 (Nat.le_refl _)))
  rw [decide_eq_true rfl] at HEQ
  have HV4 := hide ((hb4.block V (blk_lt HV3.out)).trans HV3.out)
  have HZ4 := hide ((hb4.block N (blk_lt HZ3.out)).trans HZ3.out)
  have HSC4 := hide (HSC3.out.later hb4)
  have HW4 : Hid (Below N w w4) := HW3.out.trans (hb4.mono (by have := blk_lt HZ3.out; omega))
  obtain ⟨k4, hk4⟩ : ∃ k, (encS s).length = k := ⟨_, rfl⟩
  rw [hk4] at HEQ ⊢
  clear ho4 hb4 HEN y0 y1 y2 hk4
  go_wp2_with fail
  refine HEQ.out.mono ?_
  rintro e w9 ⟨rfl, hw⟩
  have hw := hw.symm
  subst hw
  clear hw HEQ
  have z0 : w4.cell? ⟨V, 0, none⟩ = some (.string s.nm) := cell_blk HV4.out
  have z1 : w4.cell? ⟨V, 1, none⟩ = some (.slice ca s.cs.length cc) := cell_blk HV4.out
  have z2 : w4.cell? ⟨V, 2, none⟩ = some (.slice xa s.xs.length xc) := cell_blk HV4.out
  have t0 : w4.cell? ⟨N, 0, none⟩ = some (.string ⟨#[]⟩) := cell_blk HZ4.out
  have tf0 : w4.frozen? ⟨N, 0, none⟩ = false := frz_blk HZ4.out
  have t1 : w4.cell? ⟨N, 1, none⟩ = some (.slice none 0 0) := cell_blk HZ4.out
  have tf1 : w4.frozen? ⟨N, 1, none⟩ = false := frz_blk HZ4.out
  have t2 : w4.cell? ⟨N, 2, none⟩ = some (.slice none 0 0) := cell_blk HZ4.out
  have tf2 : w4.frozen? ⟨N, 2, none⟩ = false := frz_blk HZ4.out
  go_wp2
  (try simp only [Exit.inBlock, Exit.then])
  refine bodyPost_ret (results_sch Try.results22 _ _ N _ _ _ _ _ rfl (set3 HZ4.out)) rfl ?_
  have hsz : w4.heap.size ≤ (((w4.setCell ⟨N, 0, none⟩ (.string s.nm)).setCell ⟨N, 1, none⟩ (.slice ca s.cs.length cc)).setCell ⟨N, 2, none⟩ (.slice xa s.xs.length xc)).heap.size := ((((Below.refl 0 w4).setCell (p := ⟨N, 0, none⟩) (Nat.zero_le _) _).setCell (p := ⟨N, 1, none⟩) (Nat.zero_le _) _).setCell (p := ⟨N, 2, none⟩) (Nat.zero_le _) _).size
  refine ⟨ca, cc, xa, xc, rfl, ⟨HSC4.out.c.blk hsz fun b o e => set_oth3 (HNB.out.1 b o e), HSC4.out.x.blk hsz fun b o e => set_oth3 (HNB.out.2 b o e)⟩, ?_⟩
  exact ((HW4.out.setCell (p := ⟨N, 0, none⟩) (Nat.le_refl _) _).setCell (p := ⟨N, 1, none⟩) (Nat.le_refl _) _).setCell (p := ⟨N, 2, none⟩) (Nat.le_refl _) _
end Go.Proofs.Ytcophbkgighepaa
