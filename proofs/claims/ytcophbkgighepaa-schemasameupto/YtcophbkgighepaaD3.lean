/- Contract of keys.appendHeld for a text: its runes' bytes and its end. -/
import Derived.Test.YtcophbkgighepaaD2
set_option linter.unusedVariables false
namespace Go.Proofs.Ytcophbkgighepaa
open Go.RowKit

theorem runeB_append (a b : List Nat) : runeB (a ++ b) = runeB a ++ runeB b := by simp [runeB]
theorem runeB_len (rs : List Nat) : (runeB rs).length = 3 * rs.length := by
  induction rs with
  | nil => rfl
  | cons r rs ih =>
    have e : runeB (r :: rs) = hiB (r + 1) 3 ++ runeB rs := by simp [runeB]
    rw [e, List.length_append, hiB_len, ih]
    simp
    omega

theorem GR.other {B : Nat} {w0 w1 : World} {v0 v1 : Value} {xs : List Nat} (h : GR B w0 v0 w1 v1 xs) {k : Nat} (hk : k < w0.heap.size) (hne : some k ≠ v0.ownBlock) : some k ≠ v1.ownBlock := by
  rcases h.lies with e | ⟨j, e, hj⟩
  · rw [e]; exact hne
  · rw [e]; intro h2; cases h2; omega

/-- While a text is gone through and its bytes grow. -/
structure TX (B : Nat) (w : World) (v : Value) (wr : World) (b : Value) (K : Nat) (s : ByteArray) (pos : Nat) (ys : List Nat) : Prop where
  gr : GR B w v wr b ys
  it : wr.heap[K]? = some (.stringIter s pos)
  ne : some K ≠ b.ownBlock
theorem TX.hid {B : Nat} {w : World} {v : Value} {wr : World} {b : Value} {K : Nat} {s : ByteArray} {pos : Nat} {ys : List Nat} (h : TX B w v wr b K s pos ys) : Hid (TX B w v wr b K s pos ys) := h
theorem TX.moved {B : Nat} {w : World} {v : Value} {wr : World} {b : Value} {K : Nat} {s : ByteArray} {pos : Nat} {ys : List Nat} (h : TX B w v wr b K s pos ys) (hK : w.heap.size ≤ K) (p : Nat) : TX B w v (wr.iterAt K s p) b K s p ys := by
  have hsz : K < wr.heap.size := (Array.getElem?_eq_some_iff.1 h.it).1
  have hg : wr.grownBy (wr.iterAt K s p) (some K) := by
    refine ⟨rfl, rfl, rfl, by rw [Lib.iterAt_size]; exact Nat.le_refl _, fun k hk hne => ?_⟩
    exact Lib.iterAt_other wr K k s p (fun e => hne (by rw [e]))
  refine ⟨⟨h.gr.own.kept hg ?_, h.gr.grown.andThen hg ?_, h.gr.lies, h.gr.base, h.gr.old⟩, Lib.iterAt_heap wr K s pos p h.it, h.ne⟩
  · exact Or.inr fun e => h.ne e.symm
  · intro j hj
    cases hj
    exact Or.inl hK
theorem TX.grow {B : Nat} {w : World} {v : Value} {wr w1 : World} {b b1 : Value} {K : Nat} {s : ByteArray} {pos : Nat} {ys zs : List Nat} (h : TX B w v wr b K s pos ys) (hg : GR B wr b w1 b1 zs) : TX B w v w1 b1 K s pos zs := by
  have hsz : K < wr.heap.size := (Array.getElem?_eq_some_iff.1 h.it).1
  exact ⟨h.gr.trans hg, by rw [hg.kept hsz h.ne]; exact h.it, hg.other hsz h.ne⟩

set_option maxRecDepth 100000 in
set_option maxHeartbeats 1000000 in
theorem appendHeld_text (B : Nat) (v : Value) (xs : List Nat) (s : ByteArray) (rs : List Nat) (w : World) (ho : w.ownsRow B 5 1 v xs.length (cellsOf xs)) (hB : B ≤ w.heap.size) (hl : xs.length ≤ 549755813888) (hs : s.size ≤ 16777216) (hr : runes (bl s) = some rs) :
    Calls Try.prog 65 #[v, (H.text s).val] w fun e w' => ∃ v', e = .returned v' ∧ GR B w v w' v' (xs ++ (H.text s).bytes rs) := by
  have HS := (GR.start ho hB).hid
  clear ho
  have a0 := fun w => as_text_number s w
  have a1 := fun w => as_text_text s w
  have a2 := fun w => as_text_truth s w
  have af := field_kind
  have cr := release_any (H.text s)
  unfold H.val H.out av at cr
  have ck := fun w => kindByte_any 2 w (by omega)
  unfold H.val
  go_enter Try.func65, Try.ntmps65
  go_wp2_with fail
  refine (cr _).mono ?_
  rintro e w1 ⟨rfl, hb1⟩
  have HS1 := (HS.out.later hb1).hid
  have hsz1 := hb1.size
  clear hb1
  go_wp2_with fail
  refine (ck _).mono ?_
  rintro e w2 ⟨rfl, hw2⟩
  have hw2 := hw2.symm
  subst hw2
  go_wp2_with (at_builtin; refine wpList_append_g rfl (.tmp 13) (.tmp 18) rfl B w v _ _ rfl (HS1.out.alloc _) w1.heap.size 1 1 [2 + 1] rfl rfl (news1 _ _ _) (by omega) ?_)
  intro v2 w2 hR2
  have HR2 := hR2.hid
  clear hR2
  go_wp2_with fail
  go_loopw [0] (fun b wr => ∃ (pos : Nat) (pre : List Nat), TX B w v wr b w2.heap.size s pos (xs ++ 3 :: runeB pre) ∧ Met s pos pre ∧ pos ≤ s.size) (fun _ wr => s.size - wr.iterPos w2.heap.size)
  case atStart =>
    refine ⟨0, [], ⟨?_, ?_, ?_⟩, Met.start s, by omega⟩
    · have := HR2.out.alloc (.stringIter s 0)
      simpa [runeB, World.iter] using this
    · exact World.iter_heap w2 s 0
    · intro e
      have := (HR2.out.own.lt _ e.symm).2
      omega
  case round =>
    obtain ⟨pos, pre, hT, hm, hps⟩ := hrel
    have hpl := hm.2
    have HM := hidc hm
    have HT := hT.hid
    clear hm hT
    by_cases hp : pos < s.size
    · obtain ⟨R, W, hd⟩ : ∃ R W, dl ((bl s).drop pos) = (R, W) := ⟨_, _, rfl⟩
      have hw := dl_width (drop_ne hp)
      rw [hd, List.length_drop, bl_len] at hw
      have hnx : ∀ ty, (Instr.next (.pointer (some ⟨w2.heap.size, 0, none⟩)) true ty).run Try.prog wr = .ok (.tuple #[.bool true, .int .i64 pos, .int .i32 R]) (wr.iterAt w2.heap.size s (pos + W)) := fun ty => by
        rw [Lib.run_next_any_at wr w2.heap.size s pos ty HT.out.it hp, dec_at, hd]
      have hgood : (R, W) ≠ (65533, 1) := by
        intro e
        rw [e] at hd
        rw [HM.out.bad hp hd] at hr
        cases hr
      have hR : R ≤ 1114111 := by
        obtain ⟨r, rest, g1, g2, _⟩ := dl_ok (drop_ne hp) (by rw [hd]; exact hgood)
        rw [hd] at g1
        simp only [Prod.mk.injEq] at g1
        unfold vr at g2
        omega
      have HD := hidc hd
      have HG := hidc hgood
      clear hd hgood
      have HT2 := (HT.out.moved (Nat.le_trans HS.out.size (Nat.le_trans HR2.out.size (Nat.le_refl _))) (pos + W)).hid
      have hB2 := Nat.le_trans HT2.out.gr.base HT2.out.gr.size
      have hlen : (xs ++ 3 :: runeB pre).length ≤ 1099511627776 := by simp only [List.length_append, List.length_cons, runeB_len]; omega
      have HL := hidc hlen
      have HB2 := hidc hB2
      clear hlen hB2
      go_wp2_with (go_at_call 82; refine (appendHigh_any B _ (xs ++ 3 :: runeB pre) (R + 1) 3 _ HT2.out.gr.own HB2.out (by omega) (by omega) HL.out).mono ?_; rintro e w3 ⟨v3, rfl, hR3⟩; have HT3 := (HT2.out.grow hR3).hid; clear hR3)
      go_roundw
      case rel =>
        refine ⟨pos + W, pre ++ [R], ?_, HM.out.step hp HD.out HG.out, by omega⟩
        have := HT3.out
        rw [runeB_append]
        simpa [runeB] using this
      case measure =>
        simp only [World.iterPos, HT3.out.it, HT.out.it]
        omega
    · have hnx : ∀ ty, (Instr.next (.pointer (some ⟨w2.heap.size, 0, none⟩)) true ty).run Try.prog wr = _ := fun ty => Lib.run_next_end_at wr w2.heap.size s pos ty HT.out.it hp
      have e : pre = rs := by have := HM.out.fin hp; rw [hr] at this; cases this; rfl
      have HE := hidc e
      clear e
      have hB2 := Nat.le_trans HT.out.gr.base HT.out.gr.size
      have hlen : (xs ++ 3 :: runeB pre).length ≤ 1099511627776 := by simp only [List.length_append, List.length_cons, runeB_len]; omega
      have HL := hidc hlen
      have HB2 := hidc hB2
      clear hlen hB2
      go_wp2_with (go_at_call 82; refine (appendHigh_any B _ (xs ++ 3 :: runeB pre) 0 3 _ HT.out.gr.own HB2.out (by omega) (by omega) HL.out).mono ?_; rintro e w3 ⟨v3, rfl, hR3⟩; have HR3 := (HT.out.gr.trans hR3).hid; clear hR3)
      go_ret
      refine ⟨_, rfl, ?_⟩
      have := HR3.out
      rw [HE.out] at this
      simpa [H.bytes] using this
end Go.Proofs.Ytcophbkgighepaa
