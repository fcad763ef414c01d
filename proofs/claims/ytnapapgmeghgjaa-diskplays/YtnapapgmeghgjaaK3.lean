/- Contract of the law's helper bytes: some bytes of the call's own. -/
import Derived.Test.YtnapapgmeghgjaaK2
set_option linter.unusedVariables false
set_option linter.unusedSimpArgs false
namespace Go.Proofs.Ytnapapgmeghgjaa
open Go.RowKit

/-- Bytes of the call's own: which ones is left open. -/
def OwnB (B : Nat) (v : Value) (ys : List Nat) (w : World) : Prop := w.ownsRow B 5 1 v ys.length (cellsOf ys) ∧ (∀ c ∈ ys, c < 256) ∧ ys.length ≤ 8193

theorem one_bs (w : World) : BS (w.alloc (.cells #[.int .u8 1] 5)) (some ⟨w.heap.size, 0, none⟩) 1 1 [1] := by
  refine BS.of rfl (by omega) (by omega) (by omega) (by simp) ?_
  intro i hi
  obtain rfl : i = 0 := by omega
  rw [World.cell?_alloc_at _ _ _ _ rfl]
  rfl
theorem later_own {w w' : World} {B : Nat} {v : Value} {n : Nat} {xs : List Value} (h : w.ownsRow B 5 1 v n xs) (hb : Below w.heap.size w w') : w'.ownsRow B 5 1 v n xs := by
  refine ⟨h.1, ?_⟩
  rcases h.2 with h0 | ⟨g, cap, cur, hv, hbg, hg, h3⟩
  · exact Or.inl h0
  · exact .inr ⟨g, cap, cur, hv, hbg, by rw [hb.block g (h.lt g (by rw [hv]; rfl)).2]; exact hg, h3⟩

/-- The bytes that the laws make of an act. -/
def lawB (at_ bit : Int) (xs : List Nat) : List Nat := if bits BinOp.and IntKind.i64 bit 31 = 31 then (if bits BinOp.and IntKind.i64 bit 7 = 7 then (xs ++ zs (8192 - xs.length)).set 8191 (IntKind.u8.wrap (IntKind.i64.wrap (at_ + 1))).toNat else xs) ++ [1] else (if bits BinOp.and IntKind.i64 bit 7 = 7 then (xs ++ zs (8192 - xs.length)).set 8191 (IntKind.u8.wrap (IntKind.i64.wrap (at_ + 1))).toNat else xs)
set_option maxRecDepth 100000 in
set_option maxHeartbeats 2000000 in
theorem bytes_any (kind at_ bit : Int) (va : Option Addr) (vl vc : Nat) (xs : List Nat) (after : Int) (keep : Nat) (torn cut : Int) (w : World) (hbs : BS w va (min vl 40) vc xs) (vlc : vl ≤ vc) (vcm : vc ≤ 9223372036854775807) :
    Calls Try.prog 11 #[.agg #[.int .i64 kind, .int .i64 at_, .int .i64 bit, .slice va vl vc, .int .i64 after, .int .u64 (keep : Int), .int .i64 torn, .int .i64 cut]] w fun e w' => ∃ v, e = .returned v ∧ OwnB (w.heap.size + 1) v (lawB at_ bit xs) w' ∧ Below w.heap.size w w' := by
  obtain ⟨m, hm⟩ : ∃ m, m = min vl 40 := ⟨_, rfl⟩
  have e0 : (if (40 : Int) < (vl : Int) then (40 : Int) else (vl : Int)) = (m : Int) := by split <;> omega
  have m40 : m ≤ 40 := by omega
  have mvc : (m : Int) ≤ (vc : Int) := by omega
  have m0 : (0 : Int) ≤ (m : Int) := by omega
  rw [← hm] at hbs
  have HBS := hide hbs
  have hml := hbs.hlen
  have HML := hide hml
  have HBT := hide hbs.hbyte
  obtain ⟨x7, hx7⟩ : ∃ x, bits BinOp.and IntKind.i64 bit 7 = x := ⟨_, rfl⟩
  obtain ⟨x31, hx31⟩ : ∃ x, bits BinOp.and IntKind.i64 bit 31 = x := ⟨_, rfl⟩
  have HB1 := hide (below_box w (.cells #[.int .i64 kind, .int .i64 at_, .int .i64 bit, .slice va vl vc, .int .i64 after, .int .u64 (keep : Int), .int .i64 torn, .int .i64 cut] 34))
  have hcell : ∀ i, (w.alloc (.cells #[.int .i64 kind, .int .i64 at_, .int .i64 bit, .slice va vl vc, .int .i64 after, .int .u64 (keep : Int), .int .i64 torn, .int .i64 cut] 34)).cell? ⟨w.heap.size, i, none⟩ = (#[Value.int .i64 kind, .int .i64 at_, .int .i64 bit, .slice va vl vc, .int .i64 after, .int .u64 (keep : Int), .int .i64 torn, .int .i64 cut] : Array Value)[i]? := fun i => World.cell?_alloc_at _ _ _ _ rfl
  have hsz : (w.alloc (.cells #[.int .i64 kind, .int .i64 at_, .int .i64 bit, .slice va vl vc, .int .i64 after, .int .u64 (keep : Int), .int .i64 torn, .int .i64 cut] 34)).heap.size = w.heap.size + 1 := by simp
  have HSZ := hide hsz
  have r1 := hcell 1
  have r2 := hcell 2
  have r3 := hcell 3
  simp only [List.getElem?_toArray, List.getElem?_cons_zero, List.getElem?_cons_succ] at r1 r2 r3
  have HC := hide hcell
  obtain ⟨k8, hk8⟩ : ∃ k8 : Nat, m + k8 = 8192 := ⟨8192 - m, by omega⟩
  have e8 : (8192 : Int) - (m : Int) = (k8 : Int) := by omega
  have w8 : IntKind.i64.wrap (k8 : Int) = (k8 : Int) := by rw [IntKind.wrap_i64]; omega
  obtain ⟨A, hA⟩ : ∃ A, IntKind.i64.wrap (at_ + 1) = A := ⟨_, rfl⟩
  obtain ⟨cN, hcN⟩ : ∃ cN : Nat, IntKind.u8.wrap A = (cN : Int) := ⟨(A % 256).toNat, by rw [IntKind.wrap_u8']; omega⟩
  have hc256 : cN < 256 := by rw [IntKind.wrap_u8'] at hcN; omega
  have HLB : Hid (lawB at_ bit xs = if x31 = 31 then (if x7 = 7 then (xs ++ zs k8).set 8191 cN else xs) ++ [1] else (if x7 = 7 then (xs ++ zs k8).set 8191 cN else xs)) := by
    show _ = _
    unfold lawB
    rw [hx31, hx7, hA, hcN, hml, show 8192 - m = k8 by omega, Int.toNat_natCast]
  clear hbs hm hcell hml hsz
  by_cases c7 : x7 = 7
  · subst c7
    by_cases c31 : x31 = 31
    · subst c31
      go_enter Try.func11, Try.ntmps11
      go_wp2_with (first
        | (at_builtin; refine wpList_append_any rfl (.tmp 4) (.tmp 11) rfl (w.heap.size + 1) _ 0 [] rfl (World.ownsRow_nil _ _ _ _) va m vc xs rfl (HBS.out.later HB1.out (Nat.le_refl _)) (by omega) _ (Below.refl _ _) (by rw [HSZ.out]; exact Nat.le_refl _) ?_; intro v1 w2 ho1 hb1 hs1; rw [Nat.zero_add, List.nil_append, ← HML.out] at ho1; obtain ⟨a1, c1, rfl, hbs1⟩ := bs_row ho1 (by rw [HML.out]; omega) HBT.out; rw [HML.out] at ho1 ⊢; have q1 := (hb1.cell (p := ⟨w.heap.size, 1, none⟩) (Nat.lt_succ_self _)).trans (HC.out 1); have q2 := (hb1.cell (p := ⟨w.heap.size, 2, none⟩) (Nat.lt_succ_self _)).trans (HC.out 2); simp only [List.getElem?_toArray, List.getElem?_cons_zero, List.getElem?_cons_succ] at q1 q2; have HO1 := hide ho1; have HB2 := hide hb1; have HS2 := hide hs1; clear ho1 hb1 hs1 hbs1)
        | (at_builtin; refine wpList_zeros_any rfl (.tmp 17) (.tmp 20) rfl (w.heap.size + 1) _ m xs rfl HO1.out k8 rfl (by omega) (by omega) _ HB2.out HS2.out ?_; intro v2 w3 ho2 hb2 hs2; rw [hk8] at ho2; obtain ⟨g, cap, rfl, gc1, gc2, hBg, hgl, hfz, hcl, hset⟩ := own_slot ho2 (by omega); have f3 := hfz 8191; have c3 := hcl 8191 (by omega); have q3 := (hb2.cell (p := ⟨w.heap.size, 1, none⟩) (Nat.lt_succ_self _)).trans (HC.out 1); have hb3 := hb2.setCell (p := ⟨g, 8191, none⟩) hBg (.int .u8 (cN : Nat)); have q4 := (hb3.cell (p := ⟨w.heap.size, 2, none⟩) (Nat.lt_succ_self _)).trans (HC.out 2); simp only [List.getElem?_toArray, List.getElem?_cons_zero, List.getElem?_cons_succ] at q3 q4; have HO2 := hide (hset 8191 cN (by omega)); have HB3 := hide hb3; have HS3 : Hid (w.heap.size + 1 ≤ (w3.setCell ⟨g, 8191, none⟩ (.int .u8 (cN : Nat))).heap.size) := (by show _ ≤ _; simpa using hs2); clear ho2 hb2 hs2 hfz hcl hset hb3)
        | (at_builtin; refine wpList_append_any rfl (.tmp 32) (.tmp 33) rfl (w.heap.size + 1) _ 8192 ((xs ++ zs k8).set 8191 cN) rfl (later_own HO2.out (below_box _ _)) (some ⟨(w3.setCell ⟨g, 8191, none⟩ (.int .u8 (cN : Nat))).heap.size, 0, none⟩) 1 1 [1] (by simp [Act.eval]) (one_bs _) (by omega) _ (HB3.out.alloc HS3.out _) (Nat.le_trans HS3.out (below_box _ _).size) ?_; intro v4 w4 ho4 hb4 hs4; have HO4 := hide ho4; have HB4 := hide hb4; clear ho4 hb4 hs4))
      go_ret
      refine ⟨_, rfl, ?_, HB1.out.trans (HB4.out.mono (Nat.le_succ _))⟩
      rw [HLB.out]
      simp only [if_true]
      refine ⟨?_, ?_, ?_⟩
      · have h := HO4.out
        have e : (((xs ++ zs k8).set 8191 cN) ++ [1]).length = 8192 + 1 := by simp [HML.out, zs_len, hk8]
        rw [e]
        exact h
      · intro c hc
        rcases List.mem_append.1 hc with hc | hc
        · rcases List.mem_or_eq_of_mem_set hc with hc | rfl
          · rcases List.mem_append.1 hc with hc | hc
            · exact HBT.out c hc
            · exact zs_lt _ c hc
          · exact hc256
        · simp only [List.mem_singleton] at hc; omega
      · simp [HML.out, zs_len]
        omega
    · -- no byte more
      go_enter Try.func11, Try.ntmps11
      go_wp2_with (first
        | (at_builtin; refine wpList_append_any rfl (.tmp 4) (.tmp 11) rfl (w.heap.size + 1) _ 0 [] rfl (World.ownsRow_nil _ _ _ _) va m vc xs rfl (HBS.out.later HB1.out (Nat.le_refl _)) (by omega) _ (Below.refl _ _) (by rw [HSZ.out]; exact Nat.le_refl _) ?_; intro v1 w2 ho1 hb1 hs1; rw [Nat.zero_add, List.nil_append, ← HML.out] at ho1; obtain ⟨a1, c1, rfl, hbs1⟩ := bs_row ho1 (by rw [HML.out]; omega) HBT.out; rw [HML.out] at ho1 ⊢; have q1 := (hb1.cell (p := ⟨w.heap.size, 1, none⟩) (Nat.lt_succ_self _)).trans (HC.out 1); have q2 := (hb1.cell (p := ⟨w.heap.size, 2, none⟩) (Nat.lt_succ_self _)).trans (HC.out 2); simp only [List.getElem?_toArray, List.getElem?_cons_zero, List.getElem?_cons_succ] at q1 q2; have HO1 := hide ho1; have HB2 := hide hb1; have HS2 := hide hs1; clear ho1 hb1 hs1 hbs1)
        | (at_builtin; refine wpList_zeros_any rfl (.tmp 17) (.tmp 20) rfl (w.heap.size + 1) _ m xs rfl HO1.out k8 rfl (by omega) (by omega) _ HB2.out HS2.out ?_; intro v2 w3 ho2 hb2 hs2; rw [hk8] at ho2; obtain ⟨g, cap, rfl, gc1, gc2, hBg, hgl, hfz, hcl, hset⟩ := own_slot ho2 (by omega); have f3 := hfz 8191; have c3 := hcl 8191 (by omega); have q3 := (hb2.cell (p := ⟨w.heap.size, 1, none⟩) (Nat.lt_succ_self _)).trans (HC.out 1); have hb3 := hb2.setCell (p := ⟨g, 8191, none⟩) hBg (.int .u8 (cN : Nat)); have q4 := (hb3.cell (p := ⟨w.heap.size, 2, none⟩) (Nat.lt_succ_self _)).trans (HC.out 2); simp only [List.getElem?_toArray, List.getElem?_cons_zero, List.getElem?_cons_succ] at q3 q4; have HO2 := hide (hset 8191 cN (by omega)); have HB3 := hide hb3; have HS3 : Hid (w.heap.size + 1 ≤ (w3.setCell ⟨g, 8191, none⟩ (.int .u8 (cN : Nat))).heap.size) := (by show _ ≤ _; simpa using hs2); clear ho2 hb2 hs2 hfz hcl hset hb3))
      go_ret
      refine ⟨_, rfl, ?_, HB1.out.trans (HB3.out.mono (Nat.le_succ _))⟩
      rw [HLB.out, if_neg c31]
      simp only [if_true]
      refine ⟨?_, ?_, ?_⟩
      · have h := HO2.out
        have e : ((xs ++ zs k8).set 8191 cN).length = 8192 := by simp [HML.out, zs_len, hk8]
        rw [e]
        exact h
      · intro c hc
        rcases List.mem_or_eq_of_mem_set hc with hc | rfl
        · rcases List.mem_append.1 hc with hc | hc
          · exact HBT.out c hc
          · exact zs_lt _ c hc
        · exact hc256
      · simp [HML.out, zs_len]
        omega
  · by_cases c31 : x31 = 31
    · subst c31
      go_enter Try.func11, Try.ntmps11
      go_wp2_with (first
        | (at_builtin; refine wpList_append_any rfl (.tmp 4) (.tmp 11) rfl (w.heap.size + 1) _ 0 [] rfl (World.ownsRow_nil _ _ _ _) va m vc xs rfl (HBS.out.later HB1.out (Nat.le_refl _)) (by omega) _ (Below.refl _ _) (by rw [HSZ.out]; exact Nat.le_refl _) ?_; intro v1 w2 ho1 hb1 hs1; rw [Nat.zero_add, List.nil_append, ← HML.out] at ho1; obtain ⟨a1, c1, rfl, hbs1⟩ := bs_row ho1 (by rw [HML.out]; omega) HBT.out; rw [HML.out] at ho1 ⊢; have q1 := (hb1.cell (p := ⟨w.heap.size, 1, none⟩) (Nat.lt_succ_self _)).trans (HC.out 1); have q2 := (hb1.cell (p := ⟨w.heap.size, 2, none⟩) (Nat.lt_succ_self _)).trans (HC.out 2); simp only [List.getElem?_toArray, List.getElem?_cons_zero, List.getElem?_cons_succ] at q1 q2; have HO1 := hide ho1; have HB2 := hide hb1; have HS2 := hide hs1; clear ho1 hb1 hs1 hbs1)
        | (at_builtin; refine wpList_append_any rfl (.tmp 32) (.tmp 33) rfl (w.heap.size + 1) _ m xs rfl (later_own HO1.out (below_box _ _)) _ 1 1 [1] rfl (one_bs _) (by omega) _ (HB2.out.alloc HS2.out _) (Nat.le_trans HS2.out (below_box _ _).size) ?_; intro v4 w4 ho4 hb4 hs4; have HO4 := hide ho4; have HB4 := hide hb4; clear ho4 hb4 hs4))
      go_ret
      refine ⟨_, rfl, ?_, HB1.out.trans (HB4.out.mono (Nat.le_succ _))⟩
      rw [HLB.out]
      simp only [if_true]
      rw [if_neg c7]
      refine ⟨?_, ?_, ?_⟩
      · have h := HO4.out
        have e : (xs ++ [1]).length = m + 1 := by simp [HML.out, zs_len, hk8]
        rw [e]
        exact h
      · intro c hc
        rcases List.mem_append.1 hc with hc | hc
        · exact HBT.out c hc
        · simp only [List.mem_singleton] at hc; omega
      · simp [HML.out, zs_len]
        omega
    · -- its bytes alone
      go_enter Try.func11, Try.ntmps11
      go_wp2_with (first
        | (at_builtin; refine wpList_append_any rfl (.tmp 4) (.tmp 11) rfl (w.heap.size + 1) _ 0 [] rfl (World.ownsRow_nil _ _ _ _) va m vc xs rfl (HBS.out.later HB1.out (Nat.le_refl _)) (by omega) _ (Below.refl _ _) (by rw [HSZ.out]; exact Nat.le_refl _) ?_; intro v1 w2 ho1 hb1 hs1; rw [Nat.zero_add, List.nil_append, ← HML.out] at ho1; obtain ⟨a1, c1, rfl, hbs1⟩ := bs_row ho1 (by rw [HML.out]; omega) HBT.out; rw [HML.out] at ho1 ⊢; have q1 := (hb1.cell (p := ⟨w.heap.size, 1, none⟩) (Nat.lt_succ_self _)).trans (HC.out 1); have q2 := (hb1.cell (p := ⟨w.heap.size, 2, none⟩) (Nat.lt_succ_self _)).trans (HC.out 2); simp only [List.getElem?_toArray, List.getElem?_cons_zero, List.getElem?_cons_succ] at q1 q2; have HO1 := hide ho1; have HB2 := hide hb1; have HS2 := hide hs1; clear ho1 hb1 hs1 hbs1))
      go_ret
      refine ⟨_, rfl, ?_, HB1.out.trans (HB2.out.mono (Nat.le_succ _))⟩
      rw [HLB.out, if_neg c31, if_neg c7]
      refine ⟨?_, ?_, ?_⟩
      · have h := HO1.out
        have e : xs.length = m := by simp [HML.out, zs_len, hk8]
        rw [e]
        exact h
      · intro c hc
        exact HBT.out c hc
      · simp [HML.out, zs_len]
        omega
end Go.Proofs.Ytnapapgmeghgjaa
