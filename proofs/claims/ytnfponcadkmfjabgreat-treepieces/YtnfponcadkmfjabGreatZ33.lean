import Derived.Test.YtnfponcadkmfjabGreatZ32
import Derived.Lib.AppendZerosOnto
import Derived.ArgAppend
import Derived.Outline
set_option linter.unusedVariables false
namespace Go.Proofs.YtnfponcadkmfjabGreat
open Go.RowKit
theorem run_copy_sz (w : World) (dT sT ty elem : TypeId) (z g o dLen dCap : Nat) (a : Addr) (sLen sCap : Nat) (cur : Array Value) (t : TypeId) (cs : List Value)
    (hu : Tryz.prog.underlying dT = some (.slice elem)) (hs : (Tryz.prog.info? elem).map (·.size) = some z)
    (hg : w.heap[g]? = some (.cells cur t (0, 0))) (hn : cs.length = Nat.min sLen dLen * z)
    (hsrc : ∀ j v, cs[j]? = some v → w.cell? (a.add j) = some v) (hfit : o + cs.length ≤ cur.size) (h1 : ∀ v ∈ cs, v.oneCell' = true) :
    (Builtin.copy_ #[dT, sT] ty #[.slice (some ⟨g, o, none⟩) dLen dCap, .slice (some a) sLen sCap]).run Tryz.prog w =
      .ok (goInt (Nat.min sLen dLen)) (w.setRow g (cur.toList.take o ++ cs ++ cur.toList.drop (o + cs.length)).toArray) := by
  have hl := run_loadCells_list (P := Tryz.prog) w a cs hsrc
  have hst := run_storeCells_at Tryz.prog g o t cs 0 cur w hg (by simpa using hfit) h1
  cases hq : Tryz.prog.info? elem with
  | none => simp [hq] at hs
  | some i =>
    have hi : i.size = z := by simpa [hq] using hs
    rw [hn] at hl
    simp [Builtin.copy_, run_underlying hu, Builtin.lenOf, Builtin.firstCells, sizeOf, typeInfo, hq, hi, hl, hst]
theorem setRow_at {w : World} {g : Nat} {cur new : Array Value} {t : TypeId} (hg : w.heap[g]? = some (.cells cur t (0, 0))) : (w.setRow g new).heap[g]? = some (.cells new t (0, 0)) := setRow_heap w g cur new t _ hg
theorem size_item : (Tryz.prog.info? 70).map (·.size) = some 2 := by kernel_rfl
theorem size_node : (Tryz.prog.info? 107).map (·.size) = some 1 := by kernel_rfl
theorem wpList_zeros_full (w : World) {ops : Array Oper} {rest : List Oper} {o : Oper} {a : Act} {Q : Exit → Act → World → Prop} (hgd : o.guard = none) (s x : Operand) (t e : TypeId)
    (ho : o.op = .call { callee := .builtin .append, args := #[s, x], argTypes := #[t, 3] }) (i : TypeInfo) (z : Value) (size bytes : Nat) (ht : Tryz.prog.underlying t = some (.slice e)) (hi : Tryz.prog.info? e = some i) (hz : i.zero = some z) (hsz : i.size = size) (hby : i.bytes = bytes) (hzs : z.cells.size = size) (h0s : 0 < size) (hb : bytes ≤ 48)
    (b off n cap k : Nat) (olds : List Value) (hs : a.eval s = .slice (some ⟨b, off, none⟩) n cap) (hx : a.eval x = .int .i64 (k : Int)) (hlo : olds.length = n * size) (hold : ∀ j u, olds[j]? = some u → w.cell? ⟨b, off + j, none⟩ = some u)
    (h0 : 0 < k) (hfull : cap < n + k) (hsm : n + k ≤ 100000)
    (h : ∀ c' w' row, Hid (w'.heap[w.heap.size]? = some (.cells (olds ++ row).toArray e (0, 0))) → Hid (k * size ≤ row.length) → Hid (n + k ≤ c') → Hid (c' ≤ 9223372036854775807) → Hid (Below w.heap.size w w') → wpList Tryz.prog ops Q rest (a.put o.dst (.slice (some ⟨w.heap.size, 0, none⟩) (n + k) c')) w') : wpList Tryz.prog ops Q (o :: rest) a w := by
  have hfc : (Builtin.firstCells i.size n (.slice (some ⟨b, off, none⟩) n cap)).run Tryz.prog w.drew = .ok olds.toArray w.drew := by
    rw [hsz]
    exact run_firstCells_some w.drew size n ⟨b, off, none⟩ n cap olds hlo (fun j v hj => by
      rw [Addr.add_lit]
      exact hold j v hj)
  have hfit := growslice_fits (need := n + k) (old := cap) (bytes := i.bytes) hfull (by rw [hby]; have : (n + k) * bytes ≤ (n + k) * 48 := Nat.mul_le_mul_left _ hb; omega)
  have hr := Go.Lib.run_append_grow_zeros w t 3 o.type e i z .i64 .i64 ht Tryz.underlying3 hi hz (some ⟨b, off, none⟩) n cap olds hfc k h0 (by omega) hfull (by omega) (by rw [hby]; have : k * bytes ≤ k * 48 := Nat.mul_le_mul_left _ hb; omega) hfit
  refine Go.Lib.wpList_append_run w hgd s x _ _ ho _ _ hs hx _ _ hr (h _ _ (Builtin.zeroCells z.cells k ++ Builtin.zeroCells z.cells (grownCap w (n + k) cap e - (n + k))).toList ?_ ?_ (grownCap_ge w (n + k) cap e) ?_ ?_)
  · have e9 : ∀ A C : Array Value, olds.toArray ++ A ++ C = (olds ++ (A ++ C).toList).toArray := by
      intro A C
      apply Array.toList_inj.1
      simp
    show _ = _
    rw [← e9]
    exact heap_alloc_new w.drew _
  · show _ ≤ _
    rw [Array.length_toList, Array.size_append, size_zeroCells, hzs]
    omega
  · exact grownCap_le_maxLen w (n + k) cap e (by simp only [maxLen]; omega)
  · exact (Below.refl _ _).drew.trans ((Below.refl w.heap.size w.drew).alloc (Nat.le_refl _) _)
end Go.Proofs.YtnfponcadkmfjabGreat
set_option linter.unusedVariables false
namespace Go.Proofs.YtnfponcadkmfjabGreat
open Go.RowKit
def RowN (w : World) (g : Nat) (t : TypeId) (ys : List Value) : Prop := ∃ row : List Value, w.heap[g]? = some (.cells (ys ++ row).toArray t (0, 0))
theorem RowN.ofOwns {w : World} {B n z : Nat} {t : TypeId} {v : Value} {ys : List Value} (h : w.ownsRow B t z v n ys) (hn : 0 < n) : ∃ g c, v = .slice (some ⟨g, 0, none⟩) n c ∧ B ≤ g ∧ n ≤ c ∧ c ≤ 9223372036854775807 ∧ RowN w g t ys := by
  rcases h.2 with ⟨_, h1⟩ | ⟨g, cap, cur, rfl, hB, hg, hnc, hcm, hcs, ht⟩
  · omega
  · refine ⟨g, cap, rfl, hB, hnc, by simpa [maxLen] using hcm, cur.toList.drop (n * z), ?_⟩
    rw [hg]
    congr 2
    rw [← ht, List.take_append_drop]
set_option maxRecDepth 100000 in
set_option maxHeartbeats 4000000 in
theorem insert_end {w : World} {g L gv : Nat} {cs : List Value} {k v : Value} (hg : w.heap[g]? = some (.cells cs.toArray 70 (0, 0))) (hl : cs.length = L * 2) (hL : L ≤ 10) (hL0 : 0 < L) (hv : w.heap[gv]? = some (.cells #[k, v] 70 (0, 0))) (h1 : ∀ u ∈ cs, u.oneCell' = true) (hk1 : k.oneCell' = true) (hv1 : v.oneCell' = true) :
    Calls Tryz.prog 117 #[.slice (some ⟨g, 0, none⟩) L L, .int .i64 (L : Int), .slice (some ⟨gv, 0, none⟩) 1 1] w fun e w' => ∃ gn c, e = .returned (.slice (some ⟨gn, 0, none⟩) (L + 1) c) ∧ w.heap.size ≤ gn ∧ L + 1 ≤ c ∧ c ≤ 9223372036854775807 ∧ RowN w' gn 70 (cs ++ [k, v]) ∧ Below w.heap.size w w' := by
  obtain ⟨i0, hi0, hz0, hz1, hz2⟩ := info_parts info_item
  have HOL : Hid (∀ b, some (⟨g, 0, none⟩ : Addr) = some b → ∀ j u, cs[j]? = some u → w.cell? (b.add j) = some u) := by
    intro b hb j u hu
    simp only [Option.some.injEq] at hb
    subst hb
    rw [Addr.add_lit, Nat.zero_add, cell_blk hg, List.getElem?_toArray]
    exact hu
  have HNW : Hid (∀ j u, [k, v][j]? = some u → w.cell? ((⟨gv, 0, none⟩ : Addr).add j) = some u) := by
    intro j u hu
    rw [Addr.add_lit, Nat.zero_add, cell_blk hv]
    simpa using hu
  have HO1 : Hid (∀ u ∈ [k, v], u.oneCell' = true) := by
    intro u hu
    simp only [List.mem_cons, List.not_mem_nil, or_false] at hu
    rcases hu with rfl | rfl
    · exact hk1
    · exact hv1
  have HL := hide hl
  clear hg hv h1 hk1 hv1 hl
  go_enter Tryz.func117, Tryz.ntmps117
  go_wp2_with (at_builtin; refine wpList_append_grows w rfl (.tmp 23) (.tmp 24) 115 rfl 70 i0 _ 2 48 Tryz.underlying115 hi0 hz0 hz1 hz2 rfl (by omega) (some ⟨g, 0, none⟩) L L cs rfl (fun h => by cases h) HL.out HOL.out ⟨gv, 0, none⟩ 1 1 [k, v] rfl rfl HNW.out HO1.out (by omega) (by unfold maxLen; omega) (by omega) ?_; intro v3 w3 ho3 hg3; obtain ⟨gn, cn, rfl, hgn, hcn, hcm, hrow⟩ := RowN.ofOwns ho3 (by omega); have HROW := hide hrow; have HGN := hide hgn; have HCN := hide hcn; have HCM := hide hcm; have HB3 := hide ((Below.refl w.heap.size w).grown hg3 (Nat.le_refl _) (fun k hk => by cases hk)); clear ho3 hg3 hrow hgn hcn hcm)
  go_ret
  exact ⟨gn, cn, rfl, HGN.out, HCN.out, HCM.out, HROW.out, HB3.out⟩
set_option maxRecDepth 100000 in
set_option maxHeartbeats 4000000 in
theorem insert_nil {w : World} {gv : Nat} {k v : Value} (hv : w.heap[gv]? = some (.cells #[k, v] 70 (0, 0))) (hk1 : k.oneCell' = true) (hv1 : v.oneCell' = true) :
    Calls Tryz.prog 117 #[.slice none 0 0, .int .i64 0, .slice (some ⟨gv, 0, none⟩) 1 1] w fun e w' => ∃ gn c, e = .returned (.slice (some ⟨gn, 0, none⟩) 1 c) ∧ w.heap.size ≤ gn ∧ 1 ≤ c ∧ c ≤ 9223372036854775807 ∧ RowN w' gn 70 [k, v] ∧ Below w.heap.size w w' := by
  obtain ⟨i0, hi0, hz0, hz1, hz2⟩ := info_parts info_item
  have HNW : Hid (∀ j u, [k, v][j]? = some u → w.cell? ((⟨gv, 0, none⟩ : Addr).add j) = some u) := by
    intro j u hu
    rw [Addr.add_lit, Nat.zero_add, cell_blk hv]
    simpa using hu
  have HO1 : Hid (∀ u ∈ [k, v], u.oneCell' = true) := by
    intro u hu
    simp only [List.mem_cons, List.not_mem_nil, or_false] at hu
    rcases hu with rfl | rfl
    · exact hk1
    · exact hv1
  clear hv hk1 hv1
  go_enter Tryz.func117, Tryz.ntmps117
  go_wp2_with (at_builtin; refine wpList_append_grows w rfl (.tmp 23) (.tmp 24) 115 rfl 70 i0 _ 2 48 Tryz.underlying115 hi0 hz0 hz1 hz2 rfl (by omega) none 0 0 [] rfl (fun _ => ⟨rfl, rfl⟩) rfl (fun b h => by cases h) ⟨gv, 0, none⟩ 1 1 [k, v] rfl rfl HNW.out HO1.out (by omega) (by unfold maxLen; omega) (by omega) ?_; intro v3 w3 ho3 hg3; obtain ⟨gn, cn, rfl, hgn, hcn, hcm, hrow⟩ := RowN.ofOwns ho3 (by omega); have HROW := hide hrow; have HGN := hide hgn; have HCN := hide hcn; have HCM := hide hcm; have HB3 := hide ((Below.refl w.heap.size w).grown hg3 (Nat.le_refl _) (fun k hk => by cases hk)); clear ho3 hg3 hrow hgn hcn hcm)
  go_ret
  exact ⟨gn, cn, rfl, HGN.out, HCN.out, HCM.out, HROW.out, HB3.out⟩
set_option maxRecDepth 100000 in
set_option maxHeartbeats 4000000 in
theorem insert_mid {w : World} {g L gv i : Nat} {cs : List Value} {k v : Value} (hg : w.heap[g]? = some (.cells cs.toArray 70 (0, 0))) (hl : cs.length = L * 2) (hL : L ≤ 10) (hi : i < L) (hv : w.heap[gv]? = some (.cells #[k, v] 70 (0, 0))) (h1 : ∀ u ∈ cs, u.oneCell' = true) (hk1 : k.oneCell' = true) (hv1 : v.oneCell' = true) :
    Calls Tryz.prog 117 #[.slice (some ⟨g, 0, none⟩) L L, .int .i64 (i : Int), .slice (some ⟨gv, 0, none⟩) 1 1] w fun e w' => ∃ gn c, e = .returned (.slice (some ⟨gn, 0, none⟩) (L + 1) c) ∧ w.heap.size ≤ gn ∧ L + 1 ≤ c ∧ c ≤ 9223372036854775807 ∧ RowN w' gn 70 (cs.take (i * 2) ++ (k :: v :: cs.drop (i * 2))) ∧ Below w.heap.size w w' := by
  obtain ⟨i0, hi0, hz0, hz1, hz2⟩ := info_parts info_item
  have HG := hide hg
  have HV := hide hv
  have HTL : Hid ((cs.take (i * 2)).length = i * 2) := by show _ = _; rw [List.length_take]; omega
  have HTC : Hid (∀ j u, (cs.take (i * 2))[j]? = some u → w.cell? ⟨g, 0 + j, none⟩ = some u) := by
    intro j u hu
    rw [Nat.zero_add, cell_blk hg, List.getElem?_toArray]
    rw [List.getElem?_take] at hu
    split at hu
    · exact hu
    · cases hu
  have hik : i + (L + 1 - i) = L + 1 := by omega
  have hk9 : (L : Int) + 1 - (i : Int) = ((L + 1 - i : Nat) : Int) := by omega
  have b1 : ((i : Int) == (L : Int)) = false := by simp; omega
  have hwr : IntKind.i64.wrap ((i : Int) + 1) = ((i + 1 : Nat) : Int) := by rw [IntKind.wrap_i64]; omega
  have x2 : (L : Int) < (L : Int) + 1 := by omega
  have HL := hide hl
  have hmove : ∀ (w1 : World) (row : List Value), w1.heap[w.heap.size]? = some (.cells (cs.take (i * 2) ++ row).toArray 70 (0, 0)) → (L + 1 - i) * 2 ≤ row.length → Below w.heap.size w w1 → ∃ R2 R3 : Array Value,
      (∀ ty c, (Builtin.copy_ #[115, 115] ty #[.slice (some ⟨w.heap.size, i * 2, none⟩) (L + 1 - i) c, .slice (some ⟨gv, 0, none⟩) 1 1]).run Tryz.prog w1 = .ok (goInt (Nat.min 1 (L + 1 - i))) (w1.setRow w.heap.size R2)) ∧
      ((∀ ty c, (Builtin.copy_ #[115, 115] ty #[.slice (some ⟨w.heap.size, (i + 1) * 2, none⟩) (L - i) c, .slice (some ⟨g, i * 2, none⟩) (L - i) (L - i)]).run Tryz.prog (w1.setRow w.heap.size R2).drew = .ok (goInt (Nat.min (L - i) (L - i))) ((w1.setRow w.heap.size R2).drew.setRow w.heap.size R3)) ∧
        (RowN ((w1.setRow w.heap.size R2).drew.setRow w.heap.size R3) w.heap.size 70 (cs.take (i * 2) ++ (k :: v :: cs.drop (i * 2))) ∧ Below w.heap.size w ((w1.setRow w.heap.size R2).drew.setRow w.heap.size R3))) := by
    intro w1 row hh hr hb
    have hgl := (Array.getElem?_eq_some_iff.1 hg).1
    have hvl := (Array.getElem?_eq_some_iff.1 hv).1
    have hT := HTL.out
    have e2 : (cs.take (i * 2) ++ row).toArray.toList.take (i * 2) ++ [k, v] ++ (cs.take (i * 2) ++ row).toArray.toList.drop (i * 2 + [k, v].length) = cs.take (i * 2) ++ (k :: v :: row.drop 2) := by
      rw [List.toList_toArray, List.take_left' hT, List.drop_append, List.drop_of_length_le (by rw [hT]; simp), hT]
      simp
    have hh2 : (w1.setRow w.heap.size (cs.take (i * 2) ++ (k :: v :: row.drop 2)).toArray).drew.heap[w.heap.size]? = some (.cells (cs.take (i * 2) ++ (k :: v :: row.drop 2)).toArray 70 (0, 0)) := setRow_at hh
    have hb2 : Below w.heap.size w (w1.setRow w.heap.size (cs.take (i * 2) ++ (k :: v :: row.drop 2)).toArray).drew := (below_setRow hb (Nat.le_refl _) _).drew
    have hdl : (cs.drop (i * 2)).length = (L - i) * 2 := by rw [List.length_drop]; omega
    have e3 : (cs.take (i * 2) ++ (k :: v :: row.drop 2)).toArray.toList.take ((i + 1) * 2) ++ cs.drop (i * 2) ++ (cs.take (i * 2) ++ (k :: v :: row.drop 2)).toArray.toList.drop ((i + 1) * 2 + (cs.drop (i * 2)).length) = (cs.take (i * 2) ++ (k :: v :: cs.drop (i * 2))) ++ row.drop (2 + (L - i) * 2) := by
      have t1 : (cs.take (i * 2) ++ (k :: v :: row.drop 2)).take ((i + 1) * 2) = cs.take (i * 2) ++ [k, v] := by
        rw [List.take_append, hT, List.take_of_length_le (by rw [hT]; omega), show (i + 1) * 2 - i * 2 = 2 by omega]
        rfl
      have t2 : (cs.take (i * 2) ++ (k :: v :: row.drop 2)).drop ((i + 1) * 2 + (cs.drop (i * 2)).length) = row.drop (2 + (L - i) * 2) := by
        rw [List.drop_append, hT, List.drop_of_length_le (by rw [hT]; omega), hdl, show (i + 1) * 2 + (L - i) * 2 - i * 2 = (L - i) * 2 + 1 + 1 by omega, List.drop_succ_cons, List.drop_succ_cons, List.drop_drop]
        rfl
      rw [List.toList_toArray, t1, t2]
      simp
    refine ⟨(cs.take (i * 2) ++ (k :: v :: row.drop 2)).toArray, ((cs.take (i * 2) ++ (k :: v :: cs.drop (i * 2))) ++ row.drop (2 + (L - i) * 2)).toArray, fun ty c => ?_, fun ty c => ?_, ⟨_, setRow_at hh2⟩, below_setRow hb2 (Nat.le_refl _) _⟩
    · have := run_copy_sz w1 115 115 ty 70 2 w.heap.size (i * 2) (L + 1 - i) c ⟨gv, 0, none⟩ 1 1 _ 70 [k, v] Tryz.underlying115 size_item hh (by rw [show Nat.min 1 (L + 1 - i) = 1 from Nat.min_eq_left (by omega)]; rfl) (fun j u hu => by
        rw [Addr.add_lit, Nat.zero_add]
        rw [(hb.cell (p := ⟨gv, j, none⟩) hvl), cell_blk hv]
        simpa using hu) (by simp [hT]; omega) (fun u hu => by
        simp only [List.mem_cons, List.not_mem_nil, or_false] at hu
        rcases hu with rfl | rfl
        · exact hk1
        · exact hv1)
      rw [e2] at this
      exact this
    · have := run_copy_sz (w1.setRow w.heap.size (cs.take (i * 2) ++ (k :: v :: row.drop 2)).toArray).drew 115 115 ty 70 2 w.heap.size ((i + 1) * 2) (L - i) c ⟨g, i * 2, none⟩ (L - i) (L - i) _ 70 (cs.drop (i * 2)) Tryz.underlying115 size_item hh2 (by rw [hdl, show Nat.min (L - i) (L - i) = L - i from Nat.min_self _]) (fun j u hu => by
        rw [Addr.add_lit, (hb2.cell (p := ⟨g, i * 2 + j, none⟩) hgl), cell_blk hg, List.getElem?_toArray]
        rw [List.getElem?_drop] at hu
        exact hu) (by rw [hdl]; simp [hT]; omega) (fun u hu => h1 u (List.mem_of_mem_drop hu))
      rw [e3] at this
      exact this
  clear hg hv h1 hk1 hv1 hl
  go_enter Tryz.func117, Tryz.ntmps117
  go_upto_region 10 with (at_builtin; refine wpList_zeros_full w rfl (.tmp 34) (.tmp 39) 115 70 rfl i0 _ 2 48 Tryz.underlying115 hi0 hz0 hz1 hz2 rfl (by omega) (Nat.le_refl _) g 0 i L (L + 1 - i) (cs.take (i * 2)) rfl (by rw [← hk9]; rfl) HTL.out HTC.out (by omega) (by omega) (by omega) ?_; intro c1 w1 row hh1 hr1 hc1 hc2 hb1; rw [hik] at hc1 ⊢; have hc3 : L + 1 ≤ c1 := hc1.out; have hn1 : ¬ c1 = i := (by omega); have hn2 : ¬ c1 = i + 1 := (by omega); have HH1 := hh1; have HR1 := hr1; have HB1 := hb1; clear hh1 hr1 hb1)
  obtain ⟨R2, R3, hm1, hm2⟩ := hmove w1 row HH1.out HR1.out HB1.out
  have cp1 := hm1 3 (c1 - i)
  have HW1 := hide hm2
  clear hm1 hm2 hmove
  go_upto_region 11 with fail
  clear cp1
  generalize hw2 : w1.setRow _ _ = w2
  have HW2 := hide HW1.out
  rw [hw2] at HW2
  clear hw2 HW1
  have cp2 := HW2.out.1 3 (c1 - (i + 1))
  go_wp2_with fail
  refine wp_region_noPanic ?_
  refine wp_region_held_drew (S := fun _ => True) (by kernel_rfl) trivial (fun hHeld => ?_)
  refine wpAnyH_tk 0 46 (v := ?v0) ?hy0 ?_
  case hy0 => intro oi ho; simp only [List.getElem?_toArray, List.getElem?_cons_zero, Option.some.injEq] at ho; subst ho; refine Or.inl ⟨by rfl, ?_⟩; intro wx hSw; (try dsimp only at hSw); go_simp; try rfl
  try simp only [Act.put, List.setIfInBounds_toArray, List.set_cons_zero, List.set_cons_succ]
  refine wpAnyH_tk 1 47 (v := ?v1) ?hy1 ?_
  case hy1 => intro oi ho; simp only [List.getElem?_toArray, List.getElem?_cons_succ, List.getElem?_cons_zero, Option.some.injEq] at ho; subst ho; refine Or.inl ⟨by rfl, ?_⟩; intro wx hSw; (try dsimp only at hSw); go_simp; try rfl
  try simp only [Act.put, List.setIfInBounds_toArray, List.set_cons_zero, List.set_cons_succ]
  refine wpAnyH_tk 2 48 (v := ?v2) ?hy2 ?_
  case hy2 => intro oi ho; simp only [List.getElem?_toArray, List.getElem?_cons_succ, List.getElem?_cons_zero, Option.some.injEq] at ho; subst ho; refine Or.inl ⟨by rfl, ?_⟩; intro wx hSw; (try dsimp only at hSw); go_simp; try rfl
  try simp only [Act.put, List.setIfInBounds_toArray, List.set_cons_zero, List.set_cons_succ]
  refine wpAnyH_tk 3 49 (v := ?v3) ?hy3 ?_
  case hy3 => intro oi ho; simp only [List.getElem?_toArray, List.getElem?_cons_succ, List.getElem?_cons_zero, Option.some.injEq] at ho; subst ho; refine Or.inl ⟨by rfl, ?_⟩; intro wx hSw; (try dsimp only at hSw); go_simp; try rfl
  try simp only [Act.put, List.setIfInBounds_toArray, List.set_cons_zero, List.set_cons_succ]
  refine wpAnyH_takeAt (i := 4) (d := 50) (v := ?v4) (by kernel_rfl) (by kernel_rfl) (by kernel_rfl) (by kernel_rfl) (fun _ _ _ h => h) ?hy4 (by assumption) ?rest4
  case hy4 =>
    intro oi ho
    simp only [List.getElem?_toArray, List.getElem?_cons_succ, List.getElem?_cons_zero, Option.some.injEq] at ho
    subst ho
    refine Or.inl ⟨by rfl, ?_⟩
    intro wx hSw
    try dsimp only at hSw
    go_simp
    try rfl
    rw [if_pos ⟨by omega, by omega⟩]
  try simp only [Act.put, List.setIfInBounds_toArray, List.set_cons_zero, List.set_cons_succ]
  refine wpAnyH_tk 5 51 (v := ?v5) ?hy5 ?_
  case hy5 => intro oi ho; simp only [List.getElem?_toArray, List.getElem?_cons_succ, List.getElem?_cons_zero, Option.some.injEq] at ho; subst ho; refine Or.inl ⟨by rfl, ?_⟩; intro wx hSw; (try dsimp only at hSw); go_simp; try rfl
  try simp only [Act.put, List.setIfInBounds_toArray, List.set_cons_zero, List.set_cons_succ]
  refine wpAnyH_tk 6 52 (v := ?v6) ?hy6 ?_
  case hy6 => intro oi ho; simp only [List.getElem?_toArray, List.getElem?_cons_succ, List.getElem?_cons_zero, Option.some.injEq] at ho; subst ho; refine Or.inl ⟨by rfl, ?_⟩; intro wx hSw; (try dsimp only at hSw); go_simp; try rfl
  try simp only [Act.put, List.setIfInBounds_toArray, List.set_cons_zero, List.set_cons_succ]
  refine wpAnyH_takeAt (i := 7) (d := 53) (v := ?v7) (by kernel_rfl) (by kernel_rfl) (by kernel_rfl) (by kernel_rfl) (fun _ _ _ h => h) ?hy7 (by assumption) ?rest7
  case hy7 =>
    intro oi ho
    simp only [List.getElem?_toArray, List.getElem?_cons_succ, List.getElem?_cons_zero, Option.some.injEq] at ho
    subst ho
    refine Or.inl ⟨by rfl, ?_⟩
    intro wx hSw
    try dsimp only at hSw
    go_simp
    try rfl
    rw [if_pos (by omega), if_neg (by omega)]
  try simp only [Act.put, List.setIfInBounds_toArray, List.set_cons_zero, List.set_cons_succ]
  refine wpAnyH_cm 8 ?_; intro o ho K hK; simp only [List.getElem?_toArray, List.getElem?_cons_succ, List.getElem?_cons_zero, Option.some.injEq] at ho; subst ho
  go_simp
  refine hK.out _ _ trivial (fun hHeld => ?_)
  clear hK K
  try simp only [Act.put, List.setIfInBounds_toArray, List.set_cons_zero, List.set_cons_succ]
  refine wpAnyH_done (by kernel_rfl) ?_ _
  refine NoPanic.normal ?_
  generalize hw3 : w2.drew.setRow _ _ = w3
  have HW3 := hide HW2.out.2
  rw [hw3] at HW3
  clear hw3 HW2 cp2
  go_wp2
  go_ret
  exact ⟨w.heap.size, c1, rfl, Nat.le_refl _, hc3, hc2.out, HW3.out.1, HW3.out.2⟩
end Go.Proofs.YtnfponcadkmfjabGreat
set_option linter.unusedVariables false
namespace Go.Proofs.YtnfponcadkmfjabGreat
open Go.RowKit
set_option maxRecDepth 100000 in
set_option maxHeartbeats 4000000 in
theorem replace_end {w : World} {g n gv i : Nat} {cs : List Value} {l r : Value} (hg : w.heap[g]? = some (.cells cs.toArray 107 (0, 0))) (hl : cs.length = n) (hL : n ≤ 10) (hi : i + 1 = n) (hv : w.heap[gv]? = some (.cells #[l, r] 107 (0, 0))) (hk1 : l.oneCell' = true) (hv1 : r.oneCell' = true) :
    Calls Tryz.prog 121 #[.slice (some ⟨g, 0, none⟩) n n, .int .i64 (i : Int), .int .i64 (n : Int), .slice (some ⟨gv, 0, none⟩) 2 2] w fun e w' => ∃ gn c, e = .returned (.slice (some ⟨gn, 0, none⟩) (n + 1) c) ∧ w.heap.size ≤ gn ∧ n + 1 ≤ c ∧ c ≤ 9223372036854775807 ∧ RowN w' gn 107 (cs.take i ++ [l, r]) ∧ Below w.heap.size w w' := by
  obtain ⟨i0, hi0, hz0, hz1, hz2⟩ := info_parts info_node
  have HOL : Hid (∀ b, some (⟨g, 0, none⟩ : Addr) = some b → ∀ j u, (cs.take i)[j]? = some u → w.cell? (b.add j) = some u) := by
    intro b hb j u hu
    simp only [Option.some.injEq] at hb
    subst hb
    rw [Addr.add_lit, Nat.zero_add, cell_blk hg, List.getElem?_toArray]
    rw [List.getElem?_take] at hu
    split at hu
    · exact hu
    · cases hu
  have HNW : Hid (∀ j u, [l, r][j]? = some u → w.cell? ((⟨gv, 0, none⟩ : Addr).add j) = some u) := by
    intro j u hu
    rw [Addr.add_lit, Nat.zero_add, cell_blk hv]
    simpa using hu
  have HO1 : Hid (∀ u ∈ [l, r], u.oneCell' = true) := by
    intro u hu
    simp only [List.mem_cons, List.not_mem_nil, or_false] at hu
    rcases hu with rfl | rfl
    · exact hk1
    · exact hv1
  have HTL : Hid ((cs.take i).length = i * 1) := by show _ = _; rw [List.length_take]; omega
  have b1 : ((i : Int) == (n : Int)) = false := by simp; omega
  have hin : i ≤ n := by omega
  have hni : i + 2 = n + 1 := by omega
  have x2 : ¬ (n : Int) + 1 < (n : Int) := by omega
  clear hg hv hk1 hv1 hl
  go_enter Tryz.func121, Tryz.ntmps121
  go_wp2_with (at_builtin; refine wpList_append_grows w rfl (.tmp 32) (.tmp 33) 150 rfl 107 i0 _ 1 16 Tryz.underlying150 hi0 hz0 hz1 hz2 rfl (by omega) (some ⟨g, 0, none⟩) i n (cs.take i) rfl (fun h => by cases h) HTL.out HOL.out ⟨gv, 0, none⟩ 2 2 [l, r] rfl rfl HNW.out HO1.out (by omega) (by unfold maxLen; omega) (by omega) ?_; intro v3 w3 ho3 hg3; rw [hni] at ho3; obtain ⟨gn, cn, rfl, hgn, hcn, hcm, hrow⟩ := RowN.ofOwns ho3 (by omega); have HROW := hide hrow; have HGN := hide hgn; have HCN := hide hcn; have HCM := hide hcm; have HB3 := hide ((Below.refl w.heap.size w).grown hg3 (Nat.le_refl _) (fun k hk => by cases hk)); clear ho3 hg3 hrow hgn hcn hcm)
  go_ret
  exact ⟨gn, cn, rfl, HGN.out, HCN.out, HCM.out, HROW.out, HB3.out⟩
set_option maxRecDepth 100000 in
set_option maxHeartbeats 4000000 in
theorem replace_mid {w : World} {g n gv i : Nat} {cs : List Value} {l r : Value} (hg : w.heap[g]? = some (.cells cs.toArray 107 (0, 0))) (hl : cs.length = n) (hL : n ≤ 10) (hi : i + 1 < n) (hv : w.heap[gv]? = some (.cells #[l, r] 107 (0, 0))) (h1 : ∀ u ∈ cs, u.oneCell' = true) (hk1 : l.oneCell' = true) (hv1 : r.oneCell' = true) :
    Calls Tryz.prog 121 #[.slice (some ⟨g, 0, none⟩) n n, .int .i64 (i : Int), .int .i64 ((i : Int) + 1), .slice (some ⟨gv, 0, none⟩) 2 2] w fun e w' => ∃ gn c, e = .returned (.slice (some ⟨gn, 0, none⟩) (n + 1) c) ∧ w.heap.size ≤ gn ∧ n + 1 ≤ c ∧ c ≤ 9223372036854775807 ∧ RowN w' gn 107 (cs.take i ++ (l :: r :: cs.drop (i + 1))) ∧ Below w.heap.size w w' := by
  obtain ⟨i0, hi0, hz0, hz1, hz2⟩ := info_parts info_node
  have HTL : Hid ((cs.take i).length = i * 1) := by show _ = _; rw [List.length_take]; omega
  have HTC : Hid (∀ j u, (cs.take i)[j]? = some u → w.drew.cell? ⟨g, 0 + j, none⟩ = some u) := by
    intro j u hu
    rw [Nat.zero_add, World.cell?_drew, cell_blk hg, List.getElem?_toArray]
    rw [List.getElem?_take] at hu
    split at hu
    · exact hu
    · cases hu
  have hik : i + (n + 1 - i) = n + 1 := by omega
  have hk9 : (n : Int) + 1 - (i : Int) = ((n + 1 - i : Nat) : Int) := by omega
  have b1 : ((i : Int) == (i : Int) + 1) = false := by simp; omega
  have b2 : ((i : Int) + 1 == (n : Int)) = false := by simp; omega
  have hwr : IntKind.i64.wrap ((i : Int) + 1) = ((i + 1 : Nat) : Int) := by rw [IntKind.wrap_i64]; omega
  have hw2 : IntKind.i64.wrap ((i : Int) + 2) = ((i + 2 : Nat) : Int) := by rw [IntKind.wrap_i64]; omega
  have hwt : IntKind.i64.wrap ((i : Int) + 2 + ((n - (i + 1) : Nat) : Int)) = (n : Int) + 1 := by rw [IntKind.wrap_i64]; omega
  have x2 : (n : Int) < (n : Int) + 1 := by omega
  have hin : i ≤ n := by omega
  have hin1 : (i : Int) + 1 ≤ (n : Int) := by omega
  have hmove : ∀ (w1 : World) (row : List Value), w1.heap[w.drew.heap.size]? = some (.cells (cs.take i ++ row).toArray 107 (0, 0)) → (n + 1 - i) * 1 ≤ row.length → Below w.drew.heap.size w.drew w1 → ∃ R2 R3 : Array Value,
      (∀ ty c, (Builtin.copy_ #[150, 150] ty #[.slice (some ⟨w.heap.size, i, none⟩) (n + 1 - i) c, .slice (some ⟨gv, 0, none⟩) 2 2]).run Tryz.prog w1 = .ok (goInt (Nat.min 2 (n + 1 - i))) (w1.setRow w.heap.size R2)) ∧
      ((∀ ty c, (Builtin.copy_ #[150, 150] ty #[.slice (some ⟨w.heap.size, i + 2, none⟩) (n - (i + 1)) c, .slice (some ⟨g, i + 1, none⟩) (n - (i + 1)) (n - (i + 1))]).run Tryz.prog (w1.setRow w.heap.size R2).drew = .ok (goInt (Nat.min (n - (i + 1)) (n - (i + 1)))) ((w1.setRow w.heap.size R2).drew.setRow w.heap.size R3)) ∧
        (RowN ((w1.setRow w.heap.size R2).drew.setRow w.heap.size R3) w.heap.size 107 (cs.take i ++ (l :: r :: cs.drop (i + 1))) ∧ Below w.heap.size w ((w1.setRow w.heap.size R2).drew.setRow w.heap.size R3))) := by
    intro w1 row hh hr hb0
    have hh : w1.heap[w.heap.size]? = some (.cells (cs.take i ++ row).toArray 107 (0, 0)) := hh
    have hb : Below w.heap.size w w1 := (Below.refl w.heap.size w).drew.trans hb0
    have hgl := (Array.getElem?_eq_some_iff.1 hg).1
    have hvl := (Array.getElem?_eq_some_iff.1 hv).1
    have hT : (cs.take i).length = i := by rw [List.length_take]; omega
    have e2 : (cs.take i ++ row).toArray.toList.take i ++ [l, r] ++ (cs.take i ++ row).toArray.toList.drop (i + [l, r].length) = cs.take i ++ (l :: r :: row.drop 2) := by
      rw [List.toList_toArray, List.take_left' hT, List.drop_append, List.drop_of_length_le (by rw [hT]; simp), hT]
      simp
    have hh2 : (w1.setRow w.heap.size (cs.take i ++ (l :: r :: row.drop 2)).toArray).drew.heap[w.heap.size]? = some (.cells (cs.take i ++ (l :: r :: row.drop 2)).toArray 107 (0, 0)) := setRow_at hh
    have hb2 : Below w.heap.size w (w1.setRow w.heap.size (cs.take i ++ (l :: r :: row.drop 2)).toArray).drew := (below_setRow hb (Nat.le_refl _) _).drew
    have hdl : (cs.drop (i + 1)).length = n - (i + 1) := by rw [List.length_drop]; omega
    have e3 : (cs.take i ++ (l :: r :: row.drop 2)).toArray.toList.take (i + 2) ++ cs.drop (i + 1) ++ (cs.take i ++ (l :: r :: row.drop 2)).toArray.toList.drop (i + 2 + (cs.drop (i + 1)).length) = (cs.take i ++ (l :: r :: cs.drop (i + 1))) ++ row.drop (2 + (n - (i + 1))) := by
      have t1 : (cs.take i ++ (l :: r :: row.drop 2)).take (i + 2) = cs.take i ++ [l, r] := by
        rw [List.take_append, hT, List.take_of_length_le (by rw [hT]; omega), show i + 2 - i = 2 by omega]
        rfl
      have t2 : (cs.take i ++ (l :: r :: row.drop 2)).drop (i + 2 + (cs.drop (i + 1)).length) = row.drop (2 + (n - (i + 1))) := by
        rw [List.drop_append, hT, List.drop_of_length_le (by rw [hT]; omega), hdl, show i + 2 + (n - (i + 1)) - i = (n - (i + 1)) + 1 + 1 by omega, List.drop_succ_cons, List.drop_succ_cons, List.drop_drop]
        rfl
      rw [List.toList_toArray, t1, t2]
      simp
    refine ⟨(cs.take i ++ (l :: r :: row.drop 2)).toArray, ((cs.take i ++ (l :: r :: cs.drop (i + 1))) ++ row.drop (2 + (n - (i + 1)))).toArray, fun ty c => ?_, fun ty c => ?_, ⟨_, setRow_at hh2⟩, below_setRow hb2 (Nat.le_refl _) _⟩
    · have := run_copy_sz w1 150 150 ty 107 1 w.heap.size i (n + 1 - i) c ⟨gv, 0, none⟩ 2 2 _ 107 [l, r] Tryz.underlying150 size_node hh (by rw [show Nat.min 2 (n + 1 - i) = 2 from Nat.min_eq_left (by omega)]; rfl) (fun j u hu => by
        rw [Addr.add_lit, Nat.zero_add]
        rw [(hb.cell (p := ⟨gv, j, none⟩) hvl), cell_blk hv]
        simpa using hu) (by simp [hT]; omega) (fun u hu => by
        simp only [List.mem_cons, List.not_mem_nil, or_false] at hu
        rcases hu with rfl | rfl
        · exact hk1
        · exact hv1)
      rw [e2] at this
      exact this
    · have := run_copy_sz (w1.setRow w.heap.size (cs.take i ++ (l :: r :: row.drop 2)).toArray).drew 150 150 ty 107 1 w.heap.size (i + 2) (n - (i + 1)) c ⟨g, i + 1, none⟩ (n - (i + 1)) (n - (i + 1)) _ 107 (cs.drop (i + 1)) Tryz.underlying150 size_node hh2 (by rw [hdl, show Nat.min (n - (i + 1)) (n - (i + 1)) = n - (i + 1) from Nat.min_self _, Nat.mul_one]) (fun j u hu => by
        rw [Addr.add_lit, (hb2.cell (p := ⟨g, i + 1 + j, none⟩) hgl), cell_blk hg, List.getElem?_toArray]
        rw [List.getElem?_drop] at hu
        exact hu) (by rw [hdl]; simp [hT]; omega) (fun u hu => h1 u (List.mem_of_mem_drop hu))
      rw [e3] at this
      exact this
  clear hg hv h1 hk1 hv1 hl
  go_enter Tryz.func121, Tryz.ntmps121
  go_upto_region 9 with fail
  refine wp_region_noPanic ?_
  refine wp_region_held_drew (S := fun _ => True) (by kernel_rfl) trivial (fun hHeld => ?_)
  refine wpAnyH_tk 0 45 (v := ?va0) ?hya0 ?_
  case hya0 => intro oi ho; simp only [List.getElem?_toArray, List.getElem?_cons_zero, Option.some.injEq] at ho; subst ho; refine Or.inl ⟨by rfl, ?_⟩; intro wx hSw; (try dsimp only at hSw); go_simp; try rfl
  try simp only [Act.put, List.setIfInBounds_toArray, List.set_cons_zero, List.set_cons_succ]
  refine wpAnyH_tk 1 46 (v := ?va1) ?hya1 ?_
  case hya1 => intro oi ho; simp only [List.getElem?_toArray, List.getElem?_cons_succ, List.getElem?_cons_zero, Option.some.injEq] at ho; subst ho; refine Or.inl ⟨by rfl, ?_⟩; intro wx hSw; (try dsimp only at hSw); go_simp; try rfl
  try simp only [Act.put, List.setIfInBounds_toArray, List.set_cons_zero, List.set_cons_succ]
  refine wpAnyH_takeAt (i := 2) (d := 47) (v := ?va2) (by kernel_rfl) (by kernel_rfl) (by kernel_rfl) (by kernel_rfl) (fun _ _ _ h => h) ?hya2 (by assumption) ?resta2
  case hya2 =>
    intro oi ho
    simp only [List.getElem?_toArray, List.getElem?_cons_succ, List.getElem?_cons_zero, Option.some.injEq] at ho
    subst ho
    refine Or.inl ⟨by rfl, ?_⟩
    intro wx hSw
    try dsimp only at hSw
    go_simp
    try rfl
    try rw [if_pos (by omega)]
  try simp only [Act.put, List.setIfInBounds_toArray, List.set_cons_zero, List.set_cons_succ]
  refine wpAnyH_tk 3 48 (v := ?va3) ?hya3 ?_
  case hya3 => intro oi ho; simp only [List.getElem?_toArray, List.getElem?_cons_succ, List.getElem?_cons_zero, Option.some.injEq] at ho; subst ho; refine Or.inl ⟨by rfl, ?_⟩; intro wx hSw; (try dsimp only at hSw); go_simp; try rfl
  try simp only [Act.put, List.setIfInBounds_toArray, List.set_cons_zero, List.set_cons_succ]
  refine wpAnyH_tk 4 49 (v := ?va4) ?hya4 ?_
  case hya4 => intro oi ho; simp only [List.getElem?_toArray, List.getElem?_cons_succ, List.getElem?_cons_zero, Option.some.injEq] at ho; subst ho; refine Or.inl ⟨by rfl, ?_⟩; intro wx hSw; (try dsimp only at hSw); go_simp; try rfl
  try simp only [Act.put, List.setIfInBounds_toArray, List.set_cons_zero, List.set_cons_succ]
  refine wpAnyH_tk 5 50 (v := ?va5) ?hya5 ?_
  case hya5 => intro oi ho; simp only [List.getElem?_toArray, List.getElem?_cons_succ, List.getElem?_cons_zero, Option.some.injEq] at ho; subst ho; refine Or.inl ⟨by rfl, ?_⟩; intro wx hSw; (try dsimp only at hSw); go_simp; try rfl
  try simp only [Act.put, List.setIfInBounds_toArray, List.set_cons_zero, List.set_cons_succ]
  refine wpAnyH_takeAt (i := 6) (d := 51) (v := ?va6) (by kernel_rfl) (by kernel_rfl) (by kernel_rfl) (by kernel_rfl) (fun _ _ _ h => h) ?hya6 (by assumption) ?resta6
  case hya6 =>
    intro oi ho
    simp only [List.getElem?_toArray, List.getElem?_cons_succ, List.getElem?_cons_zero, Option.some.injEq] at ho
    subst ho
    refine Or.inl ⟨by rfl, ?_⟩
    intro wx hSw
    try dsimp only at hSw
    go_simp
    try rfl
    try simp only [hw2]
  try simp only [Act.put, List.setIfInBounds_toArray, List.set_cons_zero, List.set_cons_succ]
  refine wpAnyH_tk 7 52 (v := ?va7) ?hya7 ?_
  case hya7 => intro oi ho; simp only [List.getElem?_toArray, List.getElem?_cons_succ, List.getElem?_cons_zero, Option.some.injEq] at ho; subst ho; refine Or.inl ⟨by rfl, ?_⟩; intro wx hSw; (try dsimp only at hSw); go_simp; try rfl
  try simp only [Act.put, List.setIfInBounds_toArray, List.set_cons_zero, List.set_cons_succ]
  refine wpAnyH_tk 8 53 (v := ?va8) ?hya8 ?_
  case hya8 => intro oi ho; simp only [List.getElem?_toArray, List.getElem?_cons_succ, List.getElem?_cons_zero, Option.some.injEq] at ho; subst ho; refine Or.inl ⟨by rfl, ?_⟩; intro wx hSw; (try dsimp only at hSw); go_simp; try rfl
  try simp only [Act.put, List.setIfInBounds_toArray, List.set_cons_zero, List.set_cons_succ]
  refine wpAnyH_takeAt (i := 9) (d := 54) (v := ?va9) (by kernel_rfl) (by kernel_rfl) (by kernel_rfl) (by kernel_rfl) (fun _ _ _ h => h) ?hya9 (by assumption) ?resta9
  case hya9 =>
    intro oi ho
    simp only [List.getElem?_toArray, List.getElem?_cons_succ, List.getElem?_cons_zero, Option.some.injEq] at ho
    subst ho
    refine Or.inl ⟨by rfl, ?_⟩
    intro wx hSw
    try dsimp only at hSw
    go_simp
    try rfl
    try rw [if_pos (by omega), if_neg (by omega)]
  try simp only [Act.put, List.setIfInBounds_toArray, List.set_cons_zero, List.set_cons_succ]
  refine wpAnyH_tk 10 55 (v := ?va10) ?hya10 ?_
  case hya10 => intro oi ho; simp only [List.getElem?_toArray, List.getElem?_cons_succ, List.getElem?_cons_zero, Option.some.injEq] at ho; subst ho; refine Or.inl ⟨by rfl, ?_⟩; intro wx hSw; (try dsimp only at hSw); go_simp; try rfl
  try simp only [Act.put, List.setIfInBounds_toArray, List.set_cons_zero, List.set_cons_succ]
  refine wpAnyH_takeAt (i := 11) (d := 56) (v := ?va11) (by kernel_rfl) (by kernel_rfl) (by kernel_rfl) (by kernel_rfl) (fun _ _ _ h => h) ?hya11 (by assumption) ?resta11
  case hya11 =>
    intro oi ho
    simp only [List.getElem?_toArray, List.getElem?_cons_succ, List.getElem?_cons_zero, Option.some.injEq] at ho
    subst ho
    refine Or.inl ⟨by rfl, ?_⟩
    intro wx hSw
    try dsimp only at hSw
    go_simp
    try rfl
    try simp only [hwt]
  try simp only [Act.put, List.setIfInBounds_toArray, List.set_cons_zero, List.set_cons_succ]
  refine wpAnyH_tk 12 10 (v := ?va12) ?hya12 ?_
  case hya12 => intro oi ho; simp only [List.getElem?_toArray, List.getElem?_cons_succ, List.getElem?_cons_zero, Option.some.injEq] at ho; subst ho; refine Or.inl ⟨by rfl, ?_⟩; intro wx hSw; (try dsimp only at hSw); go_simp; try rfl
  try simp only [Act.put, List.setIfInBounds_toArray, List.set_cons_zero, List.set_cons_succ]
  refine wpAnyH_done (by kernel_rfl) ?_ _
  refine NoPanic.normal ?_
  clear hHeld
  go_upto_region 12 with (at_builtin; refine wpList_zeros_full _ rfl (.tmp 63) (.tmp 66) 150 107 rfl i0 _ 1 16 Tryz.underlying150 hi0 hz0 hz1 hz2 rfl (by omega) (by omega) g 0 i n (n + 1 - i) (cs.take i) rfl (by rw [← hk9]; rfl) HTL.out HTC.out (by omega) (by omega) (by omega) ?_; intro c1 w1 row hh1 hr1 hc1 hc2 hb1; rw [hik] at hc1 ⊢; have hc3 : n + 1 ≤ c1 := hc1.out; have hn1 : ¬ c1 = i := (by omega); have hn2 : ¬ c1 = i + 2 := (by omega); have HH1 := hh1; have HR1 := hr1; have HB1 := hb1; clear hh1 hr1 hb1)
  obtain ⟨R2, R3, hm1, hm2⟩ := hmove w1 row HH1.out HR1.out HB1.out
  have cp1 := hm1 3 (c1 - i)
  have HW1 := hide hm2
  clear hm1 hm2 hmove
  go_upto_region 13 with fail
  clear cp1
  generalize hw2 : w1.setRow _ _ = w2
  have HW2 := hide HW1.out
  rw [hw2] at HW2
  clear hw2 HW1
  have cp2 := HW2.out.1 3 (c1 - (i + 2))
  have ht2 : ((i : Int) + 2).toNat = i + 2 := by omega
  have hn3 : ¬ n = i + 1 := by omega
  have hsub : n + 1 - (i + 2) = n - (i + 1) := by omega
  refine wp_region_noPanic ?_
  refine wp_region_held_drew (S := fun _ => True) (by kernel_rfl) trivial (fun hHeld => ?_)
  refine wpAnyH_tk 0 73 (v := ?vb0) ?hyb0 ?_
  case hyb0 => intro oi ho; simp only [List.getElem?_toArray, List.getElem?_cons_zero, Option.some.injEq] at ho; subst ho; refine Or.inl ⟨by rfl, ?_⟩; intro wx hSw; (try dsimp only at hSw); go_simp; try rfl
  try simp only [Act.put, List.setIfInBounds_toArray, List.set_cons_zero, List.set_cons_succ]
  refine wpAnyH_tk 1 74 (v := ?vb1) ?hyb1 ?_
  case hyb1 => intro oi ho; simp only [List.getElem?_toArray, List.getElem?_cons_succ, List.getElem?_cons_zero, Option.some.injEq] at ho; subst ho; refine Or.inl ⟨by rfl, ?_⟩; intro wx hSw; (try dsimp only at hSw); go_simp; try rfl
  try simp only [Act.put, List.setIfInBounds_toArray, List.set_cons_zero, List.set_cons_succ]
  refine wpAnyH_tk 2 75 (v := ?vb2) ?hyb2 ?_
  case hyb2 => intro oi ho; simp only [List.getElem?_toArray, List.getElem?_cons_succ, List.getElem?_cons_zero, Option.some.injEq] at ho; subst ho; refine Or.inl ⟨by rfl, ?_⟩; intro wx hSw; (try dsimp only at hSw); go_simp; try rfl
  try simp only [Act.put, List.setIfInBounds_toArray, List.set_cons_zero, List.set_cons_succ]
  refine wpAnyH_tk 3 76 (v := ?vb3) ?hyb3 ?_
  case hyb3 => intro oi ho; simp only [List.getElem?_toArray, List.getElem?_cons_succ, List.getElem?_cons_zero, Option.some.injEq] at ho; subst ho; refine Or.inl ⟨by rfl, ?_⟩; intro wx hSw; (try dsimp only at hSw); go_simp; try rfl
  try simp only [Act.put, List.setIfInBounds_toArray, List.set_cons_zero, List.set_cons_succ]
  refine wpAnyH_takeAt (i := 4) (d := 77) (v := ?vb4) (by kernel_rfl) (by kernel_rfl) (by kernel_rfl) (by kernel_rfl) (fun _ _ _ h => h) ?hyb4 (by assumption) ?restb4
  case hyb4 =>
    intro oi ho
    simp only [List.getElem?_toArray, List.getElem?_cons_succ, List.getElem?_cons_zero, Option.some.injEq] at ho
    subst ho
    refine Or.inl ⟨by rfl, ?_⟩
    intro wx hSw
    try dsimp only at hSw
    go_simp
    try rfl
    try simp only [hw2]
  try simp only [Act.put, List.setIfInBounds_toArray, List.set_cons_zero, List.set_cons_succ]
  refine wpAnyH_takeAt (i := 5) (d := 78) (v := ?vb5) (by kernel_rfl) (by kernel_rfl) (by kernel_rfl) (by kernel_rfl) (fun _ _ _ h => h) ?hyb5 (by assumption) ?restb5
  case hyb5 =>
    intro oi ho
    simp only [List.getElem?_toArray, List.getElem?_cons_succ, List.getElem?_cons_zero, Option.some.injEq] at ho
    subst ho
    refine Or.inl ⟨by rfl, ?_⟩
    intro wx hSw
    try dsimp only at hSw
    go_simp
    try rfl
    try rw [if_pos ⟨by omega, by omega⟩]
    try rw [if_neg (by omega)]
  try simp only [Act.put, List.setIfInBounds_toArray, List.set_cons_zero, List.set_cons_succ]
  refine wpAnyH_tk 6 79 (v := ?vb6) ?hyb6 ?_
  case hyb6 => intro oi ho; simp only [List.getElem?_toArray, List.getElem?_cons_succ, List.getElem?_cons_zero, Option.some.injEq] at ho; subst ho; refine Or.inl ⟨by rfl, ?_⟩; intro wx hSw; (try dsimp only at hSw); go_simp; try rfl
  try simp only [Act.put, List.setIfInBounds_toArray, List.set_cons_zero, List.set_cons_succ]
  refine wpAnyH_tk 7 80 (v := ?vb7) ?hyb7 ?_
  case hyb7 => intro oi ho; simp only [List.getElem?_toArray, List.getElem?_cons_succ, List.getElem?_cons_zero, Option.some.injEq] at ho; subst ho; refine Or.inl ⟨by rfl, ?_⟩; intro wx hSw; (try dsimp only at hSw); go_simp; try rfl
  try simp only [Act.put, List.setIfInBounds_toArray, List.set_cons_zero, List.set_cons_succ]
  refine wpAnyH_takeAt (i := 8) (d := 81) (v := ?vb8) (by kernel_rfl) (by kernel_rfl) (by kernel_rfl) (by kernel_rfl) (fun _ _ _ h => h) ?hyb8 (by assumption) ?restb8
  case hyb8 =>
    intro oi ho
    simp only [List.getElem?_toArray, List.getElem?_cons_succ, List.getElem?_cons_zero, Option.some.injEq] at ho
    subst ho
    refine Or.inl ⟨by rfl, ?_⟩
    intro wx hSw
    try dsimp only at hSw
    go_simp
    try rfl
    try rw [if_pos (by omega), if_neg (by omega)]
  try simp only [Act.put, List.setIfInBounds_toArray, List.set_cons_zero, List.set_cons_succ]
  refine wpAnyH_cm 9 ?_; intro o ho K hK; simp only [List.getElem?_toArray, List.getElem?_cons_succ, List.getElem?_cons_zero, Option.some.injEq] at ho; subst ho
  simp only [ht2, if_neg hn3, hsub] at *
  go_simp
  refine hK.out _ _ trivial (fun hHeld => ?_)
  clear hK K
  try simp only [Act.put, List.setIfInBounds_toArray, List.set_cons_zero, List.set_cons_succ]
  refine wpAnyH_done (by kernel_rfl) ?_ _
  refine NoPanic.normal ?_
  generalize hw3 : w2.drew.setRow _ _ = w3
  have HW3 := hide HW2.out.2
  rw [hw3] at HW3
  clear hw3 HW2
  go_wp2
  go_ret
  exact ⟨w.heap.size, c1, rfl, Nat.le_refl _, hc3, hc2.out, HW3.out.1, HW3.out.2⟩
end Go.Proofs.YtnfponcadkmfjabGreat
set_option linter.unusedVariables false
namespace Go.Proofs.YtnfponcadkmfjabGreat
open Go.RowKit
def lfP (g : Nat) : Value := .iface 114 (.pointer (some ⟨g, 0, none⟩))
def brP (g : Nat) : Value := .iface 148 (.pointer (some ⟨g, 0, none⟩))
def NV (B B1 : Nat) (w : World) : (h : Nat) → ED h → List Nat → Value → Prop
  | 0, .inl t, S, v => S = [] ∧ v = plV t.1
  | 0, .inr l, S, v => ∃ g iv, S = [g] ∧ v = lfP g ∧ B1 ≤ g ∧ w.heap[g]? = some (.cells #[iv] 117 (0, 0)) ∧ IV B B1 w iv l
  | _ + 1, .inl t, S, v => S = [] ∧ v = plV t.1
  | h + 1, .inr x, S, v => ∃ g iv gc oc cc Sk, S = g :: List.flatten Sk ∧ v = brP g ∧ B1 ≤ g ∧ w.heap[g]? = some (.cells #[iv, .slice (some ⟨gc, oc, none⟩) x.2.length cc] 152 (0, 0)) ∧ IV B B1 w iv x.1 ∧
      B1 ≤ gc ∧ x.2.length ≤ cc ∧ cc ≤ 9223372036854775807 ∧ (∃ cs, w.heap[gc]? = some (.cells cs 107 (0, 0))) ∧ Sk.length = x.2.length ∧ ∀ i k Si, x.2[i]? = some k → Sk[i]? = some Si → ∃ vk, w.cell? ⟨gc, oc + i, none⟩ = some vk ∧ NV B B1 w h k Si vk
theorem IV.up {B B1 B2 : Nat} {w w' : World} {v : Value} {l : List It} (h : IV B B1 w v l) (f : FT B w w') (hk : ∀ k, B1 ≤ k → k < w.heap.size → w'.heap[k]? = w.heap[k]?) (hB : B2 ≤ B1) : IV B B2 w' v l := by
  obtain ⟨a, c, h1, h2, h3, h4, h5⟩ := h
  refine ⟨a, c, h1, h2, h3, h4, fun x hx => ?_⟩
  obtain ⟨g, o, e, hb, ⟨cs, hc⟩, hI⟩ := h5 x hx
  have := hk g hb (Array.getElem?_eq_some_iff.1 hc).1
  exact ⟨g, o, e, by omega, ⟨cs, this.trans hc⟩, hI.ft f this⟩
theorem NV.up {B B1 B2 : Nat} {w w' : World} (f : FT B w w') (hk : ∀ k, B1 ≤ k → k < w.heap.size → w'.heap[k]? = w.heap[k]?) (hB : B2 ≤ B1) : ∀ {h : Nat} {e : ED h} {S : List Nat} {v : Value}, NV B B1 w h e S v → NV B B2 w' h e S v
  | 0, .inl t, S, v, hn => hn
  | 0, .inr l, S, v, hn => by
    obtain ⟨g, iv, h1, h2, h3, h4, h5⟩ := hn
    exact ⟨g, iv, h1, h2, by omega, (hk g h3 (Array.getElem?_eq_some_iff.1 h4).1).trans h4, h5.up f hk hB⟩
  | h + 1, .inl t, S, v, hn => hn
  | h + 1, .inr x, S, v, hn => by
    obtain ⟨g, iv, gc, oc, cc, Sk, h1, h2, h3, h4, h5, h6, h7, h8, ⟨cs, h9⟩, h10, h11⟩ := hn
    have hc := hk gc h6 (Array.getElem?_eq_some_iff.1 h9).1
    refine ⟨g, iv, gc, oc, cc, Sk, h1, h2, by omega, (hk g h3 (Array.getElem?_eq_some_iff.1 h4).1).trans h4, h5.up f hk hB, by omega, h7, h8, ⟨cs, hc.trans h9⟩, h10, fun i k Si hi hS => ?_⟩
    obtain ⟨vk, q1, q2⟩ := h11 i k Si hi hS
    exact ⟨vk, (World.cell?_of_block hc).trans q1, NV.up f hk hB q2⟩
theorem NV.later {B B1 B2 h : Nat} {w w' : World} {e : ED h} {S : List Nat} {v : Value} (hn : NV B B1 w h e S v) (hb : Below w.heap.size w w') (hB : B ≤ w.heap.size) (h2 : B2 ≤ B1) : NV B B2 w' h e S v :=
  NV.up (FT.of hb hB) (fun k _ hk => hb.block k hk) h2 hn
theorem NV.old (B B1 : Nat) (w : World) : ∀ {h : Nat} (t : BT h), NV B B1 w h (old t) [] (plV t.id)
  | 0, _ => ⟨rfl, rfl⟩
  | _ + 1, _ => ⟨rfl, rfl⟩
def isNew : {h : Nat} → ED h → Prop
  | 0, .inl _ => False
  | 0, .inr _ => True
  | _ + 1, .inl _ => False
  | _ + 1, .inr _ => True
set_option maxRecDepth 100000 in
theorem itemsOf_leaf {w : World} {g : Nat} {iv : Value} (h : w.heap[g]? = some (.cells #[iv] 117 (0, 0))) :
    Calls Tryz.prog 95 #[lfP g] w fun e w' => e = .returned iv ∧ w' = w := by
  have t1 := asr_branch_no (.pointer (some ⟨g, 0, none⟩)) w
  have t2 := asr_leaf (.pointer (some ⟨g, 0, none⟩)) w
  have r0 : w.cell? ⟨g, 0, none⟩ = some iv := cell_blk h
  unfold lfP
  clear h
  go_enter Tryz.func95, Tryz.ntmps95
  go_wp2
  go_ret
  exact ⟨rfl, rfl⟩
set_option maxRecDepth 100000 in
theorem itemsOf_branch {w : World} {g : Nat} {iv cv : Value} (h : w.heap[g]? = some (.cells #[iv, cv] 152 (0, 0))) :
    Calls Tryz.prog 95 #[brP g] w fun e w' => e = .returned iv ∧ w' = w := by
  have t1 := asr_branch_yes (.pointer (some ⟨g, 0, none⟩)) w
  have r0 : w.cell? ⟨g, 0, none⟩ = some iv := cell_blk h
  unfold brP
  clear h
  go_enter Tryz.func95, Tryz.ntmps95
  go_wp2
  go_ret
  exact ⟨rfl, rfl⟩
theorem itemsOf_ok {B B1 h : Nat} {w : World} {e : ED h} {S : List Nat} {v : Value} (hn : NV B B1 w h e S v) (hnew : isNew e) :
    Calls Tryz.prog 95 #[v] w fun e' w' => ∃ iv, e' = .returned iv ∧ IV B B1 w iv (itE e) ∧ w' = w := by
  match h, e, hn, hnew with
  | 0, .inr l, ⟨g, iv, h1, h2, h3, h4, h5⟩, _ =>
    rw [h2]
    refine (itemsOf_leaf h4).mono ?_
    rintro e' w' ⟨rfl, rfl⟩
    exact ⟨iv, rfl, h5, rfl⟩
  | h + 1, .inr x, ⟨g, iv, gc, oc, cc, Sk, h1, h2, h3, h4, h5, _⟩, _ =>
    rw [h2]
    refine (itemsOf_branch h4).mono ?_
    rintro e' w' ⟨rfl, rfl⟩
    exact ⟨iv, rfl, h5, rfl⟩
def FE (B : Nat) (w w' : World) : Prop := Below B w w' ∧ ∀ (k : Nat) (cs : Array Value) (t : TypeId) (fz : Nat × Nat), w.heap[k]? = some (Obj.cells cs t fz) → t ≠ 110 → t ≠ 105 → w'.heap[k]? = some (Obj.cells cs t fz)
theorem FE.refl (B : Nat) (w : World) : FE B w w := ⟨Below.refl _ _, fun _ _ _ _ h _ _ => h⟩
theorem FE.trans {B : Nat} {a b c : World} (h : FE B a b) (k : FE B b c) : FE B a c := ⟨h.1.trans k.1, fun i cs t fz e n1 n2 => k.2 i cs t fz (h.2 i cs t fz e n1 n2) n1 n2⟩
theorem FE.of {B : Nat} {w w' : World} (h : Below w.heap.size w w') (hB : B ≤ w.heap.size) : FE B w w' := ⟨h.mono hB, fun i cs t fz e _ _ => (h.block i (Array.getElem?_eq_some_iff.1 e).1).trans e⟩
theorem FE.ft {B : Nat} {w w' : World} (h : FE B w w') : FT B w w' := ⟨h.1, fun k cs fz e => h.2 k cs _ _ e (by decide) (by decide)⟩
theorem FE.st [Gd] {B p q : Nat} {s : DS} {t : PS} {w w' : World} (f : FE B w w') (h : ST B p q s t w) (hg : Gd.g = none) : ST B p q s t w' := by
  obtain ⟨h1, gs, h2⟩ := h
  refine ⟨?_, gs, f.2 _ _ _ _ h2.hq (by decide) (by decide), f.2 _ _ _ _ h2.hs (by decide) (by decide), h2.qB, h2.gB, h2.ok⟩
  exact h1.of_stay (fun k cs t e ht => f.2 k cs t _ e (by rcases ht with rfl | rfl | rfl | rfl | rfl <;> decide) (by rcases ht with rfl | rfl | rfl | rfl | rfl <;> decide))
end Go.Proofs.YtnfponcadkmfjabGreat
set_option linter.unusedVariables false
namespace Go.Proofs.YtnfponcadkmfjabGreat
open Go.RowKit
def plC (l : List Nat) : List Value := l.map fun (i : Nat) => Value.int .i64 (i : Int)
theorem plC_app (l m : List Nat) : plC (l ++ m) = plC l ++ plC m := by simp [plC]
def edV (q : Nat) (rv : Value) (d n : Int) (gv lv : Value) : Array Value := #[.pointer (some ⟨q, 0, none⟩), rv, .int .i64 d, .int .i64 n, gv, lv]
structure EV (B : Nat) (w : World) (px q : Nat) (rv : Value) (d n : Int) (gone : List Nat) : Prop where
  hB : B ≤ px
  hx : ∃ gv, w.heap[px]? = some (.cells (edV q rv d n gv (.slice none 0 0)) 110 (0, 0)) ∧ w.ownsRow B 105 1 gv gone.length (plC gone)
  hn : gone.length ≤ 1000
theorem EV.later {B px q : Nat} {w w' : World} {rv : Value} {d n : Int} {gone : List Nat} (h : EV B w px q rv d n gone) (hb : Below w.heap.size w w') : EV B w' px q rv d n gone := by
  obtain ⟨gv, h1, h2⟩ := h.hx
  exact ⟨h.hB, ⟨gv, (hb.block _ (Array.getElem?_eq_some_iff.1 h1).1).trans h1, own_later h2 hb⟩, h.hn⟩
theorem EV.set {B px q g o : Nat} {w : World} {u : Value} {rv : Value} {d n : Int} {gone : List Nat} {cs : Array Value} {t : TypeId} (h : EV B w px q rv d n gone) (hg : w.heap[g]? = some (.cells cs t (0, 0))) (h1 : t ≠ 110) (h2 : t ≠ 105) : EV B (w.setCell ⟨g, o, none⟩ u) px q rv d n gone := by
  obtain ⟨gv, e1, e2⟩ := h.hx
  have ne : ∀ (k : Nat) (cs' : Array Value) (t' : TypeId), w.heap[k]? = some (.cells cs' t' (0, 0)) → t' ≠ t → (w.setCell ⟨g, o, none⟩ u).heap[k]? = some (.cells cs' t' (0, 0)) := by
    intro k cs' t' e ht
    rw [heap_setCell_other _ _ _ _ ?_, e]
    intro q
    have q : k = g := q
    subst q
    rw [hg] at e
    simp only [Option.some.injEq, Obj.cells.injEq] at e
    exact ht e.2.1.symm
  exact ⟨h.hB, ⟨gv, ne _ _ _ e1 h1.symm, own_stay e2 fun k cs' _ e => ne k cs' _ e h2.symm⟩, h.hn⟩
theorem info_place : (Tryz.prog.info? 105).map (fun i => (i.zero, i.size, i.bytes)) = some (some (.int .i64 0), 1, 8) := by kernel_rfl
set_option maxRecDepth 100000 in
set_option maxHeartbeats 2000000 in
theorem opened_any [Gd] {B p q px i : Nat} {hh : Int} {s : DS} {t : PS} {w : World} {rv : Value} {d n : Int} {gone : List Nat} (hg0 : Gd.g = none) (hST : ST B p q s t w) (hB : B ≤ w.heap.size) (hE : EV B w px q rv d n gone) (hlen : gone.length < 1000) (P : World → Value → World → Prop)
    (hL : ∀ ww, ST B p q s t ww → B ≤ ww.heap.size → Calls Tryz.prog 98 #[.pointer (some ⟨q, 0, none⟩), .int .i64 (i : Int), .int .i64 hh] ww fun e w' => ∃ v, e = .returned v ∧ P ww v w' ∧ Below ww.heap.size ww w') :
    Calls Tryz.prog 91 #[.pointer (some ⟨px, 0, none⟩), plV i, .int .i64 hh] w fun e w' => ∃ v w1, e = .returned v ∧ FE B w w1 ∧ w.heap.size ≤ w1.heap.size ∧ P w1 v w' ∧ Below w1.heap.size w1 w' ∧ EV B w' px q rv d n (gone ++ [i]) := by
  obtain ⟨i0, hi0, hz0, hz1, hz2⟩ := info_parts info_place
  obtain ⟨gv, e1, e2⟩ := hE.hx
  have HPB := hide hE.hB
  have HPX := hide e1
  have HOW := hide e2
  have HB := hide hB
  have HST := hide hST
  have HL := hide hL
  have hgl : gone.length < 1000 := hlen
  have ta := asr_place_yes (.int .i64 (i : Int)) w
  have r4 : w.cell? ⟨px, 4, none⟩ = some gv := cell_blk e1
  have hpl := (Array.getElem?_eq_some_iff.1 e1).1
  obtain ⟨ga, gc, rfl⟩ := own_slice e2
  unfold plV
  have HBX := hide (below_box w (.cells #[.int .i64 (i : Int)] 105))
  have HNX : Hid ((w.alloc (.cells #[.int .i64 (i : Int)] 105)).heap[w.heap.size]? = some (.cells #[.int .i64 (i : Int)] 105 (0, 0))) := heap_alloc_new w _
  have HOW1 := hide (own_later e2 HBX.out)
  have HNW : Hid (∀ j u, [Value.int .i64 (i : Int)][j]? = some u → (w.alloc (.cells #[.int .i64 (i : Int)] 105)).cell? ((⟨w.heap.size, 0, none⟩ : Addr).add j) = some u) := by
    intro j u hu
    rw [Addr.add_lit, Nat.zero_add, cell_blk HNX.out]
    simpa using hu
  have HPX1 : Hid ((w.alloc (.cells #[.int .i64 (i : Int)] 105)).heap[px]? = some (.cells (edV q rv d n (.slice ga gone.length gc) (.slice none 0 0)) 110 (0, 0))) := (HBX.out.block px hpl).trans e1
  have HBS1 : Hid (B ≤ (w.alloc (.cells #[.int .i64 (i : Int)] 105)).heap.size) := Nat.le_trans hB HBX.out.size
  clear hE e1 e2 hST hB hL hlen
  go_enter Tryz.func91, Tryz.ntmps91
  go_upto_region 5 with (at_builtin; refine wpList_append_own _ rfl (.tmp 21) (.tmp 23) 108 rfl B 105 i0 (.int .i64 0) 1 8 Tryz.underlying108 hi0 hz0 hz1 hz2 rfl (by omega) (.slice ga gone.length gc) gone.length (plC gone) rfl HOW1.out ⟨w.heap.size, 0, none⟩ 1 1 [Value.int .i64 (i : Int)] (by simp [Act.eval]) rfl HNW.out (by simp [Value.oneCell']) (by unfold maxLen; omega) (by omega) HBS1.out ?_; intro v3 w3 ho3 hg3 hz3; have HO3 := hide ho3; have HG3 := hide hg3; have HPX3 : Hid (w3.heap[px]? = some (.cells (edV q rv d n (.slice ga gone.length gc) (.slice none 0 0)) 110 (0, 0))) := (by
    show _ = _
    rw [hg3.block px (Array.getElem?_eq_some_iff.1 HPX1.out).1 ?_, HPX1.out]
    intro q9
    obtain ⟨_, cur, hc⟩ := own_block HOW1.out q9.symm
    rw [HPX1.out] at hc
    simp only [Option.some.injEq, Obj.cells.injEq] at hc
    exact absurd hc.2.1 (by decide)); obtain ⟨a3, c3, rfl⟩ := own_slice ho3; have f3 : w3.frozen? ⟨px, 4, none⟩ = false := frz_blk HPX3.out; have r3 : w3.cell? ⟨px, 4, none⟩ = some (.slice ga gone.length gc) := cell_blk HPX3.out; clear ho3 hg3 hz3)
  have HF3 : Hid (FE B w (w3.setCell ⟨px, 4, none⟩ (.slice a3 (gone.length + 1) c3))) := by
    refine FE.trans (FE.of HBX.out HB.out) (FE.trans (b := w3) ⟨(Below.refl B _).grown HG3.out HBS1.out (fun k hk => (HOW1.out.lt k hk).1), fun k cs t fz e n1 n2 => ?_⟩ ⟨(Below.refl _ _).setCell (p := ⟨px, 4, none⟩) HPB.out _, fun k cs t fz e n1 n2 => ?_⟩)
    · rw [HG3.out.block k (Array.getElem?_eq_some_iff.1 e).1 ?_, e]
      intro q9
      obtain ⟨_, cur, hc⟩ := own_block HOW1.out q9.symm
      rw [hc] at e
      simp only [Option.some.injEq, Obj.cells.injEq] at e
      exact n2 e.2.1.symm
    · rw [heap_setCell_other _ _ _ _ ?_, e]
      intro q9
      have q9 : k = px := q9
      subst q9
      rw [HPX3.out] at e
      simp only [Option.some.injEq, Obj.cells.injEq] at e
      exact n1 e.2.1.symm
  have HE3 : Hid (EV B (w3.setCell ⟨px, 4, none⟩ (.slice a3 (gone.length + 1) c3)) px q rv d n (gone ++ [i])) := by
    refine ⟨HPB.out, ⟨.slice a3 (gone.length + 1) c3, ?_, ?_⟩, by simp; omega⟩
    · rw [heap_setCell_same _ _ _ _ _ _ HPX3.out]
      rfl
    · rw [List.length_append, plC_app]
      refine own_stay HO3.out fun k cs hk e => ?_
      rw [heap_setCell_other _ _ _ _ ?_, e]
      intro q9
      have q9 : k = px := q9
      subst q9
      rw [HPX3.out] at e
      simp only [Option.some.injEq, Obj.cells.injEq] at e
      exact absurd e.2.1 (by decide)
  have HS3 : Hid (w.heap.size ≤ (w3.setCell ⟨px, 4, none⟩ (.slice a3 (gone.length + 1) c3)).heap.size) := by
    show _ ≤ _
    have h1 := HBX.out.size
    have h2 := HG3.out.size
    simp only [World.setCell, Array.size_modify] at *
    omega
  have HX3 : Hid ((w3.setCell ⟨px, 4, none⟩ (.slice a3 (gone.length + 1) c3)).heap[px]? = some (.cells (edV q rv d n (.slice a3 (gone.length + 1) c3) (.slice none 0 0)) 110 (0, 0))) := by
    show _ = _
    rw [heap_setCell_same _ _ _ _ _ _ HPX3.out]
    rfl
  clear f3 r3 r4 ta HPX3 HO3 HG3
  generalize w3.setCell ⟨px, 4, none⟩ (.slice a3 (gone.length + 1) c3) = w4 at *
  have r0 : w4.cell? ⟨px, 0, none⟩ = some (.pointer (some ⟨q, 0, none⟩)) := cell_blk HX3.out
  have HLL := hide (HL.out w4 (HF3.out.st HST.out hg0) (Nat.le_trans HB.out HS3.out))
  go_wp2_with fail
  refine HLL.out.mono ?_
  rintro e w5 ⟨v5, rfl, hP5, hb5⟩
  have HP5 := hide hP5
  have HB5 := hide hb5
  clear hP5 hb5
  go_wp2
  go_ret
  exact ⟨v5, w4, rfl, HF3.out, HS3.out, HP5.out, HB5.out, HE3.out.later HB5.out⟩
end Go.Proofs.YtnfponcadkmfjabGreat
