/- The walk of the law WireRow. -/
import Derived.Test.YtblgagjifaeadabRW
import Derived.Test.YtblgagjifaeadabA8
import Derived.Test.YtblgagjifaeadabA9
import Derived.Test.YtblgagjifaeadabB1
import Derived.Test.YtblgagjifaeadabBP
import Derived.Test.YtblgagjifaeadabRG
import Derived.BigRegion
import Derived.OpenShut
import Derived.Deep.DrawnRows
import Derived.Outline
namespace Go.Proofs.Ytblgagjifaeadab
open Go.RowKit
attribute [local go_sem ↓] Go.wp_at_zero Go.wp_at_succ

/-- While the row is read. -/
structure RR (w wr : World) (ge n g cc c : Nat) (xs es : List Nat) : Prop where
  bel : Below w.heap.size w wr
  part : BS wr (some ⟨g, 0, none⟩) c cc (xs.take c)
  ends : ∀ j, j < 2 * n → wr.cell? ⟨ge, j, none⟩ = some (.int .i64 (es.getD j 0 : Nat))
section
variable {w wr wr' : World} {ge n g cc c : Nat} {xs es : List Nat}
theorem RR.hid (h : RR w wr ge n g cc c xs es) : Hid (RR w wr ge n g cc c xs es) := h
theorem RR.later (h : RR w wr ge n g cc c xs es) (hb : Below wr.heap.size wr wr') : RR w wr' ge n g cc c xs es :=
  ⟨h.bel.trans (hb.mono h.bel.size), h.part.later hb (Nat.le_refl _), fun j hj => (hb.cell (cell_lt (h.ends j hj))).trans (h.ends j hj)⟩
theorem RR.drew (h : RR w wr ge n g cc c xs es) : RR w wr.drew ge n g cc c xs es := ⟨h.bel.drew, h.part.drew, h.ends⟩
end
theorem acc_pos (kf : Nat → Nat) (T : Nat) (tf : Nat → List Nat) (n : Nat) (h : 0 < n) (hk : ∀ i, kf i < 9223372036854775808) : 0 < (acc kf T tf n).length := by
  obtain ⟨r, hr⟩ := acc_split kf T tf n 0 h
  have := (grp_spec _ (hk 0)).1
  rw [hr, List.length_append, List.length_append, pc, List.length_append, enc_length _ this]
  omega
theorem mask40 (n : Int) : ∃ k : Nat, k < 1099511627776 ∧ bits .and .i64 n 1099511627775 = (k : Int) := by
  refine ⟨((BitVec.ofInt 64 n).toNat &&& 1099511627775), ?_, ?_⟩
  · have := @Nat.and_le_right (BitVec.ofInt 64 n).toNat 1099511627775
    omega
  · have h := @Nat.and_le_right (BitVec.ofInt 64 n).toNat 1099511627775
    have e : (BitVec.ofInt 64 1099511627775).toNat = 1099511627775 := by decide
    show IntKind.i64.wrap (((BitVec.ofInt 64 n) &&& (BitVec.ofInt 64 1099511627775)).toNat : Int) = _
    rw [BitVec.toNat_and, e]
    exact wraps_i64 _ (by omega) (by omega)
theorem enc_bytes' (n : Nat) (xs : List Nat) (h : ∀ x ∈ xs, x < 256) : ∀ x ∈ enc n ++ xs, x < 256 := fun x hx => by
  rcases List.mem_append.1 hx with z | z
  · exact enc_byte n x z
  · exact h x z

set_option maxRecDepth 100000 in
set_option maxHeartbeats 4000000 in
theorem wireRow_some (b0 o0 len0 cap0 : Nat) (Z : Nat → Int) (a1 : Option Addr) (T cap1 b1 o1 : Nat) (A : Nat → Option Addr) (L C : Nat → Nat) (kf : Nat → Nat) (tf : Nat → List Nat) (cut : Int) (w : World)
    (h0 : 0 < len0) (hl0 : len0 ≤ 9223372036854775807) (hl1 : T ≤ 9223372036854775807)
    (hc0 : ∀ i, i < len0 → w.cell? ⟨b0, o0 + i, none⟩ = some (.int .i64 (Z i)))
    (hk : ∀ i, bits .and .i64 (Z i) 9223372036854775807 = (kf i : Int)) (hkb : ∀ i, kf i < 9223372036854775808)
    (hb1 : 0 < T → a1 = some ⟨b1, o1, none⟩) (hc1 : ∀ r, r < T → w.cell? ⟨b1, o1 + r, none⟩ = some (.slice (A r) (L r) (C r))) (hL : ∀ r, r < T → L r ≤ C r ∧ C r ≤ 9223372036854775807)
    (htx : ∀ r, r < T → BS w (A r) (min (L r) 50) (C r) (tf r)) (htl : ∀ r, (tf r).length ≤ 50) (htb : ∀ r, ∀ x ∈ tf r, x < 256) :
    Calls Try.prog 3 #[.slice (some ⟨b0, o0, none⟩) len0 cap0, .slice a1 T cap1, .int .i64 cut] w fun e w' => e = .returned (.bool true) ∧ Below w.heap.size w w' := by
  obtain ⟨n, hn⟩ : ∃ n, min len0 20 = n := ⟨_, rfl⟩
  have hn1 : 0 < n := by omega
  have hn2 : n ≤ 20 := by omega
  have hn3 : n ≤ len0 := by omega
  have hmin : min (len0 : Int) 20 = (n : Int) := by omega
  have HC0 := hid_of hc0
  have HK := hid_of hk
  have HKB := hid_of hkb
  have HB1 := hid_of hb1
  have HC1 := hid_of hc1
  have HL := hid_of hL
  have HTX := hid_of htx
  have HTL := hid_of htl
  have HTB := hid_of htb
  clear hc0 hk hkb hb1 hc1 hL htx htl htb hn
  go_enter Try.func3, Try.ntmps3
  go_wp2_with fail
  go_loopw [7, 8, 10] (fun v u i wr => ∃ k : Nat, k ≤ n ∧ i = .int .i64 k ∧ RW w v u wr (acc kf T tf k) (ends kf T tf k)) (fun _ _ i _ => n - (intOf i).toNat)
  case atStart => exact ⟨0, Nat.zero_le _, rfl, RW.start w⟩
  case round =>
    obtain ⟨k, hkn, rfl, hR0⟩ := hrel
    have HR0 := hR0.hid
    clear hR0
    have hcx : k < n → wr.cell? ⟨b0, o0 + k, none⟩ = some (.int .i64 (Z k)) := fun hlt => (HR0.out.bel.cell (cell_lt (HC0.out k (by omega)))).trans (HC0.out k (by omega))
    have hkk := HK.out k
    have hal := acc_le kf T tf k HKB.out HTL.out
    obtain ⟨g1, g2, -, -, -⟩ := grp_spec (kf k) (HKB.out k)
    have hel := ends_length kf T tf k
    rcases Nat.lt_or_ge k n with hlt | hge
    · go_wp2_with fail
      refine (uint_owns (kf k) _ (HKB.out k)).mono ?_
      rintro e w1 ⟨gu, cu, rfl, hou, hbu⟩
      have HU1 := hid_of (BS.ofOwns hou (by omega) (enc_byte (kf k)))
      have HR1 := (HR0.out.later hbu).hid
      clear hou hbu hcx
      go_wp2_with (at_builtin; refine wpList_append_a rfl (.tmp 28) (.tmp 34) rfl w _ _ _ _ rfl HR1.out _ (grp (kf k)) cu (enc (kf k)) rfl HU1.out (by omega) ?_)
      intro v2 w2 hR2
      have hE0 : (acc kf T tf k ++ enc (kf k)).length = e0 kf T tf k := by rw [List.length_append, enc_length _ g1]; rfl
      obtain ⟨ga, ca, hv⟩ := hR2.formA (by rw [hE0]; unfold e0; omega)
      rw [hE0] at hv
      subst hv
      have HR2 := hR2.hid
      clear hR2 HR1 HR0 HU1
      have he0 : e0 kf T tf k ≤ 2000 := by unfold e0; omega
      have HE0 := hid_of hE0
      clear hE0
      go_wp2_with (at_builtin; refine wpList_append_e rfl (.tmp 36) (.tmp 39) rfl w _ _ _ _ rfl (HR2.out.alloc _) (e0 kf T tf k) _ rfl (by simp) (by omega) ?_)
      intro u3 w3 hR3
      have HR3 := hR3.hid
      clear hR3 HR2
      rcases Nat.lt_or_ge k T with hT | hT
      · have hb1 := HB1.out (by omega)
        subst hb1
        have hcl : w3.cell? ⟨b1, o1 + k, none⟩ = some (.slice (A k) (L k) (C k)) := (HR3.out.bel.cell (cell_lt (HC1.out k hT))).trans (HC1.out k hT)
        obtain ⟨m, hm⟩ : ∃ m, min (L k) 50 = m := ⟨_, rfl⟩
        have hmi : min (L k : Int) 50 = (m : Int) := by omega
        have hBS := HTX.out k hT
        rw [hm] at hBS
        have HBS := hid_of hBS
        have hmc := hBS.hcap
        obtain ⟨hL1, hL2⟩ := HL.out k hT
        obtain ⟨q1, q2, -, -, -⟩ := grp_spec m (by omega)
        clear hBS hm
        go_wp2_with fail
        refine wp_region_noPanic ?_
        refine wp_region_held_drew (S := fun wx => wx.cell? ⟨b1, o1 + k, none⟩ = some (.slice (A k) (L k) (C k))) (by kernel_rfl) hcl (fun hHeld => ?_)
        refine wpAnyH_takeAt (i := 0) (d := 45) (v := ?vA0) (by kernel_rfl) (by kernel_rfl) (by kernel_rfl) (by kernel_rfl) (fun _ _ _ h => h) ?hyA0 (by assumption) ?restA0
        case hyA0 =>
          intro oi ho
          simp only [List.getElem?_toArray, List.getElem?_cons_zero, Option.some.injEq] at ho
          subst ho
          refine Or.inl ⟨by rfl, ?_⟩
          intro wx hSw
          try dsimp only at hSw
          go_simp
          try rfl
        try simp only [Act.put, List.setIfInBounds_toArray, List.set_cons_zero, List.set_cons_succ]
        refine wpAnyH_takeAt (i := 1) (d := 46) (v := ?vA1) (by kernel_rfl) (by kernel_rfl) (by kernel_rfl) (by kernel_rfl) (fun _ _ _ h => h) ?hyA1 (by assumption) ?restA1
        case hyA1 =>
          intro oi ho
          simp only [List.getElem?_toArray, List.getElem?_cons_succ, List.getElem?_cons_zero, Option.some.injEq] at ho
          subst ho
          refine Or.inl ⟨by rfl, ?_⟩
          intro wx hSw
          try dsimp only at hSw
          go_simp
          try rfl
        try simp only [Act.put, List.setIfInBounds_toArray, List.set_cons_zero, List.set_cons_succ]
        refine wpAnyH_takeAt (i := 2) (d := 47) (v := ?vA2) (by kernel_rfl) (by kernel_rfl) (by kernel_rfl) (by kernel_rfl) (fun _ _ _ h => h) ?hyA2 (by assumption) ?restA2
        case hyA2 =>
          intro oi ho
          simp only [List.getElem?_toArray, List.getElem?_cons_succ, List.getElem?_cons_zero, Option.some.injEq] at ho
          subst ho
          refine Or.inl ⟨by rfl, ?_⟩
          intro wx hSw
          try dsimp only at hSw
          go_simp
          try rfl
        try simp only [Act.put, List.setIfInBounds_toArray, List.set_cons_zero, List.set_cons_succ]
        refine wpAnyH_takeAt (i := 3) (d := 48) (v := ?vA3) (by kernel_rfl) (by kernel_rfl) (by kernel_rfl) (by kernel_rfl) (fun _ _ _ h => h) ?hyA3 (by assumption) ?restA3
        case hyA3 =>
          intro oi ho
          simp only [List.getElem?_toArray, List.getElem?_cons_succ, List.getElem?_cons_zero, Option.some.injEq] at ho
          subst ho
          refine Or.inl ⟨by rfl, ?_⟩
          intro wx hSw
          try dsimp only at hSw
          go_simp
          try rfl
        try simp only [Act.put, List.setIfInBounds_toArray, List.set_cons_zero, List.set_cons_succ]
        refine wpAnyH_takeAt (i := 4) (d := 49) (v := ?vA4) (by kernel_rfl) (by kernel_rfl) (by kernel_rfl) (by kernel_rfl) (fun _ _ _ h => h) ?hyA4 (by assumption) ?restA4
        case hyA4 =>
          intro oi ho
          simp only [List.getElem?_toArray, List.getElem?_cons_succ, List.getElem?_cons_zero, Option.some.injEq] at ho
          subst ho
          refine Or.inl ⟨by rfl, ?_⟩
          intro wx hSw
          try dsimp only at hSw
          go_simp
          try rfl
        try simp only [Act.put, List.setIfInBounds_toArray, List.set_cons_zero, List.set_cons_succ]
        refine wpAnyH_takeAt (i := 5) (d := 50) (v := ?vA5) (by kernel_rfl) (by kernel_rfl) (by kernel_rfl) (by kernel_rfl) (fun _ _ _ h => h) ?hyA5 (by assumption) ?restA5
        case hyA5 =>
          intro oi ho
          simp only [List.getElem?_toArray, List.getElem?_cons_succ, List.getElem?_cons_zero, Option.some.injEq] at ho
          subst ho
          refine Or.inl ⟨by rfl, ?_⟩
          intro wx hSw
          try dsimp only at hSw
          go_simp
          try rfl
        try simp only [Act.put, List.setIfInBounds_toArray, List.set_cons_zero, List.set_cons_succ]
        refine wpAnyH_takeAt (i := 6) (d := 51) (v := ?vA6) (by kernel_rfl) (by kernel_rfl) (by kernel_rfl) (by kernel_rfl) (fun _ _ _ h => h) ?hyA6 (by assumption) ?restA6
        case hyA6 =>
          intro oi ho
          simp only [List.getElem?_toArray, List.getElem?_cons_succ, List.getElem?_cons_zero, Option.some.injEq] at ho
          subst ho
          refine Or.inl ⟨by rfl, ?_⟩
          intro wx hSw
          try dsimp only at hSw
          go_simp
          try rfl
        try simp only [Act.put, List.setIfInBounds_toArray, List.set_cons_zero, List.set_cons_succ]
        refine wpAnyH_takeAt (i := 7) (d := 52) (v := ?vA7) (by kernel_rfl) (by kernel_rfl) (by kernel_rfl) (by kernel_rfl) (fun _ _ _ h => h) ?hyA7 (by assumption) ?restA7
        case hyA7 =>
          intro oi ho
          simp only [List.getElem?_toArray, List.getElem?_cons_succ, List.getElem?_cons_zero, Option.some.injEq] at ho
          subst ho
          refine Or.inl ⟨by rfl, ?_⟩
          intro wx hSw
          try dsimp only at hSw
          go_simp
          try rfl
        try simp only [Act.put, List.setIfInBounds_toArray, List.set_cons_zero, List.set_cons_succ]
        refine wpAnyH_takeAt (i := 8) (d := 53) (v := ?vA8) (by kernel_rfl) (by kernel_rfl) (by kernel_rfl) (by kernel_rfl) (fun _ _ _ h => h) ?hyA8 (by assumption) ?restA8
        case hyA8 =>
          intro oi ho
          simp only [List.getElem?_toArray, List.getElem?_cons_succ, List.getElem?_cons_zero, Option.some.injEq] at ho
          subst ho
          refine Or.inl ⟨by rfl, ?_⟩
          intro wx hSw
          try dsimp only at hSw
          go_simp
          try rfl
        try simp only [Act.put, List.setIfInBounds_toArray, List.set_cons_zero, List.set_cons_succ]
        refine wpAnyH_takeAt (i := 9) (d := 54) (v := ?vA9) (by kernel_rfl) (by kernel_rfl) (by kernel_rfl) (by kernel_rfl) (fun _ _ _ h => h) ?hyA9 (by assumption) ?restA9
        case hyA9 =>
          intro oi ho
          simp only [List.getElem?_toArray, List.getElem?_cons_succ, List.getElem?_cons_zero, Option.some.injEq] at ho
          subst ho
          refine Or.inl ⟨by rfl, ?_⟩
          intro wx hSw
          try dsimp only at hSw
          go_simp
          try rfl
        try simp only [Act.put, List.setIfInBounds_toArray, List.set_cons_zero, List.set_cons_succ]
        refine wpAnyH_takeAt (i := 10) (d := 55) (v := ?vA10) (by kernel_rfl) (by kernel_rfl) (by kernel_rfl) (by kernel_rfl) (fun _ _ _ h => h) ?hyA10 (by assumption) ?restA10
        case hyA10 =>
          intro oi ho
          simp only [List.getElem?_toArray, List.getElem?_cons_succ, List.getElem?_cons_zero, Option.some.injEq] at ho
          subst ho
          refine Or.inl ⟨by rfl, ?_⟩
          intro wx hSw
          try dsimp only at hSw
          go_simp
          try rfl
        try simp only [Act.put, List.setIfInBounds_toArray, List.set_cons_zero, List.set_cons_succ]
        refine wpAnyH_takeAt (i := 11) (d := 56) (v := ?vA11) (by kernel_rfl) (by kernel_rfl) (by kernel_rfl) (by kernel_rfl) (fun _ _ _ h => h) ?hyA11 (by assumption) ?restA11
        case hyA11 =>
          intro oi ho
          simp only [List.getElem?_toArray, List.getElem?_cons_succ, List.getElem?_cons_zero, Option.some.injEq] at ho
          subst ho
          refine Or.inl ⟨by rfl, ?_⟩
          intro wx hSw
          try dsimp only at hSw
          go_simp
          try rfl
        try simp only [Act.put, List.setIfInBounds_toArray, List.set_cons_zero, List.set_cons_succ]
        refine wpAnyH_comesAt (i := 12) (by kernel_rfl) (by kernel_rfl) ?_
        intro o ho K hK
        simp only [List.getElem?_toArray, List.getElem?_cons_succ, List.getElem?_cons_zero, Option.some.injEq] at ho
        subst ho
        go_simp
        refine (bytes_any (A k) m (C k) (tf k) _ (HBS.out.later HR3.out.bel (Nat.le_refl _)).drew (by omega)).mono ?_
        rintro e w4 ⟨gb, cb, rfl, hob, hbb⟩
        have HU4 := hid_of (BS.ofOwns hob (by omega) (enc_bytes' m (tf k) (HTB.out k)))
        have HR4 := (HR3.out.drew.later hbb).hid
        clear hob hbb hHeld
        refine hK.out _ _ ((HR4.out.bel.cell (cell_lt (HC1.out k hT))).trans (HC1.out k hT)) (fun hHeld => ?_)
        clear hK K
        try simp only [Act.put, List.setIfInBounds_toArray, List.set_cons_zero, List.set_cons_succ]
        refine wpAnyH_comesAt (i := 13) (by kernel_rfl) (by kernel_rfl) ?_
        intro o ho K hK
        simp only [List.getElem?_toArray, List.getElem?_cons_succ, List.getElem?_cons_zero, Option.some.injEq] at ho
        subst ho
        rw [if_pos (by rfl)]
        refine wp_append_a (.tmp 45) (.tmp 57) rfl w _ _ _ _ rfl HR4.out _ (grp m + m) cb (enc m ++ tf k) rfl HU4.out (by rw [HE0.out]; omega) ?_
        intro v5 w5 hR5
        have HR5 := hR5.hid
        clear hR5 hHeld HR4 HU4
        refine hK.out _ _ ((HR5.out.bel.cell (cell_lt (HC1.out k hT))).trans (HC1.out k hT)) (fun hHeld => ?_)
        clear hK K
        try simp only [Act.put, List.setIfInBounds_toArray, List.set_cons_zero, List.set_cons_succ]
        refine wpAnyH_takeAt (i := 14) (d := 7) (v := ?vA14) (by kernel_rfl) (by kernel_rfl) (by kernel_rfl) (by kernel_rfl) (fun _ _ _ h => h) ?hyA14 (by assumption) ?restA14
        case hyA14 =>
          intro oi ho
          simp only [List.getElem?_toArray, List.getElem?_cons_succ, List.getElem?_cons_zero, Option.some.injEq] at ho
          subst ho
          refine Or.inl ⟨by rfl, ?_⟩
          intro wx hSw
          try dsimp only at hSw
          go_simp
          try rfl
        try simp only [Act.put, List.setIfInBounds_toArray, List.set_cons_zero, List.set_cons_succ]
        refine wpAnyH_done (by kernel_rfl) ?_ _
        refine NoPanic.normal ?_
        have hacc : (acc kf T tf k ++ enc (kf k)) ++ (enc m ++ tf k) = acc kf T tf (k + 1) := by rw [acc, pc, if_pos hT, HBS.out.hlen]; simp
        have hR6 := HR5.out
        rw [hacc] at hR6
        obtain ⟨ga', ca', hv⟩ := hR6.formA (by rw [← hacc, List.length_append, HE0.out]; unfold e0; omega)
        subst hv
        have HR6 := hR6.hid
        have hal' := acc_le kf T tf (k + 1) HKB.out HTL.out
        clear hR6 HR5 hHeld hacc HR3
        go_wp2_with (at_builtin; refine wpList_append_e rfl (.tmp 59) (.tmp 62) rfl w _ _ _ _ rfl (HR6.out.alloc _) (acc kf T tf (k + 1)).length _ rfl (by simp) (by simp; omega) ?_)
        intro uu w7 hR7
        have hR8 := hR7.ends (fs := ends kf T tf (k + 1)) (by rw [ends, e1]; try simp)
        have HR8 := hR8.hid
        clear hR8 hR7 HR6
        go_wp2_with fail
        go_roundw
        case rel => exact ⟨k + 1, by omega, by go_num, HR8.out⟩
        case measure => simp [intOf]; omega
      · have hacc : acc kf T tf k ++ enc (kf k) = acc kf T tf (k + 1) := by rw [acc, pc, if_neg (by omega)]; simp
        have hR6 := HR3.out
        rw [hacc] at hR6
        have hal' := acc_le kf T tf (k + 1) HKB.out HTL.out
        have he1 : e0 kf T tf k = (acc kf T tf (k + 1)).length := by rw [← hacc, HE0.out]
        have HR6 := hR6.hid
        clear hR6 HR3 hacc
        have HE1 := hid_of he1
        clear he1
        go_wp2_with (at_builtin; refine wpList_append_e rfl (.tmp 59) (.tmp 62) rfl w _ _ _ _ rfl (HR6.out.alloc _) (e0 kf T tf k) _ rfl (by simp) (by simp; omega) ?_)
        intro uu w7 hR7
        have hR8 := hR7.ends (fs := ends kf T tf (k + 1)) (by rw [ends, e1, ← HE1.out]; try simp)
        have HR8 := hR8.hid
        clear hR8 hR7 HR6
        go_wp2_with fail
        go_roundw
        case rel => exact ⟨k + 1, by omega, by go_num, HR8.out⟩
        case measure => simp [intOf]; omega
    · obtain rfl : k = n := by omega
      have hM1 := acc_pos kf T tf k hn1 HKB.out
      have hE0 := HR0.out
      obtain ⟨ga, ca, hv⟩ := HR0.out.formA hM1
      subst hv
      obtain ⟨ge, ce, hv⟩ := HR0.out.formE (by omega)
      rw [hel] at hv
      subst hv
      obtain ⟨q, hq, hcut⟩ := mask40 cut
      have HA := hid_of (BS.ofOwns HR0.out.own (by omega) (acc_byte kf T tf HTB.out k))
      have hca := HA.out.hcap
      clear hE0 hcx hkk g1 g2
      obtain ⟨c, hc⟩ : ∃ c, q % ((acc kf T tf k).length + 1) = c := ⟨_, rfl⟩
      have hcM : c ≤ (acc kf T tf k).length := by have := Nat.mod_lt q (show 0 < (acc kf T tf k).length + 1 by omega); omega
      have hci : (q : Int) % (((acc kf T tf k).length : Int) + 1) = (c : Int) := by rw [← hc]; simp
      have HF := hid_of (bs_front HA.out c hcM)
      clear hc hq
      go_wp2_with fail
      refine (roomy_any _ c ca _ wr HF.out (by omega)).mono ?_
      rintro e w1 ⟨g, cc, rfl, hg, hbs1, hb1⟩
      have hRR0 : RR w w1 ge k g cc c (acc kf T tf k) (ends kf T tf k) := by
        refine ⟨HR0.out.bel.trans (hb1.mono HR0.out.bel.size), hbs1.front c (HF.out.hlen), fun j hj => ?_⟩
        have h1 := (ownsRow_later HR0.out.num hb1).cells (g := ge) rfl j _ (intsOf_get _ j (by rw [hel]; exact hj))
        rw [add_plain, Nat.zero_add] at h1
        exact h1
      have HRR := hRR0.hid
      have hccap := hRR0.part.hcap
      clear hRR0 hb1 hbs1 hg HF HA HR0
      have hEA := hid_of (ends_at kf T tf k)
      go_wp2_with fail
      go_loopw [12, 13] (fun p i wr => ∃ j : Nat, j ≤ k ∧ i = .int .i64 j ∧ p = .int .i64 (acc kf T tf j).length ∧ (acc kf T tf j).length ≤ c ∧ RR w wr ge k g cc c (acc kf T tf k) (ends kf T tf k)) (fun _ i _ => k - (intOf i).toNat)
      case atStart => exact ⟨0, Nat.zero_le _, rfl, rfl, Nat.zero_le _, HRR.out⟩
      case round =>
        clear HRR
        obtain ⟨j, hjk, rfl, rfl, hjc, hRR⟩ := hrel
        have HRR := hRR.hid
        clear hRR
        rcases Nat.lt_or_ge j k with hlt | hge
        · have c1 := readUint_any _ _ cc _ ((acc kf T tf j).length : Int) _ HRR.out.part
          have rn := round_num kf T tf k j c hlt (HKB.out j) _ rfl hjc
          obtain ⟨ea0, ea1⟩ := hEA.out j hlt
          have hce := HRR.out.ends (2 * j) (by omega)
          have hcf := HRR.out.ends (2 * j + 1) (by omega)
          rw [ea0] at hce
          rw [ea1] at hcf
          have hcx : wr.cell? ⟨b0, o0 + j, none⟩ = some (.int .i64 (Z j)) := (HRR.out.bel.cell (cell_lt (HC0.out j (by omega)))).trans (HC0.out j (by omega))
          have hkk := HK.out j
          have he1 := e1_eq kf T tf j (HKB.out j) (HTL.out j)
          have HJ := hid_of he1
          clear he1 ea0 ea1
          by_cases hx0 : c < e0 kf T tf j
          · rw [rn.1 hx0] at c1
            have C1 := hid_of c1
            clear c1 rn
            go_wp2_with fail
            refine C1.out.mono ?_
            rintro e w2 ⟨rfl, hw⟩
            have hw := hw.symm
            subst hw
            go_wp2_with (go_at_call 8; refine (told_any _).mono ?_; rintro e w8 ⟨rfl, hb8⟩)
            go_ret
            exact ⟨by simp, HRR.out.bel.trans (hb8.mono HRR.out.bel.size)⟩
          · have hx1 : e0 kf T tf j ≤ c := by omega
            have r2 := rn.2 hx1
            rw [r2.1, r2.2.1, r2.2.2] at c1
            have C1 := hid_of c1
            clear c1 rn r2
            go_wp2_with fail
            refine C1.out.mono ?_
            rintro e w2 ⟨rfl, hw⟩
            have hw := hw.symm
            subst hw
            rcases Nat.lt_or_ge j T with hT | hT
            · have hb1 := HB1.out (by omega)
              subst hb1
              have rt := round_txt kf T tf k j c hlt hT (HKB.out j) (HTL.out j) (e0 kf T tf j : Int) rfl hx1
              by_cases hy0 : c < e1 kf T tf j
              · have c2 := readBytes_no _ _ cc _ (e0 kf T tf j : Int) 50 _ HRR.out.part (by rw [rt.1 hy0]; decide)
                rw [rt.1 hy0] at c2
                have C2 := hid_of c2
                clear c2 rt
                go_wp2_with fail
                refine C2.out.mono ?_
                rintro e w2 ⟨rfl, hw⟩
                have hw := hw.symm
                subst hw
                go_wp2_with (go_at_call 8; refine (told_any _).mono ?_; rintro e w8 ⟨rfl, hb8⟩)
                go_ret
                exact ⟨by simp, HRR.out.bel.trans (hb8.mono HRR.out.bel.size)⟩
              · have hy1 : e1 kf T tf j ≤ c := by omega
                have r3 := rt.2 hy1
                have c2 := readBytes_ok _ _ cc _ (e0 kf T tf j : Int) 50 _ HRR.out.part r3.1
                rw [r3.2.1, r3.2.2] at c2
                have C2 := hid_of c2
                clear c2 rt r3
                go_wp2_with fail
                refine C2.out.mono ?_
                rintro e w2 ⟨gx, nx, rfl, _, hbx, _, hb2⟩
                have hR2 := HRR.out.later hb2
                have HX := hid_of hbx
                have hcf2 := hR2.ends (2 * j + 1) (by omega)
                rw [(hEA.out j hlt).2] at hcf2
                have hce2 := hR2.ends (2 * j) (by omega)
                rw [(hEA.out j hlt).1] at hce2
                have hcl : w2.cell? ⟨b1, o1 + j, none⟩ = some (.slice (A j) (L j) (C j)) := (hR2.bel.cell (cell_lt (HC1.out j hT))).trans (HC1.out j hT)
                have HR2 := hR2.hid
                obtain ⟨m, hm⟩ : ∃ m, min (L j) 50 = m := ⟨_, rfl⟩
                have hmi : min (L j : Int) 50 = (m : Int) := by omega
                have hBS := (HTX.out j hT).later hR2.bel (Nat.le_refl _)
                rw [hm] at hBS
                have HBS := hid_of hBS
                have hmc := hBS.hcap
                obtain ⟨hL1, hL2⟩ := HL.out j hT
                clear hBS hm hR2 hbx hb2 hce hcf hcx C1 C2
                have hw1 : IntKind.i64.wrap (2 * (j : Int)) = 2 * (j : Int) := by rw [IntKind.wrap_i64]; omega
                have hw2 : IntKind.i64.wrap (2 * (j : Int) + 1) = 2 * (j : Int) + 1 := by rw [IntKind.wrap_i64]; omega
                have hw3 : (2 * (j : Int) + 1).toNat = 2 * j + 1 := by omega
                have hw4 : (0 : Int) ≤ 2 * (j : Int) + 1 := by omega
                have hw5 : 2 * (j : Int) + 1 < 2 * (k : Int) := by omega
                go_wp2_with fail
                refine wp_region_noPanic ?_
                refine wp_region_held_drew (S := fun wx => wx.cell? ⟨b1, o1 + j, none⟩ = some (.slice (A j) (L j) (C j)) ∧ wx.cell? ⟨ge, 2 * j + 1, none⟩ = some (.int .i64 (e1 kf T tf j : Nat)) ∧ (convert 24 9 (.slice (some ⟨gx, 0, none⟩) nx nx)).run Try.prog wx = .ok (.string (str (tf j))) wx ∧ (convert 24 9 (.slice (A j) m (C j))).run Try.prog wx = .ok (.string (str (tf j))) wx) (by kernel_rfl) ⟨hcl, hcf2, run_text HX.out.drew, run_text HBS.out.drew⟩ (fun hHeld => ?_)
                refine wpAnyH_takeAt (i := 0) (d := 143) (v := ?vB0) (by kernel_rfl) (by kernel_rfl) (by kernel_rfl) (by kernel_rfl) (fun _ _ _ h => h) ?hyB0 (by assumption) ?restB0
                case hyB0 =>
                  intro oi ho
                  simp only [List.getElem?_toArray, List.getElem?_cons_zero, Option.some.injEq] at ho
                  subst ho
                  refine Or.inl ⟨by rfl, ?_⟩
                  intro wx hSw
                  try dsimp only at hSw
                  go_simp
                  try rfl
                try simp only [Act.put, List.setIfInBounds_toArray, List.set_cons_zero, List.set_cons_succ]
                refine wpAnyH_takeAt (i := 1) (d := 144) (v := ?vB1) (by kernel_rfl) (by kernel_rfl) (by kernel_rfl) (by kernel_rfl) (fun _ _ _ h => h) ?hyB1 (by assumption) ?restB1
                case hyB1 =>
                  intro oi ho
                  simp only [List.getElem?_toArray, List.getElem?_cons_succ, List.getElem?_cons_zero, Option.some.injEq] at ho
                  subst ho
                  refine Or.inl ⟨by rfl, ?_⟩
                  intro wx hSw
                  try dsimp only at hSw
                  go_simp
                  try rfl
                try simp only [Act.put, List.setIfInBounds_toArray, List.set_cons_zero, List.set_cons_succ]
                refine wpAnyH_takeAt (i := 2) (d := 145) (v := ?vB2) (by kernel_rfl) (by kernel_rfl) (by kernel_rfl) (by kernel_rfl) (fun _ _ _ h => h) ?hyB2 (by assumption) ?restB2
                case hyB2 =>
                  intro oi ho
                  simp only [List.getElem?_toArray, List.getElem?_cons_succ, List.getElem?_cons_zero, Option.some.injEq] at ho
                  subst ho
                  refine Or.inl ⟨by rfl, ?_⟩
                  intro wx hSw
                  try dsimp only at hSw
                  go_simp
                  try rfl
                try simp only [Act.put, List.setIfInBounds_toArray, List.set_cons_zero, List.set_cons_succ]
                refine wpAnyH_takeAt (i := 3) (d := 146) (v := ?vB3) (by kernel_rfl) (by kernel_rfl) (by kernel_rfl) (by kernel_rfl) (fun _ _ _ h => h) ?hyB3 (by assumption) ?restB3
                case hyB3 =>
                  intro oi ho
                  simp only [List.getElem?_toArray, List.getElem?_cons_succ, List.getElem?_cons_zero, Option.some.injEq] at ho
                  subst ho
                  refine Or.inl ⟨by rfl, ?_⟩
                  intro wx hSw
                  try dsimp only at hSw
                  go_simp
                  try rfl
                try simp only [Act.put, List.setIfInBounds_toArray, List.set_cons_zero, List.set_cons_succ]
                refine wpAnyH_takeAt (i := 4) (d := 147) (v := ?vB4) (by kernel_rfl) (by kernel_rfl) (by kernel_rfl) (by kernel_rfl) (fun _ _ _ h => h) ?hyB4 (by assumption) ?restB4
                case hyB4 =>
                  intro oi ho
                  simp only [List.getElem?_toArray, List.getElem?_cons_succ, List.getElem?_cons_zero, Option.some.injEq] at ho
                  subst ho
                  refine Or.inl ⟨by rfl, ?_⟩
                  intro wx hSw
                  try dsimp only at hSw
                  go_simp
                  try rfl
                try simp only [Act.put, List.setIfInBounds_toArray, List.set_cons_zero, List.set_cons_succ]
                refine wpAnyH_takeAt (i := 5) (d := 148) (v := ?vB5) (by kernel_rfl) (by kernel_rfl) (by kernel_rfl) (by kernel_rfl) (fun _ _ _ h => h) ?hyB5 (by assumption) ?restB5
                case hyB5 =>
                  intro oi ho
                  simp only [List.getElem?_toArray, List.getElem?_cons_succ, List.getElem?_cons_zero, Option.some.injEq] at ho
                  subst ho
                  refine Or.inl ⟨by rfl, ?_⟩
                  intro wx hSw
                  try dsimp only at hSw
                  go_simp
                  try rfl
                try simp only [Act.put, List.setIfInBounds_toArray, List.set_cons_zero, List.set_cons_succ]
                refine wpAnyH_takeAt (i := 6) (d := 149) (v := ?vB6) (by kernel_rfl) (by kernel_rfl) (by kernel_rfl) (by kernel_rfl) (fun _ _ _ h => h) ?hyB6 (by assumption) ?restB6
                case hyB6 =>
                  intro oi ho
                  simp only [List.getElem?_toArray, List.getElem?_cons_succ, List.getElem?_cons_zero, Option.some.injEq] at ho
                  subst ho
                  refine Or.inl ⟨by rfl, ?_⟩
                  intro wx hSw
                  try dsimp only at hSw
                  go_simp
                  try rfl
                try simp only [Act.put, List.setIfInBounds_toArray, List.set_cons_zero, List.set_cons_succ]
                refine wpAnyH_takeAt (i := 7) (d := 150) (v := ?vB7) (by kernel_rfl) (by kernel_rfl) (by kernel_rfl) (by kernel_rfl) (fun _ _ _ h => h) ?hyB7 (by assumption) ?restB7
                case hyB7 =>
                  intro oi ho
                  simp only [List.getElem?_toArray, List.getElem?_cons_succ, List.getElem?_cons_zero, Option.some.injEq] at ho
                  subst ho
                  refine Or.inl ⟨by rfl, ?_⟩
                  intro wx hSw
                  try dsimp only at hSw
                  go_simp
                  try rfl
                try simp only [Act.put, List.setIfInBounds_toArray, List.set_cons_zero, List.set_cons_succ]
                refine wpAnyH_takeAt (i := 8) (d := 151) (v := ?vB8) (by kernel_rfl) (by kernel_rfl) (by kernel_rfl) (by kernel_rfl) (fun _ _ _ h => h) ?hyB8 (by assumption) ?restB8
                case hyB8 =>
                  intro oi ho
                  simp only [List.getElem?_toArray, List.getElem?_cons_succ, List.getElem?_cons_zero, Option.some.injEq] at ho
                  subst ho
                  refine Or.inl ⟨by rfl, ?_⟩
                  intro wx hSw
                  try dsimp only at hSw
                  go_simp
                  try rfl
                try simp only [Act.put, List.setIfInBounds_toArray, List.set_cons_zero, List.set_cons_succ]
                refine wpAnyH_takeAt (i := 9) (d := 152) (v := ?vB9) (by kernel_rfl) (by kernel_rfl) (by kernel_rfl) (by kernel_rfl) (fun _ _ _ h => h) ?hyB9 (by assumption) ?restB9
                case hyB9 =>
                  intro oi ho
                  simp only [List.getElem?_toArray, List.getElem?_cons_succ, List.getElem?_cons_zero, Option.some.injEq] at ho
                  subst ho
                  refine Or.inl ⟨by rfl, ?_⟩
                  intro wx hSw
                  try dsimp only at hSw
                  go_simp
                  try rfl
                try simp only [Act.put, List.setIfInBounds_toArray, List.set_cons_zero, List.set_cons_succ]
                refine wpAnyH_takeAt (i := 10) (d := 153) (v := ?vB10) (by kernel_rfl) (by kernel_rfl) (by kernel_rfl) (by kernel_rfl) (fun _ _ _ h => h) ?hyB10 (by assumption) ?restB10
                case hyB10 =>
                  intro oi ho
                  simp only [List.getElem?_toArray, List.getElem?_cons_succ, List.getElem?_cons_zero, Option.some.injEq] at ho
                  subst ho
                  refine Or.inl ⟨by rfl, ?_⟩
                  intro wx hSw
                  try dsimp only at hSw
                  go_simp
                  try rfl
                try simp only [Act.put, List.setIfInBounds_toArray, List.set_cons_zero, List.set_cons_succ]
                refine wpAnyH_takeAt (i := 11) (d := 154) (v := ?vB11) (by kernel_rfl) (by kernel_rfl) (by kernel_rfl) (by kernel_rfl) (fun _ _ _ h => h) ?hyB11 (by assumption) ?restB11
                case hyB11 =>
                  intro oi ho
                  simp only [List.getElem?_toArray, List.getElem?_cons_succ, List.getElem?_cons_zero, Option.some.injEq] at ho
                  subst ho
                  refine Or.inl ⟨by rfl, ?_⟩
                  intro wx hSw
                  try dsimp only at hSw
                  go_simp
                  try rfl
                try simp only [Act.put, List.setIfInBounds_toArray, List.set_cons_zero, List.set_cons_succ]
                refine wpAnyH_takeAt (i := 12) (d := 155) (v := ?vB12) (by kernel_rfl) (by kernel_rfl) (by kernel_rfl) (by kernel_rfl) (fun _ _ _ h => h) ?hyB12 (by assumption) ?restB12
                case hyB12 =>
                  intro oi ho
                  simp only [List.getElem?_toArray, List.getElem?_cons_succ, List.getElem?_cons_zero, Option.some.injEq] at ho
                  subst ho
                  refine Or.inl ⟨by rfl, ?_⟩
                  intro wx hSw
                  try dsimp only at hSw
                  go_simp
                  try rfl
                try simp only [Act.put, List.setIfInBounds_toArray, List.set_cons_zero, List.set_cons_succ]
                refine wpAnyH_takeAt (i := 13) (d := 156) (v := ?vB13) (by kernel_rfl) (by kernel_rfl) (by kernel_rfl) (by kernel_rfl) (fun _ _ _ h => h) ?hyB13 (by assumption) ?restB13
                case hyB13 =>
                  intro oi ho
                  simp only [List.getElem?_toArray, List.getElem?_cons_succ, List.getElem?_cons_zero, Option.some.injEq] at ho
                  subst ho
                  refine Or.inl ⟨by rfl, ?_⟩
                  intro wx hSw
                  try dsimp only at hSw
                  go_simp
                  try rfl
                try simp only [Act.put, List.setIfInBounds_toArray, List.set_cons_zero, List.set_cons_succ]
                refine wpAnyH_takeAt (i := 14) (d := 157) (v := ?vB14) (by kernel_rfl) (by kernel_rfl) (by kernel_rfl) (by kernel_rfl) (fun _ _ _ h => h) ?hyB14 (by assumption) ?restB14
                case hyB14 =>
                  intro oi ho
                  simp only [List.getElem?_toArray, List.getElem?_cons_succ, List.getElem?_cons_zero, Option.some.injEq] at ho
                  subst ho
                  refine Or.inl ⟨by rfl, ?_⟩
                  intro wx hSw
                  try dsimp only at hSw
                  go_simp
                  try rfl
                try simp only [Act.put, List.setIfInBounds_toArray, List.set_cons_zero, List.set_cons_succ]
                refine wpAnyH_takeAt (i := 15) (d := 158) (v := ?vB15) (by kernel_rfl) (by kernel_rfl) (by kernel_rfl) (by kernel_rfl) (fun _ _ _ h => h) ?hyB15 (by assumption) ?restB15
                case hyB15 =>
                  intro oi ho
                  simp only [List.getElem?_toArray, List.getElem?_cons_succ, List.getElem?_cons_zero, Option.some.injEq] at ho
                  subst ho
                  refine Or.inl ⟨by rfl, ?_⟩
                  intro wx hSw
                  try dsimp only at hSw
                  go_simp
                  try rfl
                try simp only [Act.put, List.setIfInBounds_toArray, List.set_cons_zero, List.set_cons_succ]
                refine wpAnyH_takeAt (i := 16) (d := 159) (v := ?vB16) (by kernel_rfl) (by kernel_rfl) (by kernel_rfl) (by kernel_rfl) (fun _ _ _ h => h) ?hyB16 (by assumption) ?restB16
                case hyB16 =>
                  intro oi ho
                  simp only [List.getElem?_toArray, List.getElem?_cons_succ, List.getElem?_cons_zero, Option.some.injEq] at ho
                  subst ho
                  refine Or.inl ⟨by rfl, ?_⟩
                  intro wx hSw
                  try dsimp only at hSw
                  go_simp
                  try rfl
                try simp only [Act.put, List.setIfInBounds_toArray, List.set_cons_zero, List.set_cons_succ]
                refine wpAnyH_takeAt (i := 17) (d := 160) (v := ?vB17) (by kernel_rfl) (by kernel_rfl) (by kernel_rfl) (by kernel_rfl) (fun _ _ _ h => h) ?hyB17 (by assumption) ?restB17
                case hyB17 =>
                  intro oi ho
                  simp only [List.getElem?_toArray, List.getElem?_cons_succ, List.getElem?_cons_zero, Option.some.injEq] at ho
                  subst ho
                  refine Or.inl ⟨by rfl, ?_⟩
                  intro wx hSw
                  try dsimp only at hSw
                  go_simp
                  try rfl
                try simp only [Act.put, List.setIfInBounds_toArray, List.set_cons_zero, List.set_cons_succ]
                refine wpAnyH_takeAt (i := 18) (d := 161) (v := ?vB18) (by kernel_rfl) (by kernel_rfl) (by kernel_rfl) (by kernel_rfl) (fun _ _ _ h => h) ?hyB18 (by assumption) ?restB18
                case hyB18 =>
                  intro oi ho
                  simp only [List.getElem?_toArray, List.getElem?_cons_succ, List.getElem?_cons_zero, Option.some.injEq] at ho
                  subst ho
                  refine Or.inl ⟨by rfl, ?_⟩
                  intro wx hSw
                  try dsimp only at hSw
                  go_simp
                  try rfl
                try simp only [Act.put, List.setIfInBounds_toArray, List.set_cons_zero, List.set_cons_succ]
                refine wpAnyH_takeAt (i := 19) (d := 162) (v := ?vB19) (by kernel_rfl) (by kernel_rfl) (by kernel_rfl) (by kernel_rfl) (fun _ _ _ h => h) ?hyB19 (by assumption) ?restB19
                case hyB19 =>
                  intro oi ho
                  simp only [List.getElem?_toArray, List.getElem?_cons_succ, List.getElem?_cons_zero, Option.some.injEq] at ho
                  subst ho
                  refine Or.inl ⟨by rfl, ?_⟩
                  intro wx hSw
                  try dsimp only at hSw
                  go_simp
                  try rfl
                try simp only [Act.put, List.setIfInBounds_toArray, List.set_cons_zero, List.set_cons_succ]
                refine wpAnyH_takeAt (i := 20) (d := 163) (v := ?vB20) (by kernel_rfl) (by kernel_rfl) (by kernel_rfl) (by kernel_rfl) (fun _ _ _ h => h) ?hyB20 (by assumption) ?restB20
                case hyB20 =>
                  intro oi ho
                  simp only [List.getElem?_toArray, List.getElem?_cons_succ, List.getElem?_cons_zero, Option.some.injEq] at ho
                  subst ho
                  refine Or.inl ⟨by rfl, ?_⟩
                  intro wx hSw
                  try dsimp only at hSw
                  go_simp
                  try rfl
                try simp only [Act.put, List.setIfInBounds_toArray, List.set_cons_zero, List.set_cons_succ]
                refine wpAnyH_takeAt (i := 21) (d := 164) (v := ?vB21) (by kernel_rfl) (by kernel_rfl) (by kernel_rfl) (by kernel_rfl) (fun _ _ _ h => h) ?hyB21 (by assumption) ?restB21
                case hyB21 =>
                  intro oi ho
                  simp only [List.getElem?_toArray, List.getElem?_cons_succ, List.getElem?_cons_zero, Option.some.injEq] at ho
                  subst ho
                  refine Or.inl ⟨by rfl, ?_⟩
                  intro wx hSw
                  try dsimp only at hSw
                  go_simp
                  try rfl
                try simp only [Act.put, List.setIfInBounds_toArray, List.set_cons_zero, List.set_cons_succ]
                refine wpAnyH_takeAt (i := 22) (d := 165) (v := ?vB22) (by kernel_rfl) (by kernel_rfl) (by kernel_rfl) (by kernel_rfl) (fun _ _ _ h => h) ?hyB22 (by assumption) ?restB22
                case hyB22 =>
                  intro oi ho
                  simp only [List.getElem?_toArray, List.getElem?_cons_succ, List.getElem?_cons_zero, Option.some.injEq] at ho
                  subst ho
                  refine Or.inl ⟨by rfl, ?_⟩
                  intro wx hSw
                  try dsimp only at hSw
                  go_simp
                  try rfl
                try simp only [Act.put, List.setIfInBounds_toArray, List.set_cons_zero, List.set_cons_succ]
                refine wpAnyH_takeAt (i := 23) (d := 166) (v := ?vB23) (by kernel_rfl) (by kernel_rfl) (by kernel_rfl) (by kernel_rfl) (fun _ _ _ h => h) ?hyB23 (by assumption) ?restB23
                case hyB23 =>
                  intro oi ho
                  simp only [List.getElem?_toArray, List.getElem?_cons_succ, List.getElem?_cons_zero, Option.some.injEq] at ho
                  subst ho
                  refine Or.inl ⟨by rfl, ?_⟩
                  intro wx hSw
                  try dsimp only at hSw
                  go_simp
                  try rfl
                try simp only [Act.put, List.setIfInBounds_toArray, List.set_cons_zero, List.set_cons_succ]
                refine wpAnyH_takeAt (i := 24) (d := 167) (v := ?vB24) (by kernel_rfl) (by kernel_rfl) (by kernel_rfl) (by kernel_rfl) (fun _ _ _ h => h) ?hyB24 (by assumption) ?restB24
                case hyB24 =>
                  intro oi ho
                  simp only [List.getElem?_toArray, List.getElem?_cons_succ, List.getElem?_cons_zero, Option.some.injEq] at ho
                  subst ho
                  refine Or.inl ⟨by rfl, ?_⟩
                  intro wx hSw
                  try dsimp only at hSw
                  go_simp
                  try rfl
                try simp only [Act.put, List.setIfInBounds_toArray, List.set_cons_zero, List.set_cons_succ]
                refine wpAnyH_takeAt (i := 25) (d := 168) (v := ?vB25) (by kernel_rfl) (by kernel_rfl) (by kernel_rfl) (by kernel_rfl) (fun _ _ _ h => h) ?hyB25 (by assumption) ?restB25
                case hyB25 =>
                  intro oi ho
                  simp only [List.getElem?_toArray, List.getElem?_cons_succ, List.getElem?_cons_zero, Option.some.injEq] at ho
                  subst ho
                  refine Or.inl ⟨by rfl, ?_⟩
                  intro wx hSw
                  try dsimp only at hSw
                  go_simp
                  try rfl
                try simp only [Act.put, List.setIfInBounds_toArray, List.set_cons_zero, List.set_cons_succ]
                refine wpAnyH_takeAt (i := 26) (d := 169) (v := ?vB26) (by kernel_rfl) (by kernel_rfl) (by kernel_rfl) (by kernel_rfl) (fun _ _ _ h => h) ?hyB26 (by assumption) ?restB26
                case hyB26 =>
                  intro oi ho
                  simp only [List.getElem?_toArray, List.getElem?_cons_succ, List.getElem?_cons_zero, Option.some.injEq] at ho
                  subst ho
                  refine Or.inl ⟨by rfl, ?_⟩
                  intro wx hSw
                  try dsimp only at hSw
                  go_simp
                  try rfl
                try simp only [Act.put, List.setIfInBounds_toArray, List.set_cons_zero, List.set_cons_succ]
                refine wpAnyH_takeAt (i := 27) (d := 170) (v := ?vB27) (by kernel_rfl) (by kernel_rfl) (by kernel_rfl) (by kernel_rfl) (fun _ _ _ h => h) ?hyB27 (by assumption) ?restB27
                case hyB27 =>
                  intro oi ho
                  simp only [List.getElem?_toArray, List.getElem?_cons_succ, List.getElem?_cons_zero, Option.some.injEq] at ho
                  subst ho
                  refine Or.inl ⟨by rfl, ?_⟩
                  intro wx hSw
                  try dsimp only at hSw
                  go_simp
                  try rfl
                try simp only [Act.put, List.setIfInBounds_toArray, List.set_cons_zero, List.set_cons_succ]
                refine wpAnyH_takeAt (i := 28) (d := 171) (v := ?vB28) (by kernel_rfl) (by kernel_rfl) (by kernel_rfl) (by kernel_rfl) (fun _ _ _ h => h) ?hyB28 (by assumption) ?restB28
                case hyB28 =>
                  intro oi ho
                  simp only [List.getElem?_toArray, List.getElem?_cons_succ, List.getElem?_cons_zero, Option.some.injEq] at ho
                  subst ho
                  refine Or.inl ⟨by rfl, ?_⟩
                  intro wx hSw
                  try dsimp only at hSw
                  go_simp
                  try rfl
                try simp only [Act.put, List.setIfInBounds_toArray, List.set_cons_zero, List.set_cons_succ]
                refine wpAnyH_done (by kernel_rfl) ?_ _
                refine NoPanic.normal ?_
                have HR3 := HR2.out.drew.hid
                clear HR2 hHeld
                go_wp2_with fail
                go_roundw
                case rel => exact ⟨j + 1, by omega, by go_num, rfl, hy1, HR3.out⟩
                case measure => simp [intOf]; omega
            · have he1 := HJ.out
              rw [if_neg (by omega)] at he1
              have he2 : Hid (e0 kf T tf j = (acc kf T tf (j + 1)).length) := by have h := he1; unfold e1 at h; exact (by omega : e0 kf T tf j = (acc kf T tf (j + 1)).length)
              clear he1
              go_wp2_with fail
              go_roundw
              case rel => exact ⟨j + 1, by omega, by go_num, by rw [he2.out], by rw [← he2.out]; exact hx1, HRR.out⟩
              case measure => simp [intOf]; omega
        · obtain rfl : j = k := by omega
          have hcc : c = (acc kf T tf j).length := by omega
          go_wp2_with (go_at_call 8; refine (told_any _).mono ?_; rintro e w8 ⟨rfl, hb8⟩)
          go_ret
          exact ⟨by simp, HRR.out.bel.trans (hb8.mono HRR.out.bel.size)⟩

set_option maxRecDepth 100000 in
set_option maxHeartbeats 4000000 in
theorem wireRow_none (a0 : Option Addr) (cap0 : Nat) (a1 : Option Addr) (T cap1 : Nat) (cut : Int) (w : World) :
    Calls Try.prog 3 #[.slice a0 0 cap0, .slice a1 T cap1, .int .i64 cut] w fun e w' => e = .returned (.bool true) ∧ Below w.heap.size w w' := by
  obtain ⟨q, hq, hcut⟩ := mask40 cut
  go_enter Try.func3, Try.ntmps3
  go_wp2_with fail
  go_loopw [7, 8, 10] (fun v u i wr => v = .slice none 0 0 ∧ u = .slice none 0 0 ∧ i = .int .i64 0 ∧ w = wr) (fun _ _ _ _ => 0)
  case atStart => exact ⟨rfl, rfl, rfl, rfl⟩
  case round =>
    obtain ⟨rfl, rfl, rfl, rfl⟩ := hrel
    go_wp2_with fail
    refine (roomy_any none 0 0 [] w (BS.none _ _ _ (by omega) (fun _ => rfl)) (by omega)).mono ?_
    rintro e w1 ⟨g, cc, rfl, _, _, hb1⟩
    go_wp2_with fail
    go_loopw [12, 13] (fun p i wr => p = .int .i64 0 ∧ i = .int .i64 0 ∧ w1 = wr) (fun _ _ _ => 0)
    case atStart => exact ⟨rfl, rfl, rfl⟩
    case round =>
      obtain ⟨rfl, rfl, rfl⟩ := hrel
      go_wp2_with (go_at_call 8; refine (told_any _).mono ?_; rintro e w8 ⟨rfl, hb8⟩)
      go_ret
      exact ⟨rfl, hb1.trans (hb8.mono hb1.size)⟩
end Go.Proofs.Ytblgagjifaeadab
