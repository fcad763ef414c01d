/- Contract of the document's own Key: the bytes of a list of values, or the first one's error that is not Right. -/
import Derived.Test.YtadkmnckjennoaaDoorD4
import Derived.Test.YtadkmnckjennoaaDoorC3
import Derived.Test.YtadkmnckjennoaaDoorE2
set_option linter.unusedVariables false
namespace Go.Proofs.YtadkmnckjennoaaDoor
open Go.RowKit

theorem cell_blkK {w : World} {p i : Nat} {cs : Array Value} {t : TypeId} (h : w.heap[p]? = some (.cells cs t (0, 0))) : w.cell? ⟨p, i, none⟩ = cs[i]? := cell_of_row w p i cs t (0, 0) h
/-- A row of another type stays when a row grows. -/
theorem row_other {wx w1 : World} {B1 B2 e1 e2 n1 n2 : Nat} {v1 v2 : Value} {l1 l2 : List Value} (h : wx.ownsRow B1 e1 1 v1 n1 l1) (ho : wx.ownsRow B2 e2 1 v2 n2 l2) (hne : e1 ≠ e2) (hg : wx.grownBy w1 v2.ownBlock) : w1.ownsRow B1 e1 1 v1 n1 l1 := by
  refine h.kept hg ?_
  rcases h.2 with ⟨rfl, _⟩ | ⟨g, cap, cur, rfl, _, hc, _⟩
  · exact Or.inl rfl
  · right
    intro e
    rcases ho.2 with ⟨rfl, _⟩ | ⟨g', cap', cur', rfl, _, hc', _⟩
    · cases e
    · have : g = g' := Option.some.inj e
      subst this
      rw [hc] at hc'
      simp only [Option.some.injEq, Obj.cells.injEq] at hc'
      exact hne hc'.2.1
/-- While Key's bytes grow beside the value that is being written. -/
structure KQ (B : Nat) (w wr : World) (v : Value) (ys : List Nat) (g : Nat) (k n : Int) (s : ByteArray) : Prop where
  gr : GR B w (.slice none 0 0) wr v ys
  cell : wr.heap[g]? = some (.cells #[.int .i64 k, .int .i64 n, .string s] 23 (0, 0))
section
variable {B : Nat} {w wr w1 : World} {v v1 : Value} {ys zs : List Nat} {g : Nat} {k n : Int} {s : ByteArray}
theorem KQ.later (h : KQ B w wr v ys g k n s) (hb : Below wr.heap.size wr w1) : KQ B w w1 v ys g k n s :=
  ⟨h.gr.later hb, (hb.block g (Array.getElem?_eq_some_iff.1 h.cell).1).trans h.cell⟩
theorem KQ.step (h : KQ B w wr v ys g k n s) (q : GR B wr v w1 v1 zs) : KQ B w w1 v1 zs g k n s := by
  refine ⟨h.gr.trans q, (q.kept (Array.getElem?_eq_some_iff.1 h.cell).1 ?_).trans h.cell⟩
  intro e
  rcases h.gr.own.2 with ⟨rfl, _⟩ | ⟨g', cap', cur', rfl, _, hc', _⟩
  · cases e
  · have : g = g' := Option.some.inj e
    subst this
    have hc := h.cell
    rw [hc] at hc'
    simp only [Option.some.injEq, Obj.cells.injEq] at hc'
    exact absurd hc'.2.1 (by decide)
theorem KQ.size (h : KQ B w wr v ys g k n s) : B ≤ wr.heap.size := Nat.le_trans h.gr.base h.gr.size
theorem KQ.here (h : KQ B w wr v ys g k n s) : GR B wr v wr v ys := GR.start h.gr.own h.size
theorem KQ.c0 (h : KQ B w wr v ys g k n s) : wr.cell? ⟨g, 0, none⟩ = some (.int .i64 k) := cell_blkK h.cell
theorem KQ.c1 (h : KQ B w wr v ys g k n s) : wr.cell? ⟨g, 1, none⟩ = some (.int .i64 n) := cell_blkK h.cell
theorem KQ.c2 (h : KQ B w wr v ys g k n s) : wr.cell? ⟨g, 2, none⟩ = some (.string s) := cell_blkK h.cell
end
theorem hiB3 (n : Nat) : hiB n 3 = [n / 65536 % 256, n / 256 % 256, n % 256] := by simp [hiB, List.range_succ]
theorem runeB_take {rs : List Nat} {k : Nat} (hk : k < rs.length) : runeB (rs.take (k + 1)) = runeB (rs.take k) ++ hiB (rs.getD k 0 + 1) 3 := by
  rw [List.take_add_one]
  unfold runeB
  rw [List.flatMap_append]
  congr 1
  simp [List.getD, hk]
theorem rcells_get {rs : List Nat} {k : Nat} (hk : k < rs.length) : (rcells rs)[k]? = some (.int .i32 (rs.getD k 0 : Nat)) := by
  unfold rcells
  rw [List.getElem?_map, List.getElem?_eq_getElem hk]
  simp [List.getD, hk]
theorem bytes0 (n : Int) (s : ByteArray) : Val.bytes (0, n, s) = [1] := by simp [Val.bytes, holdOf, H.bytes]
theorem bytes1 (n : Int) (s : ByteArray) : Val.bytes (1, n, s) = 2 :: hiB (numB n) 8 := by simp [Val.bytes, holdOf, H.bytes]
theorem bytes2 {n : Int} {s : ByteArray} {rs : List Nat} (h : runes (bl s) = some rs) : Val.bytes (2, n, s) = 3 :: (runeB rs ++ [0, 0, 0]) := by simp [Val.bytes, holdOf, H.bytes, h, hiB3]
theorem bytes3 {n : Int} {s : ByteArray} {x : Nat} (h : n = (x : Int)) (hx : x ≤ 1) : Val.bytes (3, n, s) = [4, x] := by
  subst h
  have : x = 0 ∨ x = 1 := by omega
  rcases this with rfl | rfl <;> simp [Val.bytes, holdOf, H.bytes, bi]

set_option maxRecDepth 100000 in
set_option maxHeartbeats 4000000 in
theorem refKey_any (a : Option Addr) (len cap : Nat) (vs : List Val) (w : World) (h : VS w a len cap vs) (ht : (keyBytes vs).length ≤ 549755813888) (hz : ∀ x ∈ vs, x.2.2.size ≤ 1048576) :
    Calls Tryd.prog 16 #[.slice a len cap] w fun e w' => KeyR vs w.heap.size e w' ∧ Below w.heap.size w w' := by
  have hm := h.hmax
  have hc := h.hcap
  have hm2 := h.hroom
  have HV := hidc h
  have HT := hidc ht
  have HZ := hidc hz
  clear ht h hz
  go_enter Tryd.func16, Tryd.ntmps16
  go_wp2
  go_loopw [4, 5] (fun v i wr => ∃ k : Nat, k ≤ len ∧ i = .int .i64 k ∧ GR w.heap.size w (.slice none 0 0) wr v (keyBytes (vs.take k)) ∧ ∀ i, i < k → i < vs.length → (vs.getD i (0, 0, ⟨#[]⟩)).err = 0) (fun _ i _ => len - (intOf i).toNat)
  case atStart => exact ⟨0, by omega, rfl, GR.start (World.ownsRow_nil _ _ _ _) (Nat.le_refl _), fun i hi => absurd hi (by omega)⟩
  case round =>
    obtain ⟨k, hk, rfl, hG, hE⟩ := hrel
    have HG := hG.hid
    have HE := hidc hE
    clear hG hE
    by_cases hlt : k < len
    · obtain ⟨b, o, ha⟩ := HV.out.hform (by omega)
      subst ha
      have hvl : k < vs.length := by rw [HV.out.hlen]; exact hlt
      obtain ⟨x, HX⟩ : ∃ x, Hid (vs.getD k (0, 0, ⟨#[]⟩) = x) := ⟨_, rfl⟩
      have HOK := hidc (ok_getD HV.out.hok k hvl)
      have hbw := HV.out.lt (by omega)
      have hcs := HV.out.hcell b o rfl k hlt
      have hsz : x.2.2.size ≤ 1048576 := by
        rw [← HX.out]
        apply HZ.out
        simp [List.getD, hvl]
      rw [HX.out] at hcs HOK
      obtain ⟨c0, c1, c2⟩ := hcs
      have hbel := HG.out.below
      rw [← hbel.cell (p := ⟨b, o + k * 3, none⟩) hbw] at c0
      rw [← hbel.cell (p := ⟨b, o + k * 3 + 1, none⟩) hbw] at c1
      rw [← hbel.cell (p := ⟨b, o + k * 3 + 2, none⟩) hbw] at c2
      clear hbel
      obtain ⟨xk, xn, xs⟩ := x
      simp only at c0 c1 c2 hsz
      obtain ⟨-, -, o3, o4, o5⟩ := HOK.out
      simp only at o3 o4 o5
      have HL := hidc (Nat.le_trans (keyBytes_le vs k) HT.out)
      have HK0 : Hid (KQ w.heap.size w (wr.alloc (.cells #[.int .i64 xk, .int .i64 xn, .string xs] 23)) _ (keyBytes (vs.take k)) wr.heap.size xk xn xs) := ⟨HG.out.alloc _, heap_alloc_new wr _⟩
      have HR := hidc (fun ww => refRight_any xk xn xs ww hsz)
      by_cases he : rightOf xk xn xs = 0
      · rw [he] at HR
        have HKB := hidc (keyBytes_take hvl)
        rw [HX.out] at HKB
        have HEK : Hid (∀ i, i < k + 1 → i < vs.length → (vs.getD i (0, 0, ⟨#[]⟩)).err = 0) := by
          intro i hi hil
          by_cases hik : i = k
          · subst hik; rw [HX.out]; exact he
          · exact HE.out i (by omega) hil
        obtain ⟨hkd, h2⟩ := right_kind he
        obtain ⟨ys, HYS⟩ : ∃ ys, Hid (keyBytes (vs.take k) = ys) := ⟨_, rfl⟩
        rw [HYS.out] at HL HK0 HKB
        have hyl : ys.length ≤ 549755813888 := HL.out
        go_wp2_with fail
        refine (HR.out _).mono ?_
        rintro e w1 ⟨rfl, hb1⟩
        have HK1 := hidc (HK0.out.later hb1)
        clear hb1 c0 c1 c2
        rcases hkd with rfl | rfl | rfl | rfl
        · have c10 := HK1.out.c0
          go_wp2_with (at_builtin; refine wpList_append_g rfl (.tmp 29) (.tmp 34) rfl w.heap.size w1 _ _ _ rfl (HK1.out.here.alloc _) w1.heap.size 1 1 [1] rfl rfl (news1 _ _ _) (by simp; omega) ?_)
          intro v2 w2 hR2
          have HK2 := hidc (HK1.out.step hR2)
          clear hR2
          have c20 := HK2.out.c0
          have c21 := HK2.out.c1
          have c22 := HK2.out.c2
          go_wp2
          go_roundw
          case rel =>
            refine ⟨k + 1, by omega, by go_num, ?_, HEK.out⟩
            rw [HKB.out, bytes0]
            have := HK2.out.gr
            simpa using this
          case measure => simp [intOf]; omega
        · have hxn := xor_num xn o3 o4
          have hNB := numB_lt xn o3 o4
          have HBB := hidc (bytes1 xn xs)
          obtain ⟨nn, HNN⟩ : ∃ nn, Hid (numB xn = nn) := ⟨_, rfl⟩
          rw [HNN.out] at hxn hNB HBB
          have c10 := HK1.out.c0
          go_wp2_with (at_builtin; refine wpList_append_g rfl (.tmp 29) (.tmp 34) rfl w.heap.size w1 _ _ _ rfl (HK1.out.here.alloc _) w1.heap.size 1 1 [2] rfl rfl (news1 _ _ _) (by simp; omega) ?_)
          intro v2 w2 hR2
          have HK2 := hidc (HK1.out.step hR2)
          clear hR2
          have c20 := HK2.out.c0
          have c21 := HK2.out.c1
          have c22 := HK2.out.c2
          go_wp2_with fail
          go_loopw [9, 4] (fun i bb wx => ∃ m : Nat, m ≤ 8 ∧ i = .int .i64 ((m : Int) - 1) ∧ KQ w.heap.size w wx bb (ys ++ [2] ++ (hiB nn 8).take (8 - m)) wr.heap.size 1 xn xs) (fun i _ _ => ((intOf i) + 1).toNat)
          case atStart => exact ⟨8, by omega, rfl, by simpa using HK2.out⟩
          case round =>
            obtain ⟨m, hm8, rfl, hKm⟩ := hrel
            have HKm := hidc hKm
            clear hKm HK2 c20 c21 c22
            cases m with
            | zero =>
              have HF := HKm.out.gr
              rw [List.take_of_length_le (by rw [hiB_len]; omega)] at HF
              have HFF := hidc HF
              clear HF
              go_wp2
              go_roundw
              case rel =>
                refine ⟨k + 1, by omega, by go_num, ?_, HEK.out⟩
                rw [HKB.out, HBB.out]
                have := HFF.out
                simpa using this
              case measure => simp [intOf]; omega
            | succ m =>
              have em : ((m + 1 : Nat) : Int) - 1 = (m : Int) := by omega
              rw [em]
              obtain ⟨x, HX2, hx⟩ : ∃ x : Nat, Hid (nn / 256 ^ m % 256 = x) ∧ (nn : Int) / 2 ^ (8 * m) % 256 = (x : Int) := by
                refine ⟨nn / 256 ^ m % 256, rfl, ?_⟩
                have e : (2 : Nat) ^ (8 * m) = 256 ^ m := by rw [Nat.pow_mul]
                have e2 : ((2 : Int) ^ (8 * m)) = ((256 ^ m : Nat) : Int) := by rw [← e]; simp
                rw [e2]
                simp
              obtain ⟨zs, HZS⟩ : ∃ zs, Hid (ys ++ [2] ++ (hiB nn 8).take (8 - (m + 1)) = zs) := ⟨_, hidc rfl⟩
              have hzl : zs.length ≤ 549755814888 := by rw [← HZS.out]; simp [hiB_len]; omega
              rw [HZS.out] at HKm
              go_wp2_with (at_builtin; refine wpList_append_g rfl (.tmp 56) (.tmp 63) rfl w.heap.size wr _ _ _ rfl (HKm.out.here.alloc _) wr.heap.size 1 1 [x] rfl rfl (news1 _ _ _) (by omega) ?_)
              intro v3 w3 hR3
              have HK3 := hidc (HKm.out.step hR3)
              clear hR3
              go_wp2
              go_roundw
              case rel =>
                refine ⟨m, by omega, by go_num, ?_⟩
                have e9 := hiB_take nn 8 (8 - (m + 1)) (by omega)
                rw [show 8 - (m + 1) + 1 = 8 - m by omega, show 8 - 1 - (8 - (m + 1)) = m by omega, HX2.out] at e9
                have := HK3.out
                rw [← HZS.out] at this
                rw [e9, ← List.append_assoc]
                exact this
              case measure => first | (simp [intOf]; done) | (simp [intOf]; omega)
        · obtain ⟨rs, hrs⟩ := h2 rfl
          have HBB := hidc (bytes2 (n := xn) hrs)
          have hrl : rs.length ≤ 1048576 := by have := runes_len hrs; rw [bl_len] at this; omega
          have HVR := hidc ((runes_iff _ _).1 hrs).2
          have HDC := hidc (fun ww => decode_any xs ww hsz)
          unfold DecR at HDC
          rw [hrs] at HDC
          have c10 := HK1.out.c0
          go_wp2_with (at_builtin; refine wpList_append_g rfl (.tmp 29) (.tmp 34) rfl w.heap.size w1 _ _ _ rfl (HK1.out.here.alloc _) w1.heap.size 1 1 [3] rfl rfl (news1 _ _ _) (by simp; omega) ?_)
          intro v2 w2 hR2
          have HK2 := hidc (HK1.out.step hR2)
          clear hR2
          have c20 := HK2.out.c0
          have c21 := HK2.out.c1
          have c22 := HK2.out.c2
          go_wp2_with fail
          refine (HDC.out _).mono ?_
          rintro e w3 ⟨⟨vr3, rfl, ho3⟩, hb3⟩
          have HK3 := hidc (HK2.out.later hb3)
          have HRO := hidc ho3
          clear ho3 hb3 c20 c21 c22
          obtain ⟨ar, cr, hvr, hcr, hcm⟩ : ∃ ar cr, vr3 = .slice ar rs.length cr ∧ rs.length ≤ cr ∧ cr ≤ 9223372036854775807 := by
            rcases HRO.out.2 with ⟨rfl, h0⟩ | ⟨g, cap, cur, rfl, _, _, h5, h6, _⟩
            · exact ⟨none, 0, by rw [h0], by omega, by omega⟩
            · exact ⟨_, cap, rfl, h5, by unfold maxLen at h6; omega⟩
          subst hvr
          go_wp2_with fail
          go_loopw [12, 4] (fun i bb wx => ∃ m : Nat, m ≤ rs.length ∧ i = .int .i64 m ∧ KQ w.heap.size w wx bb (ys ++ [3] ++ runeB (rs.take m)) wr.heap.size 2 xn xs ∧ wx.ownsRow w2.heap.size 21 1 (.slice ar rs.length cr) rs.length (rcells rs)) (fun i _ _ => rs.length - (intOf i).toNat)
          case atStart => exact ⟨0, by omega, rfl, by simpa [runeB] using HK3.out, HRO.out⟩
          case round =>
            obtain ⟨m, hm, rfl, hKm, hRm⟩ := hrel
            have HKm := hidc hKm
            have HRm := hidc hRm
            clear hKm hRm HK2 HK3 HRO
            obtain ⟨zs, HZS⟩ : ∃ zs, Hid (ys ++ [3] ++ runeB (rs.take m) = zs) := ⟨_, hidc rfl⟩
            have hzl : zs.length ≤ 549765813888 := by rw [← HZS.out]; simp [runeB_len]; omega
            rw [HZS.out] at HKm
            by_cases hlm : m < rs.length
            · have i1 : (m : Int) < (rs.length : Int) := by omega
              obtain ⟨g, rfl⟩ : ∃ g, ar = some ⟨g, 0, none⟩ := by
                rcases HRm.out.2 with ⟨e, h0⟩ | ⟨g, cap, cur, e, _⟩
                · omega
                · simp only [Value.slice.injEq] at e; exact ⟨g, e.1⟩
              have rc := (HRm.out.cellAt m (by omega)).trans (rcells_get hlm)
              have HTK := hidc (runeB_take hlm)
              obtain ⟨r, HRR⟩ : ∃ r, Hid (rs.getD m 0 = r) := ⟨_, rfl⟩
              have hr1 : r ≤ 1114111 := by
                have : vr (rs.getD m 0) := by apply HVR.out; simp [List.getD, hlm]
                rw [HRR.out] at this
                unfold vr at this
                omega
              rw [HRR.out] at rc HTK
              rw [hiB3] at HTK
              have hrI : (r : Int) ≤ 1114111 := by omega
              generalize rs.length = rl at *
              go_wp2_with (at_builtin; refine wpList_append_g rfl (.tmp 84) (.tmp 93) rfl w.heap.size wr _ _ _ rfl (HKm.out.here.alloc _) wr.heap.size 3 3 [(r + 1) / 65536 % 256, (r + 1) / 256 % 256, (r + 1) % 256] rfl rfl (newsN3 _ _ _ _ _ _ _ _ (by omega) (by omega) (by omega)) (by omega) ?_)
              intro v4 w4 hR4
              have HK4 := hidc (HKm.out.step hR4)
              have HR4 := hidc (row_other HRm.out HKm.out.gr.own (by decide) hR4.grown)
              clear hR4
              go_wp2
              go_roundw
              case rel =>
                refine ⟨m + 1, by omega, by go_num, ?_, HR4.out⟩
                have := HK4.out
                rw [← HZS.out] at this
                rw [HTK.out, ← List.append_assoc]
                exact this
              case measure => simp [intOf]; omega
            · have i1 : ¬ (m : Int) < (rs.length : Int) := by omega
              have HTE : Hid (rs.take m = rs) := List.take_of_length_le (by omega)
              generalize hrl9 : rs.length = rl at *
              clear hrl9
              go_wp2_with (at_builtin; refine wpList_append_g rfl (.tmp 95) (.tmp 96) rfl w.heap.size wr _ _ _ rfl (HKm.out.here.alloc _) wr.heap.size 3 3 [0, 0, 0] rfl rfl (newsN3 _ _ _ _ _ _ _ _ (by omega) (by omega) (by omega)) (by omega) ?_)
              intro v4 w4 hR4
              have HK4 := hidc (HKm.out.step hR4)
              clear hR4
              go_wp2
              go_roundw
              case rel =>
                refine ⟨k + 1, by omega, by go_num, ?_, HEK.out⟩
                have := HK4.out.gr
                rw [← HZS.out, HTE.out] at this
                rw [HKB.out, HBB.out]
                simpa using this
              case measure => simp [intOf]; omega
        · have hn : xn = 0 ∨ xn = 1 := by
            have := he
            rw [r3] at this
            by_cases q : xs.toList.isEmpty = true ∧ (xn = 0 ∨ xn = 1)
            · exact q.2
            · rw [if_neg q] at this; omega
          obtain ⟨x, hx⟩ : ∃ x : Nat, xn = (x : Int) := ⟨xn.toNat, by omega⟩
          have hx1 : x ≤ 1 := by omega
          have HBB := hidc (bytes3 (s := xs) hx hx1)
          subst hx
          have hx2 : (x : Int) % 256 = (x : Int) := by omega
          clear hn
          have c10 := HK1.out.c0
          go_wp2_with (at_builtin; refine wpList_append_g rfl (.tmp 29) (.tmp 34) rfl w.heap.size w1 _ _ _ rfl (HK1.out.here.alloc _) w1.heap.size 1 1 [4] rfl rfl (news1 _ _ _) (by simp; omega) ?_)
          intro v2 w2 hR2
          have HK2 := hidc (HK1.out.step hR2)
          clear hR2
          have c20 := HK2.out.c0
          have c21 := HK2.out.c1
          have c22 := HK2.out.c2
          go_wp2_with (at_builtin; refine wpList_append_g rfl (.tmp 40) (.tmp 44) rfl w.heap.size w2 v2 _ _ rfl (HK2.out.here.alloc _) w2.heap.size 1 1 [x] rfl rfl (news1 _ _ _) (by simp; omega) ?_)
          intro v3 w3 hR3
          have HK3 := hidc (HK2.out.step hR3)
          clear hR3
          have c30 := HK3.out.c0
          have c31 := HK3.out.c1
          have c32 := HK3.out.c2
          go_wp2
          go_roundw
          case rel =>
            refine ⟨k + 1, by omega, by go_num, ?_, HEK.out⟩
            rw [HKB.out, HBB.out]
            have := HK3.out.gr
            simpa using this
          case measure => simp [intOf]; omega
      · have he2 : (rightOf xk xn xs != 0) = true := by simp [he]
        have e : keyErr vs = rightOf xk xn xs := by
          have := keyErr_at hvl HE.out (by rw [HX.out]; exact he)
          rw [HX.out] at this
          exact this
        have HEE := hidc e
        clear e
        go_wp2_with fail
        refine (HR.out _).mono ?_
        rintro e w1 ⟨rfl, hb1⟩
        have HK1 := hidc (HK0.out.later hb1)
        clear hb1
        go_wp2
        go_ret2
        unfold KeyR
        rw [HEE.out, if_neg he]
        exact ⟨rfl, HK1.out.gr.below⟩
    · go_wp2
      go_ret2
      have e : k = vs.length := by rw [HV.out.hlen]; omega
      have e0 : keyErr vs = 0 := keyErr_all fun i hi => HE.out i (by omega) hi
      unfold KeyR
      rw [e0, if_pos rfl]
      have hG := HG.out
      rw [List.take_of_length_le (by omega)] at hG
      exact ⟨⟨_, rfl, hG.own⟩, hG.below⟩
end Go.Proofs.YtadkmnckjennoaaDoor
