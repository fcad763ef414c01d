/- schema.Right. -/
import Derived.Test.YtcophbkgighepaaH4
set_option linter.unusedVariables false
namespace Go.Proofs.Ytcophbkgighepaa
open Go.RowKit

/-- A schema: its name, its columns, its indexes. -/
structure Sch where
  nm : ByteArray
  cs : List Col
  xs : List Idx
def Sch.ok (s : Sch) : Bool := isNm s.nm && colsOk s.cs && ixsOk s.cs.length s.xs
/-- A schema as it is handed on: its rows lie in the world. -/
structure SC (w : World) (ca : Option Addr) (cl cc : Nat) (xa : Option Addr) (xl xc : Nat) (s : Sch) : Prop where
  c : SV fC 3 w ca cl cc s.cs
  x : SV fX 2 w xa xl xc s.xs
theorem SC.later {w w' : World} {ca xa : Option Addr} {cl cc xl xc : Nat} {s : Sch} (h : SC w ca cl cc xa xl xc s) (hb : Below w.heap.size w w') : SC w' ca cl cc xa xl xc s := ⟨h.c.later hb, h.x.later hb⟩
def Sch.err (s : Sch) : Int := if s.ok then 0 else 61
set_option maxRecDepth 100000 in
set_option maxHeartbeats 2000000 in
theorem sright_any {w : World} {ca xa : Option Addr} {cl cc xl xc : Nat} {s : Sch} (h : SC w ca cl cc xa xl xc s) :
    Calls Try.prog 8 #[.agg #[.string s.nm, .slice ca cl cc, .slice xa xl xc]] w fun e w' => e = .returned (.int .i64 s.err) ∧ Below w.heap.size w w' := by
  have hbx := below_box w (.cells #[.string s.nm, .slice ca cl cc, .slice xa xl xc] 25)
  have HR1 : Hid ((w.alloc (.cells #[.string s.nm, .slice ca cl cc, .slice xa xl xc] 25)).heap[w.heap.size]? = some (.cells #[.string s.nm, .slice ca cl cc, .slice xa xl xc] 25 (0, 0))) := boxed w _
  have H1 := hide (h.later hbx)
  have HW1 := hide hbx
  have HNM := hide (name_any s.nm (w.alloc (.cells #[.string s.nm, .slice ca cl cc, .slice xa xl xc] 25)))
  have HCL := hide h.c.hl
  clear h hbx
  go_enter Try.func8, Try.ntmps8
  go_upto_region 1 with fail
  generalize w.alloc (.cells #[.string s.nm, .slice ca cl cc, .slice xa xl xc] 25) = w1 at *
  generalize hL : w.heap.size = L at *
  have z0 : w1.cell? ⟨L, 0, none⟩ = some (.string s.nm) := cell_blk HR1.out
  have z1 : w1.cell? ⟨L, 1, none⟩ = some (.slice ca cl cc) := cell_blk HR1.out
  cases hn : isNm s.nm with
  | false =>
    have HE : Hid (s.err = 61) := if_neg (by unfold Sch.ok; rw [hn]; simp)
    rw [hn] at HNM
    go_wp2_with fail
    refine HNM.out.mono ?_
    rintro e w2 ⟨rfl, hb2⟩
    have HW2 : Hid (Below L w w2) := HW1.out.trans (hb2.mono (by have := blk_lt HR1.out; omega))
    clear hb2
    go_wp2
    go_ret
    exact ⟨by rw [HE.out]; rfl, by first | exact HW2.out | (rw [hL]; exact HW2.out)⟩
  | true =>
    have HN := hide hn
    rw [hn] at HNM
    clear hn
    go_wp2_with fail
    refine HNM.out.mono ?_
    rintro e w2 ⟨rfl, hb2⟩
    have HW2 : Hid (Below L w w2) := HW1.out.trans (hb2.mono (by have := blk_lt HR1.out; omega))
    have HR2 := hide ((hb2.block L (blk_lt HR1.out)).trans HR1.out)
    have H2 := hide (H1.out.later hb2)
    have u1 : w2.cell? ⟨L, 1, none⟩ = some (.slice ca cl cc) := cell_blk HR2.out
    have HCO := hide (areCols_any H2.out.c)
    clear hb2 z0 z1 HNM H1 HR1
    cases hc : colsOk s.cs with
    | false =>
      have HE : Hid (s.err = 61) := if_neg (by unfold Sch.ok; rw [hc]; simp)
      rw [hc] at HCO
      go_wp2_with fail
      refine HCO.out.mono ?_
      rintro e w3 ⟨rfl, hb3⟩
      have HW3 : Hid (Below L w w3) := HW2.out.trans (hb3.mono (by have := blk_lt HR2.out; omega))
      clear hb3
      go_wp2
      go_ret
      exact ⟨by rw [HE.out]; rfl, by first | exact HW3.out | (rw [hL]; exact HW3.out)⟩
    | true =>
      have HC := hide hc
      rw [hc] at HCO
      clear hc
      go_wp2_with fail
      refine HCO.out.mono ?_
      rintro e w3 ⟨rfl, hb3⟩
      have HW3 : Hid (Below L w w3) := HW2.out.trans (hb3.mono (by have := blk_lt HR2.out; omega))
      have HR3 := hide ((hb3.block L (blk_lt HR2.out)).trans HR2.out)
      have H3 := hide (H2.out.later hb3)
      have t1 : w3.cell? ⟨L, 1, none⟩ = some (.slice ca cl cc) := cell_blk HR3.out
      have t2 : w3.cell? ⟨L, 2, none⟩ = some (.slice xa xl xc) := cell_blk HR3.out
      have HXO := hide (areIxs_any (n := cl) H3.out.x)
      rw [← HCL.out] at HXO
      have HOK : Hid (s.ok = ixsOk s.cs.length s.xs) := by show _ = _; unfold Sch.ok; rw [HN.out, HC.out]; rfl
      generalize ixsOk s.cs.length s.xs = okx at *
      rw [HCL.out] at HXO
      clear hb3 u1 HCO
      cases okx with
      | false =>
        have HE : Hid (s.err = 61) := if_neg (by rw [HOK.out]; decide)
        go_wp2_with fail
        refine HXO.out.mono ?_
        rintro e w4 ⟨rfl, hb4⟩
        have HW4 : Hid (Below L w w4) := HW3.out.trans (hb4.mono (by have := blk_lt HR3.out; omega))
        clear hb4
        go_wp2
        go_ret
        exact ⟨by rw [HE.out]; rfl, by first | exact HW4.out | (rw [hL]; exact HW4.out)⟩
      | true =>
        have HE : Hid (s.err = 0) := if_pos HOK.out
        go_wp2_with fail
        refine HXO.out.mono ?_
        rintro e w4 ⟨rfl, hb4⟩
        have HW4 : Hid (Below L w w4) := HW3.out.trans (hb4.mono (by have := blk_lt HR3.out; omega))
        clear hb4
        go_wp2
        go_ret
        exact ⟨by rw [HE.out]; rfl, by first | exact HW4.out | (rw [hL]; exact HW4.out)⟩
end Go.Proofs.Ytcophbkgighepaa
