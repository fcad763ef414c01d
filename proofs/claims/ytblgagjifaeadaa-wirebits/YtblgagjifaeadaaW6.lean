/- The walk of the law WireBits. -/
import Derived.Test.YtblgagjifaeadaaW1b
import Derived.Test.YtblgagjifaeadaaM6
import Derived.Test.YtblgagjifaeadaaM5
import Derived.BigRegion
namespace Go.Proofs.Ytblgagjifaeadaa
open Go.RowKit
attribute [local go_sem ↓] Go.wp_at_zero Go.wp_at_succ

theorem mask40 (n : Int) : ∃ k : Nat, k < 1099511627776 ∧ bits .and .i64 n 1099511627775 = (k : Int) := by
  refine ⟨((BitVec.ofInt 64 n).toNat &&& 1099511627775), ?_, ?_⟩
  · have := @Nat.and_le_right (BitVec.ofInt 64 n).toNat 1099511627775
    omega
  · have h := @Nat.and_le_right (BitVec.ofInt 64 n).toNat 1099511627775
    have e : (BitVec.ofInt 64 1099511627775).toNat = 1099511627775 := by decide
    show IntKind.i64.wrap (((BitVec.ofInt 64 n) &&& (BitVec.ofInt 64 1099511627775)).toNat : Int) = _
    rw [BitVec.toNat_and, e]
    exact wraps_i64 _ (by omega) (by omega)

theorem ownsRow_setCell_ne {w : World} {base : Nat} {e : TypeId} {size g n cap : Nat} {xs : List Value} (h : w.ownsRow base e size (.slice (some ⟨g, 0, none⟩) n cap) n xs) {a : Addr} (ha : g ≠ a.block) (u : Value) :
    (w.setCell a u).ownsRow base e size (.slice (some ⟨g, 0, none⟩) n cap) n xs := by
  refine ⟨h.1, ?_⟩
  rcases h.2 with ⟨h1, h2⟩ | ⟨g', cap', cur, hv, hb, hg, h3⟩
  · exact Or.inl ⟨h1, h2⟩
  · right
    refine ⟨g', cap', cur, hv, hb, ?_, h3⟩
    simp at hv
    rw [heap_setCell_other _ _ _ _ (by rw [← hv.1]; exact ha)]
    exact hg

/-- The world of WireBits: the two copies, the three places. -/
structure BW (w : World) (n gc cc gd cd gb : Nat) (pf : Nat → Nat) (wr : World) (ys zs : List Nat) : Prop where
  bel : Below w.heap.size w wr
  c : wr.ownsRow w.heap.size 5 1 (.slice (some ⟨gc, 0, none⟩) n cc) n (cellsOf ys)
  d : wr.ownsRow w.heap.size 5 1 (.slice (some ⟨gd, 0, none⟩) n cd) n (cellsOf zs)
  ncd : gc ≠ gd
  nbc : gb ≠ gc
  nbd : gb ≠ gd
  place : ∀ k, k < 3 → wr.cell? ⟨gb, k, none⟩ = some (.int .i64 (pf k : Nat))
  by_ : ∀ y ∈ ys, y < 256
  bz_ : ∀ z ∈ zs, z < 256
section
variable {w : World} {n gc cc gd cd gb : Nat} {pf : Nat → Nat} {wr : World} {ys zs : List Nat}
theorem BW.hid (h : BW w n gc cc gd cd gb pf wr ys zs) : Hid (BW w n gc cc gd cd gb pf wr ys zs) := h
theorem BW.drew (h : BW w n gc cc gd cd gb pf wr ys zs) : BW w n gc cc gd cd gb pf wr.drew ys zs := ⟨h.bel.drew, h.c.drew, h.d.drew, h.ncd, h.nbc, h.nbd, h.place, h.by_, h.bz_⟩
theorem BW.lenc (h : BW w n gc cc gd cd gb pf wr ys zs) : ys.length = n := by have := h.c.1; simpa [cellsOf_length] using this
theorem BW.lend (h : BW w n gc cc gd cd gb pf wr ys zs) : zs.length = n := by have := h.d.1; simpa [cellsOf_length] using this
theorem cellsOf_set (ys : List Nat) (j v : Nat) : (cellsOf ys).set j (.int .u8 (v : Nat)) = cellsOf (ys.set j v) := by simp [cellsOf, List.map_set]
theorem BW.setc (h : BW w n gc cc gd cd gb pf wr ys zs) (p : Nat) : BW w n gc cc gd cd gb pf (wr.setCell ⟨gc, p / 8, none⟩ (.int .u8 (ys.getD (p / 8) 0 ^^^ 2 ^ (p % 8) : Nat))) (flip ys p) zs := by
  refine ⟨h.bel.setCell (h.c.lt gc rfl).1 _, ?_, ownsRow_setCell_ne h.d (by simpa using h.ncd.symm) _, h.ncd, h.nbc, h.nbd, fun k hk => ?_, flip_byte ys p h.by_, h.bz_⟩
  · have := h.c.stored (p / 8) (.int .u8 (ys.getD (p / 8) 0 ^^^ 2 ^ (p % 8) : Nat))
    rw [cellsOf_set] at this
    exact this.1
  · rw [World.cell?_setCell_other (w := wr) (h := fun e => h.nbc (congrArg Addr.block e).symm)]
    exact h.place k hk
theorem BW.setd (h : BW w n gc cc gd cd gb pf wr ys zs) (p : Nat) : BW w n gc cc gd cd gb pf (wr.setCell ⟨gd, p / 8, none⟩ (.int .u8 (zs.getD (p / 8) 0 ^^^ 2 ^ (p % 8) : Nat))) ys (flip zs p) := by
  refine ⟨h.bel.setCell (h.d.lt gd rfl).1 _, ownsRow_setCell_ne h.c (by simpa using h.ncd) _, ?_, h.ncd, h.nbc, h.nbd, fun k hk => ?_, h.by_, flip_byte zs p h.bz_⟩
  · have := h.d.stored (p / 8) (.int .u8 (zs.getD (p / 8) 0 ^^^ 2 ^ (p % 8) : Nat))
    rw [cellsOf_set] at this
    exact this.1
  · rw [World.cell?_setCell_other (w := wr) (h := fun e => h.nbd (congrArg Addr.block e).symm)]
    exact h.place k hk
theorem BW.cellc (h : BW w n gc cc gd cd gb pf wr ys zs) (j : Nat) (hj : j < n) : wr.cell? ⟨gc, j, none⟩ = some (.int .u8 (ys.getD j 0 : Nat)) := by
  rw [h.c.cellAt j (by omega), cellsOf_get ys j (by rw [h.lenc]; exact hj)]
theorem BW.celld (h : BW w n gc cc gd cd gb pf wr ys zs) (j : Nat) (hj : j < n) : wr.cell? ⟨gd, j, none⟩ = some (.int .u8 (zs.getD j 0 : Nat)) := by
  rw [h.d.cellAt j (by omega), cellsOf_get zs j (by rw [h.lend]; exact hj)]
end

theorem flip_bits (ys : List Nat) (p : Nat) (h : ∀ y ∈ ys, y < 256) : bits .xor .u8 ((ys[p / 8]?.getD 0 : Nat) : Int) ((2 : Int) ^ (p % 8) % 256) = ((ys.getD (p / 8) 0 ^^^ 2 ^ (p % 8) : Nat) : Int) := by
  have h1 := byteAt h (p / 8)
  have h2 : 2 ^ (p % 8) < 2 ^ 8 := Nat.pow_lt_pow_right (by decide) (by omega)
  have e : (2 : Int) ^ (p % 8) % 256 = ((2 ^ (p % 8) : Nat) : Int) := by
    have e1 : (2 : Int) ^ (p % 8) = ((2 ^ (p % 8) : Nat) : Int) := by simp
    rw [e1]
    generalize 2 ^ (p % 8) = v at *
    omega
  rw [e, ← u8_xor_nat _ _ h1 h2, List.getD_eq_getElem?_getD]
theorem pat_bit (pat x : Nat) (h : pat < 4294967296) : bits .and .u32 ((pat : Int) / 2 ^ x) 1 = ((pat / 2 ^ x % 2 : Nat) : Int) := by
  have e : (pat : Int) / 2 ^ x = ((pat / 2 ^ x : Nat) : Int) := by simp
  have hl : pat / 2 ^ x ≤ pat := Nat.div_le_self _ _
  rw [e]
  exact u32_and1 _ (by omega)
theorem shn_nought (k : Nat) : shn k 0 = 0 := by
  induction k with
  | zero => rfl
  | succ k ih => show shn k (sh 0) = 0; rw [sh_zero]; exact ih
theorem sum_ne {ys xx : List Nat} (hy : ∀ y ∈ ys, y < 256) (hx : ∀ x ∈ xx, x < 256) (h : crc 4294967295 ys ≠ crc 4294967295 xx) :
    (((4294967295 - crc 4294967295 ys : Nat) : Int) != ((4294967295 - crc 4294967295 xx : Nat) : Int)) = true := by
  have h1 := crc_lt (r := 4294967295) (by decide) ys hy
  have h2 := crc_lt (r := 4294967295) (by decide) xx hx
  rw [bne_iff_ne]
  omega
def pfn (a b c : Nat) (k : Nat) : Nat := if k = 0 then a else if k = 1 then b else c
theorem BW.start {w w2 : World} {n gc cc gd cd : Nat} {ys : List Nat} (a b c : Nat) (hb : Below w.heap.size w w2) (hc : w2.ownsRow w.heap.size 5 1 (.slice (some ⟨gc, 0, none⟩) n cc) n (cellsOf ys)) (hd : w2.ownsRow w.heap.size 5 1 (.slice (some ⟨gd, 0, none⟩) n cd) n (cellsOf ys))
    (hg : gc ≠ gd ∧ gc < w2.heap.size ∧ gd < w2.heap.size) (hy : ∀ y ∈ ys, y < 256) (t : TypeId) :
    BW w n gc cc gd cd w2.heap.size (pfn a b c) (w2.alloc (.cells #[.int .i64 a, .int .i64 b, .int .i64 c] t)).drew ys ys := by
  refine BW.drew ⟨hb.alloc hb.size _, hc.alloc _, hd.alloc _, hg.1, by omega, by omega, fun k hk => ?_, hy, hy⟩
  rw [cell_of_row _ _ _ _ _ _ (heap_alloc_new w2 _)]
  match k, hk with
  | 0, _ => rfl
  | 1, _ => rfl
  | 2, _ => rfl
theorem u8_bit (j : Nat) (h : j < 8) : IntKind.u8.wrap (2 ^ j) = ((2 ^ j : Nat) : Int) := by
  rw [IntKind.wrap_u8]
  have : 2 ^ j < 2 ^ 8 := Nat.pow_lt_pow_right (by decide) h
  have e : (2 : Int) ^ j = ((2 ^ j : Nat) : Int) := by simp
  rw [e]
  generalize 2 ^ j = v at *
  omega

set_option maxRecDepth 100000 in
set_option maxHeartbeats 4000000 in
theorem wireBits_none (a0 : Option Addr) (cap0 : Nat) (i j k pat : Int) (w : World) :
    Calls Try.prog 8 #[.slice a0 0 cap0, .int .i64 i, .int .i64 j, .int .i64 k, .int .u32 pat] w fun e w' => e = .returned (.bool true) ∧ Below w.heap.size w w' := by
  go_enter Try.func8, Try.ntmps8
  go_wp2_with (go_at_call 12; refine (told_any _).mono ?_; rintro e w8 ⟨rfl, hb8⟩)
  go_ret
  exact ⟨rfl, hb8⟩

set_option maxRecDepth 100000 in
set_option maxHeartbeats 4000000 in
theorem wireBits_some (b o len0 cap0 : Nat) (xs : List Nat) (i j k : Int) (pat : Nat) (w : World) (h : BS w (some ⟨b, o, none⟩) len0 cap0 xs) (h0 : 0 < len0) (hpat : pat < 4294967296) :
    Calls Try.prog 8 #[.slice (some ⟨b, o, none⟩) len0 cap0, .int .i64 i, .int .i64 j, .int .i64 k, .int .u32 (pat : Int)] w fun e w' => e = .returned (.bool true) ∧ Below w.heap.size w w' := by
  obtain ⟨i0, hi, hz0, hz1, hz2⟩ := info_parts info5
  obtain ⟨qi, hqi, hmi⟩ := mask40 i
  obtain ⟨qj, hqj, hmj⟩ := mask40 j
  obtain ⟨qk, hqk, hmk⟩ := mask40 k
  have hcp := h.hcap
  have hmx := h.hmax
  obtain ⟨n, hn⟩ : ∃ n, min len0 10000 = n := ⟨_, rfl⟩
  have hn1 : 0 < n := by omega
  have hn2 : n ≤ 10000 := by omega
  have hn3 : n ≤ len0 := by omega
  have HB := hid_of (bs_front h n hn3)
  have hmin : min (len0 : Int) 10000 = (n : Int) := by omega
  have hnz : ((n : Int) == 0) = false := by simp; omega
  clear h
  go_enter Try.func8, Try.ntmps8
  have hnews := HB.out.news
  have HLT : Hid ((xs.take n).length = n) := HB.out.hlen
  go_wp2_with (at_builtin; refine wpList_append_lies _ rfl (.tmp 25) (.tmp 28) _ rfl w.heap.size 5 i0 (.int .u8 0) 1 1 Try.underlying22 hi hz0 hz1 hz2 rfl (by omega) _ 0 [] rfl (World.ownsRow_nil _ _ _ _) ⟨b, o, none⟩ n cap0 (cellsOf (xs.take n)) rfl (by rw [cellsOf_length, HLT.out]; omega) hnews (cellsOf_one _) hn1 (by unfold maxLen; omega) (by omega) (Nat.le_refl _) w.heap.size rfl ?_)
  intro gc cc w1 hown1 hgrow1 _ hgc
  have hown1 : w1.ownsRow w.heap.size 5 1 (.slice (some ⟨gc, 0, none⟩) n cc) n (cellsOf (xs.take n)) := by simpa using hown1
  have hb1 : Below w.heap.size w w1 := (Below.refl _ _).grown hgrow1 (Nat.le_refl _) (by simp [Value.ownBlock])
  have HB1 := hid_of (HB.out.later hb1 (Nat.le_refl _))
  have hnews1 := HB1.out.news
  have HO1 := hid_of hown1
  have hs1 := hb1.size
  clear hown1 hgrow1 hnews
  go_wp2_with (at_builtin; refine wpList_append_lies _ rfl (.tmp 30) (.tmp 33) _ rfl w.heap.size 5 i0 (.int .u8 0) 1 1 Try.underlying22 hi hz0 hz1 hz2 rfl (by omega) _ 0 [] rfl (World.ownsRow_nil _ _ _ _) ⟨b, o, none⟩ n cap0 (cellsOf (xs.take n)) rfl (by rw [cellsOf_length, HLT.out]; omega) hnews1 (cellsOf_one _) hn1 (by unfold maxLen; omega) (by omega) hs1 w1.heap.size rfl ?_)
  intro gd cd w2 hown2 hgrow2 hgd1 hgd2
  have hown2 : w2.ownsRow w.heap.size 5 1 (.slice (some ⟨gd, 0, none⟩) n cd) n (cellsOf (xs.take n)) := by simpa using hown2
  have hgd : gd = w1.heap.size := by simpa [Value.ownBlock] using hgd1
  have hb2 : Below w.heap.size w w2 := hb1.grown hgrow2 hs1 (by simp [Value.ownBlock])
  have hc2 := HO1.out.kept hgrow2 (Or.inr (by simp [Value.ownBlock]))
  have hs2 := hb2.size
  have HO2 := hid_of hown2
  have HC2 := hid_of hc2
  have HG : Hid (gc ≠ gd ∧ gc < w2.heap.size ∧ gd < w2.heap.size) := ⟨by omega, by have := hgrow2.size; omega, hgd2⟩
  clear hown2 hgrow2 hgd1 hnews1 hc2 hgd HO1 hgd2 hgc
  have h8 : (0 : Int) < 8 * (n : Int) := by omega
  go_wp2_with fail
  go_region
  go_wp2_with fail
  have HST := (BW.start (qi % (8 * n)) (qj % (8 * n)) (qk % (8 * n)) hb2 HC2.out HO2.out HG.out HB.out.hbyte 42).hid
  have HP : Hid (∀ k, pfn (qi % (8 * n)) (qj % (8 * n)) (qk % (8 * n)) k < 8 * n) := fun k => by
    unfold pfn
    have := Nat.mod_lt qi (show 0 < 8 * n by omega)
    have := Nat.mod_lt qj (show 0 < 8 * n by omega)
    have := Nat.mod_lt qk (show 0 < 8 * n by omega)
    split
    · assumption
    · split <;> assumption
  have HBY := hid_of HB.out.hbyte
  generalize pfn (qi % (8 * n)) (qj % (8 * n)) (qk % (8 * n)) = pf at *
  generalize w2.heap.size = gb at *
  clear hb2 HC2 HO2 HG hs2 hb1 hs1 hmi hmj hmk hqi hqj hqk
  generalize hxx : xs.take n = xx at *
  go_loopw [15] (fun t wr => ∃ (k : Nat) (ys : List Nat) (G : Nat), k ≤ 3 ∧ t = .int .i64 k ∧ BW w n gc cc gd cd gb pf wr ys xx ∧ crc 4294967295 ys = crc 4294967295 xx ^^^ G ∧ par 32 G = decide (k % 2 = 1)) (fun t _ => 3 - (intOf t).toNat)
  case atStart => exact ⟨0, xx, 0, by omega, rfl, by simpa using HST.out, by simp, rfl⟩
  case round =>
    clear HST
    obtain ⟨k, ys, G, hk, rfl, hbw, hcrc, hpar⟩ := hrel
    have HBW := hbw.hid
    have HCR := hid_of hcrc
    have HPA := hid_of hpar
    clear hbw hcrc hpar
    by_cases hk3 : k < 3
    · have hp := HP.out k
      have cb := HBW.out.place k hk3
      generalize pf k = p at *
      have ccx := HBW.out.cellc (p / 8) (by omega)
      have ff := HBW.out.c.frozenAt (p / 8)
      have kb : (0 : Int) ≤ (k : Int) := by omega
      have kb' : (k : Int) < 3 := by omega
      have pb1 : (0 : Int) ≤ (p : Int) / 8 := by omega
      have pb2 : (p : Int) / 8 < (n : Int) := by omega
      have HD : Hid (bits .xor .u8 ((ys[p / 8]?.getD 0 : Nat) : Int) ((2 : Int) ^ (p % 8) % 256) = ((ys.getD (p / 8) 0 ^^^ 2 ^ (p % 8) : Nat) : Int)) := flip_bits ys p HBW.out.by_
      have HB2 := (HBW.out.setc p).drew.hid
      have HC2 : Hid (crc 4294967295 (flip ys p) = crc 4294967295 xx ^^^ (G ^^^ shn (8 * n - p) 1)) := by
        have e := flip_crc 4294967295 ys p (by rw [HBW.out.lenc]; exact hp)
        rw [HBW.out.lenc, HCR.out, Nat.xor_assoc] at e
        exact e
      have HP2 : Hid (par 32 (G ^^^ shn (8 * n - p) 1) = decide ((k + 1) % 2 = 1)) := by
        show _ = _
        rw [par_xor, par_bit, HPA.out]
        rcases Nat.mod_two_eq_zero_or_one k with z | z
        · rw [decide_eq_false (by omega), decide_eq_true (by omega)]; rfl
        · rw [decide_eq_true z, decide_eq_false (by omega)]; rfl
      go_wp2_with fail
      go_big_region
      go_wp2_with fail
      go_roundw
      case rel => exact ⟨k + 1, flip ys p, G ^^^ shn (8 * n - p) 1, by omega, by go_num, by rw [HD.out]; exact HB2.out, HC2.out, HP2.out⟩
      case measure => simp [intOf]; omega
    obtain rfl : k = 3 := by omega
    have HTURN : Hid (crc 4294967295 ys ≠ crc 4294967295 xx) := by
      show _ ≠ _
      rw [HCR.out]
      exact odd_turns HPA.out _
    clear HCR HPA
    have hp := HP.out 0
    generalize hp0 : pf 0 = p at *
    have HP0 := hid_of hp0
    clear hp0
    go_wp2_with fail
    go_loopw [16] (fun t wr => ∃ (x : Nat) (zs : List Nat) (P : Nat), x ≤ 32 ∧ t = .int .i64 x ∧ BW w n gc cc gd cd gb pf wr ys zs ∧ crc 4294967295 zs = crc 4294967295 xx ^^^ shn (8 * n - p) P ∧ P < 2 ^ x ∧ (P = 0 → zs = xx)) (fun t _ => 32 - (intOf t).toNat)
    case atStart => exact ⟨0, xx, 0, by omega, rfl, HBW.out, by rw [shn_nought]; simp, by decide, fun _ => rfl⟩
    case round =>
    clear HBW
    obtain ⟨x, zs, P, hx, rfl, hbw, hcrc, hP, hz0⟩ := hrel
    have HBW := hbw.hid
    have HCR := hid_of hcrc
    have HPP := hid_of hP
    have HZ := hid_of hz0
    clear hbw hcrc hP hz0
    have cb := HBW.out.place 0 (by omega)
    rw [HP0.out] at cb
    by_cases hx32 : x < 32
    · have hbitx := pat_bit pat x hpat
      by_cases hset : pat / 2 ^ x % 2 = 1
      · rw [hset] at hbitx
        have hbx : (bits BinOp.and IntKind.u32 ((pat : Int) / 2 ^ x) 1 == 1) = true := by rw [hbitx]; rfl
        by_cases hin : p + x < 8 * n
        · have hin' : (p : Int) + (x : Int) < 8 * (n : Int) := by omega
          have ccx := HBW.out.celld ((p + x) / 8) (by omega)
          have ff := HBW.out.d.frozenAt ((p + x) / 8)
          have HD : Hid (bits .xor .u8 ((zs[(p + x) / 8]?.getD 0 : Nat) : Int) ((2 : Int) ^ ((p + x) % 8) % 256) = ((zs.getD ((p + x) / 8) 0 ^^^ 2 ^ ((p + x) % 8) : Nat) : Int)) := flip_bits zs (p + x) HBW.out.bz_
          have HB2 := (HBW.out.setd (p + x)).hid
          have HC2 : Hid (crc 4294967295 (flip zs (p + x)) = crc 4294967295 xx ^^^ shn (8 * n - p) (P ^^^ 2 ^ x)) := by
            have e := flip_crc 4294967295 zs (p + x) (by rw [HBW.out.lend]; exact hin)
            rw [HBW.out.lend, HCR.out, Nat.xor_assoc] at e
            show _ = _
            rw [e, shn_xor, shn_one _ x (by omega)]
            congr 3
            omega
          have HP2 : Hid (P ^^^ 2 ^ x < 2 ^ (x + 1) ∧ P ^^^ 2 ^ x ≠ 0) := by
            have h1 := HPP.out
            have h2 := Nat.two_pow_pos x
            show _ ∧ _
            rw [pow_xor P x h1, Nat.pow_succ]
            omega
          go_wp2_with fail
          go_roundw
          case rel => exact ⟨x + 1, flip zs (p + x), P ^^^ 2 ^ x, by omega, by go_num, by rw [HD.out]; exact HB2.out, HC2.out, HP2.out.1, fun h => absurd h HP2.out.2⟩
          case measure => simp [intOf]; omega
        · have hin' : ¬ (p : Int) + (x : Int) < 8 * (n : Int) := by omega
          go_wp2_with fail
          go_roundw
          case rel => exact ⟨x + 1, zs, P, by omega, by go_num, HBW.out, HCR.out, Nat.lt_of_lt_of_le HPP.out (Nat.pow_le_pow_right (by decide) (by omega)), HZ.out⟩
          case measure => simp [intOf]; omega
      · have hset0 : pat / 2 ^ x % 2 = 0 := by omega
        rw [hset0] at hbitx
        have hbx : (bits BinOp.and IntKind.u32 ((pat : Int) / 2 ^ x) 1 == 1) = false := by rw [hbitx]; rfl
        go_wp2_with fail
        go_roundw
        case rel => exact ⟨x + 1, zs, P, by omega, by go_num, HBW.out, HCR.out, Nat.lt_of_lt_of_le HPP.out (Nat.pow_le_pow_right (by decide) (by omega)), HZ.out⟩
        case measure => simp [intOf]; omega
    obtain rfl : x = 32 := by omega
    have HXW := hid_of (HB.out.later HBW.out.bel (Nat.le_refl _))
    have HSW := hid_of HBW.out.bel
    have HCW := hid_of (BS.ofOwns HBW.out.c (by omega) HBW.out.by_)
    have HDW := hid_of (BS.ofOwns HBW.out.d (by omega) HBW.out.bz_)
    have lny := HBW.out.lenc
    have lnz := HBW.out.lend
    have HYB := hid_of HBW.out.by_
    have HZB := hid_of HBW.out.bz_
    have hne1 : ((str ys).toList == (str xx).toList) = false := by
      rw [str_beq ys xx HYB.out HBY.out]
      exact decide_eq_false fun h => HTURN.out (by rw [h])
    have hsum1 : (((4294967295 - crc 4294967295 ys : Nat) : Int) != ((4294967295 - crc 4294967295 xx : Nat) : Int)) = true := sum_ne HYB.out HBY.out HTURN.out
    clear lny lnz HBW cb
    have nb1 : (0 : Int) ≤ (n : Int) := by omega
    have nb2 : (n : Int) ≤ (cap0 : Int) := by omega
    go_wp2_with fail
    refine (sum_any _ _ _ xx _ HXW.out).mono ?_
    rintro e w5 ⟨rfl, hb5⟩
    have HC5 := hid_of (HCW.out.later hb5 (Nat.le_refl _))
    have HD5 := hid_of (HDW.out.later hb5 (Nat.le_refl _))
    have HX5 := hid_of (HXW.out.later hb5 (Nat.le_refl _))
    have HS5 := hid_of (HSW.out.trans (hb5.mono HSW.out.size))
    clear hb5 HCW HDW HXW HSW
    by_cases hP0 : P = 0
    · have hne2 : ((str zs).toList == (str xx).toList) = true := by rw [HZ.out hP0]; simp
      go_wp2_with fail
      refine wp_region_noPanic ?_
      refine wp_region_held_drew (S := fun wx => (convert 22 9 (.slice (some ⟨gc, 0, none⟩) n cc)).run Try.prog wx = .ok (.string (str ys)) wx ∧ (convert 22 9 (.slice (some ⟨gd, 0, none⟩) n cd)).run Try.prog wx = .ok (.string (str zs)) wx ∧ (convert 22 9 (.slice (some ⟨b, o, none⟩) n cap0)).run Try.prog wx = .ok (.string (str xx)) wx) (by kernel_rfl) ⟨run_text HC5.out.drew, run_text HD5.out.drew, run_text HX5.out.drew⟩ (fun hHeld => ?_)
      refine wpAnyH_comesAt (i := 0) (by kernel_rfl) (by kernel_rfl) ?_
      intro o ho K hK
      simp only [List.getElem?_toArray, List.getElem?_cons_zero, Option.some.injEq] at ho
      subst ho
      go_simp
      refine (told_any _).mono ?_
      rintro e w6 ⟨rfl, hb6⟩
      have HC6 := hid_of (HC5.out.drew.later hb6 (Nat.le_refl _))
      have HD6 := hid_of (HD5.out.drew.later hb6 (Nat.le_refl _))
      have HX6 := hid_of (HX5.out.drew.later hb6 (Nat.le_refl _))
      have HS6 := hid_of (HS5.out.drew.trans (hb6.mono HS5.out.size))
      clear hb6 hHeld
      refine hK.out _ _ ⟨run_text HC6.out, run_text HD6.out, run_text HX6.out⟩ (fun hHeld => ?_)
      clear hK K
      try simp only [Act.put, List.setIfInBounds_toArray, List.set_cons_zero, List.set_cons_succ]
      refine wpAnyH_takeAt (i := 1) (d := 114) (v := ?vA1) (by kernel_rfl) (by kernel_rfl) (by kernel_rfl) (by kernel_rfl) (fun _ _ _ h => h) ?hyA1 (by assumption) ?restA1
      case hyA1 =>
        intro oi ho
        simp only [List.getElem?_toArray, List.getElem?_cons_succ, List.getElem?_cons_zero, Option.some.injEq] at ho
        subst ho
        refine Or.inl ⟨by rfl, ?_⟩
        intro wx hSw
        try dsimp only at hSw
        go_simp
        try rfl
      try simp only [Act.put, List.setIfInBounds_toArray, List.set_cons_zero, List.set_cons_succ]
      refine wpAnyH_takeAt (i := 2) (d := 115) (v := ?vA2) (by kernel_rfl) (by kernel_rfl) (by kernel_rfl) (by kernel_rfl) (fun _ _ _ h => h) ?hyA2 (by assumption) ?restA2
      case hyA2 =>
        intro oi ho
        simp only [List.getElem?_toArray, List.getElem?_cons_succ, List.getElem?_cons_zero, Option.some.injEq] at ho
        subst ho
        refine Or.inl ⟨by rfl, ?_⟩
        intro wx hSw
        try dsimp only at hSw
        go_simp
        try rfl
      try simp only [Act.put, List.setIfInBounds_toArray, List.set_cons_zero, List.set_cons_succ]
      refine wpAnyH_takeAt (i := 3) (d := 116) (v := ?vA3) (by kernel_rfl) (by kernel_rfl) (by kernel_rfl) (by kernel_rfl) (fun _ _ _ h => h) ?hyA3 (by assumption) ?restA3
      case hyA3 =>
        intro oi ho
        simp only [List.getElem?_toArray, List.getElem?_cons_succ, List.getElem?_cons_zero, Option.some.injEq] at ho
        subst ho
        refine Or.inl ⟨by rfl, ?_⟩
        intro wx hSw
        try dsimp only at hSw
        go_simp
        try rfl
      try simp only [Act.put, List.setIfInBounds_toArray, List.set_cons_zero, List.set_cons_succ]
      refine wpAnyH_takeAt (i := 4) (d := 117) (v := ?vA4) (by kernel_rfl) (by kernel_rfl) (by kernel_rfl) (by kernel_rfl) (fun _ _ _ h => h) ?hyA4 (by assumption) ?restA4
      case hyA4 =>
        intro oi ho
        simp only [List.getElem?_toArray, List.getElem?_cons_succ, List.getElem?_cons_zero, Option.some.injEq] at ho
        subst ho
        refine Or.inl ⟨by rfl, ?_⟩
        intro wx hSw
        try dsimp only at hSw
        go_simp
        try rfl
      try simp only [Act.put, List.setIfInBounds_toArray, List.set_cons_zero, List.set_cons_succ]
      refine wpAnyH_takeAt (i := 5) (d := 118) (v := ?vA5) (by kernel_rfl) (by kernel_rfl) (by kernel_rfl) (by kernel_rfl) (fun _ _ _ h => h) ?hyA5 (by assumption) ?restA5
      case hyA5 =>
        intro oi ho
        simp only [List.getElem?_toArray, List.getElem?_cons_succ, List.getElem?_cons_zero, Option.some.injEq] at ho
        subst ho
        refine Or.inl ⟨by rfl, ?_⟩
        intro wx hSw
        try dsimp only at hSw
        go_simp
        try rfl
      try simp only [Act.put, List.setIfInBounds_toArray, List.set_cons_zero, List.set_cons_succ]
      refine wpAnyH_takeAt (i := 6) (d := 119) (v := ?vA6) (by kernel_rfl) (by kernel_rfl) (by kernel_rfl) (by kernel_rfl) (fun _ _ _ h => h) ?hyA6 (by assumption) ?restA6
      case hyA6 =>
        intro oi ho
        simp only [List.getElem?_toArray, List.getElem?_cons_succ, List.getElem?_cons_zero, Option.some.injEq] at ho
        subst ho
        refine Or.inl ⟨by rfl, ?_⟩
        intro wx hSw
        try dsimp only at hSw
        go_simp
        try rfl
      try simp only [Act.put, List.setIfInBounds_toArray, List.set_cons_zero, List.set_cons_succ]
      refine wpAnyH_takeAt (i := 7) (d := 120) (v := ?vA7) (by kernel_rfl) (by kernel_rfl) (by kernel_rfl) (by kernel_rfl) (fun _ _ _ h => h) ?hyA7 (by assumption) ?restA7
      case hyA7 =>
        intro oi ho
        simp only [List.getElem?_toArray, List.getElem?_cons_succ, List.getElem?_cons_zero, Option.some.injEq] at ho
        subst ho
        refine Or.inl ⟨by rfl, ?_⟩
        intro wx hSw
        try dsimp only at hSw
        go_simp
        try rfl
      try simp only [Act.put, List.setIfInBounds_toArray, List.set_cons_zero, List.set_cons_succ]
      refine wpAnyH_takeAt (i := 8) (d := 121) (v := ?vA8) (by kernel_rfl) (by kernel_rfl) (by kernel_rfl) (by kernel_rfl) (fun _ _ _ h => h) ?hyA8 (by assumption) ?restA8
      case hyA8 =>
        intro oi ho
        simp only [List.getElem?_toArray, List.getElem?_cons_succ, List.getElem?_cons_zero, Option.some.injEq] at ho
        subst ho
        refine Or.inl ⟨by rfl, ?_⟩
        intro wx hSw
        try dsimp only at hSw
        go_simp
        try rfl
      try simp only [Act.put, List.setIfInBounds_toArray, List.set_cons_zero, List.set_cons_succ]
      refine wpAnyH_takeAt (i := 9) (d := 122) (v := ?vA9) (by kernel_rfl) (by kernel_rfl) (by kernel_rfl) (by kernel_rfl) (fun _ _ _ h => h) ?hyA9 (by assumption) ?restA9
      case hyA9 =>
        intro oi ho
        simp only [List.getElem?_toArray, List.getElem?_cons_succ, List.getElem?_cons_zero, Option.some.injEq] at ho
        subst ho
        refine Or.inl ⟨by rfl, ?_⟩
        intro wx hSw
        try dsimp only at hSw
        go_simp
        try rfl
      try simp only [Act.put, List.setIfInBounds_toArray, List.set_cons_zero, List.set_cons_succ]
      refine wpAnyH_takeAt (i := 10) (d := 123) (v := ?vA10) (by kernel_rfl) (by kernel_rfl) (by kernel_rfl) (by kernel_rfl) (fun _ _ _ h => h) ?hyA10 (by assumption) ?restA10
      case hyA10 =>
        intro oi ho
        simp only [List.getElem?_toArray, List.getElem?_cons_succ, List.getElem?_cons_zero, Option.some.injEq] at ho
        subst ho
        refine Or.inl ⟨by rfl, ?_⟩
        intro wx hSw
        try dsimp only at hSw
        go_simp
        try rfl
      try simp only [Act.put, List.setIfInBounds_toArray, List.set_cons_zero, List.set_cons_succ]
      refine wpAnyH_takeAt (i := 12) (d := 125) (v := ?vA12) (by kernel_rfl) (by kernel_rfl) (by kernel_rfl) (by kernel_rfl) (fun _ _ _ h => h) ?hyA12 (by assumption) ?restA12
      case hyA12 =>
        intro oi ho
        simp only [List.getElem?_toArray, List.getElem?_cons_succ, List.getElem?_cons_zero, Option.some.injEq] at ho
        subst ho
        refine Or.inl ⟨by rfl, ?_⟩
        intro wx hSw
        try dsimp only at hSw
        go_simp
        try rfl
      try simp only [Act.put, List.setIfInBounds_toArray, List.set_cons_zero, List.set_cons_succ]
      refine wpAnyH_comesAt (i := 11) (by kernel_rfl) (by kernel_rfl) ?_
      intro o ho K hK
      simp only [List.getElem?_toArray, List.getElem?_cons_succ, List.getElem?_cons_zero, Option.some.injEq] at ho
      subst ho
      go_simp
      refine (sum_any _ _ _ ys _ HC6.out).mono ?_
      rintro e w7 ⟨rfl, hb7⟩
      have HC7 := hid_of (HC6.out.later hb7 (Nat.le_refl _))
      have HD7 := hid_of (HD6.out.later hb7 (Nat.le_refl _))
      have HX7 := hid_of (HX6.out.later hb7 (Nat.le_refl _))
      have HS7 := hid_of (HS6.out.trans (hb7.mono HS6.out.size))
      clear hb7 hHeld
      refine hK.out _ _ ⟨run_text HC7.out, run_text HD7.out, run_text HX7.out⟩ (fun hHeld => ?_)
      clear hK K
      try simp only [Act.put, List.setIfInBounds_toArray, List.set_cons_zero, List.set_cons_succ]
      refine wpAnyH_takeAt (i := 13) (d := 126) (v := ?vA13) (by kernel_rfl) (by kernel_rfl) (by kernel_rfl) (by kernel_rfl) (fun _ _ _ h => h) ?hyA13 (by assumption) ?restA13
      case hyA13 =>
        intro oi ho
        simp only [List.getElem?_toArray, List.getElem?_cons_succ, List.getElem?_cons_zero, Option.some.injEq] at ho
        subst ho
        refine Or.inl ⟨by rfl, ?_⟩
        intro wx hSw
        try dsimp only at hSw
        go_simp
        try rfl
      try simp only [Act.put, List.setIfInBounds_toArray, List.set_cons_zero, List.set_cons_succ]
      refine wpAnyH_takeAt (i := 14) (d := 127) (v := ?vA14) (by kernel_rfl) (by kernel_rfl) (by kernel_rfl) (by kernel_rfl) (fun _ _ _ h => h) ?hyA14 (by assumption) ?restA14
      case hyA14 =>
        intro oi ho
        simp only [List.getElem?_toArray, List.getElem?_cons_succ, List.getElem?_cons_zero, Option.some.injEq] at ho
        subst ho
        refine Or.inl ⟨by rfl, ?_⟩
        intro wx hSw
        try dsimp only at hSw
        go_simp
        try rfl
      try simp only [Act.put, List.setIfInBounds_toArray, List.set_cons_zero, List.set_cons_succ]
      refine wpAnyH_takeAt (i := 15) (d := 128) (v := ?vA15) (by kernel_rfl) (by kernel_rfl) (by kernel_rfl) (by kernel_rfl) (fun _ _ _ h => h) ?hyA15 (by assumption) ?restA15
      case hyA15 =>
        intro oi ho
        simp only [List.getElem?_toArray, List.getElem?_cons_succ, List.getElem?_cons_zero, Option.some.injEq] at ho
        subst ho
        refine Or.inl ⟨by rfl, ?_⟩
        intro wx hSw
        try dsimp only at hSw
        go_simp
        try rfl
      try simp only [Act.put, List.setIfInBounds_toArray, List.set_cons_zero, List.set_cons_succ]
      refine wpAnyH_takeAt (i := 16) (d := 129) (v := ?vA16) (by kernel_rfl) (by kernel_rfl) (by kernel_rfl) (by kernel_rfl) (fun _ _ _ h => h) ?hyA16 (by assumption) ?restA16
      case hyA16 =>
        intro oi ho
        simp only [List.getElem?_toArray, List.getElem?_cons_succ, List.getElem?_cons_zero, Option.some.injEq] at ho
        subst ho
        refine Or.inl ⟨by rfl, ?_⟩
        intro wx hSw
        try dsimp only at hSw
        go_simp
        try rfl
      try simp only [Act.put, List.setIfInBounds_toArray, List.set_cons_zero, List.set_cons_succ]
      refine wpAnyH_takeAt (i := 17) (d := 130) (v := ?vA17) (by kernel_rfl) (by kernel_rfl) (by kernel_rfl) (by kernel_rfl) (fun _ _ _ h => h) ?hyA17 (by assumption) ?restA17
      case hyA17 =>
        intro oi ho
        simp only [List.getElem?_toArray, List.getElem?_cons_succ, List.getElem?_cons_zero, Option.some.injEq] at ho
        subst ho
        refine Or.inl ⟨by rfl, ?_⟩
        intro wx hSw
        try dsimp only at hSw
        go_simp
        try rfl
      try simp only [Act.put, List.setIfInBounds_toArray, List.set_cons_zero, List.set_cons_succ]
      refine wpAnyH_takeAt (i := 18) (d := 131) (v := ?vA18) (by kernel_rfl) (by kernel_rfl) (by kernel_rfl) (by kernel_rfl) (fun _ _ _ h => h) ?hyA18 (by assumption) ?restA18
      case hyA18 =>
        intro oi ho
        simp only [List.getElem?_toArray, List.getElem?_cons_succ, List.getElem?_cons_zero, Option.some.injEq] at ho
        subst ho
        refine Or.inl ⟨by rfl, ?_⟩
        intro wx hSw
        try dsimp only at hSw
        go_simp
        try rfl
      try simp only [Act.put, List.setIfInBounds_toArray, List.set_cons_zero, List.set_cons_succ]
      refine wpAnyH_takeAt (i := 19) (d := 132) (v := ?vA19) (by kernel_rfl) (by kernel_rfl) (by kernel_rfl) (by kernel_rfl) (fun _ _ _ h => h) ?hyA19 (by assumption) ?restA19
      case hyA19 =>
        intro oi ho
        simp only [List.getElem?_toArray, List.getElem?_cons_succ, List.getElem?_cons_zero, Option.some.injEq] at ho
        subst ho
        refine Or.inl ⟨by rfl, ?_⟩
        intro wx hSw
        try dsimp only at hSw
        go_simp
        try rfl
      try simp only [Act.put, List.setIfInBounds_toArray, List.set_cons_zero, List.set_cons_succ]
      refine wpAnyH_takeAt (i := 20) (d := 133) (v := ?vA20) (by kernel_rfl) (by kernel_rfl) (by kernel_rfl) (by kernel_rfl) (fun _ _ _ h => h) ?hyA20 (by assumption) ?restA20
      case hyA20 =>
        intro oi ho
        simp only [List.getElem?_toArray, List.getElem?_cons_succ, List.getElem?_cons_zero, Option.some.injEq] at ho
        subst ho
        refine Or.inl ⟨by rfl, ?_⟩
        intro wx hSw
        try dsimp only at hSw
        go_simp
        try rfl
      try simp only [Act.put, List.setIfInBounds_toArray, List.set_cons_zero, List.set_cons_succ]
      refine wpAnyH_takeAt (i := 21) (d := 134) (v := ?vA21) (by kernel_rfl) (by kernel_rfl) (by kernel_rfl) (by kernel_rfl) (fun _ _ _ h => h) ?hyA21 (by assumption) ?restA21
      case hyA21 =>
        intro oi ho
        simp only [List.getElem?_toArray, List.getElem?_cons_succ, List.getElem?_cons_zero, Option.some.injEq] at ho
        subst ho
        refine Or.inl ⟨by rfl, ?_⟩
        intro wx hSw
        try dsimp only at hSw
        go_simp
        try rfl
      try simp only [Act.put, List.setIfInBounds_toArray, List.set_cons_zero, List.set_cons_succ]
      refine wpAnyH_takeAt (i := 22) (d := 135) (v := ?vA22) (by kernel_rfl) (by kernel_rfl) (by kernel_rfl) (by kernel_rfl) (fun _ _ _ h => h) ?hyA22 (by assumption) ?restA22
      case hyA22 =>
        intro oi ho
        simp only [List.getElem?_toArray, List.getElem?_cons_succ, List.getElem?_cons_zero, Option.some.injEq] at ho
        subst ho
        refine Or.inl ⟨by rfl, ?_⟩
        intro wx hSw
        try dsimp only at hSw
        go_simp
        try rfl
      try simp only [Act.put, List.setIfInBounds_toArray, List.set_cons_zero, List.set_cons_succ]
      refine wpAnyH_takeAt (i := 23) (d := 136) (v := ?vA23) (by kernel_rfl) (by kernel_rfl) (by kernel_rfl) (by kernel_rfl) (fun _ _ _ h => h) ?hyA23 (by assumption) ?restA23
      case hyA23 =>
        intro oi ho
        simp only [List.getElem?_toArray, List.getElem?_cons_succ, List.getElem?_cons_zero, Option.some.injEq] at ho
        subst ho
        refine Or.inl ⟨by rfl, ?_⟩
        intro wx hSw
        try dsimp only at hSw
        go_simp
        try rfl
      try simp only [Act.put, List.setIfInBounds_toArray, List.set_cons_zero, List.set_cons_succ]
      refine wpAnyH_takeAt (i := 24) (d := 137) (v := ?vA24) (by kernel_rfl) (by kernel_rfl) (by kernel_rfl) (by kernel_rfl) (fun _ _ _ h => h) ?hyA24 (by assumption) ?restA24
      case hyA24 =>
        intro oi ho
        simp only [List.getElem?_toArray, List.getElem?_cons_succ, List.getElem?_cons_zero, Option.some.injEq] at ho
        subst ho
        refine Or.inl ⟨by rfl, ?_⟩
        intro wx hSw
        try dsimp only at hSw
        go_simp
        try rfl
      try simp only [Act.put, List.setIfInBounds_toArray, List.set_cons_zero, List.set_cons_succ]
      refine wpAnyH_takeAt (i := 25) (d := 138) (v := undef) (by kernel_rfl) (by kernel_rfl) (by kernel_rfl) (by kernel_rfl) (fun _ _ _ h => h) ?hyA25 (by assumption) ?restA25
      case hyA25 =>
        intro oi ho
        simp only [List.getElem?_toArray, List.getElem?_cons_succ, List.getElem?_cons_zero, Option.some.injEq] at ho
        subst ho
        exact Or.inr ⟨by rfl, rfl⟩
      try simp only [Act.put, List.setIfInBounds_toArray, List.set_cons_zero, List.set_cons_succ]
      refine wpAnyH_takeAt (i := 26) (d := 139) (v := undef) (by kernel_rfl) (by kernel_rfl) (by kernel_rfl) (by kernel_rfl) (fun _ _ _ h => h) ?hyA26 (by assumption) ?restA26
      case hyA26 =>
        intro oi ho
        simp only [List.getElem?_toArray, List.getElem?_cons_succ, List.getElem?_cons_zero, Option.some.injEq] at ho
        subst ho
        exact Or.inr ⟨by rfl, rfl⟩
      try simp only [Act.put, List.setIfInBounds_toArray, List.set_cons_zero, List.set_cons_succ]
      refine wpAnyH_takeAt (i := 27) (d := 140) (v := undef) (by kernel_rfl) (by kernel_rfl) (by kernel_rfl) (by kernel_rfl) (fun _ _ _ h => h) ?hyA27 (by assumption) ?restA27
      case hyA27 =>
        intro oi ho
        simp only [List.getElem?_toArray, List.getElem?_cons_succ, List.getElem?_cons_zero, Option.some.injEq] at ho
        subst ho
        exact Or.inr ⟨by rfl, rfl⟩
      try simp only [Act.put, List.setIfInBounds_toArray, List.set_cons_zero, List.set_cons_succ]
      refine wpAnyH_takeAt (i := 28) (d := 141) (v := undef) (by kernel_rfl) (by kernel_rfl) (by kernel_rfl) (by kernel_rfl) (fun _ _ _ h => h) ?hyA28 (by assumption) ?restA28
      case hyA28 =>
        intro oi ho
        simp only [List.getElem?_toArray, List.getElem?_cons_succ, List.getElem?_cons_zero, Option.some.injEq] at ho
        subst ho
        exact Or.inr ⟨by rfl, rfl⟩
      try simp only [Act.put, List.setIfInBounds_toArray, List.set_cons_zero, List.set_cons_succ]
      refine wpAnyH_takeAt (i := 29) (d := 142) (v := ?vA29) (by kernel_rfl) (by kernel_rfl) (by kernel_rfl) (by kernel_rfl) (fun _ _ _ h => h) ?hyA29 (by assumption) ?restA29
      case hyA29 =>
        intro oi ho
        simp only [List.getElem?_toArray, List.getElem?_cons_succ, List.getElem?_cons_zero, Option.some.injEq] at ho
        subst ho
        refine Or.inl ⟨by rfl, ?_⟩
        intro wx hSw
        try dsimp only at hSw
        go_simp
        try rfl
      try simp only [Act.put, List.setIfInBounds_toArray, List.set_cons_zero, List.set_cons_succ]
      refine wpAnyH_takeAt (i := 30) (d := 143) (v := ?vA30) (by kernel_rfl) (by kernel_rfl) (by kernel_rfl) (by kernel_rfl) (fun _ _ _ h => h) ?hyA30 (by assumption) ?restA30
      case hyA30 =>
        intro oi ho
        simp only [List.getElem?_toArray, List.getElem?_cons_succ, List.getElem?_cons_zero, Option.some.injEq] at ho
        subst ho
        refine Or.inl ⟨by rfl, ?_⟩
        intro wx hSw
        try dsimp only at hSw
        go_simp
        try rfl
      try simp only [Act.put, List.setIfInBounds_toArray, List.set_cons_zero, List.set_cons_succ]
      refine wpAnyH_takeAt (i := 31) (d := 10) (v := ?vA31) (by kernel_rfl) (by kernel_rfl) (by kernel_rfl) (by kernel_rfl) (fun _ _ _ h => h) ?hyA31 (by assumption) ?restA31
      case hyA31 =>
        intro oi ho
        simp only [List.getElem?_toArray, List.getElem?_cons_succ, List.getElem?_cons_zero, Option.some.injEq] at ho
        subst ho
        refine Or.inl ⟨by rfl, ?_⟩
        intro wx hSw
        try dsimp only at hSw
        go_simp
        try rfl
      try simp only [Act.put, List.setIfInBounds_toArray, List.set_cons_zero, List.set_cons_succ]
      refine wpAnyH_done (by kernel_rfl) ?_ _
      refine NoPanic.normal ?_
      go_wp2
      go_ret
      exact ⟨rfl, HS7.out⟩
    have HT2 : Hid (crc 4294967295 zs ≠ crc 4294967295 xx) := by
      show _ ≠ _
      rw [HCR.out]
      exact burst_turns HPP.out hP0 _
    have hne2 : ((str zs).toList == (str xx).toList) = false := by
      rw [str_beq zs xx HZB.out HBY.out]
      exact decide_eq_false fun h => HT2.out (by rw [h])
    have hsum2 : (((4294967295 - crc 4294967295 zs : Nat) : Int) != ((4294967295 - crc 4294967295 xx : Nat) : Int)) = true := sum_ne HZB.out HBY.out HT2.out
    go_wp2_with fail
    refine wp_region_noPanic ?_
    refine wp_region_held_drew (S := fun wx => (convert 22 9 (.slice (some ⟨gc, 0, none⟩) n cc)).run Try.prog wx = .ok (.string (str ys)) wx ∧ (convert 22 9 (.slice (some ⟨gd, 0, none⟩) n cd)).run Try.prog wx = .ok (.string (str zs)) wx ∧ (convert 22 9 (.slice (some ⟨b, o, none⟩) n cap0)).run Try.prog wx = .ok (.string (str xx)) wx) (by kernel_rfl) ⟨run_text HC5.out.drew, run_text HD5.out.drew, run_text HX5.out.drew⟩ (fun hHeld => ?_)
    refine wpAnyH_comesAt (i := 0) (by kernel_rfl) (by kernel_rfl) ?_
    intro o ho K hK
    simp only [List.getElem?_toArray, List.getElem?_cons_zero, Option.some.injEq] at ho
    subst ho
    go_simp
    refine (told_any _).mono ?_
    rintro e w6 ⟨rfl, hb6⟩
    have HC6 := hid_of (HC5.out.drew.later hb6 (Nat.le_refl _))
    have HD6 := hid_of (HD5.out.drew.later hb6 (Nat.le_refl _))
    have HX6 := hid_of (HX5.out.drew.later hb6 (Nat.le_refl _))
    have HS6 := hid_of (HS5.out.drew.trans (hb6.mono HS5.out.size))
    clear hb6 hHeld
    refine hK.out _ _ ⟨run_text HC6.out, run_text HD6.out, run_text HX6.out⟩ (fun hHeld => ?_)
    clear hK K
    try simp only [Act.put, List.setIfInBounds_toArray, List.set_cons_zero, List.set_cons_succ]
    refine wpAnyH_takeAt (i := 1) (d := 114) (v := ?vB1) (by kernel_rfl) (by kernel_rfl) (by kernel_rfl) (by kernel_rfl) (fun _ _ _ h => h) ?hyB1 (by assumption) ?restB1
    case hyB1 =>
      intro oi ho
      simp only [List.getElem?_toArray, List.getElem?_cons_succ, List.getElem?_cons_zero, Option.some.injEq] at ho
      subst ho
      refine Or.inl ⟨by rfl, ?_⟩
      intro wx hSw
      try dsimp only at hSw
      go_simp
      try rfl
    try simp only [Act.put, List.setIfInBounds_toArray, List.set_cons_zero, List.set_cons_succ]
    refine wpAnyH_takeAt (i := 2) (d := 115) (v := ?vB2) (by kernel_rfl) (by kernel_rfl) (by kernel_rfl) (by kernel_rfl) (fun _ _ _ h => h) ?hyB2 (by assumption) ?restB2
    case hyB2 =>
      intro oi ho
      simp only [List.getElem?_toArray, List.getElem?_cons_succ, List.getElem?_cons_zero, Option.some.injEq] at ho
      subst ho
      refine Or.inl ⟨by rfl, ?_⟩
      intro wx hSw
      try dsimp only at hSw
      go_simp
      try rfl
    try simp only [Act.put, List.setIfInBounds_toArray, List.set_cons_zero, List.set_cons_succ]
    refine wpAnyH_takeAt (i := 3) (d := 116) (v := ?vB3) (by kernel_rfl) (by kernel_rfl) (by kernel_rfl) (by kernel_rfl) (fun _ _ _ h => h) ?hyB3 (by assumption) ?restB3
    case hyB3 =>
      intro oi ho
      simp only [List.getElem?_toArray, List.getElem?_cons_succ, List.getElem?_cons_zero, Option.some.injEq] at ho
      subst ho
      refine Or.inl ⟨by rfl, ?_⟩
      intro wx hSw
      try dsimp only at hSw
      go_simp
      try rfl
    try simp only [Act.put, List.setIfInBounds_toArray, List.set_cons_zero, List.set_cons_succ]
    refine wpAnyH_takeAt (i := 4) (d := 117) (v := ?vB4) (by kernel_rfl) (by kernel_rfl) (by kernel_rfl) (by kernel_rfl) (fun _ _ _ h => h) ?hyB4 (by assumption) ?restB4
    case hyB4 =>
      intro oi ho
      simp only [List.getElem?_toArray, List.getElem?_cons_succ, List.getElem?_cons_zero, Option.some.injEq] at ho
      subst ho
      refine Or.inl ⟨by rfl, ?_⟩
      intro wx hSw
      try dsimp only at hSw
      go_simp
      try rfl
    try simp only [Act.put, List.setIfInBounds_toArray, List.set_cons_zero, List.set_cons_succ]
    refine wpAnyH_takeAt (i := 5) (d := 118) (v := ?vB5) (by kernel_rfl) (by kernel_rfl) (by kernel_rfl) (by kernel_rfl) (fun _ _ _ h => h) ?hyB5 (by assumption) ?restB5
    case hyB5 =>
      intro oi ho
      simp only [List.getElem?_toArray, List.getElem?_cons_succ, List.getElem?_cons_zero, Option.some.injEq] at ho
      subst ho
      refine Or.inl ⟨by rfl, ?_⟩
      intro wx hSw
      try dsimp only at hSw
      go_simp
      try rfl
    try simp only [Act.put, List.setIfInBounds_toArray, List.set_cons_zero, List.set_cons_succ]
    refine wpAnyH_takeAt (i := 6) (d := 119) (v := ?vB6) (by kernel_rfl) (by kernel_rfl) (by kernel_rfl) (by kernel_rfl) (fun _ _ _ h => h) ?hyB6 (by assumption) ?restB6
    case hyB6 =>
      intro oi ho
      simp only [List.getElem?_toArray, List.getElem?_cons_succ, List.getElem?_cons_zero, Option.some.injEq] at ho
      subst ho
      refine Or.inl ⟨by rfl, ?_⟩
      intro wx hSw
      try dsimp only at hSw
      go_simp
      try rfl
    try simp only [Act.put, List.setIfInBounds_toArray, List.set_cons_zero, List.set_cons_succ]
    refine wpAnyH_takeAt (i := 7) (d := 120) (v := ?vB7) (by kernel_rfl) (by kernel_rfl) (by kernel_rfl) (by kernel_rfl) (fun _ _ _ h => h) ?hyB7 (by assumption) ?restB7
    case hyB7 =>
      intro oi ho
      simp only [List.getElem?_toArray, List.getElem?_cons_succ, List.getElem?_cons_zero, Option.some.injEq] at ho
      subst ho
      refine Or.inl ⟨by rfl, ?_⟩
      intro wx hSw
      try dsimp only at hSw
      go_simp
      try rfl
    try simp only [Act.put, List.setIfInBounds_toArray, List.set_cons_zero, List.set_cons_succ]
    refine wpAnyH_takeAt (i := 8) (d := 121) (v := ?vB8) (by kernel_rfl) (by kernel_rfl) (by kernel_rfl) (by kernel_rfl) (fun _ _ _ h => h) ?hyB8 (by assumption) ?restB8
    case hyB8 =>
      intro oi ho
      simp only [List.getElem?_toArray, List.getElem?_cons_succ, List.getElem?_cons_zero, Option.some.injEq] at ho
      subst ho
      refine Or.inl ⟨by rfl, ?_⟩
      intro wx hSw
      try dsimp only at hSw
      go_simp
      try rfl
    try simp only [Act.put, List.setIfInBounds_toArray, List.set_cons_zero, List.set_cons_succ]
    refine wpAnyH_takeAt (i := 9) (d := 122) (v := ?vB9) (by kernel_rfl) (by kernel_rfl) (by kernel_rfl) (by kernel_rfl) (fun _ _ _ h => h) ?hyB9 (by assumption) ?restB9
    case hyB9 =>
      intro oi ho
      simp only [List.getElem?_toArray, List.getElem?_cons_succ, List.getElem?_cons_zero, Option.some.injEq] at ho
      subst ho
      refine Or.inl ⟨by rfl, ?_⟩
      intro wx hSw
      try dsimp only at hSw
      go_simp
      try rfl
    try simp only [Act.put, List.setIfInBounds_toArray, List.set_cons_zero, List.set_cons_succ]
    refine wpAnyH_takeAt (i := 10) (d := 123) (v := ?vB10) (by kernel_rfl) (by kernel_rfl) (by kernel_rfl) (by kernel_rfl) (fun _ _ _ h => h) ?hyB10 (by assumption) ?restB10
    case hyB10 =>
      intro oi ho
      simp only [List.getElem?_toArray, List.getElem?_cons_succ, List.getElem?_cons_zero, Option.some.injEq] at ho
      subst ho
      refine Or.inl ⟨by rfl, ?_⟩
      intro wx hSw
      try dsimp only at hSw
      go_simp
      try rfl
    try simp only [Act.put, List.setIfInBounds_toArray, List.set_cons_zero, List.set_cons_succ]
    refine wpAnyH_takeAt (i := 12) (d := 125) (v := ?vB12) (by kernel_rfl) (by kernel_rfl) (by kernel_rfl) (by kernel_rfl) (fun _ _ _ h => h) ?hyB12 (by assumption) ?restB12
    case hyB12 =>
      intro oi ho
      simp only [List.getElem?_toArray, List.getElem?_cons_succ, List.getElem?_cons_zero, Option.some.injEq] at ho
      subst ho
      refine Or.inl ⟨by rfl, ?_⟩
      intro wx hSw
      try dsimp only at hSw
      go_simp
      try rfl
    try simp only [Act.put, List.setIfInBounds_toArray, List.set_cons_zero, List.set_cons_succ]
    refine wpAnyH_comesAt (i := 11) (by kernel_rfl) (by kernel_rfl) ?_
    intro o ho K hK
    simp only [List.getElem?_toArray, List.getElem?_cons_succ, List.getElem?_cons_zero, Option.some.injEq] at ho
    subst ho
    go_simp
    refine (sum_any _ _ _ ys _ HC6.out).mono ?_
    rintro e w7 ⟨rfl, hb7⟩
    have HC7 := hid_of (HC6.out.later hb7 (Nat.le_refl _))
    have HD7 := hid_of (HD6.out.later hb7 (Nat.le_refl _))
    have HX7 := hid_of (HX6.out.later hb7 (Nat.le_refl _))
    have HS7 := hid_of (HS6.out.trans (hb7.mono HS6.out.size))
    clear hb7 hHeld
    refine hK.out _ _ ⟨run_text HC7.out, run_text HD7.out, run_text HX7.out⟩ (fun hHeld => ?_)
    clear hK K
    try simp only [Act.put, List.setIfInBounds_toArray, List.set_cons_zero, List.set_cons_succ]
    refine wpAnyH_takeAt (i := 13) (d := 126) (v := ?vB13) (by kernel_rfl) (by kernel_rfl) (by kernel_rfl) (by kernel_rfl) (fun _ _ _ h => h) ?hyB13 (by assumption) ?restB13
    case hyB13 =>
      intro oi ho
      simp only [List.getElem?_toArray, List.getElem?_cons_succ, List.getElem?_cons_zero, Option.some.injEq] at ho
      subst ho
      refine Or.inl ⟨by rfl, ?_⟩
      intro wx hSw
      try dsimp only at hSw
      go_simp
      try rfl
    try simp only [Act.put, List.setIfInBounds_toArray, List.set_cons_zero, List.set_cons_succ]
    refine wpAnyH_takeAt (i := 14) (d := 127) (v := ?vB14) (by kernel_rfl) (by kernel_rfl) (by kernel_rfl) (by kernel_rfl) (fun _ _ _ h => h) ?hyB14 (by assumption) ?restB14
    case hyB14 =>
      intro oi ho
      simp only [List.getElem?_toArray, List.getElem?_cons_succ, List.getElem?_cons_zero, Option.some.injEq] at ho
      subst ho
      refine Or.inl ⟨by rfl, ?_⟩
      intro wx hSw
      try dsimp only at hSw
      go_simp
      try rfl
    try simp only [Act.put, List.setIfInBounds_toArray, List.set_cons_zero, List.set_cons_succ]
    refine wpAnyH_takeAt (i := 15) (d := 128) (v := ?vB15) (by kernel_rfl) (by kernel_rfl) (by kernel_rfl) (by kernel_rfl) (fun _ _ _ h => h) ?hyB15 (by assumption) ?restB15
    case hyB15 =>
      intro oi ho
      simp only [List.getElem?_toArray, List.getElem?_cons_succ, List.getElem?_cons_zero, Option.some.injEq] at ho
      subst ho
      refine Or.inl ⟨by rfl, ?_⟩
      intro wx hSw
      try dsimp only at hSw
      go_simp
      try rfl
    try simp only [Act.put, List.setIfInBounds_toArray, List.set_cons_zero, List.set_cons_succ]
    refine wpAnyH_takeAt (i := 16) (d := 129) (v := ?vB16) (by kernel_rfl) (by kernel_rfl) (by kernel_rfl) (by kernel_rfl) (fun _ _ _ h => h) ?hyB16 (by assumption) ?restB16
    case hyB16 =>
      intro oi ho
      simp only [List.getElem?_toArray, List.getElem?_cons_succ, List.getElem?_cons_zero, Option.some.injEq] at ho
      subst ho
      refine Or.inl ⟨by rfl, ?_⟩
      intro wx hSw
      try dsimp only at hSw
      go_simp
      try rfl
    try simp only [Act.put, List.setIfInBounds_toArray, List.set_cons_zero, List.set_cons_succ]
    refine wpAnyH_takeAt (i := 17) (d := 130) (v := ?vB17) (by kernel_rfl) (by kernel_rfl) (by kernel_rfl) (by kernel_rfl) (fun _ _ _ h => h) ?hyB17 (by assumption) ?restB17
    case hyB17 =>
      intro oi ho
      simp only [List.getElem?_toArray, List.getElem?_cons_succ, List.getElem?_cons_zero, Option.some.injEq] at ho
      subst ho
      refine Or.inl ⟨by rfl, ?_⟩
      intro wx hSw
      try dsimp only at hSw
      go_simp
      try rfl
    try simp only [Act.put, List.setIfInBounds_toArray, List.set_cons_zero, List.set_cons_succ]
    refine wpAnyH_takeAt (i := 18) (d := 131) (v := ?vB18) (by kernel_rfl) (by kernel_rfl) (by kernel_rfl) (by kernel_rfl) (fun _ _ _ h => h) ?hyB18 (by assumption) ?restB18
    case hyB18 =>
      intro oi ho
      simp only [List.getElem?_toArray, List.getElem?_cons_succ, List.getElem?_cons_zero, Option.some.injEq] at ho
      subst ho
      refine Or.inl ⟨by rfl, ?_⟩
      intro wx hSw
      try dsimp only at hSw
      go_simp
      try rfl
    try simp only [Act.put, List.setIfInBounds_toArray, List.set_cons_zero, List.set_cons_succ]
    refine wpAnyH_takeAt (i := 19) (d := 132) (v := ?vB19) (by kernel_rfl) (by kernel_rfl) (by kernel_rfl) (by kernel_rfl) (fun _ _ _ h => h) ?hyB19 (by assumption) ?restB19
    case hyB19 =>
      intro oi ho
      simp only [List.getElem?_toArray, List.getElem?_cons_succ, List.getElem?_cons_zero, Option.some.injEq] at ho
      subst ho
      refine Or.inl ⟨by rfl, ?_⟩
      intro wx hSw
      try dsimp only at hSw
      go_simp
      try rfl
    try simp only [Act.put, List.setIfInBounds_toArray, List.set_cons_zero, List.set_cons_succ]
    refine wpAnyH_takeAt (i := 20) (d := 133) (v := ?vB20) (by kernel_rfl) (by kernel_rfl) (by kernel_rfl) (by kernel_rfl) (fun _ _ _ h => h) ?hyB20 (by assumption) ?restB20
    case hyB20 =>
      intro oi ho
      simp only [List.getElem?_toArray, List.getElem?_cons_succ, List.getElem?_cons_zero, Option.some.injEq] at ho
      subst ho
      refine Or.inl ⟨by rfl, ?_⟩
      intro wx hSw
      try dsimp only at hSw
      go_simp
      try rfl
    try simp only [Act.put, List.setIfInBounds_toArray, List.set_cons_zero, List.set_cons_succ]
    refine wpAnyH_takeAt (i := 21) (d := 134) (v := ?vB21) (by kernel_rfl) (by kernel_rfl) (by kernel_rfl) (by kernel_rfl) (fun _ _ _ h => h) ?hyB21 (by assumption) ?restB21
    case hyB21 =>
      intro oi ho
      simp only [List.getElem?_toArray, List.getElem?_cons_succ, List.getElem?_cons_zero, Option.some.injEq] at ho
      subst ho
      refine Or.inl ⟨by rfl, ?_⟩
      intro wx hSw
      try dsimp only at hSw
      go_simp
      try rfl
    try simp only [Act.put, List.setIfInBounds_toArray, List.set_cons_zero, List.set_cons_succ]
    refine wpAnyH_takeAt (i := 22) (d := 135) (v := ?vB22) (by kernel_rfl) (by kernel_rfl) (by kernel_rfl) (by kernel_rfl) (fun _ _ _ h => h) ?hyB22 (by assumption) ?restB22
    case hyB22 =>
      intro oi ho
      simp only [List.getElem?_toArray, List.getElem?_cons_succ, List.getElem?_cons_zero, Option.some.injEq] at ho
      subst ho
      refine Or.inl ⟨by rfl, ?_⟩
      intro wx hSw
      try dsimp only at hSw
      go_simp
      try rfl
    try simp only [Act.put, List.setIfInBounds_toArray, List.set_cons_zero, List.set_cons_succ]
    refine wpAnyH_takeAt (i := 23) (d := 136) (v := ?vB23) (by kernel_rfl) (by kernel_rfl) (by kernel_rfl) (by kernel_rfl) (fun _ _ _ h => h) ?hyB23 (by assumption) ?restB23
    case hyB23 =>
      intro oi ho
      simp only [List.getElem?_toArray, List.getElem?_cons_succ, List.getElem?_cons_zero, Option.some.injEq] at ho
      subst ho
      refine Or.inl ⟨by rfl, ?_⟩
      intro wx hSw
      try dsimp only at hSw
      go_simp
      try rfl
    try simp only [Act.put, List.setIfInBounds_toArray, List.set_cons_zero, List.set_cons_succ]
    refine wpAnyH_takeAt (i := 24) (d := 137) (v := ?vB24) (by kernel_rfl) (by kernel_rfl) (by kernel_rfl) (by kernel_rfl) (fun _ _ _ h => h) ?hyB24 (by assumption) ?restB24
    case hyB24 =>
      intro oi ho
      simp only [List.getElem?_toArray, List.getElem?_cons_succ, List.getElem?_cons_zero, Option.some.injEq] at ho
      subst ho
      refine Or.inl ⟨by rfl, ?_⟩
      intro wx hSw
      try dsimp only at hSw
      go_simp
      try rfl
    try simp only [Act.put, List.setIfInBounds_toArray, List.set_cons_zero, List.set_cons_succ]
    refine wpAnyH_takeAt (i := 25) (d := 138) (v := ?vB25) (by kernel_rfl) (by kernel_rfl) (by kernel_rfl) (by kernel_rfl) (fun _ _ _ h => h) ?hyB25 (by assumption) ?restB25
    case hyB25 =>
      intro oi ho
      simp only [List.getElem?_toArray, List.getElem?_cons_succ, List.getElem?_cons_zero, Option.some.injEq] at ho
      subst ho
      refine Or.inl ⟨by rfl, ?_⟩
      intro wx hSw
      try dsimp only at hSw
      go_simp
      try rfl
    try simp only [Act.put, List.setIfInBounds_toArray, List.set_cons_zero, List.set_cons_succ]
    refine wpAnyH_takeAt (i := 27) (d := 140) (v := ?vB27) (by kernel_rfl) (by kernel_rfl) (by kernel_rfl) (by kernel_rfl) (fun _ _ _ h => h) ?hyB27 (by assumption) ?restB27
    case hyB27 =>
      intro oi ho
      simp only [List.getElem?_toArray, List.getElem?_cons_succ, List.getElem?_cons_zero, Option.some.injEq] at ho
      subst ho
      refine Or.inl ⟨by rfl, ?_⟩
      intro wx hSw
      try dsimp only at hSw
      go_simp
      try rfl
    try simp only [Act.put, List.setIfInBounds_toArray, List.set_cons_zero, List.set_cons_succ]
    refine wpAnyH_comesAt (i := 26) (by kernel_rfl) (by kernel_rfl) ?_
    intro o ho K hK
    simp only [List.getElem?_toArray, List.getElem?_cons_succ, List.getElem?_cons_zero, Option.some.injEq] at ho
    subst ho
    go_simp
    refine (sum_any _ _ _ zs _ HD7.out).mono ?_
    rintro e w8 ⟨rfl, hb8⟩
    have HC8 := hid_of (HC7.out.later hb8 (Nat.le_refl _))
    have HD8 := hid_of (HD7.out.later hb8 (Nat.le_refl _))
    have HX8 := hid_of (HX7.out.later hb8 (Nat.le_refl _))
    have HS8 := hid_of (HS7.out.trans (hb8.mono HS7.out.size))
    clear hb8 hHeld
    refine hK.out _ _ ⟨run_text HC8.out, run_text HD8.out, run_text HX8.out⟩ (fun hHeld => ?_)
    clear hK K
    try simp only [Act.put, List.setIfInBounds_toArray, List.set_cons_zero, List.set_cons_succ]
    refine wpAnyH_takeAt (i := 28) (d := 141) (v := ?vB28) (by kernel_rfl) (by kernel_rfl) (by kernel_rfl) (by kernel_rfl) (fun _ _ _ h => h) ?hyB28 (by assumption) ?restB28
    case hyB28 =>
      intro oi ho
      simp only [List.getElem?_toArray, List.getElem?_cons_succ, List.getElem?_cons_zero, Option.some.injEq] at ho
      subst ho
      refine Or.inl ⟨by rfl, ?_⟩
      intro wx hSw
      try dsimp only at hSw
      go_simp
      try rfl
    try simp only [Act.put, List.setIfInBounds_toArray, List.set_cons_zero, List.set_cons_succ]
    refine wpAnyH_takeAt (i := 29) (d := 142) (v := ?vB29) (by kernel_rfl) (by kernel_rfl) (by kernel_rfl) (by kernel_rfl) (fun _ _ _ h => h) ?hyB29 (by assumption) ?restB29
    case hyB29 =>
      intro oi ho
      simp only [List.getElem?_toArray, List.getElem?_cons_succ, List.getElem?_cons_zero, Option.some.injEq] at ho
      subst ho
      refine Or.inl ⟨by rfl, ?_⟩
      intro wx hSw
      try dsimp only at hSw
      go_simp
      try rfl
    try simp only [Act.put, List.setIfInBounds_toArray, List.set_cons_zero, List.set_cons_succ]
    refine wpAnyH_takeAt (i := 30) (d := 143) (v := ?vB30) (by kernel_rfl) (by kernel_rfl) (by kernel_rfl) (by kernel_rfl) (fun _ _ _ h => h) ?hyB30 (by assumption) ?restB30
    case hyB30 =>
      intro oi ho
      simp only [List.getElem?_toArray, List.getElem?_cons_succ, List.getElem?_cons_zero, Option.some.injEq] at ho
      subst ho
      refine Or.inl ⟨by rfl, ?_⟩
      intro wx hSw
      try dsimp only at hSw
      go_simp
      try rfl
    try simp only [Act.put, List.setIfInBounds_toArray, List.set_cons_zero, List.set_cons_succ]
    refine wpAnyH_takeAt (i := 31) (d := 10) (v := ?vB31) (by kernel_rfl) (by kernel_rfl) (by kernel_rfl) (by kernel_rfl) (fun _ _ _ h => h) ?hyB31 (by assumption) ?restB31
    case hyB31 =>
      intro oi ho
      simp only [List.getElem?_toArray, List.getElem?_cons_succ, List.getElem?_cons_zero, Option.some.injEq] at ho
      subst ho
      refine Or.inl ⟨by rfl, ?_⟩
      intro wx hSw
      try dsimp only at hSw
      go_simp
      try rfl
    try simp only [Act.put, List.setIfInBounds_toArray, List.set_cons_zero, List.set_cons_succ]
    refine wpAnyH_done (by kernel_rfl) ?_ _
    refine NoPanic.normal ?_
    go_wp2
    go_ret
    exact ⟨rfl, HS8.out⟩

theorem wireBits_walk (a0 : Option Addr) (len0 cap0 : Nat) (xs : List Nat) (i j k pat : Int) (w : World) (h : BS w a0 len0 cap0 xs) (_hr : len0 ≤ 140737488351232) (_hi : (Lit.int .i64 i).wf = true) (_hj : (Lit.int .i64 j).wf = true) (_hk : (Lit.int .i64 k).wf = true) (hp : (Lit.int .u32 pat).wf = true) :
    Calls Try.prog 8 #[.slice a0 len0 cap0, .int .i64 i, .int .i64 j, .int .i64 k, .int .u32 pat] w fun e w' => e = .returned (.bool true) ∧ Below w.heap.size w w' := by
  rcases Nat.eq_zero_or_pos len0 with z | z
  · subst z
    exact wireBits_none a0 cap0 i j k pat w
  · obtain ⟨b, o, rfl, _, _⟩ := h.place z
    have hb := bounds_u32 hp
    obtain ⟨q, rfl⟩ := Int.eq_ofNat_of_zero_le hb.1
    exact wireBits_some b o len0 cap0 xs i j k q w h z (by omega)
end Go.Proofs.Ytblgagjifaeadaa
