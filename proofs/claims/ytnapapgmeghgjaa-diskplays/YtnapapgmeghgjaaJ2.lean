/- What Flip does to the disk: a block's kept bytes, and each of its open writes. -/
import Derived.Test.YtnapapgmeghgjaaJ1
set_option linter.unusedVariables false
namespace Go.Proofs.Ytnapapgmeghgjaa
open Go.RowKit

theorem turnL_len (xs : List Nat) (bit : Nat) : (turnL xs bit).length = turnN xs bit := by
  rw [turnL, List.length_set, padTo, List.length_append, zs_len]
  unfold turnN
  omega
theorem turnN_le {xs : List Nat} {bit : Nat} (h : xs.length ≤ blk) (hb : bit < 65536) : turnN xs bit ≤ blk := by
  unfold turnN blk at *
  omega
theorem turnL_lt {xs : List Nat} {bit : Nat} (h : ∀ c ∈ xs, c < 256) : ∀ c ∈ turnL xs bit, c < 256 := by
  have hp : ∀ c ∈ padTo (turnN xs bit) xs, c < 256 := by
    intro c hc
    simp only [padTo, List.mem_append] at hc
    exact hc.elim (h c) (zs_lt _ c)
  intro c hc
  rcases List.mem_or_eq_of_mem_set hc with h1 | h1
  · exact hp c h1
  · rw [h1]
    have h8 : (2 : Nat) ^ (bit % 8) < 2 ^ 8 := Nat.pow_lt_pow_right (by omega) (Nat.mod_lt bit (by omega))
    exact Nat.xor_lt_two_pow (n := 8) (byteAt hp _) h8

/-- A block's kept bytes, or an open write's bytes, laid anew. -/
def DS.setKp (s : DS) (a : Nat) (ys : List Nat) : DS := { s with kept := s.kept.set a ys }
def DS.setBy (s : DS) (i : Nat) (ys : List Nat) : DS := { s with opens := s.opens.set i (s.at_ i, ys) }
section
variable (s : DS) (a : Nat) (ys : List Nat)
theorem setKp_n : (s.setKp a ys).n = s.n := by simp [DS.setKp, DS.n]
theorem setKp_K (i : Nat) (h : a < s.n) : (s.setKp a ys).K i = if i = a then ys else s.K i := by
  simp only [DS.n] at h
  simp only [DS.setKp, DS.K, List.getD_eq_getElem?_getD, List.getElem?_set]
  by_cases e : i = a
  · subst e; simp [h]
  · rw [if_neg e, if_neg (fun e2 => e e2.symm)]
theorem setBy_m : (s.setBy a ys).m = s.m := by simp [DS.setBy, DS.m]
theorem setBy_at (i : Nat) : (s.setBy a ys).at_ i = s.at_ i := by
  simp only [DS.setBy, DS.at_, List.getD_eq_getElem?_getD, List.getElem?_set]
  by_cases e : a = i
  · subst e
    rw [if_pos rfl]
    split
    · rfl
    · rename_i h
      rw [List.getElem?_eq_none (by omega)]
  · rw [if_neg e]
theorem setBy_by (i : Nat) (h : a < s.m) : (s.setBy a ys).by_ i = if i = a then ys else s.by_ i := by
  simp only [DS.m] at h
  simp only [DS.setBy, DS.by_, List.getD_eq_getElem?_getD, List.getElem?_set]
  by_cases e : i = a
  · subst e; simp [h]
  · rw [if_neg e, if_neg (fun e2 => e e2.symm)]
theorem setBy_idx (b : Nat) : (s.setBy a ys).idx b = s.idx b := by
  unfold DS.idx
  rw [setBy_m]
  apply List.filter_congr
  intro i _
  rw [setBy_at]
theorem setKp_ok (h : s.Ok) (ha : a < s.n) (h1 : ys.length ≤ blk) (h2 : ∀ c ∈ ys, c < 256) : (s.setKp a ys).Ok where
  n1 := by rw [setKp_n]; exact h.n1
  n2 := by rw [setKp_n]; exact h.n2
  kl := fun i => by rw [setKp_K s a ys i ha]; split; exact h1; exact h.kl i
  kb := fun i => by rw [setKp_K s a ys i ha]; split; exact h2; exact h.kb i
  at_ := fun i hi => by rw [setKp_n]; exact h.at_ i hi
  bl := h.bl
  bb := h.bb
  mm := h.mm
  keep := h.keep
  after := h.after
  life0 := h.life0
  life1 := h.life1
theorem setBy_ok (h : s.Ok) (ha : a < s.m) (h1 : ys.length ≤ blk) (h2 : ∀ c ∈ ys, c < 256) : (s.setBy a ys).Ok where
  n1 := h.n1
  n2 := h.n2
  kl := h.kl
  kb := h.kb
  at_ := fun i hi => by rw [setBy_m] at hi; rw [setBy_at]; exact h.at_ i hi
  bl := fun i => by rw [setBy_by s a ys i ha]; split; exact h1; exact h.bl i
  bb := fun i => by rw [setBy_by s a ys i ha]; split; exact h2; exact h.bb i
  mm := by rw [setBy_m]; exact h.mm
  keep := h.keep
  after := h.after
  life0 := h.life0
  life1 := h.life1
end
section
variable {B p gb : Nat} {vo : Value} {kv ov wv : Nat → Value} {s : DS} {w : World}
theorem DV.setKp [Gd] (h : DV B p gb vo kv ov wv s w) {a : Nat} (ha : a < s.n) {ys : List Nat} {v : Value} (hv : w.ownsRow B 5 1 v ys.length (cellsOf ys)) (h1 : ys.length ≤ blk) (h2 : ∀ c ∈ ys, c < 256) (hv8 : ∀ j, Gd.b j → v.ownBlock ≠ some j) :
    DV B p gb vo (upd kv a v) ov wv (s.setKp a ys) (w.setCell ⟨gb, a * 2, none⟩ v) ∧ Fr B w (w.setCell ⟨gb, a * 2, none⟩ v) := by
  have f : Fr B w (w.setCell ⟨gb, a * 2, none⟩ v) := Fr.set h.hg h.gB (Or.inr (Or.inl rfl)) _ _
  have st := stay_set (o := a * 2) (u := v) h.hg
  refine ⟨⟨?_, ?_, own_stay h.hw fun k cs _ e => st k cs _ e (by decide), ?_, fun i hi => f.bytes (h.hb i hi), ?_, ?_, h.pB, h.gB, setKp_ok s a ys h.ok ha h1 h2, fun k hk => ⟨by obtain ⟨cs, e⟩ := (h.hG k hk).1; exact ⟨cs, f.gd k cs hk e⟩, fun i hi => (h.hG k hk).2 i (by rw [setKp_n] at hi; exact hi)⟩, fun k hk => ⟨by obtain ⟨cs, e⟩ := (h.h8 k hk).1; exact ⟨cs, f.stay k cs _ _ e (by decide) (by decide) (by decide) (by decide)⟩, fun i hi => by
    rw [setKp_n] at hi
    by_cases e : i = a
    · rw [e, upd_at]; exact hv8 k hk
    · rw [upd_ne _ _ e]; exact (h.h8 k hk).2.1 i hi, (h.h8 k hk).2.2⟩⟩, f⟩
  · rw [setKp_n]; exact st p _ _ h.hp (by decide)
  · rw [setKp_n, heap_setCell_same w gb _ _ _ v h.hg]
    congr 2
    apply Array.toList_inj.1
    rw [Array.toList_setIfInBounds, two_set0 _ _ _ _ _ ha]
  · intro i hi
    rw [setKp_n] at hi
    rw [setKp_K s a ys i ha]
    by_cases e : i = a
    · rw [if_pos e, e, upd_at]; exact f.bytes hv
    · rw [if_neg e, upd_ne _ _ e]; exact f.bytes (h.hk i hi)
  · intro i hi
    rw [setKp_n] at hi
    exact own_stay (h.ho i hi) fun k cs _ e => st k cs _ e (by decide)
  · intro i j k hi hj
    rw [setKp_n] at hi hj
    exact h.ha i j k hi hj
theorem DV.setBy [Gd] (h : DV B p gb vo kv ov wv s w) {i : Nat} (hi : i < s.m) {g c : Nat} (hvo : vo = .slice (some ⟨g, 0, none⟩) s.m c) {ys : List Nat} {v : Value} (hv : w.ownsRow B 5 1 v ys.length (cellsOf ys)) (h1 : ys.length ≤ blk) (h2 : ∀ c ∈ ys, c < 256) (hv8 : ∀ j, Gd.b j → v.ownBlock ≠ some j) :
    DV B p gb vo kv ov (upd wv i v) (s.setBy i ys) (w.setCell ⟨g, i * 2 + 1, none⟩ v) ∧ Fr B w (w.setCell ⟨g, i * 2 + 1, none⟩ v) := by
  have hw := h.hw
  rw [hvo] at hw
  obtain ⟨hB, cur, hc⟩ := own_block hw (show Value.ownBlock _ = some g from rfl)
  have f : Fr B w (w.setCell ⟨g, i * 2 + 1, none⟩ v) := Fr.set hc hB (Or.inr (Or.inr (Or.inl rfl))) _ _
  have st := stay_set (o := i * 2 + 1) (u := v) hc
  refine ⟨⟨st p _ _ h.hp (by decide), st gb _ _ h.hg (by decide), ?_, fun j hj => f.bytes (h.hk j hj), ?_, ?_, h.ha, h.pB, h.gB, setBy_ok s i ys h.ok hi h1 h2, fun k hk => ⟨by obtain ⟨cs, e⟩ := (h.hG k hk).1; exact ⟨cs, f.gd k cs hk e⟩, (h.hG k hk).2⟩, fun k hk => ⟨by obtain ⟨cs, e⟩ := (h.h8 k hk).1; exact ⟨cs, f.stay k cs _ _ e (by decide) (by decide) (by decide) (by decide)⟩, (h.h8 k hk).2.1, fun j hj => by
    rw [setBy_m] at hj
    by_cases e : j = i
    · rw [e, upd_at]; exact hv8 k hk
    · rw [upd_ne _ _ e]; exact (h.h8 k hk).2.2 j hj⟩⟩, f⟩
  · have := (hw.stored (i * 2 + 1) v).1
    rw [two_set1 _ _ _ _ _ hi] at this
    rw [setBy_m, hvo]
    rw [two_congr (f' := fun j => .int .i64 (s.at_ j : Nat)) (g' := upd wv i v) s.m (fun j _ => ⟨by rw [setBy_at], rfl⟩)]
    exact this
  · intro j hj
    rw [setBy_m] at hj
    rw [setBy_by s i ys j hi]
    by_cases e : j = i
    · rw [if_pos e, e, upd_at]; exact f.bytes hv
    · rw [if_neg e, upd_ne _ _ e]; exact f.bytes (h.hb j hj)
  · intro j hj
    rw [setBy_idx]
    exact own_stay (h.ho j hj) fun k cs _ e => st k cs _ e (by decide)
end
/-- The open writes of some numbers, turned. -/
def DS.flipF (s : DS) (bit : Nat) (l : List Nat) : DS := l.foldl (fun s i => s.setBy i (turnL (s.by_ i) bit)) s
def DS.flip (s : DS) (a bit : Nat) : DS := (s.setKp a (turnL (s.K a) bit)).flipF bit (s.idx a)
theorem flipF_snoc (s : DS) (bit : Nat) (l : List Nat) (i : Nat) : s.flipF bit (l ++ [i]) = (s.flipF bit l).setBy i (turnL ((s.flipF bit l).by_ i) bit) := by simp [DS.flipF]
theorem flipF_m (bit : Nat) : ∀ (l : List Nat) (s : DS), (s.flipF bit l).m = s.m ∧ (s.flipF bit l).n = s.n ∧ ∀ b, (s.flipF bit l).idx b = s.idx b
  | [], _ => ⟨rfl, rfl, fun _ => rfl⟩
  | i :: l, s => by
    have ih := flipF_m bit l (s.setBy i (turnL (s.by_ i) bit))
    have e : s.flipF bit (i :: l) = (s.setBy i (turnL (s.by_ i) bit)).flipF bit l := rfl
    rw [e]
    exact ⟨by rw [ih.1, setBy_m], ih.2.1, fun b => by rw [ih.2.2 b, setBy_idx]⟩
end Go.Proofs.Ytnapapgmeghgjaa
