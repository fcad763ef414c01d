/- Contract of the document's own Flip. -/
import Derived.Test.YtnapapgmeghgjaaV8
import Derived.Test.YtnapapgmeghgjaaJ4
set_option linter.unusedVariables false
namespace Go.Proofs.Ytnapapgmeghgjaa
open Go.RowKit

theorem pad_turn {xs : List Nat} {bit : Nat} (h : xs.length ≤ blk) (hb : bit < 65536) : (pad xs).set (bit / 8) ((pad xs).getD (bit / 8) 0 ^^^ 2 ^ (bit % 8)) = pad (turnL xs bit) := by
  have l1 : (turnL xs bit).length ≤ blk := by rw [turnL_len]; exact turnN_le h hb
  have hb8 : bit / 8 < blk := by unfold blk; omega
  apply List.ext_getElem
  · rw [List.length_set, pad_len h, pad_len l1]
  · intro i h1 h2
    have e2 : (pad (turnL xs bit))[i] = (pad (turnL xs bit)).getD i 0 := by simp [List.getD_eq_getElem?_getD, h2]
    have h3 : i < (pad xs).length := by rw [List.length_set] at h1; exact h1
    have e3 : (pad xs)[i] = (pad xs).getD i 0 := by simp [List.getD_eq_getElem?_getD, h3]
    rw [List.getElem_set, e2, e3]
    by_cases e : bit / 8 = i
    · rw [if_pos e, pad_getD, pad_getD, turnL_getD, if_pos e.symm, e]
    · rw [if_neg e, pad_getD, pad_getD, turnL_getD, if_neg (fun q => e q.symm)]
section
variable [Gc] {b : Nat → Prop} {B p gk : Nat} {vo : Value} {kv wv : Nat → Value} {kb : Nat → List Nat} {t : DS} {w wr w2 : World}
/-- A bit of an open write, turned in its place. -/
theorem RV.turnBy (h : RV B p gk vo kv wv kb t w) {i bit g2 N p2 : Nat} (hi : i < t.m) (hN : blk = N) (hw : wv i = .slice (some ⟨g2, 0, none⟩) N p2) (hbit : bit < 65536) (hbb : b g2) :
    RV B p gk vo kv wv kb (t.setBy i (turnL (t.by_ i) bit)) (w.setCell ⟨g2, bit / 8, none⟩ (.int .u8 (((pad (t.by_ i)).getD (bit / 8) 0 ^^^ 2 ^ (bit % 8) : Nat) : Int))) ∧ Fd b B w (w.setCell ⟨g2, bit / 8, none⟩ (.int .u8 (((pad (t.by_ i)).getD (bit / 8) 0 ^^^ 2 ^ (bit % 8) : Nat) : Int))) := by
  have hrow := h.hb i hi
  rw [hw, hN] at hrow
  obtain ⟨hB2, cur, hc⟩ := own_block hrow (show Value.ownBlock _ = some g2 from rfl)
  have st := stay_set (o := bit / 8) (u := .int .u8 (((pad (t.by_ i)).getD (bit / 8) 0 ^^^ 2 ^ (bit % 8) : Nat) : Int)) hc
  have oth : ∀ k, k ≠ g2 → (w.setCell ⟨g2, bit / 8, none⟩ (.int .u8 (((pad (t.by_ i)).getD (bit / 8) 0 ^^^ 2 ^ (bit % 8) : Nat) : Int))).heap[k]? = w.heap[k]? := fun k hk => heap_setCell_other _ _ _ _ hk
  have f : Fd b B w (w.setCell ⟨g2, bit / 8, none⟩ (.int .u8 (((pad (t.by_ i)).getD (bit / 8) 0 ^^^ 2 ^ (bit % 8) : Nat) : Int))) := Fd.set hc hB2 (Or.inr (Or.inr (Or.inr hbb)))
  have hwi : (wv i).ownBlock = some g2 := by rw [hw]; rfl
  have l1 : (turnL (t.by_ i) bit).length ≤ blk := by rw [turnL_len]; exact turnN_le (h.ok.bl i) hbit
  refine ⟨⟨?_, st _ _ _ h.hg (by decide), ?_, fun j hj => own_stay (h.hk j hj) fun k cs hk e => by rw [oth k (fun q => h.hc i j g2 hi hj hwi (by rw [hk, q])), e], h.kp, fun j hj => ?_, ?_, ?_, h.pB, h.gB, setBy_ok t i _ h.ok hi l1 (turnL_lt (h.ok.bb i)), h.dz, fun j hj => ⟨by obtain ⟨cs, e⟩ := (h.h8 j hj).1; exact ⟨cs, by rw [oth j (fun q => (h.h8 j hj).2.2 i hi (by rw [hwi, q])), e]⟩, (h.h8 j hj).2.1, fun x hx => by rw [setBy_m] at hx; exact (h.h8 j hj).2.2 x hx⟩⟩, f⟩
  · exact st _ _ _ h.hp (by decide)
  · rw [setBy_m]
    rw [two_congr (f' := fun j => .int .i64 (t.at_ j : Nat)) (g' := wv) t.m (fun j _ => ⟨by rw [setBy_at], rfl⟩)]
    exact own_stay h.hw fun k cs _ e => st k cs _ e (by decide)
  · rw [setBy_m] at hj
    rw [setBy_by t i _ j hi]
    by_cases e : j = i
    · rw [if_pos e, e, hw, hN, ← pad_turn (h.ok.bl i) hbit]
      have := (hrow.stored (bit / 8) (.int .u8 (((pad (t.by_ i)).getD (bit / 8) 0 ^^^ 2 ^ (bit % 8) : Nat) : Int))).1
      have e5 : cellsOf ((pad (t.by_ i)).set (bit / 8) ((pad (t.by_ i)).getD (bit / 8) 0 ^^^ 2 ^ (bit % 8))) = (cellsOf (pad (t.by_ i))).set (bit / 8) (.int .u8 (((pad (t.by_ i)).getD (bit / 8) 0 ^^^ 2 ^ (bit % 8) : Nat) : Int)) := by simp [cellsOf, List.map_set]
      rw [e5]
      exact this
    · rw [if_neg e]
      exact own_stay (h.hb j hj) fun k cs hk e2 => by rw [oth k (fun q => h.ha i j g2 hi hj (fun q2 => e q2.symm) hwi (by rw [hk, q])), e2]
  · intro x y k hx hy
    rw [setBy_m] at hx hy
    exact h.ha x y k hx hy
  · intro x y k hx
    rw [setBy_m] at hx
    exact h.hc x y k hx
/-- A block's bytes are others. -/
theorem RV.turnK (h : RV B p gk vo kv wv kb t w) {a bit : Nat} (ha : a < t.n) (hbit : bit < 65536) {v : Value} {ys : List Nat} (hv : w.ownsRow B 5 1 v ys.length (cellsOf ys)) (hl : ys.length = blk) (hy : ys = pad (turnL (t.K a) bit)) (hn : ∀ k, v.ownBlock = some k → ∀ i, i < t.m → (wv i).ownBlock ≠ some k) (hv8 : ∀ j, Gc.c j → v.ownBlock ≠ some j) :
    RV B p gk vo (upd kv a v) wv (fun i => if i = a then ys else kb i) (t.setKp a (turnL (t.K a) bit)) (w.setCell ⟨gk, a, none⟩ v) ∧ Fd b B w (w.setCell ⟨gk, a, none⟩ v) := by
  have st := stay_set (o := a) (u := v) h.hg
  have f : Fd b B w (w.setCell ⟨gk, a, none⟩ v) := Fd.set h.hg h.gB (Or.inr (Or.inl rfl))
  have l1 : (turnL (t.K a) bit).length ≤ blk := by rw [turnL_len]; exact turnN_le (h.ok.kl a) hbit
  refine ⟨⟨?_, ?_, own_stay h.hw fun k cs _ e => st k cs _ e (by decide), fun i hi => ?_, fun i hi => ?_, fun i hi => own_stay (h.hb i hi) fun k cs _ e => st k cs _ e (by decide), h.ha, ?_, h.pB, h.gB, setKp_ok t a _ h.ok ha l1 (turnL_lt (h.ok.kb a)), h.dz, fun j hj => ⟨by obtain ⟨cs, e⟩ := (h.h8 j hj).1; exact ⟨cs, st _ _ _ e (by decide)⟩, fun i hi => by
    rw [setKp_n] at hi
    by_cases e : i = a
    · rw [e, upd_at]; exact hv8 j hj
    · rw [upd_ne _ _ e]; exact (h.h8 j hj).2.1 i hi, (h.h8 j hj).2.2⟩⟩, f⟩
  · unfold headR
    rw [setKp_n]
    exact st _ _ _ h.hp (by decide)
  · rw [setKp_n, heap_setCell_same w gk _ _ _ v h.hg, List.setIfInBounds_toArray, krow_set _ ha]
  · rw [setKp_n] at hi
    by_cases e : i = a
    · rw [if_pos e, e, upd_at]
      exact own_stay hv fun k cs _ e => st k cs _ e (by decide)
    · rw [if_neg e, upd_ne _ _ e]
      exact own_stay (h.hk i hi) fun k cs _ e => st k cs _ e (by decide)
  · rw [setKp_n] at hi
    rw [setKp_K t a _ i ha]
    by_cases e : i = a
    · rw [if_pos e, if_pos e]
      exact ⟨by rw [pad_same hl]; exact hy, Or.inr hl⟩
    · rw [if_neg e, if_neg e]
      exact h.kp i hi
  · intro i j k hi hj hk
    rw [setKp_n] at hj
    by_cases e : j = a
    · rw [e, upd_at]
      intro q
      exact hn k q i hi hk
    · rw [upd_ne _ _ e]
      exact h.hc i j k hi hj hk
end
theorem flipF_idxK (t : DS) (a bit k : Nat) : (t.setKp a (turnL (t.K a) bit)).flipF bit (t.idxK (k + 1) a) = if t.at_ k = a then ((t.setKp a (turnL (t.K a) bit)).flipF bit (t.idxK k a)).setBy k (turnL (((t.setKp a (turnL (t.K a) bit)).flipF bit (t.idxK k a)).by_ k) bit) else (t.setKp a (turnL (t.K a) bit)).flipF bit (t.idxK k a) := by
  rw [idxK_succ]
  by_cases e : a = t.at_ k
  · rw [if_pos e, if_pos e.symm, flipF_snoc]
  · rw [if_neg e, if_neg (fun q => e q.symm), List.append_nil]
theorem flipF_at (bit : Nat) : ∀ (l : List Nat) (s : DS) (i : Nat), (s.flipF bit l).at_ i = s.at_ i
  | [], _, _ => rfl
  | j :: l, s, i => by
    have e : s.flipF bit (j :: l) = (s.setBy j (turnL (s.by_ j) bit)).flipF bit l := rfl
    rw [e, flipF_at bit l, setBy_at]
end Go.Proofs.Ytnapapgmeghgjaa
