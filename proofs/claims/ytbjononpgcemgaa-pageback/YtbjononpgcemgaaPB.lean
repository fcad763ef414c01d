/- Contract of page.bytesOf. -/
import Derived.Test.YtbjononpgcemgaaPA
set_option linter.unusedVariables false
namespace Go.Proofs.Ytbjononpgcemgaa
open Go.RowKit

theorem bs_sub {w : World} {g o len cap : Nat} {xs : List Nat} (h : BS w (some ⟨g, o, none⟩) len cap xs) (p k : Nat) (hp : p + k ≤ len) : BS w (some ⟨g, o + p, none⟩) k (cap - p) ((xs.drop p).take k) := by
  have h1 := h.hlen
  have h2 := h.hcap
  have h3 := h.hroom
  have h4 := h.hmax
  refine BS.of (by rw [List.length_take, List.length_drop]; omega) (by omega) (by omega) (by omega) (fun n hn => h.hbyte n (List.mem_of_mem_drop (List.mem_of_mem_take hn))) (fun i hi => ?_)
  have := h.hcell _ rfl (p + i) (by omega)
  rw [add_plain, ← Nat.add_assoc] at this
  rw [this]
  congr 3
  simp only [List.getD_eq_getElem?_getD]
  rw [List.getElem?_take_of_lt hi, List.getElem?_drop]
theorem pad_eq {xs : List Nat} (h : xs.length = blk) : pad xs = xs := by rw [pad, h, Nat.sub_self]; simp [zs]
theorem laid_count (b : List Nat) (h : b.length ≤ 8186) : ((pad (laidP b)).drop 4).take 2 = ord b.length 2 := by
  have e : pad (laidP b) = ord (sumL ((pad (contentP b)).take 8188)) 4 ++ (ord b.length 2 ++ (b ++ zs (blk - (laidP b).length))) := by
    unfold pad
    conv => lhs; rw [laidP]
    rw [contentP]
    simp only [List.append_assoc]
    rfl
  rw [e, List.drop_append_of_le_length (by rw [ord_len]; exact Nat.le_refl _), List.drop_of_length_le (by rw [ord_len]; exact Nat.le_refl _), List.nil_append]
  rw [List.take_append_of_le_length (by rw [ord_len]; exact Nat.le_refl _), List.take_of_length_le (by rw [ord_len]; exact Nat.le_refl _)]
theorem laid_bytes (b : List Nat) (h : b.length ≤ 8186) : ((pad (laidP b)).drop 6).take b.length = b := by
  have e : pad (laidP b) = (ord (sumL ((pad (contentP b)).take 8188)) 4 ++ ord b.length 2) ++ (b ++ zs (blk - (laidP b).length)) := by
    unfold pad
    conv => lhs; rw [laidP]
    rw [contentP]
    simp only [List.append_assoc]
    rfl
  have l : (ord (sumL ((pad (contentP b)).take 8188)) 4 ++ ord b.length 2).length = 6 := by rw [List.length_append, ord_len, ord_len]
  rw [e, List.drop_append_of_le_length (by rw [l]; exact Nat.le_refl _), List.drop_of_length_le (by rw [l]; exact Nat.le_refl _), List.nil_append]
  rw [List.take_append_of_le_length (Nat.le_refl _), List.take_of_length_le (Nat.le_refl _)]
/-- What Put lays is read so. -/
theorem pageOf_laid (b : List Nat) (h : b.length ≤ 8186) : pageOf (pad (laidP b)) = some b := by
  unfold pageOf
  rw [laid_count b h, ordN_ord 2 _ (by omega), if_neg (by omega), laid_bytes b h, if_pos rfl]

set_option maxRecDepth 100000 in
set_option maxHeartbeats 2000000 in
theorem bytesOf_any (g : Nat) (xs : List Nat) (w : World) (h : BS w (some ⟨g, 0, none⟩) blk blk xs) :
    Calls Try.prog 37 #[.slice (some ⟨g, 0, none⟩) blk blk] w fun e w' => (match pageOf xs with | none => e = .returned (.tuple #[.slice none 0 0, .int .i64 22]) | some b => ∃ v, e = .returned (.tuple #[v, .int .i64 0]) ∧ w'.ownsRow w.heap.size 5 1 v b.length (cellsOf b)) ∧ Below w.heap.size w w' := by
  have H := hide h
  have HS := hide (bs_sub h 4 2 (by unfold blk; omega))
  have HBL := hide (bs_sub h 6)
  have HXL := hide h.hlen
  have HP : Hid (pageOf xs = if 8186 < ordN ((xs.drop 4).take 2) then none else if xs = pad (laidP ((xs.drop 6).take (ordN ((xs.drop 4).take 2)))) then some ((xs.drop 6).take (ordN ((xs.drop 4).take 2))) else none) := rfl
  have b8 : ((blk : Nat) : Int) = 8192 := rfl
  have HB8 : Hid (blk = 8192) := rfl
  clear h
  generalize pageOf xs = R at *
  go_enter Try.func37, Try.ntmps37
  generalize hN : blk = N at *
  have HN := hide hN
  clear hN
  go_wp2_with fail
  refine (orderedNumber_any _ 2 _ _ w HS.out (by omega)).mono ?_
  rintro e w1 ⟨rfl, rfl⟩
  have hnl : ordN ((xs.drop 4).take 2) < 65536 := by
    have h1 := ordN_lt HS.out.hbyte 2 (by rw [HS.out.hlen]; exact Nat.le_refl _)
    rw [List.take_of_length_le (by rw [HS.out.hlen]; exact Nat.le_refl _)] at h1
    exact h1
  generalize ordN ((xs.drop 4).take 2) = n at *
  by_cases h1 : 8186 < n
  · have d1 : (8186 : Int) < (n : Int) := by omega
    rw [if_pos h1] at HP
    obtain rfl : R = none := HP.out
    clear h1 HP
    go_wp2
    go_ret2
    exact ⟨rfl, Below.refl _ _⟩
  · have d1 : ¬ (8186 : Int) < (n : Int) := by omega
    rw [if_neg h1] at HP
    have HBB := hide (HBL.out n (by rw [HB8.out]; omega))
    have HBC := hide HBB.out.hlen
    generalize (xs.drop 6).take n = b at *
    clear h1
    go_wp2_with fail
    refine (plaid_any _ n _ b w1 HBB.out (by omega)).mono ?_
    rintro e w2 ⟨v2, rfl, ho2, hb2⟩
    have HPL := hide (laidP_len b)
    have HPB := hide (laidP_lt HBB.out.hbyte)
    obtain ⟨a2, c2, rfl, B2⟩ := bs_row ho2 (by rw [HPL.out, HBC.out]; omega) HPB.out
    have HBS2 := hide B2
    have HB2 := hide hb2
    clear ho2 hb2 B2
    go_wp2_with fail
    refine (pwhole_any a2 _ c2 (laidP b) w2 HBS2.out (by rw [HPL.out, HBC.out, HN.out, HB8.out]; omega)).mono ?_
    rintro e w3 ⟨rfl, ho3, hb3⟩
    have HB3 := hide (HB2.out.trans (hb3.mono HB2.out.size))
    have HBS3 := hide (BS.ofOwns ho3 (by rw [HN.out, HB8.out]; omega) (pad_lt HPB.out))
    have HX3 := hide (H.out.later HB3.out (Nat.le_refl _))
    have HB3B := hide (HBB.out.later HB3.out (Nat.le_refl _))
    clear ho3 hb3
    by_cases h2 : xs = pad (laidP b)
    · rw [if_pos h2] at HP
      obtain rfl : R = some b := HP.out
      have HEQ := hide (equal_any _ _ _ _ _ _ xs (pad (laidP b)) w3 HX3.out HBS3.out)
      rw [decide_eq_true h2] at HEQ
      clear HP
      clear h2
      go_wp2_with fail
      refine HEQ.out.mono ?_
      rintro e w4 ⟨rfl, rfl⟩
      go_wp2_with fail
      refine (clone_any _ _ _ b w4 HB3B.out).mono ?_
      rintro e w5 ⟨v5, rfl, ho5, hb5⟩
      have HO5 := hide (own_base ho5 HB3.out.size)
      have HB5 := hide (HB3.out.trans (hb5.mono HB3.out.size))
      clear ho5 hb5
      go_wp2
      go_ret2
      exact ⟨⟨_, rfl, HO5.out⟩, HB5.out⟩
    · rw [if_neg h2] at HP
      obtain rfl : R = none := HP.out
      have HEQ := hide (equal_any _ _ _ _ _ _ xs (pad (laidP b)) w3 HX3.out HBS3.out)
      rw [decide_eq_false h2] at HEQ
      clear HP
      clear h2
      go_wp2_with fail
      refine HEQ.out.mono ?_
      rintro e w4 ⟨rfl, rfl⟩
      go_wp2
      go_ret2
      exact ⟨rfl, HB3.out⟩
end Go.Proofs.Ytbjononpgcemgaa
