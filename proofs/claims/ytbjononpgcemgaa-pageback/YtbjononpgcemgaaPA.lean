/- Bytes of the call's own that grow by bytes of any slice; the page's blocks as bytes. -/
import Derived.Test.YtbjononpgcemgaaP1
import Derived.Test.YtbjononpgcemgaaSF
import Derived.Laws.AppendOwnNone
set_option linter.unusedVariables false
namespace Go.Proofs.Ytbjononpgcemgaa
open Go.RowKit

theorem wpList_append_any {ops : Array Oper} {rest : List Oper} {o : Oper} {a : Act} {w : World} {Q : Exit → Act → World → Prop} (hgd : o.guard = none) (s x : Operand)
    (ho : o.op = .call { callee := .builtin .append, args := #[s, x], argTypes := #[35, 35] })
    (base : Nat) (v : Value) (n : Nat) (xs : List Nat) (hs : a.eval s = v) (hown : w.ownsRow base 5 1 v n (cellsOf xs)) (ax : Option Addr) (m cx : Nat) (ys : List Nat)
    (hx : a.eval x = .slice ax m cx) (hbs : BS w ax m cx ys) (hsize : n + m ≤ 140737488355328) (w0 : World) (hbel : Below base w0 w) (hbase : base ≤ w.heap.size)
    (h : ∀ v' w', w'.ownsRow base 5 1 v' (n + m) (cellsOf (xs ++ ys)) → Below base w0 w' → base ≤ w'.heap.size → wpList Try.prog ops Q rest (a.put o.dst v') w') : wpList Try.prog ops Q (o :: rest) a w := by
  obtain ⟨i0, hi, hz0, hz1, hz2⟩ := info_parts info5
  have hl := hbs.hlen
  cases ax with
  | none =>
    have hc := hbs.hnil rfl
    have hcap := hbs.hcap
    obtain rfl : cx = 0 := hc
    obtain rfl : m = 0 := by omega
    have hy : ys = [] := List.eq_nil_of_length_eq_zero hl
    subst hy
    refine wpList_append_own_none hgd s x _ ho base 5 i0 1 Try.underlying35 hi v n (cellsOf xs) hs hown hx (h v w ?_ hbel hbase)
    simpa using hown
  | some ad =>
    refine wpList_append_own _ hgd s x _ ho base 5 i0 (.int .u8 0) 1 1 Try.underlying35 hi hz0 hz1 hz2 rfl (by omega) v n (cellsOf xs) hs hown ad m cx (cellsOf ys) hx (by rw [cellsOf_length]; omega) hbs.news (cellsOf_one ys) (by unfold maxLen; omega) (by omega) hbase ?_
    intro v' w' ho' hg' _
    rw [← cellsOf_append] at ho'
    exact h v' w' ho' (hbel.grown hg' hbase (fun k hk => (hown.lt k hk).1)) (Nat.le_trans hbase hg'.size)

/-- The check sum; a page's block without the noughts behind it. -/
def sumL (xs : List Nat) : Nat := 4294967295 - crc 4294967295 xs
theorem sumL_lt (xs : List Nat) : sumL xs < 4294967296 := by unfold sumL; omega
def contentP (b : List Nat) : List Nat := ord b.length 2 ++ b
def laidP (b : List Nat) : List Nat := ord (sumL ((pad (contentP b)).take 8188)) 4 ++ contentP b
theorem contentP_len (b : List Nat) : (contentP b).length = b.length + 2 := by rw [contentP, List.length_append, ord_len]; omega
theorem laidP_len (b : List Nat) : (laidP b).length = b.length + 6 := by rw [laidP, List.length_append, ord_len, contentP_len]; omega
theorem contentP_lt {b : List Nat} (h : ∀ c ∈ b, c < 256) : ∀ c ∈ contentP b, c < 256 := by
  intro c hc
  rcases List.mem_append.1 hc with h1 | h1
  · exact ord_lt _ _ c h1
  · exact h c h1
theorem laidP_lt {b : List Nat} (h : ∀ c ∈ b, c < 256) : ∀ c ∈ laidP b, c < 256 := by
  intro c hc
  rcases List.mem_append.1 hc with h1 | h1
  · exact ord_lt _ _ c h1
  · exact contentP_lt h c h1

set_option maxRecDepth 100000 in
set_option maxHeartbeats 1000000 in
theorem pwhole_any (a : Option Addr) (len cap : Nat) (xs : List Nat) (w : World) (h : BS w a len cap xs) (hl : len ≤ blk) :
    Calls Try.prog 48 #[.slice a len cap] w fun e w' => e = .returned (.slice (some ⟨w.heap.size, 0, none⟩) blk blk) ∧ w'.ownsRow w.heap.size 5 1 (.slice (some ⟨w.heap.size, 0, none⟩) blk blk) blk (cellsOf (pad xs)) ∧ Below w.heap.size w w' := by
  obtain ⟨i0, hi, hz0, hz1, hz2⟩ := info_parts info5
  have H := hide h
  have HL := hide h.hlen
  have HM := hide (made_bytes blk)
  have HPL := hide (pad_len (xs := xs) (by rw [h.hlen]; exact hl))
  have HSP := hide (splice_pad xs)
  have HB8 : Hid (blk = 8192) := rfl
  have HB9 : Hid (((blk : Nat) : Int) = 8192) := rfl
  generalize blk = N at *
  clear h
  go_enter Try.func48, Try.ntmps48
  go_wp2_with (first
    | (refine wpList_make_full w rfl _ _ 35 rfl w.heap.size 5 i0 (.int .u8 0) 1 Try.underlying35 hi hz0 hz1 .i64 .i64 8192 8192 N rfl rfl (HB9.out.symm) (HB9.out.symm) (by rw [hz2, HB8.out]; decide) (by rw [HB8.out]; unfold maxLen; omega) (Nat.le_refl _) ?_; intro w1 ho1 hg1; rw [HM.out] at ho1; have HO1 := hide ho1; have HG1 := hide ((Below.refl w.heap.size w).grown hg1 (Nat.le_refl _) (fun k hk => by cases hk)); clear ho1 hg1)
    | (refine wpList_copy_splice rfl (.tmp 5) (.tmp 6) 35 35 rfl 5 Try.underlying35 (by rw [hi]; simp [hz1]) _ _ N N len cap rfl rfl w.heap.size 0 (cellsOf (zs N)) 5 (own_whole HO1.out).1 (cellsOf xs) (by rw [cellsOf_length, HL.out]; exact (Nat.min_eq_left hl).symm) (fun h => ⟨rfl, bs_src (H.out.later HG1.out (Nat.le_refl _)) h⟩) (by rw [cellsOf_length, cellsOf_length, zs_len, HL.out]; omega) (cellsOf_one xs) w.heap.size w HG1.out (Nat.le_refl _) ?_; intro w2 HR2 hb2; rw [HSP.out] at HR2; have HB2 := hide hb2; clear hb2))
  go_ret
  refine ⟨rfl, whole_own HR2.out (Nat.le_refl _) ?_ (by rw [HB8.out]; unfold maxLen; omega), HB2.out⟩
  rw [HPL.out]

set_option maxRecDepth 100000 in
set_option maxHeartbeats 2000000 in
/-- page.laid. -/
theorem plaid_any (a : Option Addr) (len cap : Nat) (xs : List Nat) (w : World) (h : BS w a len cap xs) (hl : len ≤ 8186) :
    Calls Try.prog 30 #[.slice a len cap] w fun e w' => ∃ v, e = .returned v ∧ w'.ownsRow w.heap.size 5 1 v (laidP xs).length (cellsOf (laidP xs)) ∧ Below w.heap.size w w' := by
  have HL := hide h.hlen
  have H := hide h
  have HX := hide h.hbyte
  have HCL := hide (contentP_len xs)
  have HCB := hide (contentP_lt h.hbyte)
  have HCE : Hid (contentP xs = ord len 2 ++ xs) := by show _ = _; rw [contentP, HL.out]
  have HPE : Hid (laidP xs = ord (sumL ((pad (contentP xs)).take 8188)) 4 ++ contentP xs) := rfl
  have HPL := hide (laidP_len xs)
  clear h
  generalize laidP xs = P at *
  go_enter Try.func30, Try.ntmps30
  go_wp2_with fail
  refine (ordered_any len 2 w (by omega) (by omega)).mono ?_
  rintro e w1 ⟨rfl, ho1, hb1⟩
  have HO1 := hide ho1
  have HB1 := hide hb1
  clear ho1 hb1
  go_wp2_with (refine wpList_append_any rfl (.tmp 8) (.tmp 9) rfl w.heap.size _ 2 (ord len 2) rfl HO1.out a len cap xs rfl (H.out.later HB1.out (Nat.le_refl _)) (by omega) w HB1.out HB1.out.size ?_; intro v2 w2 ho2 hb2 hs2; rw [← HCE.out] at ho2; obtain ⟨a2, c2, rfl, B2⟩ := bs_row (xs := contentP xs) (by rw [HCL.out, HL.out, Nat.add_comm]; exact ho2) (by rw [HCL.out, HL.out]; omega) HCB.out; have HB2 := hide hb2; have HBS2 := hide B2; clear ho2 hb2 B2)
  go_wp2_with fail
  refine (pwhole_any a2 _ c2 (contentP xs) w2 HBS2.out (by rw [HCL.out, HL.out]; unfold blk; omega)).mono ?_
  rintro e w3 ⟨rfl, ho3, hb3⟩
  have HPD := hide (pad_len (xs := contentP xs) (by rw [HCL.out, HL.out]; unfold blk; omega))
  have HB3 := hide (HB2.out.trans (hb3.mono hs2))
  have HBS3 := hide (HBS2.out.later hb3 (Nat.le_refl _))
  have HBW := hide (bs_take (BS.ofOwns ho3 (by unfold blk; omega) (pad_lt HCB.out)) 8188 (by unfold blk; omega))
  have b8 : ((blk : Nat) : Int) = 8192 := rfl
  have HS3 := hide (Nat.le_trans hs2 hb3.size)
  clear ho3 hb3
  generalize hp8 : (pad (contentP xs)).take 8188 = P8 at *
  generalize blk = N at *
  go_wp2_with fail
  refine (sum_any _ 8188 _ P8 w3 HBW.out).mono ?_
  rintro e w4 ⟨rfl, hb4⟩
  have HSM : Hid (4294967295 - crc 4294967295 P8 = sumL P8) := rfl
  rw [HSM.out]
  have HSL := sumL_lt P8
  have HB4 := hide (HB3.out.trans (hb4.mono HS3.out))
  have HBS4 := hide (HBS3.out.later hb4 (Nat.le_refl _))
  have HS4 := hide (Nat.le_trans HS3.out hb4.size)
  clear hb4
  generalize sumL P8 = S at *
  go_wp2_with fail
  refine (ordered_any S 4 w4 (by omega) (by omega)).mono ?_
  rintro e w5 ⟨rfl, ho5, hb5⟩
  have HO5 := hide (own_base ho5 HS4.out)
  have HB5 := hide (HB4.out.trans (hb5.mono HS4.out))
  have HBS5 := hide (HBS4.out.later hb5 (Nat.le_refl _))
  have HS5 := hide (Nat.le_trans HS4.out hb5.size)
  clear ho5 hb5
  go_wp2_with (refine wpList_append_any rfl (.tmp 17) (.tmp 18) rfl w.heap.size _ 4 (ord S 4) rfl HO5.out a2 _ c2 (contentP xs) rfl HBS5.out (by rw [HCL.out, HL.out]; omega) w HB5.out HS5.out ?_; intro v6 w6 ho6 hb6 hs6; rw [← HPE.out] at ho6; have HO6 := hide ho6; have HB6 := hide hb6; clear ho6 hb6)
  go_ret
  have e : P.length = 4 + (contentP xs).length := by rw [HPL.out, HCL.out]; omega
  refine ⟨_, rfl, ?_, HB6.out⟩
  rw [e]
  exact HO6.out

/-- A block as a page: the bytes that it holds. -/
def pageOf (xs : List Nat) : Option (List Nat) := if 8186 < ordN ((xs.drop 4).take 2) then none else if xs = pad (laidP ((xs.drop 6).take (ordN ((xs.drop 4).take 2)))) then some ((xs.drop 6).take (ordN ((xs.drop 4).take 2))) else none
theorem ordN_ord : ∀ k n, n < 256 ^ k → ordN (ord n k) = n
  | 0, n, h => by simp [ordN, ord] at *; omega
  | k + 1, n, h => by
    have key : ∀ (l : List Nat) (a : Nat), l.foldl (fun a c => a * 256 + c) a = a * 256 ^ l.length + ordN l := by
      intro l
      induction l with
      | nil => intro a; simp [ordN]
      | cons c l ih =>
        intro a
        have e : ordN (c :: l) = c * 256 ^ l.length + ordN l := by
          show (c :: l).foldl (fun a c => a * 256 + c) 0 = _
          rw [List.foldl_cons, ih, Nat.zero_mul, Nat.zero_add]
        rw [List.foldl_cons, ih, e, List.length_cons, Nat.pow_succ, Nat.add_mul, Nat.mul_assoc, Nat.mul_comm 256]
        omega
    have hlt : n / 256 ^ k < 256 := Nat.div_lt_of_lt_mul (by rw [Nat.pow_succ] at h; exact h)
    rw [ordN, ord, List.foldl_cons, key, ord_len, Nat.zero_mul, Nat.zero_add, Nat.mod_eq_of_lt hlt]
    have h2 : ordN (ord n k) = n % 256 ^ k := by
      have e : ord n k = ord (n % 256 ^ k) k := by
        clear key h hlt
        have gen : ∀ j, j ≤ k → ord n j = ord (n % 256 ^ k) j := by
          intro j
          induction j with
          | zero => intro _; rfl
          | succ j ih =>
            intro hj
            rw [ord, ord, ih (by omega)]
            congr 1
            have e1 : 256 ^ k = 256 ^ (j + 1) * 256 ^ (k - (j + 1)) := by rw [← Nat.pow_add]; congr 1; omega
            have e2 : n % 256 ^ k / 256 ^ j % 256 = n % 256 ^ k % 256 ^ (j + 1) / 256 ^ j := by
              rw [Nat.pow_succ, Nat.mod_mul_right_div_self]
            have e3 : n / 256 ^ j % 256 = n % 256 ^ (j + 1) / 256 ^ j := by
              rw [Nat.pow_succ, Nat.mod_mul_right_div_self]
            rw [e2, e3, e1, Nat.mod_mul_right_mod]
        exact gen k (Nat.le_refl _)
      rw [e]
      exact ordN_ord k _ (Nat.mod_lt _ (Nat.pow_pos (by omega)))
    rw [h2, Nat.mul_comm]
    exact Nat.div_add_mod n (256 ^ k)
end Go.Proofs.Ytbjononpgcemgaa
