/- The walk of the law WireBack: any number, any bytes of at most 1048576 each: it returns true and writes nothing that was there. -/
import Derived.Test.YtblgagjifaeadaaW1b
import Derived.Test.YtblgagjifaeadaaM5
import Derived.Test.YtblgagjifaeadaaC4
import Derived.Test.YtblgagjifaeadaaAP
namespace Go.Proofs.Ytblgagjifaeadaa
open Go.RowKit

/-- What is read of what was written, in the midst of other bytes. -/
theorem ru_mid (n : Nat) (h : n < 9223372036854775808) (pre rest : List Nat) (p : Int) (hp : p = pre.length) : ruN (pre ++ (enc n ++ rest)) p = n ∧ ruP (pre ++ (enc n ++ rest)) p = pre.length + grp n ∧ ruE (pre ++ (enc n ++ rest)) p = 0 := by
  have e := rd_enc n h pre rest
  have hc : 0 ≤ p ∧ p ≤ (pre ++ (enc n ++ rest)).length := by rw [List.length_append]; omega
  have ht : p.toNat = pre.length := by omega
  unfold ruN ruP ruE
  rw [if_pos hc, if_pos hc, if_pos hc, ht]
  unfold rdNext
  rw [e]
  simp
theorem rb_mid (s pre rest : List Nat) (hs : s.length < 9223372036854775808) (p most : Int) (hp : p = pre.length) (hm : most = s.length) :
    rbE (pre ++ (enc s.length ++ (s ++ rest))) p most = 0 ∧ rbS (pre ++ (enc s.length ++ (s ++ rest))) p most = s ∧ rbP (pre ++ (enc s.length ++ (s ++ rest))) p most = pre.length + grp s.length + s.length := by
  obtain ⟨h1, h2, h3⟩ := ru_mid s.length hs pre (s ++ rest) p hp
  have hg := enc_length s.length (grp_spec s.length hs).1
  have he : rbE (pre ++ (enc s.length ++ (s ++ rest))) p most = 0 := by
    unfold rbE
    rw [h1, h2, h3, if_neg (by omega), if_neg (by omega), if_neg (by omega), if_neg]
    simp only [List.length_append, hg]
    omega
  refine ⟨he, ?_, ?_⟩
  · unfold rbS
    rw [if_pos he, h1, h2]
    have e : pre ++ (enc s.length ++ (s ++ rest)) = (pre ++ enc s.length) ++ (s ++ rest) := by simp
    rw [e, show pre.length + grp s.length = (pre ++ enc s.length).length by rw [List.length_append, hg], List.drop_left, List.take_left]
  · unfold rbP
    rw [if_pos he, h1, h2]
theorem rb_less (s pre rest : List Nat) (hs : s.length < 9223372036854775808) (p most : Int) (hp : p = pre.length) (hm : most = (s.length : Int) - 1) :
    rbE (pre ++ (enc s.length ++ (s ++ rest))) p most = if s.length = 0 then 1 else 3 := by
  obtain ⟨h1, h2, h3⟩ := ru_mid s.length hs pre (s ++ rest) p hp
  unfold rbE
  rw [h1, h2, h3, if_neg (by omega)]
  by_cases z : s.length = 0
  · rw [if_pos z, if_pos (by omega)]
  · rw [if_neg z, if_neg (by omega), if_pos (by omega)]

theorem enc_bytes' (n : Nat) (xs : List Nat) (h : ∀ x ∈ xs, x < 256) : ∀ x ∈ enc n ++ xs, x < 256 := fun x hx => by
  rcases List.mem_append.1 hx with z | z
  · exact enc_byte n x z
  · exact h x z
theorem both_bytes {a b : List Nat} (ha : ∀ x ∈ a, x < 256) (hb : ∀ x ∈ b, x < 256) : ∀ x ∈ a ++ b, x < 256 := fun x hx => by
  rcases List.mem_append.1 hx with z | z
  · exact ha x z
  · exact hb x z
theorem all_bytes {a b c d : List Nat} (ha : ∀ x ∈ a, x < 256) (hb : ∀ x ∈ b, x < 256) (hc : ∀ x ∈ c, x < 256) (hd : ∀ x ∈ d, x < 256) : ∀ x ∈ a ++ (b ++ (c ++ d)), x < 256 := fun x hx => by
  simp only [List.mem_append] at hx
  rcases hx with z | z | z | z
  · exact ha x z
  · exact hb x z
  · exact hc x z
  · exact hd x z

set_option maxRecDepth 100000 in
set_option maxHeartbeats 4000000 in
theorem wireBack_walk (n : Int) (a1 : Option Addr) (len1 cap1 : Nat) (xs : List Nat) (a2 : Option Addr) (len2 cap2 : Nat) (ys : List Nat) (a3 : Option Addr) (len3 cap3 : Nat) (zs : List Nat) (w : World)
    (h1 : BS w a1 len1 cap1 xs) (r1 : len1 ≤ 1048576) (h2 : BS w a2 len2 cap2 ys) (r2 : len2 ≤ 1048576) (h3 : BS w a3 len3 cap3 zs) (r3 : len3 ≤ 1048576) :
    Calls Try.prog 6 #[.int .i64 n, .slice a1 len1 cap1, .slice a2 len2 cap2, .slice a3 len3 cap3] w fun e w' => e = .returned (.bool true) ∧ Below w.heap.size w w' := by
  obtain ⟨kn, hkn, hmn⟩ := mask63 n
  have H1 := hid_of h1
  have H2 := hid_of h2
  have H3 := hid_of h3
  have L1 := hid_of h1.hlen
  have L2 := hid_of h2.hlen
  have L3 := hid_of h3.hlen
  obtain ⟨g1, g2, -, -, -⟩ := grp_spec kn hkn
  obtain ⟨k1, k2, -, -, -⟩ := grp_spec len1 (by omega)
  clear h1 h2 h3
  go_enter Try.func6, Try.ntmps6
  go_wp2_with (at_builtin; refine wpList_append_any rfl (.tmp 23) (.tmp 24) rfl w.heap.size _ 0 [] rfl (World.ownsRow_nil _ _ _ _) a2 len2 cap2 ys rfl H2.out (by omega) w (Below.refl _ _) (Nat.le_refl _) ?_)
  intro v1 w1 ho1 hb1 hs1
  have HO1 := hid_of ho1
  clear ho1
  go_wp2_with fail
  refine (uint_owns kn _ hkn).mono ?_
  rintro e w2 ⟨gu, cu, rfl, hou, hbu⟩
  have HU := hid_of (BS.ofOwns hou (by omega) (enc_byte kn))
  have HO2 := hid_of (ownsRow_later HO1.out hbu)
  have hb2 : Below w.heap.size w w2 := hb1.trans (hbu.mono hs1)
  have hs2 : w.heap.size ≤ w2.heap.size := hb2.size
  clear hou hbu HO1 hb1 hs1
  go_wp2_with (at_builtin; refine wpList_append_any rfl (.tmp 26) (.tmp 28) rfl w.heap.size _ len2 ys rfl HO2.out _ (grp kn) cu (enc kn) rfl HU.out (by omega) w hb2 hs2 ?_)
  intro v3 w3 ho3 hb3 hs3
  have HO3 := hid_of ho3
  obtain ⟨g3, c3, hv3⟩ : ∃ gg cc, v3 = .slice (some ⟨gg, 0, none⟩) (len2 + grp kn) cc := by
    obtain ⟨gg, cc, hv, _⟩ := ho3.form (by omega)
    exact ⟨gg, cc, hv⟩
  rw [hv3] at HO3 ⊢
  clear ho3 HU HO2 hb2 hs2 hv3
  go_wp2_with fail
  refine (bytes_any a1 len1 cap1 xs _ (H1.out.later hb3 (Nat.le_refl _)) (by omega)).mono ?_
  rintro e w4 ⟨gb, cb, rfl, hob, hbb⟩
  have HU := hid_of (BS.ofOwns hob (by omega) (enc_bytes' len1 xs H1.out.hbyte))
  have HO4 := hid_of (ownsRow_later HO3.out hbb)
  have hb4 : Below w.heap.size w w4 := hb3.trans (hbb.mono hs3)
  have hs4 : w.heap.size ≤ w4.heap.size := hb4.size
  clear hob hbb HO3 hb3 hs3
  go_wp2_with (at_builtin; refine wpList_append_any rfl (.tmp 32) (.tmp 34) rfl w.heap.size _ (len2 + grp kn) (ys ++ enc kn) rfl HO4.out _ (grp len1 + len1) cb (enc len1 ++ xs) rfl HU.out (by omega) w hb4 hs4 ?_)
  intro v5 w5 ho5 hb5 hs5
  have HO5 := hid_of ho5
  obtain ⟨g5, c5, hv5⟩ : ∃ gg cc, v5 = .slice (some ⟨gg, 0, none⟩) (len2 + grp kn + (grp len1 + len1)) cc := by
    obtain ⟨gg, cc, hv, _⟩ := ho5.form (by omega)
    exact ⟨gg, cc, hv⟩
  rw [hv5] at HO5 ⊢
  clear ho5 HU HO4 hb4 hs4 hv5
  go_wp2_with (at_builtin; refine wpList_append_any rfl (.tmp 38) (.tmp 39) rfl w.heap.size _ (len2 + grp kn + (grp len1 + len1)) (ys ++ (enc kn ++ (enc len1 ++ xs))) rfl HO5.out a3 len3 cap3 zs rfl (H3.out.later hb5 (Nat.le_refl _)) (by omega) w hb5 hs5 ?_)
  intro v6 w6 ho6 hb6 hs6
  have HO6 := hid_of ho6
  obtain ⟨g6, c6, hv6⟩ : ∃ gg cc, v6 = .slice (some ⟨gg, 0, none⟩) (len2 + grp kn + (grp len1 + len1) + len3) cc := by
    obtain ⟨gg, cc, hv, _⟩ := ho6.form (by omega)
    exact ⟨gg, cc, hv⟩
  rw [hv6] at HO6 ⊢
  have HA := hid_of (BS.ofOwns HO6.out (by omega) (all_bytes H2.out.hbyte (enc_byte kn) (enc_byte len1) (both_bytes H1.out.hbyte H3.out.hbyte)))
  have H16 := hid_of (H1.out.later hb6 (Nat.le_refl _))
  clear ho6 HO5 HO6 hb5 hs5 hv6
  have eB : Hid (ys ++ (enc kn ++ (enc len1 ++ (xs ++ zs))) = (ys ++ enc kn) ++ (enc xs.length ++ (xs ++ zs))) := by show _ = _; rw [L1.out]; simp
  have hlm : (ys ++ enc kn).length = len2 + grp kn := by rw [List.length_append, enc_length kn g1, L2.out]
  have HLM := hid_of hlm
  clear hlm
  go_wp2_with fail
  have c1 := readUint_any _ _ c6 _ (len2 : Int) w6 HA.out
  have u1 := ru_mid kn hkn ys (enc len1 ++ (xs ++ zs)) (len2 : Int) (by rw [L2.out])
  rw [u1.1, u1.2.1, u1.2.2, L2.out] at c1
  refine c1.mono ?_
  rintro e w7 ⟨rfl, hw⟩
  have hw := hw.symm
  subst hw
  clear c1 u1
  go_wp2_with fail
  have q := rb_mid xs (ys ++ enc kn) zs (by rw [L1.out]; omega) ((len2 : Int) + (grp kn : Nat)) (len1 : Int) (by rw [HLM.out]; omega) (by rw [L1.out])
  have c2 := readBytes_ok _ _ c6 _ ((len2 : Int) + (grp kn : Nat)) (len1 : Int) w6 HA.out (by rw [eB.out]; exact q.1)
  rw [eB.out, q.2.1, q.2.2, HLM.out, L1.out] at c2
  refine c2.mono ?_
  rintro e w7 ⟨gx, nx, rfl, _, hbx, _, hb7⟩
  have HX7 := hid_of hbx
  have HA7 := hid_of (HA.out.later hb7 (Nat.le_refl _))
  have H17 := hid_of (H16.out.later hb7 (Nat.le_refl _))
  have HS7 := hid_of (hb6.trans (hb7.mono hs6))
  clear c2 q hbx hb7 HA H16 hb6 hs6
  go_wp2_with fail
  have q := rb_less xs (ys ++ enc kn) zs (by rw [L1.out]; omega) ((len2 : Int) + (grp kn : Nat)) ((len1 : Int) - 1) (by rw [HLM.out]; omega) (by rw [L1.out])
  rw [← eB.out, L1.out] at q
  have c3 := readBytes_no _ _ c6 _ ((len2 : Int) + (grp kn : Nat)) ((len1 : Int) - 1) w7 HA7.out (by rw [q]; split <;> omega)
  rw [q] at c3
  refine c3.mono ?_
  rintro e w8 ⟨rfl, hw⟩
  have hw := hw.symm
  subst hw
  clear c3 q
  have e1 : ((len2 : Int) + (grp kn : Nat) == (len2 : Int) + (grp kn : Nat)) = true := by simp
  by_cases hz : len1 = 0
  · rw [if_pos hz]
    have hz' : ((len1 : Int) == 0) = true := by simp; omega
    have HZ := hid_of hz
    clear hz
    go_wp2_with (go_at_call 12; refine (told_any _).mono ?_; rintro e w9 ⟨rfl, hb9⟩; have tx := run_text (HX7.out.later hb9 (Nat.le_refl _)); have ts := run_text (H17.out.later hb9 (Nat.le_refl _)))
    go_ret
    exact ⟨rfl, HS7.out.trans (hb9.mono HS7.out.size)⟩
  · rw [if_neg hz]
    go_wp2_with (go_at_call 12; refine (told_any _).mono ?_; rintro e w9 ⟨rfl, hb9⟩; have tx := run_text (HX7.out.later hb9 (Nat.le_refl _)); have ts := run_text (H17.out.later hb9 (Nat.le_refl _)))
    go_ret
    exact ⟨rfl, HS7.out.trans (hb9.mono HS7.out.size)⟩
end Go.Proofs.Ytblgagjifaeadaa
