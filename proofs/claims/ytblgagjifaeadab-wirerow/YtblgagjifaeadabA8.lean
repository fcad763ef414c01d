/- Contract of headlandlaw1.roomy: the bytes in new memory, two marks behind them. -/
import Derived.Test.YtblgagjifaeadabA1
import Derived.Test.YtblgagjifaeadabBS
import Derived.Deep.AppendLies
import Derived.Outline
namespace Go.Proofs.Ytblgagjifaeadab
open Go.RowKit

def mn : Obj := .cells #[.int .u8 77, .int .u8 78] 5
theorem news_mn (w : World) : ∀ j u, (cellsOf [77, 78])[j]? = some u → (w.alloc (.cells #[.int .u8 77, .int .u8 78] 5)).cell? ((⟨w.heap.size, 0, none⟩ : Addr).add j) = some u :=
  World.news_of_block (heap_alloc_new w _)

set_option maxRecDepth 100000 in
set_option maxHeartbeats 1000000 in
theorem roomy_pos (x : Addr) (len cap : Nat) (xs : List Nat) (w : World) (h : BS w (some x) len cap xs) (h0 : 0 < len) (hr : len ≤ 140737488351232) :
    Calls Try.prog 6 #[.slice (some x) len cap] w fun e w' =>
      ∃ g c, e = .returned (.slice (some ⟨g, 0, none⟩) len c) ∧ w.heap.size ≤ g ∧ BS w' (some ⟨g, 0, none⟩) (len + 2) c (xs ++ [77, 78]) ∧ Below w.heap.size w w' := by
  obtain ⟨i0, hi, hz0, hz1, hz2⟩ := info_parts info5
  have hnews := h.news
  have HL := h.hlen
  have HB : Hid (∀ n ∈ xs, n < 256) := h.hbyte
  go_enter Try.func6, Try.ntmps6
  go_wp2_with (at_builtin; refine wpList_append_lies _ rfl _ _ _ rfl w.heap.size 5 i0 (.int .u8 0) 1 1 Try.underlying24 hi hz0 hz1 hz2 rfl (by omega) _ 0 [] rfl (World.ownsRow_nil _ _ _ _) x len cap (cellsOf xs) rfl (by rw [cellsOf_length]; omega) hnews (cellsOf_one xs) (by omega) (by unfold maxLen; omega) (by omega) (Nat.le_refl _) w.heap.size rfl ?_)
  intro g c1 w1 hown1 hgrow1 _ _
  have hsz1 := hgrow1.size
  have hbel1 : Below w.heap.size w w1 := (Below.refl _ _).grown hgrow1 (Nat.le_refl _) (by simp [Value.ownBlock])
  have hg := (hown1.lt g rfl).1
  clear hnews h hgrow1
  go_wp2_with (at_builtin; refine wpList_append_lies _ rfl _ _ _ rfl w.heap.size 5 i0 (.int .u8 0) 1 1 Try.underlying24 hi hz0 hz1 hz2 rfl (by omega) _ len (cellsOf xs) rfl (hown1.alloc _) ⟨w1.heap.size, 0, none⟩ 2 2 (cellsOf [77, 78]) rfl rfl (news_mn w1) (cellsOf_one _) (by omega) (by unfold maxLen; omega) (by omega) (by simp; omega) (w1.heap.size + 1) (by simp) ?_)
  intro g2 c2 w2 hown2 hgrow2 _ _
  rw [← cellsOf_append] at hown2
  have hbs2 := BS.ofOwns hown2 (by omega) (by
    intro n hn
    rcases List.mem_append.1 hn with hn | hn
    · exact HB.out n hn
    · simp at hn; omega)
  have hbel2 : Below w.heap.size w w2 := (hbel1.alloc hsz1 _).grown hgrow2 (by simp; omega) (by simp [Value.ownBlock]; omega)
  have hg2 := (hown2.lt g2 rfl).1
  have hcap := hbs2.hcap
  have hmax := hbs2.hmax
  clear hown1 hown2 hgrow2 hbel1 hg
  have HBS : Hid (BS w2 (some ⟨g2, 0, none⟩) (len + 2) c2 (xs ++ [77, 78])) := hbs2
  clear hbs2
  go_wp2
  go_ret
  exact ⟨g2, c2, rfl, hg2, HBS.out, hbel2⟩

set_option maxRecDepth 100000 in
set_option maxHeartbeats 1000000 in
theorem roomy_zero (a : Option Addr) (cap : Nat) (w : World) (hn : a = none → cap = 0) :
    Calls Try.prog 6 #[.slice a 0 cap] w fun e w' =>
      ∃ g c, e = .returned (.slice (some ⟨g, 0, none⟩) 0 c) ∧ w.heap.size ≤ g ∧ BS w' (some ⟨g, 0, none⟩) 2 c [77, 78] ∧ Below w.heap.size w w' := by
  obtain ⟨i0, hi, hz0, hz1, hz2⟩ := info_parts info5
  cases a with
  | none =>
    obtain rfl := hn rfl
    go_enter Try.func6, Try.ntmps6
    go_wp2_with (first | (at_builtin; refine wpList_append_own_none rfl (.tmp 7) (.tmp 8) _ rfl w.heap.size 5 i0 1 Try.underlying24 hi _ 0 [] rfl (World.ownsRow_nil _ _ _ _) rfl ?_) | (at_builtin; refine wpList_append_lies _ rfl (.tmp 10) (.tmp 11) _ rfl w.heap.size 5 i0 (.int .u8 0) 1 1 Try.underlying24 hi hz0 hz1 hz2 rfl (by omega) _ 0 [] rfl (World.ownsRow_nil _ _ _ _) ⟨w.heap.size, 0, none⟩ 2 2 (cellsOf [77, 78]) rfl rfl (news_mn w) (cellsOf_one _) (by omega) (by unfold maxLen; omega) (by omega) (by simp) (w.heap.size + 1) (by simp) ?_))
    intro g2 c2 w2 hown2 hgrow2 _ _
    have hown2 : w2.ownsRow w.heap.size 5 1 (.slice (some ⟨g2, 0, none⟩) 2 c2) 2 (cellsOf [77, 78]) := hown2
    have hbs2 := BS.ofOwns hown2 (by omega) (by intro n hn; simp at hn; omega)
    have hbel2 : Below w.heap.size w w2 := ((Below.refl _ _).alloc (Nat.le_refl _) _).grown hgrow2 (by simp) (by simp [Value.ownBlock])
    have hg2 := (hown2.lt g2 rfl).1
    have hcap := hbs2.hcap
    have hmax := hbs2.hmax
    have HBS : Hid (BS w2 (some ⟨g2, 0, none⟩) 2 c2 [77, 78]) := hbs2
    clear hown2 hgrow2 hbs2
    go_wp2
    go_ret
    exact ⟨g2, c2, rfl, hg2, HBS.out, hbel2⟩
  | some x =>
    go_enter Try.func6, Try.ntmps6
    go_wp2_with (at_builtin; refine wpList_append_lies _ rfl (.tmp 10) (.tmp 11) _ rfl w.heap.size 5 i0 (.int .u8 0) 1 1 Try.underlying24 hi hz0 hz1 hz2 rfl (by omega) _ 0 [] rfl (World.ownsRow_nil _ _ _ _) ⟨w.heap.size, 0, none⟩ 2 2 (cellsOf [77, 78]) rfl rfl (news_mn w) (cellsOf_one _) (by omega) (by unfold maxLen; omega) (by omega) (by simp) (w.heap.size + 1) (by simp) ?_)
    intro g2 c2 w2 hown2 hgrow2 _ _
    have hown2 : w2.ownsRow w.heap.size 5 1 (.slice (some ⟨g2, 0, none⟩) 2 c2) 2 (cellsOf [77, 78]) := hown2
    have hbs2 := BS.ofOwns hown2 (by omega) (by intro n hn; simp at hn; omega)
    have hbel2 : Below w.heap.size w w2 := ((Below.refl _ _).alloc (Nat.le_refl _) _).grown hgrow2 (by simp) (by simp [Value.ownBlock])
    have hg2 := (hown2.lt g2 rfl).1
    have hcap := hbs2.hcap
    have hmax := hbs2.hmax
    have HBS : Hid (BS w2 (some ⟨g2, 0, none⟩) 2 c2 [77, 78]) := hbs2
    clear hown2 hgrow2 hbs2
    go_wp2
    go_ret
    exact ⟨g2, c2, rfl, hg2, HBS.out, hbel2⟩

theorem roomy_any (a : Option Addr) (len cap : Nat) (xs : List Nat) (w : World) (h : BS w a len cap xs) (hr : len ≤ 140737488351232) :
    Calls Try.prog 6 #[.slice a len cap] w fun e w' =>
      ∃ g c, e = .returned (.slice (some ⟨g, 0, none⟩) len c) ∧ w.heap.size ≤ g ∧ BS w' (some ⟨g, 0, none⟩) (len + 2) c (xs ++ [77, 78]) ∧ Below w.heap.size w w' := by
  rcases Nat.eq_zero_or_pos len with h0 | h0
  · have hx : xs = [] := List.eq_nil_of_length_eq_zero (by have := h.hlen; omega)
    subst hx h0
    exact roomy_zero a cap w h.hnil
  · cases a with
    | none => have := h.hnil rfl; have := h.hcap; omega
    | some x => exact roomy_pos x len cap xs w h h0 hr
end Go.Proofs.Ytblgagjifaeadab
