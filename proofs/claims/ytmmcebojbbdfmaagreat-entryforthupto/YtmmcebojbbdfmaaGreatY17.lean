import Derived.Test.YtmmcebojbbdfmaaGreatY15
import Derived.Deep.AppendLies
set_option maxRecDepth 100000
set_option maxHeartbeats 16000000
namespace Go.Proofs.YtmmcebojbbdfmaaGreat
open Go.RowKit _root_.Go.Proofs.Tryz
theorem Row.owns {w wr:World} {g:Nat} {ys:List Nat} (h:Row w wr g ys) (k:Nat) (hk:ys.length=k) (hm:k<=maxLen):wr.ownsRow w.heap.size 5 1 (.slice (some ⟨g,0,none⟩) k k) k (cellsOf ys):=by
 refine ⟨by rw [aAi];omega,Or.inr ⟨g,k,(cellsOf ys).toArray,rfl,h.new,h.blk,Nat.le_refl _,hm,by simp [aAi];omega,?_⟩⟩;rw [List.take_of_length_le (by simp [aAi];omega)]
theorem aEm (n:Nat) (w:World) (h:n<9223372036854775808) :
  Calls prog 50 #[.int .i64 n] w fun e w' =>
   ∃ g c,e=.returned (.slice (some ⟨g,0,none⟩) (grp n) c)/\w'.ownsRow w.heap.size 5 1 (.slice (some ⟨g,0,none⟩) (grp n) c) (grp n) (cellsOf (encW n))/\Below w.heap.size w w':=by
 obtain ⟨g1,g2,-,-,-⟩:=aA2 n h;refine (uint_any n w h).mono ?_;rintro e w' ⟨g,rfl,hrow⟩;exact ⟨g,grp n,rfl,hrow.owns (grp n) (aA7 n g1) (by unfold maxLen;omega),hrow.below⟩
theorem bytes_any (a:Option Addr) (len cap:Nat) (xs:List Nat) (w:World) (h:BS w a len cap xs) (hr:len<=140737488351232) :
  Calls prog 54 #[.slice a len cap] w fun e w' =>
   ∃ g c,e=.returned (.slice (some ⟨g,0,none⟩) (grp len+len) c)/\w'.ownsRow w.heap.size 5 1 (.slice (some ⟨g,0,none⟩) (grp len+len) c) (grp len+len) (cellsOf (encW len++xs))/\Below w.heap.size w w':=by
 obtain ⟨i0,hi,hz0,hz1,hz2⟩:=info_parts aF2;obtain ⟨g1,g2,-,-,-⟩:=aA2 len (by omega);have HL:=aEt h.hlen;have HU:=aEt (aEm len w (by omega))
 cases a with
 | none =>
  have hc0:=h.hnil rfl;have hl0:=h.hcap;obtain rfl:cap=0:=hc0;obtain rfl:len=0:=by omega
  have hx:xs=[]:=List.eq_nil_of_length_eq_zero HL.out;subst hx;go_enter func54,ntmps54;go_wp2_with fail;refine HU.out.mono ?_;rintro e w1 ⟨g,c,rfl,hown1,hb1⟩;have HO:=aEt hown1;clear h;go_wp2_with (at_builtin;refine wpList_append_own_none rfl (.tmp 5) (.tmp 6) _ rfl w.heap.size 5 i0 1 underlying26 hi _ (grp 0) (cellsOf (encW 0)) rfl hown1 rfl ?_);go_ret;exact ⟨g,c,rfl,by rw [List.append_nil];exact HO.out,hb1⟩
 | some x =>
  go_enter func54,ntmps54;go_wp2_with fail;refine HU.out.mono ?_;rintro e w1 ⟨g,c,rfl,hown1,hb1⟩;have hnews:=(h.later hb1 (nR _)).news;have hsz:=hb1.size;clear h;go_wp2_with (at_builtin;refine wpList_append_own _ rfl (.tmp 5) (.tmp 6) _ rfl w.heap.size 5 i0 (.int .u8 0) 1 1 underlying26 hi hz0 hz1 hz2 rfl (by omega) _ (grp len) (cellsOf (encW len)) rfl hown1 x len cap (cellsOf xs) rfl (by rw [aAi,HL.out];omega) hnews (aCf xs) (by unfold maxLen;omega) (by omega) hsz ?_);intro v' w2 hown2 hgrow2 _;rw [<-aDb] at hown2;have hb2:Below w.heap.size w w2:=hb1.grown hgrow2 hsz (fun k hk=>(hown1.lt k hk).1);have hform:=hown2.form (by omega);obtain ⟨gg,cc,hv⟩:∃ gg cc,v'=.slice (some ⟨gg,0,none⟩) (grp len+len) cc:=by
   obtain ⟨gg,cc,hv,_⟩:=hform;exact ⟨gg,cc,hv⟩
  rw [hv] at hown2 ⊢;have HO:=aEt hown2;clear hown1 hown2 hgrow2 hform hnews;go_wp2;go_ret;exact ⟨gg,cc,rfl,HO.out,hb2⟩
end Go.Proofs.YtmmcebojbbdfmaaGreat
