import Derived.Test.YtdpdjpkmndnaaaaGreatYb13
import Derived.Deep.QuietTactic
import Derived.Laws.Rows
set_option maxRecDepth 100000
set_option maxHeartbeats 16000000
set_option linter.unusedVariables false
namespace Go.Proofs.YtdpdjpkmndnaaaaGreat
open Go.RowKit _root_.Go.Proofs.Tryz
abbrev kBo:=@bodyPost_ret
theorem bCp (n:Nat) (w:World) (h3:3<=n) (hn:n<=4096) :
  Calls prog 147 #[.int .i64 (n:Int)] w fun e w'=>∃ g,e=.returned (.agg #[.slice (some ⟨g,0,none⟩) n n])/\w'.heap[g]?=some (.cells (cellsOf (bAo n)).toArray 259 (0,0))/\w.heap.size<=g/\Below w.heap.size w w':=by
 obtain ⟨i0,hi,hz0,hz1,hz2⟩:=info_parts bHd;have hz:∀ ww,(zeroValue 251).run prog ww=.ok (.agg #[.slice none 0 0]) ww:=fun ww=>by kernel_rfl
 have HM:=zH (bQ8 n);have HBA:=zH (aAk w (.cells #[.slice none 0 0] 251));have HZ:=zH (kBm w (.cells #[.slice none 0 0] 251));have HK2:=zH (bNk n);have HKA:=zH (bNm n);go_enter func147,ntmps147;go_wp2_with (refine wpList_make_full _ rfl _ _ 249 rfl w.heap.size 259 i0 (.int .u8 0) 1 underlying249 hi hz0 hz1 .i64 .i64 n n n rfl rfl rfl rfl (by rw [hz2];omega) (by unfold maxLen;omega) HBA.o.size ?_;intro w1 ho1 hg1;rw [HM.o] at ho1;have HO1:=zH (bD9 ho1);have HG1:=zH ((kBh _ _).grown hg1 (nR _) (fun k hk=>by cases hk));clear ho1 hg1);have e1:(w.alloc (.cells #[.slice none 0 0] 251)).heap.size=w.heap.size+1:=by simp
 rw [e1] at HO1 HG1;have HZ1:=zH ((HG1.o.block w.heap.size (Nat.lt_succ_self _)).trans HZ.o);have HB1:=zH (HBA.o.trans (HG1.o.mono (Nat.le_succ _)));have HR1:=zH HO1.o.1;rw [<-HK2.o] at HR1;clear e1 HO1 HG1 HM HBA HZ;go_loopw [4] (fun i wr=>∃ k:Nat,2<=k/\k<=n/\i=.int .i64 k/\wr.heap[w.heap.size+1]?=some (.cells (cellsOf (bHw n k)).toArray 259 (0,0))/\wr.heap[w.heap.size]?=some (.cells #[.slice none 0 0] 251 (0,0))/\Below w.heap.size w wr) (fun i _=>n-(intOf i).toNat)
 case atStart=>exact ⟨2,by omega,by omega,rfl,HR1.o,HZ1.o,HB1.o⟩
 case round =>
  obtain ⟨k,hk2,hk,rfl,hR,hZ,hB⟩:=hrel;have HR:=zH hR;have HZZ:=zH hZ;have HBB:=zH hB;by_cases hlt:k<n
  ·have i3:(k:Int)<(n:Int):=by omega
   obtain ⟨v0,cc⟩:∃ v,wr.cell? ⟨w.heap.size+1,k,none⟩=some v:=by
    rw [aAd hR];exact ⟨_,by simpa using aBf (bHw n k) k (by rw [bNl];exact hlt)⟩
   have fz:=aAm (i:=k) hR;have HN:=zH (bJ6 hlt hk2);clear hR hZ hB;go_wp2;refine ⟨⟨k+1,by omega,by omega,by go_num,?_,?_,HBB.o.setCell (Nat.le_succ _) _⟩,by simp [intOf];omega⟩
   ·rw [heap_setCell_same wr _ k _ _ _ HR.o,List.setIfInBounds_toArray,<-HN.o];simp [cellsOf,List.map_set]
   ·rw [kBf _ _ _ _ (Nat.ne_of_lt (Nat.lt_succ_self _))];exact HZZ.o
  ·obtain rfl:k=n:=by omega
   have i3:¬ (k:Int)<(k:Int):=by omega
   have c0:wr.cell? ⟨w.heap.size,0,none⟩=some (.slice none 0 0):=aAd hZ;have f0:wr.frozen? ⟨w.heap.size,0,none⟩=false:=aAm hZ;clear hR hZ hB hlt;go_wp2;(try simp only [Exit.inBlock,Exit.then]);refine kBo (results_cell_row results147 _ _ w.heap.size _ _ _ _ rfl (heap_setCell_same _ _ 0 _ _ _ HZZ.o) underlying251 rfl bHe) rfl ⟨_,rfl,?_,Nat.le_succ _,HBB.o.setCell (nR _) _⟩;rw [kBf _ _ _ _ (Nat.ne_of_gt (Nat.lt_succ_self _)),HR.o,HKA.o]
def ST [Gd] (B p q:Nat) (s:DS) (t:PS) (w:World):Prop:=DI B p s w/\∃ gs,SV B p q gs t w
theorem ST.later [Gd] {B p q:Nat} {s:DS} {t:PS} {w w':World} (h:ST B p q s t w) (hb:Below w.heap.size w w'):ST B p q s t w':=by
 obtain ⟨h1,gs,h2⟩:=h;exact ⟨h1.later hb,gs,h2.later hb⟩
section
variable {B p q:Nat} {s:DS} {t:PS} {w:World}
theorem bEn [Gd] (h:ST B p q s t w) (hl:s.life=t.life) :
  Calls prog 152 #[.pointer (some ⟨q,0,none⟩)] w fun e w'=>e=.returned (.bool false)/\Below w.heap.size w w':=by
 obtain ⟨hd,gs,h⟩:=h;have c1:=h.c1;have c2:=h.c2;have HL:=zH (fun nn=>bFn B p s (w.drewN nn) (hd.later (below_drewN (kBh _ _) nn)));rw [hl] at HL;clear h hd;generalize t.life=l at *;go_enter func152,ntmps152;go_wp2_with fail;go_quiet ((go_at_call 148;refine Calls.quiet_of_same (HL.o _)));go_wp2;go_ret;exact ⟨rfl,below_drewN (kBh _ _) nq⟩
theorem bM4 [Gd] (h:ST B p q s t w) :
  Calls prog 106 #[.pointer (some ⟨q,0,none⟩)] w fun e w'=>e=.returned (.int .i64 (t.root:Int))/\w'=w:=by
 obtain ⟨hd,gs,h⟩:=h;have c4:=h.c4;clear h hd;go_enter func106,ntmps106;go_wp2;go_ret;exact ⟨rfl,rfl⟩
theorem bNs [Gd] (h:ST B p q s t w) :
  Calls prog 109 #[.pointer (some ⟨q,0,none⟩)] w fun e w'=>e=.returned (.int .i64 (cntF t.st:Nat))/\w'=w:=by
 obtain ⟨hd,gs,h⟩:=h;have HC:=zH (aKz h);clear h hd;go_enter func109,ntmps109;go_wp2_with fail;refine HC.o.mono ?_;rintro e w1 ⟨rfl,rfl⟩;go_wp2;go_ret;exact ⟨rfl,rfl⟩
end
end Go.Proofs.YtdpdjpkmndnaaaaGreat
