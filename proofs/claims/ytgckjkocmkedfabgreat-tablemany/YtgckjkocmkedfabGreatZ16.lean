import Derived.Test.YtgckjkocmkedfabGreatZ12
import Derived.Deep.QuietTactic
import Derived.Laws.Rows
set_option maxRecDepth 100000
set_option maxHeartbeats 16000000
set_option linter.unusedVariables false
namespace Go.Proofs.YtgckjkocmkedfabGreat
open Go.RowKit
theorem newPages_any (n:Nat) (w:World) (h3:3≤n) (hn:n≤4096) :
  Calls Tryz.prog 179 #[.int .i64 (n:Int)] w fun e w'=>∃ g,e=.returned (.agg #[.slice (some ⟨g,0,none⟩) n n])∧w'.heap[g]?=some (.cells (cellsOf (newSt n)).toArray 287 (0,0))∧w.heap.size≤g∧Below w.heap.size w w':=by
 obtain ⟨i0,hi,hz0,hz1,hz2⟩:=info_parts info_state
 have hz:∀ ww,(zeroValue 279).run Tryz.prog ww=.ok (.agg #[.slice none 0 0]) ww:=fun ww=>by kernel_rfl
 have HM:=hide (made_st n)
 have HBA:=hide (aAh w (.cells #[.slice none 0 0] 279))
 have HZ:=hide (heap_alloc_new w (.cells #[.slice none 0 0] 279))
 have HK2:=hide (newK_two n)
 have HKA:=hide (newK_all n)
 go_enter Tryz.func179,Tryz.ntmps179
 go_wp2_with (refine wpList_make_full _ rfl _ _ 277 rfl w.heap.size 287 i0 (.int .u8 0) 1 Tryz.underlying277 hi hz0 hz1 .i64 .i64 n n n rfl rfl rfl rfl (by rw [hz2];omega) (by unfold maxLen;omega) HBA.out.size ?_;intro w1 ho1 hg1;rw [HM.out] at ho1;have HO1:=hide (made_whole1 ho1);have HG1:=hide ((Below.refl _ _).grown hg1 (nR _) (fun k hk=>by cases hk));clear ho1 hg1)
 have e1:(w.alloc (.cells #[.slice none 0 0] 279)).heap.size=w.heap.size+1:=by simp
 rw [e1] at HO1 HG1
 have HZ1:=hide ((HG1.out.block w.heap.size (Nat.lt_succ_self _)).trans HZ.out)
 have HB1:=hide (HBA.out.trans (HG1.out.mono (Nat.le_succ _)))
 have HR1:=hide HO1.out.1
 rw [←HK2.out] at HR1
 clear e1 HO1 HG1 HM HBA HZ
 go_loopw [4] (fun i wr=>∃ k:Nat,2≤k∧k≤n∧i=.int .i64 k∧wr.heap[w.heap.size+1]?=some (.cells (cellsOf (newK n k)).toArray 287 (0,0))∧wr.heap[w.heap.size]?=some (.cells #[.slice none 0 0] 279 (0,0))∧Below w.heap.size w wr) (fun i _=>n-(intOf i).toNat)
 case atStart=>exact ⟨2,by omega,by omega,rfl,HR1.out,HZ1.out,HB1.out⟩
 case round =>
  obtain ⟨k,hk2,hk,rfl,hR,hZ,hB⟩:=hrel
  have HR:=hide hR
  have HZZ:=hide hZ
  have HBB:=hide hB
  by_cases hlt:k<n
  ·have i3:(k:Int)<(n:Int):=by omega
   obtain ⟨v0,cc⟩:∃ v,wr.cell? ⟨w.heap.size+1,k,none⟩=some v:=by
    rw [aAc hR]
    exact ⟨_,by simpa using aA8 (newK n k) k (by rw [newK_len];exact hlt)⟩
   have fz:=aAj (i:=k) hR
   have HN:=hide (newK_next hlt hk2)
   clear hR hZ hB
   go_wp2
   refine ⟨⟨k+1,by omega,by omega,by go_num,?_,?_,HBB.out.setCell (Nat.le_succ _) _⟩,by simp [intOf];omega⟩
   ·rw [heap_setCell_same wr _ k _ _ _ HR.out,List.setIfInBounds_toArray,←HN.out]
    simp [cellsOf,List.map_set]
   ·rw [heap_setCell_other _ _ _ _ (Nat.ne_of_lt (Nat.lt_succ_self _))]
    exact HZZ.out
  ·obtain rfl:k=n:=by omega
   have i3:¬ (k:Int)<(k:Int):=by omega
   have c0:wr.cell? ⟨w.heap.size,0,none⟩=some (.slice none 0 0):=aAc hZ
   have f0:wr.frozen? ⟨w.heap.size,0,none⟩=false:=aAj hZ
   clear hR hZ hB hlt
   go_wp2
   (try simp only [Exit.inBlock,Exit.then])
   refine bodyPost_ret (results_cell_row Tryz.results179 _ _ w.heap.size _ _ _ _ rfl (heap_setCell_same _ _ 0 _ _ _ HZZ.out) Tryz.underlying279 rfl info_pages) rfl ⟨_,rfl,?_,Nat.le_succ _,HBB.out.setCell (nR _) _⟩
   rw [heap_setCell_other _ _ _ _ (Nat.ne_of_gt (Nat.lt_succ_self _)),HR.out,HKA.out]
def ST [Gd] (B p q:Nat) (s:DS) (t:PS) (w:World):Prop:=DI B p s w∧∃ gs,SV B p q gs t w
theorem ST.later [Gd] {B p q:Nat} {s:DS} {t:PS} {w w':World} (h:ST B p q s t w) (hb:Below w.heap.size w w'):ST B p q s t w':=by
 obtain ⟨h1,gs,h2⟩:=h
 exact ⟨h1.later hb,gs,h2.later hb⟩
section
variable {B p q:Nat} {s:DS} {t:PS} {w:World}
theorem dead_no [Gd] (h:ST B p q s t w) (hl:s.life=t.life) :
  Calls Tryz.prog 184 #[.pointer (some ⟨q,0,none⟩)] w fun e w'=>e=.returned (.bool false)∧Below w.heap.size w w':=by
 obtain ⟨hd,gs,h⟩:=h
 have c1:=h.c1
 have c2:=h.c2
 have HL:=hide (fun nn=>life_any B p s (w.drewN nn) (hd.later (below_drewN (Below.refl _ _) nn)))
 rw [hl] at HL
 clear h hd
 generalize t.life=l at *
 go_enter Tryz.func184,Tryz.ntmps184
 go_wp2_with fail
 go_quiet ((go_at_call 180;refine Calls.quiet_of_same (HL.out _)))
 go_wp2
 go_ret
 exact ⟨rfl,below_drewN (Below.refl _ _) nq⟩
theorem root_any [Gd] (h:ST B p q s t w) :
  Calls Tryz.prog 126 #[.pointer (some ⟨q,0,none⟩)] w fun e w'=>e=.returned (.int .i64 (t.root:Int))∧w'=w:=by
 obtain ⟨hd,gs,h⟩:=h
 have c4:=h.c4
 clear h hd
 go_enter Tryz.func126,Tryz.ntmps126
 go_wp2
 go_ret
 exact ⟨rfl,rfl⟩
theorem left_any [Gd] (h:ST B p q s t w) :
  Calls Tryz.prog 129 #[.pointer (some ⟨q,0,none⟩)] w fun e w'=>e=.returned (.int .i64 (cntF t.st:Nat))∧w'=w:=by
 obtain ⟨hd,gs,h⟩:=h
 have HC:=hide (aJh h)
 clear h hd
 go_enter Tryz.func129,Tryz.ntmps129
 go_wp2_with fail
 refine HC.out.mono ?_
 rintro e w1 ⟨rfl,rfl⟩
 go_wp2
 go_ret
 exact ⟨rfl,rfl⟩
end
end Go.Proofs.YtgckjkocmkedfabGreat
