import Derived.Handy
import Derived.Laws.ResultCell
import Derived.Test.YtgckjkocmkedfabGreatZ24
import Derived.Test.YtgckjkocmkedfabGreatZ26
import Derived.Test.YtgckjkocmkedfabGreatZ16
set_option maxRecDepth 100000
set_option maxHeartbeats 16000000
set_option linter.unusedVariables false
namespace Go.Proofs.YtgckjkocmkedfabGreat
open Go.RowKit
def badH (num root n:Nat):Bool:=decide (4611686018427387904<num) || (decide (root≠0∧root<2) || decide (n≤root)) || decide (num=0∧root≠0)
def rdH (xs:List Nat) (n:Nat):Int×Nat :=
 if xs=zs blk then (0,0)
 else if badH (ordN ((xs.drop 4).take 8)) (ordN ((xs.drop 12).take 4)) n then (-1,0)
 else if xs=pad (headB (ordN ((xs.drop 4).take 8)) (ordN ((xs.drop 12).take 4))) then ((ordN ((xs.drop 4).take 8):Int),ordN ((xs.drop 12).take 4)) else (-1,0)
theorem bs_nil (w:World):BS w none 0 0 []:=BS.none w none 0 (by omega) (fun _=>rfl)
theorem set2 {w:World} {g:Nat} {t:TypeId} {a b x y:Value} (h:w.heap[g]?=some (.cells #[a,b] t (0,0))):((w.setCell ⟨g,0,none⟩ x).setCell ⟨g,1,none⟩ y).heap[g]?=some (.cells #[x,y] t (0,0)):=by
 rw [heap_setCell_same _ g 1 _ t y (heap_setCell_same w g 0 _ t x h)]
 rfl
theorem aAu:(Tryz.prog.info? 274).map (·.size)=some 2:=by kernel_rfl
theorem pad_nil:pad []=zs blk:=by simp [pad]
theorem aFr (g n:Nat) (xs:List Nat) (w:World) (h:BS w (some ⟨g,0,none⟩) blk blk xs) (hn:n≤4096) (hn0:1≤n) :
  Calls Tryz.prog 232 #[.slice (some ⟨g,0,none⟩) blk blk,.int .i64 (n:Int)] w fun e w'=>e=.returned (.agg #[.int .i64 (rdH xs n).1,.int .i64 ((rdH xs n).2:Nat)])∧Below w.heap.size w w':=by
 have hz:∀ ww,(zeroValue 274).run Tryz.prog ww=.ok (.agg #[.int .i64 0,.int .i64 0]) ww:=fun ww=>by kernel_rfl
 have H:=hide h
 have HB8:Hid (blk=8192):=rfl
 have b8:((blk:Nat):Int)=8192:=rfl
 have HR:Hid (rdH xs n=if xs=zs blk then (0,0)
  else if badH (ordN ((xs.drop 4).take 8)) (ordN ((xs.drop 12).take 4)) n then (-1,0)
  else if xs=pad (headB (ordN ((xs.drop 4).take 8)) (ordN ((xs.drop 12).take 4))) then ((ordN ((xs.drop 4).take 8):Int),ordN ((xs.drop 12).take 4)) else (-1,0)):=rfl
 have HS1:=hide (bs_sub h 4 8 (by unfold blk;omega))
 have HS2:=hide (bs_sub h 12 4 (by unfold blk;omega))
 have HBA:=hide (aAh w (.cells #[.int .i64 0,.int .i64 0] 274))
 generalize rdH xs n=R at *
 clear h
 go_enter Tryz.func232,Tryz.ntmps232
 go_wp2_with fail
 refine (aB0 none 0 0 [] _ (bs_nil _) (by unfold blk;omega)).mono ?_
 rintro e w1 ⟨rfl,ho1,hb1⟩
 rw [pad_nil] at ho1
 have e1:(w.alloc (.cells #[.int .i64 0,.int .i64 0] 274)).heap.size=w.heap.size+1:=by simp
 rw [e1] at ho1 hb1
 have HB1:=hide (HBA.out.trans (hb1.mono (Nat.le_succ _)))
 have HZ1:=hide (BS.ofOwns ho1 (by unfold blk;omega) (zs_lt blk))
 have HX1:=hide (H.out.later HB1.out (nR _))
 have HEQ:=hide (aB6 _ _ _ _ _ _ xs (zs blk) w1 HX1.out HZ1.out)
 have r4:w1.heap[w.heap.size]?=some (.cells #[.int .i64 0,.int .i64 0] 274 (0,0)):=(hb1.block _ (by simp)).trans (heap_alloc_new w _)
 clear ho1 hb1 e1
 generalize hN:blk=N at *
 have HN:=hide hN
 clear hN
 have c40:w1.cell? ⟨w.heap.size,0,none⟩=some (.int .i64 0):=aAc r4
 have c41:w1.cell? ⟨w.heap.size,1,none⟩=some (.int .i64 0):=aAc r4
 have f40:w1.frozen? ⟨w.heap.size,0,none⟩=false:=aAj r4
 have f41:w1.frozen? ⟨w.heap.size,1,none⟩=false:=aAj r4
 have HR4:=hide r4
 clear r4
 by_cases h0:xs=zs N
 ·rw [if_pos h0] at HR
  rw [decide_eq_true h0] at HEQ
  obtain rfl:R=(0,0):=HR.out
  clear HR h0
  go_wp2_with fail
  refine HEQ.out.mono ?_
  rintro e w2 ⟨rfl,rfl⟩
  go_wp2
  (try simp only [Exit.inBlock,Exit.then])
  exact bodyPost_ret (results_cell_row Tryz.results232 _ _ w.heap.size _ _ _ _ rfl (set2 HR4.out) Tryz.underlying274 rfl aAu) rfl ⟨rfl,(HB1.out.setCell (nR _) _).setCell (nR _) _⟩
 ·rw [if_neg h0] at HR
  rw [decide_eq_false h0] at HEQ
  clear h0
  go_wp2_with fail
  refine HEQ.out.mono ?_
  rintro e w2 ⟨rfl,rfl⟩
  have hnn:ordN ((xs.drop 4).take 8)<18446744073709551616:=by
   have h1:=aGv HS1.out.hbyte 8 (by rw [HS1.out.hlen];exact nR _)
   rw [List.take_of_length_le (by rw [HS1.out.hlen];exact nR _)] at h1
   exact h1
  have hrr:ordN ((xs.drop 12).take 4)<4294967296:=by
   have h1:=aGv HS2.out.hbyte 4 (by rw [HS2.out.hlen];exact nR _)
   rw [List.take_of_length_le (by rw [HS2.out.hlen];exact nR _)] at h1
   exact h1
  go_wp2_with fail
  refine (aBn _ 8 _ _ w2 (HS1.out.later HB1.out (nR _)) (by omega)).mono ?_
  rintro e w3 ⟨rfl,rfl⟩
  go_wp2_with fail
  refine (aBn _ 4 _ _ w3 (HS2.out.later HB1.out (nR _)) (by omega)).mono ?_
  rintro e w4 ⟨rfl,rfl⟩
  generalize ordN ((xs.drop 4).take 8)=num at *
  generalize ordN ((xs.drop 12).take 4)=root at *
  have HBD:Hid (badH num root n=(decide (4611686018427387904<num) || (decide (root≠0∧root<2) || decide (n≤root)) || decide (num=0∧root≠0))):=rfl
  generalize badH num root n=bad at *
  have hn1:¬ (n:Int)≤0:=by omega
  cases bad with
  | true =>
   rw [if_pos rfl] at HR
   obtain rfl:R=(-1,0):=HR.out
   clear HR
   have hbad:=HBD.out
   simp only [Bool.or_eq_true,decide_eq_true_eq,eq_comm (a:=true)] at hbad
   clear HBD
   have k0:root=0∨root=1∨(2≤root∧root<n)∨(2≤root∧n≤root):=by omega
   have m0:4611686018427387904<num∨num=0∨(0<num∧num≤4611686018427387904):=by omega
   rcases k0 with rfl | rfl | ⟨k1,k2⟩ | ⟨k1,k2⟩
   ·rcases m0 with m1 | rfl | ⟨m1,m2⟩
    ·have p1:(4611686018427387904:Int)<(num:Int):=by omega
     clear hbad hnn hrr
     clear m1
     go_wp2
     (try simp only [Exit.inBlock,Exit.then])
     exact bodyPost_ret (results_cell_row Tryz.results232 _ _ w.heap.size _ _ _ _ rfl (set2 HR4.out) Tryz.underlying274 rfl aAu) rfl ⟨rfl,(HB1.out.setCell (nR _) _).setCell (nR _) _⟩
    ·exfalso;omega
    ·exfalso;omega
   ·rcases m0 with m1 | rfl | ⟨m1,m2⟩
    ·have p1:(4611686018427387904:Int)<(num:Int):=by omega
     clear hbad hnn hrr
     clear m1
     go_wp2
     (try simp only [Exit.inBlock,Exit.then])
     exact bodyPost_ret (results_cell_row Tryz.results232 _ _ w.heap.size _ _ _ _ rfl (set2 HR4.out) Tryz.underlying274 rfl aAu) rfl ⟨rfl,(HB1.out.setCell (nR _) _).setCell (nR _) _⟩
    ·clear hbad hnn hrr
     go_wp2
     (try simp only [Exit.inBlock,Exit.then])
     exact bodyPost_ret (results_cell_row Tryz.results232 _ _ w.heap.size _ _ _ _ rfl (set2 HR4.out) Tryz.underlying274 rfl aAu) rfl ⟨rfl,(HB1.out.setCell (nR _) _).setCell (nR _) _⟩
    ·have p1:¬ (4611686018427387904:Int)<(num:Int):=by omega
     have p2:((num:Int) == 0)=false:=by simp;omega
     clear hbad hnn hrr
     clear m1 m2
     go_wp2
     (try simp only [Exit.inBlock,Exit.then])
     exact bodyPost_ret (results_cell_row Tryz.results232 _ _ w.heap.size _ _ _ _ rfl (set2 HR4.out) Tryz.underlying274 rfl aAu) rfl ⟨rfl,(HB1.out.setCell (nR _) _).setCell (nR _) _⟩
   ·rcases m0 with m1 | rfl | ⟨m1,m2⟩
    ·have q1:((root:Int) != 0)=true:=by simp;omega
     have q2:¬ (root:Int)<2:=by omega
     have q3:¬ (n:Int)≤(root:Int):=by omega
     have p1:(4611686018427387904:Int)<(num:Int):=by omega
     clear hbad hnn hrr
     clear k1 k2
     clear m1
     go_wp2
     (try simp only [Exit.inBlock,Exit.then])
     exact bodyPost_ret (results_cell_row Tryz.results232 _ _ w.heap.size _ _ _ _ rfl (set2 HR4.out) Tryz.underlying274 rfl aAu) rfl ⟨rfl,(HB1.out.setCell (nR _) _).setCell (nR _) _⟩
    ·have q1:((root:Int) != 0)=true:=by simp;omega
     have q2:¬ (root:Int)<2:=by omega
     have q3:¬ (n:Int)≤(root:Int):=by omega
     clear hbad hnn hrr
     clear k1 k2
     go_wp2
     (try simp only [Exit.inBlock,Exit.then])
     exact bodyPost_ret (results_cell_row Tryz.results232 _ _ w.heap.size _ _ _ _ rfl (set2 HR4.out) Tryz.underlying274 rfl aAu) rfl ⟨rfl,(HB1.out.setCell (nR _) _).setCell (nR _) _⟩
    ·exfalso;omega
   ·rcases m0 with m1 | rfl | ⟨m1,m2⟩
    ·have q1:((root:Int) != 0)=true:=by simp;omega
     have q2:¬ (root:Int)<2:=by omega
     have q3:(n:Int)≤(root:Int):=by omega
     have p1:(4611686018427387904:Int)<(num:Int):=by omega
     clear hbad hnn hrr
     clear k1 k2
     clear m1
     go_wp2
     (try simp only [Exit.inBlock,Exit.then])
     exact bodyPost_ret (results_cell_row Tryz.results232 _ _ w.heap.size _ _ _ _ rfl (set2 HR4.out) Tryz.underlying274 rfl aAu) rfl ⟨rfl,(HB1.out.setCell (nR _) _).setCell (nR _) _⟩
    ·have q1:((root:Int) != 0)=true:=by simp;omega
     have q2:¬ (root:Int)<2:=by omega
     have q3:(n:Int)≤(root:Int):=by omega
     clear hbad hnn hrr
     clear k1 k2
     go_wp2
     (try simp only [Exit.inBlock,Exit.then])
     exact bodyPost_ret (results_cell_row Tryz.results232 _ _ w.heap.size _ _ _ _ rfl (set2 HR4.out) Tryz.underlying274 rfl aAu) rfl ⟨rfl,(HB1.out.setCell (nR _) _).setCell (nR _) _⟩
    ·have q1:((root:Int) != 0)=true:=by simp;omega
     have q2:¬ (root:Int)<2:=by omega
     have q3:(n:Int)≤(root:Int):=by omega
     have p1:¬ (4611686018427387904:Int)<(num:Int):=by omega
     have p2:((num:Int) == 0)=false:=by simp;omega
     clear hbad hnn hrr
     clear k1 k2
     clear m1 m2
     go_wp2
     (try simp only [Exit.inBlock,Exit.then])
     exact bodyPost_ret (results_cell_row Tryz.results232 _ _ w.heap.size _ _ _ _ rfl (set2 HR4.out) Tryz.underlying274 rfl aAu) rfl ⟨rfl,(HB1.out.setCell (nR _) _).setCell (nR _) _⟩
  | false =>
   rw [if_neg (by simp)] at HR
   have hbad:=HBD.out
   clear HBD
   have g1:¬ (4611686018427387904:Int)<(num:Int):=by simp only [eq_comm (a:=false),Bool.or_eq_false_iff,decide_eq_false_iff_not] at hbad;omega
   have g2:root=0∨(2≤root∧root<n∧num≠0):=by simp only [eq_comm (a:=false),Bool.or_eq_false_iff,decide_eq_false_iff_not] at hbad;omega
   clear hbad
   have HPL:=hide (headB_len num root)
   have HPB:=hide (headB_lt num root)
   have BX:=hide (fun ww=>aJb num root ww (by omega) (by omega))
   have RB:=hide (heap_alloc_new w4 (.cells #[.int .i64 (num:Int),.int .i64 (root:Int)] 274))
   have HBB:=hide (aAh w4 (.cells #[.int .i64 (num:Int),.int .i64 (root:Int)] 274))
   have e8:(w4.alloc (.cells #[.int .i64 (num:Int),.int .i64 (root:Int)] 274)).heap.size=w4.heap.size+1:=by simp
   rcases g2 with g2 | ⟨k1,k2,k3⟩
   ·have q1:((root:Int) != 0)=false:=by simp;omega
    have q3:¬ (n:Int)≤(root:Int):=by omega
    clear g2
    by_cases hz0:num=0
    ·have p2:((num:Int) == 0)=true:=by simp;omega
     clear hz0
     clear hnn hrr
     go_wp2_with fail
     refine (BX.out _).mono ?_
     rintro e w5 ⟨v5,rfl,ho5,hb5⟩
     rw [e8] at ho5 hb5
     obtain ⟨a5,c5,rfl,B5⟩:=aIa (xs:=headB num root) (by rw [HPL.out];exact ho5) (by rw [HPL.out];omega) HPB.out
     rw [HPL.out] at B5
     have HBS5:=hide B5
     have HB5:=hide (HBB.out.trans (hb5.mono (Nat.le_succ _)))
     have r85:=(hb5.block _ (Nat.lt_succ_self _)).trans RB.out
     have HR8:=hide r85
     clear ho5 hb5 B5 r85 e8
     go_wp2_with fail
     refine (aB0 a5 20 c5 (headB num root) w5 HBS5.out (by rw [HN.out,HB8.out];omega)).mono ?_
     rintro e w6 ⟨rfl,ho6,hb6⟩
     rw [HN.out] at ho6 ⊢
     have HB6:=hide (HB5.out.trans (hb6.mono HB5.out.size))
     have HBS6:=hide (BS.ofOwns ho6 (by rw [HB8.out];omega) (aGu HPB.out))
     have HR86:=hide ((hb6.block _ (lO HR8.out)).trans HR8.out)
     have HX6:=hide (HX1.out.later HB6.out (nR _))
     have r46:=(HB6.out.block _ (lO HR4.out)).trans HR4.out
     have HR46:=hide r46
     have HBT:=hide (HB1.out.trans (HB6.out.mono HB1.out.size))
     have d80:w6.cell? ⟨w4.heap.size,0,none⟩=some (.int .i64 (num:Int)):=aAc HR86.out
     have d81:w6.cell? ⟨w4.heap.size,1,none⟩=some (.int .i64 (root:Int)):=aAc HR86.out
     have d40:w6.cell? ⟨w.heap.size,0,none⟩=some (.int .i64 0):=aAc r46
     have d41:w6.cell? ⟨w.heap.size,1,none⟩=some (.int .i64 0):=aAc r46
     have e40:w6.frozen? ⟨w.heap.size,0,none⟩=false:=aAj r46
     have e41:w6.frozen? ⟨w.heap.size,1,none⟩=false:=aAj r46
     have HEQ6:=hide (aB6 _ _ _ _ _ _ xs (pad (headB num root)) w6 HX6.out HBS6.out)
     clear ho6 hb6 r46 c40 c41 f40 f41
     by_cases h2:xs=pad (headB num root)
     ·rw [if_pos h2] at HR
      obtain rfl:R=((num:Int),root):=HR.out
      rw [decide_eq_true h2] at HEQ6
      clear HR h2
      go_wp2_with fail
      refine HEQ6.out.mono ?_
      rintro e w7 ⟨rfl,rfl⟩
      go_wp2
      (try simp only [Exit.inBlock,Exit.then])
      exact bodyPost_ret (results_cell_row Tryz.results232 _ _ w.heap.size _ _ _ _ rfl (set2 HR46.out) Tryz.underlying274 rfl aAu) rfl ⟨rfl,(HBT.out.setCell (nR _) _).setCell (nR _) _⟩
     ·rw [if_neg h2] at HR
      obtain rfl:R=(-1,0):=HR.out
      rw [decide_eq_false h2] at HEQ6
      clear HR h2
      go_wp2_with fail
      refine HEQ6.out.mono ?_
      rintro e w7 ⟨rfl,rfl⟩
      go_wp2
      (try simp only [Exit.inBlock,Exit.then])
      exact bodyPost_ret (results_cell_row Tryz.results232 _ _ w.heap.size _ _ _ _ rfl (set2 HR46.out) Tryz.underlying274 rfl aAu) rfl ⟨rfl,(HBT.out.setCell (nR _) _).setCell (nR _) _⟩
    ·have p2:((num:Int) == 0)=false:=by simp;omega
     clear hz0
     clear hnn hrr
     go_wp2_with fail
     refine (BX.out _).mono ?_
     rintro e w5 ⟨v5,rfl,ho5,hb5⟩
     rw [e8] at ho5 hb5
     obtain ⟨a5,c5,rfl,B5⟩:=aIa (xs:=headB num root) (by rw [HPL.out];exact ho5) (by rw [HPL.out];omega) HPB.out
     rw [HPL.out] at B5
     have HBS5:=hide B5
     have HB5:=hide (HBB.out.trans (hb5.mono (Nat.le_succ _)))
     have r85:=(hb5.block _ (Nat.lt_succ_self _)).trans RB.out
     have HR8:=hide r85
     clear ho5 hb5 B5 r85 e8
     go_wp2_with fail
     refine (aB0 a5 20 c5 (headB num root) w5 HBS5.out (by rw [HN.out,HB8.out];omega)).mono ?_
     rintro e w6 ⟨rfl,ho6,hb6⟩
     rw [HN.out] at ho6 ⊢
     have HB6:=hide (HB5.out.trans (hb6.mono HB5.out.size))
     have HBS6:=hide (BS.ofOwns ho6 (by rw [HB8.out];omega) (aGu HPB.out))
     have HR86:=hide ((hb6.block _ (lO HR8.out)).trans HR8.out)
     have HX6:=hide (HX1.out.later HB6.out (nR _))
     have r46:=(HB6.out.block _ (lO HR4.out)).trans HR4.out
     have HR46:=hide r46
     have HBT:=hide (HB1.out.trans (HB6.out.mono HB1.out.size))
     have d80:w6.cell? ⟨w4.heap.size,0,none⟩=some (.int .i64 (num:Int)):=aAc HR86.out
     have d81:w6.cell? ⟨w4.heap.size,1,none⟩=some (.int .i64 (root:Int)):=aAc HR86.out
     have d40:w6.cell? ⟨w.heap.size,0,none⟩=some (.int .i64 0):=aAc r46
     have d41:w6.cell? ⟨w.heap.size,1,none⟩=some (.int .i64 0):=aAc r46
     have e40:w6.frozen? ⟨w.heap.size,0,none⟩=false:=aAj r46
     have e41:w6.frozen? ⟨w.heap.size,1,none⟩=false:=aAj r46
     have HEQ6:=hide (aB6 _ _ _ _ _ _ xs (pad (headB num root)) w6 HX6.out HBS6.out)
     clear ho6 hb6 r46 c40 c41 f40 f41
     by_cases h2:xs=pad (headB num root)
     ·rw [if_pos h2] at HR
      obtain rfl:R=((num:Int),root):=HR.out
      rw [decide_eq_true h2] at HEQ6
      clear HR h2
      go_wp2_with fail
      refine HEQ6.out.mono ?_
      rintro e w7 ⟨rfl,rfl⟩
      go_wp2
      (try simp only [Exit.inBlock,Exit.then])
      exact bodyPost_ret (results_cell_row Tryz.results232 _ _ w.heap.size _ _ _ _ rfl (set2 HR46.out) Tryz.underlying274 rfl aAu) rfl ⟨rfl,(HBT.out.setCell (nR _) _).setCell (nR _) _⟩
     ·rw [if_neg h2] at HR
      obtain rfl:R=(-1,0):=HR.out
      rw [decide_eq_false h2] at HEQ6
      clear HR h2
      go_wp2_with fail
      refine HEQ6.out.mono ?_
      rintro e w7 ⟨rfl,rfl⟩
      go_wp2
      (try simp only [Exit.inBlock,Exit.then])
      exact bodyPost_ret (results_cell_row Tryz.results232 _ _ w.heap.size _ _ _ _ rfl (set2 HR46.out) Tryz.underlying274 rfl aAu) rfl ⟨rfl,(HBT.out.setCell (nR _) _).setCell (nR _) _⟩
   ·have q1:((root:Int) != 0)=true:=by simp;omega
    have q2:¬ (root:Int)<2:=by omega
    have q3:¬ (n:Int)≤(root:Int):=by omega
    have p2:((num:Int) == 0)=false:=by simp;omega
    clear k1 k2 k3
    clear hnn hrr
    go_wp2_with fail
    refine (BX.out _).mono ?_
    rintro e w5 ⟨v5,rfl,ho5,hb5⟩
    rw [e8] at ho5 hb5
    obtain ⟨a5,c5,rfl,B5⟩:=aIa (xs:=headB num root) (by rw [HPL.out];exact ho5) (by rw [HPL.out];omega) HPB.out
    rw [HPL.out] at B5
    have HBS5:=hide B5
    have HB5:=hide (HBB.out.trans (hb5.mono (Nat.le_succ _)))
    have r85:=(hb5.block _ (Nat.lt_succ_self _)).trans RB.out
    have HR8:=hide r85
    clear ho5 hb5 B5 r85 e8
    go_wp2_with fail
    refine (aB0 a5 20 c5 (headB num root) w5 HBS5.out (by rw [HN.out,HB8.out];omega)).mono ?_
    rintro e w6 ⟨rfl,ho6,hb6⟩
    rw [HN.out] at ho6 ⊢
    have HB6:=hide (HB5.out.trans (hb6.mono HB5.out.size))
    have HBS6:=hide (BS.ofOwns ho6 (by rw [HB8.out];omega) (aGu HPB.out))
    have HR86:=hide ((hb6.block _ (lO HR8.out)).trans HR8.out)
    have HX6:=hide (HX1.out.later HB6.out (nR _))
    have r46:=(HB6.out.block _ (lO HR4.out)).trans HR4.out
    have HR46:=hide r46
    have HBT:=hide (HB1.out.trans (HB6.out.mono HB1.out.size))
    have d80:w6.cell? ⟨w4.heap.size,0,none⟩=some (.int .i64 (num:Int)):=aAc HR86.out
    have d81:w6.cell? ⟨w4.heap.size,1,none⟩=some (.int .i64 (root:Int)):=aAc HR86.out
    have d40:w6.cell? ⟨w.heap.size,0,none⟩=some (.int .i64 0):=aAc r46
    have d41:w6.cell? ⟨w.heap.size,1,none⟩=some (.int .i64 0):=aAc r46
    have e40:w6.frozen? ⟨w.heap.size,0,none⟩=false:=aAj r46
    have e41:w6.frozen? ⟨w.heap.size,1,none⟩=false:=aAj r46
    have HEQ6:=hide (aB6 _ _ _ _ _ _ xs (pad (headB num root)) w6 HX6.out HBS6.out)
    clear ho6 hb6 r46 c40 c41 f40 f41
    by_cases h2:xs=pad (headB num root)
    ·rw [if_pos h2] at HR
     obtain rfl:R=((num:Int),root):=HR.out
     rw [decide_eq_true h2] at HEQ6
     clear HR h2
     go_wp2_with fail
     refine HEQ6.out.mono ?_
     rintro e w7 ⟨rfl,rfl⟩
     go_wp2
     (try simp only [Exit.inBlock,Exit.then])
     exact bodyPost_ret (results_cell_row Tryz.results232 _ _ w.heap.size _ _ _ _ rfl (set2 HR46.out) Tryz.underlying274 rfl aAu) rfl ⟨rfl,(HBT.out.setCell (nR _) _).setCell (nR _) _⟩
    ·rw [if_neg h2] at HR
     obtain rfl:R=(-1,0):=HR.out
     rw [decide_eq_false h2] at HEQ6
     clear HR h2
     go_wp2_with fail
     refine HEQ6.out.mono ?_
     rintro e w7 ⟨rfl,rfl⟩
     go_wp2
     (try simp only [Exit.inBlock,Exit.then])
     exact bodyPost_ret (results_cell_row Tryz.results232 _ _ w.heap.size _ _ _ _ rfl (set2 HR46.out) Tryz.underlying274 rfl aAu) rfl ⟨rfl,(HBT.out.setCell (nR _) _).setCell (nR _) _⟩
def lastH (a b:Int×Nat):Option (Nat×Nat) :=
 if (if a.1<b.1 then b else a).1=-1 then none
 else if 0<(if a.1<b.1 then b else a).1∧(if (if a.1<b.1 then b else a).1 % 2=0 then a.1 else b.1)≠(if a.1<b.1 then b else a).1 then none
 else some ((if a.1<b.1 then b else a).1.toNat,(if a.1<b.1 then b else a).2)
theorem rdH_form (xs:List Nat) (n:Nat) (hn:1≤n):rdH xs n=(-1,0)∨∃ num root:Nat,rdH xs n=((num:Int),root)∧num≤4611686018427387904∧root<n:=by
 unfold rdH
 split
 ·exact Or.inr ⟨0,0,rfl,by omega,by omega⟩
 ·split
  ·exact Or.inl rfl
  ·rename_i h
   split
   ·refine Or.inr ⟨_,_,rfl,?_,?_⟩
    ·simp only [badH,Bool.or_eq_true,decide_eq_true_eq,not_or] at h
     omega
    ·simp only [badH,Bool.or_eq_true,decide_eq_true_eq,not_or] at h
     omega
   ·exact Or.inl rfl
def fnd (a b:Int×Nat) (k:Nat):Array Value:=if k=0 then #[.int .i64 0,.int .i64 0,.int .i64 0,.int .i64 0] else if k=1 then #[.int .i64 a.1,.int .i64 (a.2:Nat),.int .i64 0,.int .i64 0] else #[.int .i64 a.1,.int .i64 (a.2:Nat),.int .i64 b.1,.int .i64 (b.2:Nat)]
theorem aAr {fn:Func} {p u:Tmp} (h:fn.results=#[.cell p 274,.tmp u]) (tmps:Array Value) (w:World) (g:Nat) (t:TypeId) (x y:Value) (fr:Nat×Nat)
  (hp:tmps.getD p undef=.pointer (some ⟨g,0,none⟩)) (hg:w.heap[g]?=some (.cells #[x,y] t fr)) :
  (results fn tmps).run Tryz.prog w=.ok (.tuple #[.agg #[x,y],tmps.getD u undef]) w:=by
 rw [results_cell_tmp h,hp]
 simp only [asAddr,Sem.run_pure,Result.andThen_ok,run_loadVar_row w g t 274 #[x,y] fr _ hg Tryz.underlying274 rfl aAu]
theorem lastHead_ok [Gd] (B p:Nat) (s:DS) (w:World) (h:DI B p s w) (hB:B≤w.heap.size) (hd:s.down=false) (h3:3≤s.n) :
  Calls Tryz.prog 178 #[.pointer (some ⟨p,0,none⟩)] w fun e w'=>e=.returned (match lastH (rdH (pad (s.show 0)) s.n) (rdH (pad (s.show 1)) s.n) with | none=>.tuple #[.agg #[.int .i64 0,.int .i64 0],.int .i64 22] | some (num,root)=>.tuple #[.agg #[.int .i64 (num:Int),.int .i64 (root:Int)],.int .i64 0])∧Below w.heap.size w w':=by
 have hz:∀ ww,(zeroValue 274).run Tryz.prog ww=.ok (.agg #[.int .i64 0,.int .i64 0]) ww:=fun ww=>by kernel_rfl
 have hz2:∀ ww,(zeroValue 331).run Tryz.prog ww=.ok (.agg #[.int .i64 0,.int .i64 0,.int .i64 0,.int .i64 0]) ww:=fun ww=>by kernel_rfl
 have HB1:=hide ((aAh w (.cells #[.int .i64 0,.int .i64 0] 274)).alloc (by simp) (.cells #[.int .i64 0,.int .i64 0,.int .i64 0,.int .i64 0] 331))
 have HD:=hide h
 have HN2:=hide h.ok.n2
 have HSB:=hide (fun i=>aGu (show_lt h.ok i))
 have HSL:=hide (fun i=>aIu (show_len h.ok i))
 obtain ⟨a,ha⟩:∃ a,a=rdH (pad (s.show 0)) s.n:=⟨_,rfl⟩
 obtain ⟨b,hb⟩:∃ b,b=rdH (pad (s.show 1)) s.n:=⟨_,rfl⟩
 have FA:=hide (rdH_form (pad (s.show 0)) s.n (by omega))
 have FB:=hide (rdH_form (pad (s.show 1)) s.n (by omega))
 rw [←ha] at FA
 rw [←hb] at FB
 rw [←ha,←hb]
 have HA:=hide ha
 have HBb:=hide hb
 generalize hLH:lastH a b=L
 have HLH:=hide hLH
 clear h ha hb hLH
 go_enter Tryz.func178,Tryz.ntmps178
 go_wp2
 go_loopw [10] (fun i wr=>∃ k:Nat,k≤2∧i=.int .i64 k∧wr.heap[w.heap.size]?=some (.cells #[.int .i64 0,.int .i64 0] 274 (0,0))∧wr.heap[w.heap.size+1]?=some (.cells (fnd a b k) 331 (0,0))∧Below w.heap.size w wr) (fun i _=>2-(intOf i).toNat)
 case atStart=>exact ⟨0,by omega,rfl,heap_alloc2_old _ _ _,heap_alloc2_new _ _ _,HB1.out⟩
 case round =>
  clear HB1
  obtain ⟨k,hk,rfl,hR,hF,hB2⟩:=hrel
  have HR:=hide hR
  have HF:=hide hF
  have HBW:=hide hB2
  have HBZ:=hide (nT hB hB2.size)
  have HDW:=hide (HD.out.later hB2)
  clear hR hF hB2
  have hk3:k=0∨k=1∨k=2:=by omega
  rcases hk3 with rfl | rfl | rfl
  ·have RO:=hide (read_ok B p s 0 wr HDW.out HBZ.out hd (by omega))
   have BO:=hide (fun ww h=>aD1 B p s ww h)
   go_wp2_with fail
   refine RO.out.mono ?_
   rintro e w2 ⟨g,rfl,ho2,hb2⟩
   have HX2:=hide (BS.ofOwns ho2 (by unfold blk;omega) (HSB.out 0))
   have HB2:=hide hb2
   have HD2:=hide (HDW.out.later hb2)
   clear ho2 hb2
   go_wp2_with fail
   refine (BO.out _ HD2.out).mono ?_
   rintro e w3 ⟨rfl,rfl⟩
   go_wp2_with fail
   refine (aFr g s.n (pad (s.show 0)) w3 HX2.out HN2.out (by omega)).mono ?_
   rintro e w4 ⟨rfl,hb4⟩
   rw [←HA.out]
   have HB4:=hide (HB2.out.trans (hb4.mono HB2.out.size))
   have r4:=(HB4.out.block _ (lO HF.out)).trans HF.out
   have HR4:=hide ((HB4.out.block _ (lO HR.out)).trans HR.out)
   have c0:∃ v,w4.cell? ⟨w.heap.size+1,0,none⟩=some v:=⟨_,(aAc r4).trans rfl⟩
   have c1:∃ v,w4.cell? ⟨w.heap.size+1,1,none⟩=some v:=⟨_,(aAc r4).trans rfl⟩
   obtain ⟨v0,c0⟩:=c0
   obtain ⟨v1,c1⟩:=c1
   have f0:=aAj (i:=0) r4
   have f1:=aAj (i:=1) r4
   have HF4:=hide r4
   clear hb4 r4
   go_wp2
   refine ⟨⟨1,by omega,by go_num,?_,?_,((HBW.out.trans (HB4.out.mono HBW.out.size)).setCell (Nat.le_succ _) _).setCell (Nat.le_succ _) _⟩,by simp [intOf]⟩
   ·rw [heap_setCell_other _ _ _ _ (Nat.ne_of_lt (Nat.lt_succ_self _)),heap_setCell_other _ _ _ _ (Nat.ne_of_lt (Nat.lt_succ_self _))]
    exact HR4.out
   ·rw [heap_setCell_same _ _ 1 _ _ _ (heap_setCell_same w4 _ 0 _ _ _ HF4.out)]
    rfl
  ·have RO:=hide (read_ok B p s 1 wr HDW.out HBZ.out hd (by omega))
   have BO:=hide (fun ww h=>aD1 B p s ww h)
   go_wp2_with fail
   refine RO.out.mono ?_
   rintro e w2 ⟨g,rfl,ho2,hb2⟩
   have HX2:=hide (BS.ofOwns ho2 (by unfold blk;omega) (HSB.out 1))
   have HB2:=hide hb2
   have HD2:=hide (HDW.out.later hb2)
   clear ho2 hb2
   go_wp2_with fail
   refine (BO.out _ HD2.out).mono ?_
   rintro e w3 ⟨rfl,rfl⟩
   go_wp2_with fail
   refine (aFr g s.n (pad (s.show 1)) w3 HX2.out HN2.out (by omega)).mono ?_
   rintro e w4 ⟨rfl,hb4⟩
   rw [←HBb.out]
   have HB4:=hide (HB2.out.trans (hb4.mono HB2.out.size))
   have r4:=(HB4.out.block _ (lO HF.out)).trans HF.out
   have HR4:=hide ((HB4.out.block _ (lO HR.out)).trans HR.out)
   have c0:∃ v,w4.cell? ⟨w.heap.size+1,2,none⟩=some v:=⟨_,(aAc r4).trans rfl⟩
   have c1:∃ v,w4.cell? ⟨w.heap.size+1,3,none⟩=some v:=⟨_,(aAc r4).trans rfl⟩
   obtain ⟨v0,c0⟩:=c0
   obtain ⟨v1,c1⟩:=c1
   have f0:=aAj (i:=2) r4
   have f1:=aAj (i:=3) r4
   have HF4:=hide r4
   clear hb4 r4
   go_wp2
   refine ⟨⟨2,by omega,by go_num,?_,?_,((HBW.out.trans (HB4.out.mono HBW.out.size)).setCell (Nat.le_succ _) _).setCell (Nat.le_succ _) _⟩,by simp [intOf]⟩
   ·rw [heap_setCell_other _ _ _ _ (Nat.ne_of_lt (Nat.lt_succ_self _)),heap_setCell_other _ _ _ _ (Nat.ne_of_lt (Nat.lt_succ_self _))]
    exact HR4.out
   ·rw [heap_setCell_same _ _ 3 _ _ _ (heap_setCell_same w4 _ 2 _ _ _ HF4.out)]
    rfl
  ·clear HDW HBZ HD HN2 HSB HSL
   have c0:wr.cell? ⟨w.heap.size+1,0,none⟩=some (.int .i64 a.1):=aAc HF.out
   have c1:wr.cell? ⟨w.heap.size+1,1,none⟩=some (.int .i64 (a.2:Nat)):=aAc HF.out
   have c2:wr.cell? ⟨w.heap.size+1,2,none⟩=some (.int .i64 b.1):=aAc HF.out
   have c3:wr.cell? ⟨w.heap.size+1,3,none⟩=some (.int .i64 (b.2:Nat)):=aAc HF.out
   have d0:wr.cell? ⟨w.heap.size,0,none⟩=some (.int .i64 0):=aAc HR.out
   have d1:wr.cell? ⟨w.heap.size,1,none⟩=some (.int .i64 0):=aAc HR.out
   have f0:wr.frozen? ⟨w.heap.size,0,none⟩=false:=aAj HR.out
   have f1:wr.frozen? ⟨w.heap.size,1,none⟩=false:=aAj HR.out
   have hlt0:=(lO HR.out)
   have hlt1:=(lO HF.out)
   have HW0:=hide hlt0
   have HW1:=hide hlt1
   have HFz:=hide HF.out
   obtain ⟨a1,a2⟩:=a
   obtain ⟨b1,b2⟩:=b
   simp only at c0 c1 c2 c3 FA FB
   clear HF HA HBb hlt0 hlt1
   have la:-1≤a1:=by rcases FA.out with e | ⟨m,r,e,_⟩<;>(simp only [Prod.mk.injEq] at e;omega)
   have lb:-1≤b1:=by rcases FB.out with e | ⟨m,r,e,_⟩<;>(simp only [Prod.mk.injEq] at e;omega)
   have BX0:=hide (aAh wr (.cells #[.int .i64 a1,.int .i64 (a2:Nat)] 274))
   have g2:=(BX0.out.cell HW1.out).trans c2
   have g3:=(BX0.out.cell HW1.out).trans c3
   by_cases hlt:a1<b1
   ·rcases FB.out with e | ⟨m,r,e,hm,hr⟩
    ·simp only [Prod.mk.injEq] at e
     omega
    ·simp only [Prod.mk.injEq] at e
     obtain ⟨rfl,rfl⟩:=e
     by_cases hm0:m=0
     ·subst hm0
      have hL:lastH (a1,a2) (((0:Nat):Int),b2)=some (0,b2):=by
       unfold lastH
       rw [if_pos hlt]
       rfl
      obtain rfl:L=some (0,b2):=HLH.out.symm.trans hL
      have HB8:=hide (HBW.out.alloc HBW.out.size (.cells #[.int .i64 0,.int .i64 (b2:Nat)] 274))
      have HRY:=hide (((aAh wr (.cells #[.int .i64 0,.int .i64 (b2:Nat)] 274)).block _ HW0.out).trans HR.out)
      have z0:=aAc (i:=0) HRY.out
      have z1:=aAc (i:=1) HRY.out
      have z2:=aAj (i:=0) HRY.out
      have z3:=aAj (i:=1) HRY.out
      have q8:decide ((0:Int)<0)=false:=rfl
      clear HLH hL FA FB
      go_wp2_with fail
      go_quiet (fail)
      have HRX:=HRY
      have HBX:=hide (below_drewN HB8.out nq)
      go_wp2
      (try simp only [Exit.inBlock,Exit.then])
      exact bodyPost_ret (aAr Tryz.results178 _ _ w.heap.size _ _ _ _ rfl (set2 HRX.out)) rfl ⟨rfl,(HBX.out.setCell (nR _) _).setCell (nR _) _⟩
     ·by_cases hev:m % 2=0
      ·have hL:lastH (a1,a2) ((m:Int),b2)=none:=by
        unfold lastH
        rw [if_pos hlt,if_neg (by simp only;omega),if_pos (by simp only;rw [if_pos (by omega)];omega)]
       obtain rfl:L=none:=HLH.out.symm.trans hL
       have HB8:=hide (HBW.out.alloc HBW.out.size (.cells #[.int .i64 (m:Int),.int .i64 (b2:Nat)] 274))
       have HX:Hid ((fun wx=>wx.cell? ⟨wr.heap.size,0,none⟩=some (.int .i64 (m:Int))∧wx.cell? ⟨wr.heap.size,1,none⟩=some (.int .i64 (b2:Nat))∧wx.cell? ⟨w.heap.size+1,0,none⟩=some (.int .i64 a1)) (wr.alloc (.cells #[.int .i64 (m:Int),.int .i64 (b2:Nat)] 274))):=⟨aAc (heap_alloc_new wr _),aAc (heap_alloc_new wr _),((aAh wr _).cell HW1.out).trans c0⟩
       have HR8:=hide (((aAh wr (.cells #[.int .i64 (m:Int),.int .i64 (b2:Nat)] 274)).block _ HW0.out).trans HR.out)
       have HMM:Hid (((m % 2:Nat):Int)=0):=by show _=_;omega
       have q8:decide ((0:Int)<(m:Int))=true:=decide_eq_true (by omega)
       have q8n:decide (0<m)=true:=decide_eq_true (by omega)
       have q9:(a1 != (m:Int))=true:=by simp;omega
       have HMZ:=hide hm
       have HMX:=hide hm0
       clear HLH hL FA FB hm0 hev hm hr la lb
       go_wp2_with fail
       refine wp_region_noPanic ?_
       refine wp_region_held_drew (S:=fun wx=>wx.cell? ⟨wr.heap.size,0,none⟩=some (.int .i64 (m:Int))∧wx.cell? ⟨wr.heap.size,1,none⟩=some (.int .i64 (b2:Nat))∧wx.cell? ⟨w.heap.size+1,0,none⟩=some (.int .i64 a1)) (by kernel_rfl) HX.out (fun hHeld=>?_)
       refine wpAnyH_tk 0 40 ?_
       refine wpAnyH_tk 1 41 ?_
       refine wpAnyH_tk 2 42 ?_
       refine wpAnyH_tk 3 43 ?_
       refine wpAnyH_tk 4 44 ?_
       refine wpAnyH_tk 9 49 ?_
       refine wpAnyH_tk 10 50 ?_
       refine wpAnyH_cm 5 ?_;intro K hK
       go_simp
       refine (aBj m b2 _ HMZ.out).mono ?_
       rintro e w9 ⟨rfl,hb9⟩
       rw [HMM.out]
       have HB9:=hide ((HB8.out.drew).trans (hb9.mono (by have:=HB8.out.size;simpa using this)))
       have HX9:Hid ((fun wx=>wx.cell? ⟨wr.heap.size,0,none⟩=some (.int .i64 (m:Int))∧wx.cell? ⟨wr.heap.size,1,none⟩=some (.int .i64 (b2:Nat))∧wx.cell? ⟨w.heap.size+1,0,none⟩=some (.int .i64 a1)) w9):=⟨(hb9.cell (by simp)).trans HX.out.1,(hb9.cell (by simp)).trans HX.out.2.1,(hb9.cell (by have:=HW1.out;simp;omega)).trans HX.out.2.2⟩
       have HRX:=hide ((hb9.block _ (by have:=HW0.out;simp;omega)).trans HR8.out)
       clear hb9 hHeld
       refine hK.out _ _ HX9.out (fun hHeld=>?_)
       clear hK K
       try simp only [Act.put,siT,scZ,scS]
       refine wpAnyH_tk 6 46 ?_
       refine wpAnyH_tk 7 47 ?_
       refine wpAnyH_tk 8 48 ?_
       refine wpAnyH_tk 11 51 ?_
       refine wpAnyH_tk 12 52 ?_
       refine wpAnyH_tk 13 9 ?_
       refine wpAnyH_done (by kernel_rfl) ?_ _
       refine NoPanic.normal ?_
       have HBX:=HB9
       have y0:=HX9.out.1
       have y1:=HX9.out.2.1
       have z0:w9.cell? ⟨w.heap.size,0,none⟩=some (.int .i64 0):=aAc HRX.out
       have z1:w9.cell? ⟨w.heap.size,1,none⟩=some (.int .i64 0):=aAc HRX.out
       have z2:w9.frozen? ⟨w.heap.size,0,none⟩=false:=aAj HRX.out
       have z3:w9.frozen? ⟨w.heap.size,1,none⟩=false:=aAj HRX.out
       go_wp2
       (try simp only [Exit.inBlock,Exit.then])
       exact bodyPost_ret (aAr Tryz.results178 _ _ w.heap.size _ _ _ _ rfl (set2 HRX.out)) rfl ⟨rfl,(HBX.out.setCell (nR _) _).setCell (nR _) _⟩
      ·have hL:lastH (a1,a2) ((m:Int),b2)=some (m,b2):=by
        unfold lastH
        rw [if_pos hlt,if_neg (by simp only;omega),if_neg (by simp only;rw [if_neg (by omega)];omega)]
        rfl
       obtain rfl:L=some (m,b2):=HLH.out.symm.trans hL
       have HB8:=hide (HBW.out.alloc HBW.out.size (.cells #[.int .i64 (m:Int),.int .i64 (b2:Nat)] 274))
       have HX:Hid ((fun wx=>wx.cell? ⟨wr.heap.size,0,none⟩=some (.int .i64 (m:Int))∧wx.cell? ⟨wr.heap.size,1,none⟩=some (.int .i64 (b2:Nat))∧wx.cell? ⟨w.heap.size+1,2,none⟩=some (.int .i64 (m:Int))) (wr.alloc (.cells #[.int .i64 (m:Int),.int .i64 (b2:Nat)] 274))):=⟨aAc (heap_alloc_new wr _),aAc (heap_alloc_new wr _),((aAh wr _).cell HW1.out).trans c2⟩
       have HR8:=hide (((aAh wr (.cells #[.int .i64 (m:Int),.int .i64 (b2:Nat)] 274)).block _ HW0.out).trans HR.out)
       have HMM:Hid (((m % 2:Nat):Int)=1):=by show _=_;omega
       have q8:decide ((0:Int)<(m:Int))=true:=decide_eq_true (by omega)
       have q8n:decide (0<m)=true:=decide_eq_true (by omega)
       have HMZ:=hide hm
       have HMX:=hide hm0
       clear HLH hL FA FB hm0 hev hm hr la lb
       go_wp2_with fail
       refine wp_region_noPanic ?_
       refine wp_region_held_drew (S:=fun wx=>wx.cell? ⟨wr.heap.size,0,none⟩=some (.int .i64 (m:Int))∧wx.cell? ⟨wr.heap.size,1,none⟩=some (.int .i64 (b2:Nat))∧wx.cell? ⟨w.heap.size+1,2,none⟩=some (.int .i64 (m:Int))) (by kernel_rfl) HX.out (fun hHeld=>?_)
       refine wpAnyH_tk 0 40 ?_
       refine wpAnyH_tk 1 41 ?_
       refine wpAnyH_tk 2 42 ?_
       refine wpAnyH_tk 3 43 ?_
       refine wpAnyH_tk 4 44 ?_
       refine wpAnyH_tk 9 49 ?_
       refine wpAnyH_tk 10 50 ?_
       refine wpAnyH_cm 5 ?_;intro K hK
       go_simp
       refine (aBj m b2 _ HMZ.out).mono ?_
       rintro e w9 ⟨rfl,hb9⟩
       rw [HMM.out]
       have HB9:=hide ((HB8.out.drew).trans (hb9.mono (by have:=HB8.out.size;simpa using this)))
       have HX9:Hid ((fun wx=>wx.cell? ⟨wr.heap.size,0,none⟩=some (.int .i64 (m:Int))∧wx.cell? ⟨wr.heap.size,1,none⟩=some (.int .i64 (b2:Nat))∧wx.cell? ⟨w.heap.size+1,2,none⟩=some (.int .i64 (m:Int))) w9):=⟨(hb9.cell (by simp)).trans HX.out.1,(hb9.cell (by simp)).trans HX.out.2.1,(hb9.cell (by have:=HW1.out;simp;omega)).trans HX.out.2.2⟩
       have HRX:=hide ((hb9.block _ (by have:=HW0.out;simp;omega)).trans HR8.out)
       clear hb9 hHeld
       refine hK.out _ _ HX9.out (fun hHeld=>?_)
       clear hK K
       try simp only [Act.put,siT,scZ,scS]
       refine wpAnyH_tk 6 46 ?_
       refine wpAnyH_tk 7 47 ?_
       refine wpAnyH_tk 8 48 ?_
       refine wpAnyH_tk 11 51 ?_
       refine wpAnyH_tk 12 52 ?_
       refine wpAnyH_tk 13 9 ?_
       refine wpAnyH_done (by kernel_rfl) ?_ _
       refine NoPanic.normal ?_
       have HBX:=HB9
       have y0:=HX9.out.1
       have y1:=HX9.out.2.1
       have z0:w9.cell? ⟨w.heap.size,0,none⟩=some (.int .i64 0):=aAc HRX.out
       have z1:w9.cell? ⟨w.heap.size,1,none⟩=some (.int .i64 0):=aAc HRX.out
       have z2:w9.frozen? ⟨w.heap.size,0,none⟩=false:=aAj HRX.out
       have z3:w9.frozen? ⟨w.heap.size,1,none⟩=false:=aAj HRX.out
       go_wp2
       (try simp only [Exit.inBlock,Exit.then])
       exact bodyPost_ret (aAr Tryz.results178 _ _ w.heap.size _ _ _ _ rfl (set2 HRX.out)) rfl ⟨rfl,(HBX.out.setCell (nR _) _).setCell (nR _) _⟩
   ·rcases FA.out with e | ⟨m,r,e,hm,hr⟩
    ·simp only [Prod.mk.injEq] at e
     obtain ⟨rfl,rfl⟩:=e
     have hL:lastH (-1,0) (b1,b2)=none:=by
      unfold lastH
      rw [if_neg hlt,if_pos rfl]
     obtain rfl:L=none:=HLH.out.symm.trans hL
     have HB8:=hide (HBW.out.alloc HBW.out.size (.cells #[.int .i64 (-1),.int .i64 0] 274))
     have HRY:=hide (((aAh wr (.cells #[.int .i64 (-1),.int .i64 0] 274)).block _ HW0.out).trans HR.out)
     have z0:=aAc (i:=0) HRY.out
     have z1:=aAc (i:=1) HRY.out
     have z2:=aAj (i:=0) HRY.out
     have z3:=aAj (i:=1) HRY.out
     have q8:decide ((0:Int)<(-1))=false:=rfl
     have g2:(wr.alloc (.cells #[.int .i64 (-1),.int .i64 0] 274)).cell? ⟨w.heap.size+1,2,none⟩=some (.int .i64 b1):=g2
     have g3:(wr.alloc (.cells #[.int .i64 (-1),.int .i64 0] 274)).cell? ⟨w.heap.size+1,3,none⟩=some (.int .i64 (b2:Nat)):=g3
     clear HLH hL FA FB
     go_wp2_with fail
     go_quiet (fail)
     have HRX:=HRY
     have HBX:=hide (below_drewN HB8.out nq)
     go_wp2
     (try simp only [Exit.inBlock,Exit.then])
     exact bodyPost_ret (aAr Tryz.results178 _ _ w.heap.size _ _ _ _ rfl (set2 HRX.out)) rfl ⟨rfl,(HBX.out.setCell (nR _) _).setCell (nR _) _⟩
    ·simp only [Prod.mk.injEq] at e
     obtain ⟨rfl,rfl⟩:=e
     by_cases hm0:m=0
     ·subst hm0
      have hL:lastH (((0:Nat):Int),a2) (b1,b2)=some (0,a2):=by
       unfold lastH
       rw [if_neg hlt]
       rfl
      obtain rfl:L=some (0,a2):=HLH.out.symm.trans hL
      have HB8:=hide (HBW.out.alloc HBW.out.size (.cells #[.int .i64 0,.int .i64 (a2:Nat)] 274))
      have HRY:=hide (((aAh wr (.cells #[.int .i64 0,.int .i64 (a2:Nat)] 274)).block _ HW0.out).trans HR.out)
      have z0:=aAc (i:=0) HRY.out
      have z1:=aAc (i:=1) HRY.out
      have z2:=aAj (i:=0) HRY.out
      have z3:=aAj (i:=1) HRY.out
      have q8:decide ((0:Int)<0)=false:=rfl
      have g2:(wr.alloc (.cells #[.int .i64 0,.int .i64 (a2:Nat)] 274)).cell? ⟨w.heap.size+1,2,none⟩=some (.int .i64 b1):=g2
      have g3:(wr.alloc (.cells #[.int .i64 0,.int .i64 (a2:Nat)] 274)).cell? ⟨w.heap.size+1,3,none⟩=some (.int .i64 (b2:Nat)):=g3
      clear HLH hL FA FB
      go_wp2_with fail
      go_quiet (fail)
      have HRX:=HRY
      have HBX:=hide (below_drewN HB8.out nq)
      go_wp2
      (try simp only [Exit.inBlock,Exit.then])
      exact bodyPost_ret (aAr Tryz.results178 _ _ w.heap.size _ _ _ _ rfl (set2 HRX.out)) rfl ⟨rfl,(HBX.out.setCell (nR _) _).setCell (nR _) _⟩
     ·by_cases hev:m % 2=0
      ·have hL:lastH ((m:Int),a2) (b1,b2)=some (m,a2):=by
        unfold lastH
        rw [if_neg hlt,if_neg (by simp only;omega),if_neg (by simp only;rw [if_pos (by omega)];omega)]
        rfl
       obtain rfl:L=some (m,a2):=HLH.out.symm.trans hL
       have HB8:=hide (HBW.out.alloc HBW.out.size (.cells #[.int .i64 (m:Int),.int .i64 (a2:Nat)] 274))
       have HX:Hid ((fun wx=>wx.cell? ⟨wr.heap.size,0,none⟩=some (.int .i64 (m:Int))∧wx.cell? ⟨wr.heap.size,1,none⟩=some (.int .i64 (a2:Nat))∧wx.cell? ⟨w.heap.size+1,0,none⟩=some (.int .i64 (m:Int))) (wr.alloc (.cells #[.int .i64 (m:Int),.int .i64 (a2:Nat)] 274))):=⟨aAc (heap_alloc_new wr _),aAc (heap_alloc_new wr _),((aAh wr _).cell HW1.out).trans c0⟩
       have HR8:=hide (((aAh wr (.cells #[.int .i64 (m:Int),.int .i64 (a2:Nat)] 274)).block _ HW0.out).trans HR.out)
       have HMM:Hid (((m % 2:Nat):Int)=0):=by show _=_;omega
       have q8:decide ((0:Int)<(m:Int))=true:=decide_eq_true (by omega)
       have q8n:decide (0<m)=true:=decide_eq_true (by omega)
       have HMZ:=hide hm
       have HMX:=hide hm0
       clear HLH hL FA FB hm0 hev hm hr la lb
       go_wp2_with fail
       refine wp_region_noPanic ?_
       refine wp_region_held_drew (S:=fun wx=>wx.cell? ⟨wr.heap.size,0,none⟩=some (.int .i64 (m:Int))∧wx.cell? ⟨wr.heap.size,1,none⟩=some (.int .i64 (a2:Nat))∧wx.cell? ⟨w.heap.size+1,0,none⟩=some (.int .i64 (m:Int))) (by kernel_rfl) HX.out (fun hHeld=>?_)
       refine wpAnyH_tk 0 40 ?_
       refine wpAnyH_tk 1 41 ?_
       refine wpAnyH_tk 2 42 ?_
       refine wpAnyH_tk 3 43 ?_
       refine wpAnyH_tk 4 44 ?_
       refine wpAnyH_tk 9 49 ?_
       refine wpAnyH_tk 10 50 ?_
       refine wpAnyH_cm 5 ?_;intro K hK
       go_simp
       refine (aBj m a2 _ HMZ.out).mono ?_
       rintro e w9 ⟨rfl,hb9⟩
       rw [HMM.out]
       have HB9:=hide ((HB8.out.drew).trans (hb9.mono (by have:=HB8.out.size;simpa using this)))
       have HX9:Hid ((fun wx=>wx.cell? ⟨wr.heap.size,0,none⟩=some (.int .i64 (m:Int))∧wx.cell? ⟨wr.heap.size,1,none⟩=some (.int .i64 (a2:Nat))∧wx.cell? ⟨w.heap.size+1,0,none⟩=some (.int .i64 (m:Int))) w9):=⟨(hb9.cell (by simp)).trans HX.out.1,(hb9.cell (by simp)).trans HX.out.2.1,(hb9.cell (by have:=HW1.out;simp;omega)).trans HX.out.2.2⟩
       have HRX:=hide ((hb9.block _ (by have:=HW0.out;simp;omega)).trans HR8.out)
       clear hb9 hHeld
       refine hK.out _ _ HX9.out (fun hHeld=>?_)
       clear hK K
       try simp only [Act.put,siT,scZ,scS]
       refine wpAnyH_tk 6 46 ?_
       refine wpAnyH_tk 7 47 ?_
       refine wpAnyH_tk 8 48 ?_
       refine wpAnyH_tk 11 51 ?_
       refine wpAnyH_tk 12 52 ?_
       refine wpAnyH_tk 13 9 ?_
       refine wpAnyH_done (by kernel_rfl) ?_ _
       refine NoPanic.normal ?_
       have HBX:=HB9
       have y0:=HX9.out.1
       have y1:=HX9.out.2.1
       have z0:w9.cell? ⟨w.heap.size,0,none⟩=some (.int .i64 0):=aAc HRX.out
       have z1:w9.cell? ⟨w.heap.size,1,none⟩=some (.int .i64 0):=aAc HRX.out
       have z2:w9.frozen? ⟨w.heap.size,0,none⟩=false:=aAj HRX.out
       have z3:w9.frozen? ⟨w.heap.size,1,none⟩=false:=aAj HRX.out
       go_wp2
       (try simp only [Exit.inBlock,Exit.then])
       exact bodyPost_ret (aAr Tryz.results178 _ _ w.heap.size _ _ _ _ rfl (set2 HRX.out)) rfl ⟨rfl,(HBX.out.setCell (nR _) _).setCell (nR _) _⟩
      ·by_cases hbm:b1=(m:Int)
       ·have hL:lastH ((m:Int),a2) (b1,b2)=some (m,a2):=by
         unfold lastH
         rw [if_neg hlt,if_neg (by simp only;omega),if_neg (by simp only;rw [if_neg (by omega)];omega)]
         rfl
        obtain rfl:L=some (m,a2):=HLH.out.symm.trans hL
        subst hbm
        have HB8:=hide (HBW.out.alloc HBW.out.size (.cells #[.int .i64 (m:Int),.int .i64 (a2:Nat)] 274))
        have HX:Hid ((fun wx=>wx.cell? ⟨wr.heap.size,0,none⟩=some (.int .i64 (m:Int))∧wx.cell? ⟨wr.heap.size,1,none⟩=some (.int .i64 (a2:Nat))∧wx.cell? ⟨w.heap.size+1,2,none⟩=some (.int .i64 (m:Int))) (wr.alloc (.cells #[.int .i64 (m:Int),.int .i64 (a2:Nat)] 274))):=⟨aAc (heap_alloc_new wr _),aAc (heap_alloc_new wr _),((aAh wr _).cell HW1.out).trans c2⟩
        have HR8:=hide (((aAh wr (.cells #[.int .i64 (m:Int),.int .i64 (a2:Nat)] 274)).block _ HW0.out).trans HR.out)
        have HMM:Hid (((m % 2:Nat):Int)=1):=by show _=_;omega
        have q8:decide ((0:Int)<(m:Int))=true:=decide_eq_true (by omega)
        have q8n:decide (0<m)=true:=decide_eq_true (by omega)
        have HMZ:=hide hm
        have HMX:=hide hm0
        clear HLH hL FA FB hm0 hev hm hr la lb
        go_wp2_with fail
        refine wp_region_noPanic ?_
        refine wp_region_held_drew (S:=fun wx=>wx.cell? ⟨wr.heap.size,0,none⟩=some (.int .i64 (m:Int))∧wx.cell? ⟨wr.heap.size,1,none⟩=some (.int .i64 (a2:Nat))∧wx.cell? ⟨w.heap.size+1,2,none⟩=some (.int .i64 (m:Int))) (by kernel_rfl) HX.out (fun hHeld=>?_)
        refine wpAnyH_tk 0 40 ?_
        refine wpAnyH_tk 1 41 ?_
        refine wpAnyH_tk 2 42 ?_
        refine wpAnyH_tk 3 43 ?_
        refine wpAnyH_tk 4 44 ?_
        refine wpAnyH_tk 9 49 ?_
        refine wpAnyH_tk 10 50 ?_
        refine wpAnyH_cm 5 ?_;intro K hK
        go_simp
        refine (aBj m a2 _ HMZ.out).mono ?_
        rintro e w9 ⟨rfl,hb9⟩
        rw [HMM.out]
        have HB9:=hide ((HB8.out.drew).trans (hb9.mono (by have:=HB8.out.size;simpa using this)))
        have HX9:Hid ((fun wx=>wx.cell? ⟨wr.heap.size,0,none⟩=some (.int .i64 (m:Int))∧wx.cell? ⟨wr.heap.size,1,none⟩=some (.int .i64 (a2:Nat))∧wx.cell? ⟨w.heap.size+1,2,none⟩=some (.int .i64 (m:Int))) w9):=⟨(hb9.cell (by simp)).trans HX.out.1,(hb9.cell (by simp)).trans HX.out.2.1,(hb9.cell (by have:=HW1.out;simp;omega)).trans HX.out.2.2⟩
        have HRX:=hide ((hb9.block _ (by have:=HW0.out;simp;omega)).trans HR8.out)
        clear hb9 hHeld
        refine hK.out _ _ HX9.out (fun hHeld=>?_)
        clear hK K
        try simp only [Act.put,siT,scZ,scS]
        refine wpAnyH_tk 6 46 ?_
        refine wpAnyH_tk 7 47 ?_
        refine wpAnyH_tk 8 48 ?_
        refine wpAnyH_tk 11 51 ?_
        refine wpAnyH_tk 12 52 ?_
        refine wpAnyH_tk 13 9 ?_
        refine wpAnyH_done (by kernel_rfl) ?_ _
        refine NoPanic.normal ?_
        have HBX:=HB9
        have y0:=HX9.out.1
        have y1:=HX9.out.2.1
        have z0:w9.cell? ⟨w.heap.size,0,none⟩=some (.int .i64 0):=aAc HRX.out
        have z1:w9.cell? ⟨w.heap.size,1,none⟩=some (.int .i64 0):=aAc HRX.out
        have z2:w9.frozen? ⟨w.heap.size,0,none⟩=false:=aAj HRX.out
        have z3:w9.frozen? ⟨w.heap.size,1,none⟩=false:=aAj HRX.out
        go_wp2
        (try simp only [Exit.inBlock,Exit.then])
        exact bodyPost_ret (aAr Tryz.results178 _ _ w.heap.size _ _ _ _ rfl (set2 HRX.out)) rfl ⟨rfl,(HBX.out.setCell (nR _) _).setCell (nR _) _⟩
       ·have hL:lastH ((m:Int),a2) (b1,b2)=none:=by
         unfold lastH
         rw [if_neg hlt,if_neg (by simp only;omega),if_pos (by simp only;rw [if_neg (by omega)];omega)]
        obtain rfl:L=none:=HLH.out.symm.trans hL
        have HB8:=hide (HBW.out.alloc HBW.out.size (.cells #[.int .i64 (m:Int),.int .i64 (a2:Nat)] 274))
        have HX:Hid ((fun wx=>wx.cell? ⟨wr.heap.size,0,none⟩=some (.int .i64 (m:Int))∧wx.cell? ⟨wr.heap.size,1,none⟩=some (.int .i64 (a2:Nat))∧wx.cell? ⟨w.heap.size+1,2,none⟩=some (.int .i64 b1)) (wr.alloc (.cells #[.int .i64 (m:Int),.int .i64 (a2:Nat)] 274))):=⟨aAc (heap_alloc_new wr _),aAc (heap_alloc_new wr _),((aAh wr _).cell HW1.out).trans c2⟩
        have HR8:=hide (((aAh wr (.cells #[.int .i64 (m:Int),.int .i64 (a2:Nat)] 274)).block _ HW0.out).trans HR.out)
        have HMM:Hid (((m % 2:Nat):Int)=1):=by show _=_;omega
        have q8:decide ((0:Int)<(m:Int))=true:=decide_eq_true (by omega)
        have q8n:decide (0<m)=true:=decide_eq_true (by omega)
        have q9:(b1 != (m:Int))=true:=by simp;omega
        have HMZ:=hide hm
        have HMX:=hide hm0
        clear HLH hL FA FB hm0 hev hm hr la lb
        go_wp2_with fail
        refine wp_region_noPanic ?_
        refine wp_region_held_drew (S:=fun wx=>wx.cell? ⟨wr.heap.size,0,none⟩=some (.int .i64 (m:Int))∧wx.cell? ⟨wr.heap.size,1,none⟩=some (.int .i64 (a2:Nat))∧wx.cell? ⟨w.heap.size+1,2,none⟩=some (.int .i64 b1)) (by kernel_rfl) HX.out (fun hHeld=>?_)
        refine wpAnyH_tk 0 40 ?_
        refine wpAnyH_tk 1 41 ?_
        refine wpAnyH_tk 2 42 ?_
        refine wpAnyH_tk 3 43 ?_
        refine wpAnyH_tk 4 44 ?_
        refine wpAnyH_tk 9 49 ?_
        refine wpAnyH_tk 10 50 ?_
        refine wpAnyH_cm 5 ?_;intro K hK
        go_simp
        refine (aBj m a2 _ HMZ.out).mono ?_
        rintro e w9 ⟨rfl,hb9⟩
        rw [HMM.out]
        have HB9:=hide ((HB8.out.drew).trans (hb9.mono (by have:=HB8.out.size;simpa using this)))
        have HX9:Hid ((fun wx=>wx.cell? ⟨wr.heap.size,0,none⟩=some (.int .i64 (m:Int))∧wx.cell? ⟨wr.heap.size,1,none⟩=some (.int .i64 (a2:Nat))∧wx.cell? ⟨w.heap.size+1,2,none⟩=some (.int .i64 b1)) w9):=⟨(hb9.cell (by simp)).trans HX.out.1,(hb9.cell (by simp)).trans HX.out.2.1,(hb9.cell (by have:=HW1.out;simp;omega)).trans HX.out.2.2⟩
        have HRX:=hide ((hb9.block _ (by have:=HW0.out;simp;omega)).trans HR8.out)
        clear hb9 hHeld
        refine hK.out _ _ HX9.out (fun hHeld=>?_)
        clear hK K
        try simp only [Act.put,siT,scZ,scS]
        refine wpAnyH_tk 6 46 ?_
        refine wpAnyH_tk 7 47 ?_
        refine wpAnyH_tk 8 48 ?_
        refine wpAnyH_tk 11 51 ?_
        refine wpAnyH_tk 12 52 ?_
        refine wpAnyH_tk 13 9 ?_
        refine wpAnyH_done (by kernel_rfl) ?_ _
        refine NoPanic.normal ?_
        have HBX:=HB9
        have y0:=HX9.out.1
        have y1:=HX9.out.2.1
        have z0:w9.cell? ⟨w.heap.size,0,none⟩=some (.int .i64 0):=aAc HRX.out
        have z1:w9.cell? ⟨w.heap.size,1,none⟩=some (.int .i64 0):=aAc HRX.out
        have z2:w9.frozen? ⟨w.heap.size,0,none⟩=false:=aAj HRX.out
        have z3:w9.frozen? ⟨w.heap.size,1,none⟩=false:=aAj HRX.out
        go_wp2
        (try simp only [Exit.inBlock,Exit.then])
        exact bodyPost_ret (aAr Tryz.results178 _ _ w.heap.size _ _ _ _ rfl (set2 HRX.out)) rfl ⟨rfl,(HBX.out.setCell (nR _) _).setCell (nR _) _⟩
theorem aCm (n:Nat):(newSt n).length=n:=by simp [newSt]
theorem newSt_ok {n num root:Nat} {l:Int} (hn:n≤4096) (h1:num≤4611686018427387904) (h2:root≤4096):(PS.mk (newSt n) l num root).Ok where
 sl:=by show (newSt n).length≤4096;rw [aCm];exact hn
 sb:=by
  intro c hc
  simp only [newSt,List.mem_map] at hc
  obtain ⟨i,_,rfl⟩:=hc
  split<;>omega
 nm:=h1
 rt:=h2
theorem open_ok [Gd] (B p:Nat) (s:DS) (num root:Nat) (w:World) (h:DI B p s w) (hB:B≤w.heap.size) (hd:s.down=false) (h3:3≤s.n) (hl:lastH (rdH (pad (s.show 0)) s.n) (rdH (pad (s.show 1)) s.n)=some (num,root)) (h1:num≤4611686018427387904) (h2:root≤4096) :
  Calls Tryz.prog 124 #[.pointer (some ⟨p,0,none⟩)] w fun e w'=>∃ q,e=.returned (.tuple #[.pointer (some ⟨q,0,none⟩),.int .i64 0])∧ST B p q s ⟨newSt s.n,s.life,num,root⟩ w'∧Below w.heap.size w w':=by
 have hz:∀ ww,(zeroValue 274).run Tryz.prog ww=.ok (.agg #[.int .i64 0,.int .i64 0]) ww:=fun ww=>by kernel_rfl
 have HBl:=hide (aD1 B p s w h)
 have HL:=hide (lastHead_ok B p s w h hB hd h3)
 rw [hl] at HL
 have HN2:=hide h.ok.n2
 have HPO:=hide (newSt_ok (l:=s.life) h.ok.n2 h1 h2)
 have HNL:=hide (aCm s.n)
 have d1:¬ ((s.n:Nat):Int)<3:=by omega
 have HD:=hide h
 clear h hl
 go_enter Tryz.func124,Tryz.ntmps124
 go_wp2_with fail
 refine HBl.out.mono ?_
 rintro e w1 ⟨rfl,rfl⟩
 go_wp2_with fail
 refine HL.out.mono ?_
 rintro e w2 ⟨rfl,hb2⟩
 obtain ⟨w3,HW3⟩:∃ w3,w3=w2.alloc (.cells #[.int .i64 (num:Int),.int .i64 (root:Int)] 274):=⟨_,rfl⟩
 have HB3:Hid (Below w1.heap.size w1 w3):=by rw [HW3];exact hb2.alloc hb2.size _
 have HD3:=hide (HD.out.later HB3.out)
 obtain ⟨h4,HH4⟩:∃ h4,h4=w2.heap.size:=⟨_,rfl⟩
 have HX:Hid ((fun wx=>wx.cell? ⟨h4,0,none⟩=some (.int .i64 (num:Int))∧wx.cell? ⟨h4,1,none⟩=some (.int .i64 (root:Int))) w3):=by rw [HW3,HH4];exact ⟨aAc (heap_alloc_new w2 _),aAc (heap_alloc_new w2 _)⟩
 have HHW:=hide HW3
 have HHH:=hide HH4
 clear hb2 HW3 HH4
 go_wp2_with fail
 rw [←HHH.out,←HHW.out]
 refine wp_region_noPanic ?_
 refine wp_region_held_drew (S:=fun wx=>wx.cell? ⟨h4,0,none⟩=some (.int .i64 (num:Int))∧wx.cell? ⟨h4,1,none⟩=some (.int .i64 (root:Int))) (by kernel_rfl) HX.out (fun hHeld=>?_)
 refine wpAnyH_tk 0 21 ?_
 refine wpAnyH_tk 3 24 ?_
 refine wpAnyH_tk 4 25 ?_
 refine wpAnyH_tk 6 27 ?_
 refine wpAnyH_cm 1 ?_;intro K hK
 go_simp
 refine (aD1 B p s _ (HD3.out.later ((Below.refl _ _).drew))).mono ?_
 rintro e wq ⟨rfl,hq⟩
 have hq:=hq.symm
 subst hq
 refine hK.out _ _ hHeld (fun hHeld=>?_)
 clear hK K
 try simp only [Act.put,siT,scZ,scS]
 refine wpAnyH_cm 2 ?_;intro K hK
 go_simp
 refine (newPages_any s.n _ h3 HN2.out).mono ?_
 rintro e w5 ⟨g5,rfl,hr5,hg5,hb5⟩
 have HB5:=hide (((Below.refl _ w3).drew).trans hb5)
 have HR5:=hide hr5
 have HG5:=hide hg5
 have HX5:Hid ((fun wx=>wx.cell? ⟨h4,0,none⟩=some (.int .i64 (num:Int))∧wx.cell? ⟨h4,1,none⟩=some (.int .i64 (root:Int))) w5):=⟨(HB5.out.cell (aAk HX.out.1)).trans HX.out.1,(HB5.out.cell (aAk HX.out.2)).trans HX.out.2⟩
 have HD5:=hide (HD3.out.later HB5.out)
 clear hr5 hg5 hb5 hHeld
 refine hK.out _ _ HX5.out (fun hHeld=>?_)
 clear hK K
 try simp only [Act.put,siT,scZ,scS]
 refine wpAnyH_cm 5 ?_;intro K hK
 go_simp
 refine (life_any B p s _ HD5.out).mono ?_
 rintro e wq ⟨rfl,hq⟩
 have hq:=hq.symm
 subst hq
 refine hK.out _ _ hHeld (fun hHeld=>?_)
 clear hK K
 try simp only [Act.put,siT,scZ,scS]
 refine wpAnyH_tk 7 28 ?_
 refine wpAnyH_cm 8 ?_;intro K hK
 have HXX:Hid ((fun wx=>wx.cell? ⟨h4,0,none⟩=some (.int .i64 (num:Int))∧wx.cell? ⟨h4,1,none⟩=some (.int .i64 (root:Int))) (w5.alloc (.cells #[.slice (some ⟨g5,0,none⟩) s.n s.n,.pointer (some ⟨p,0,none⟩),.int .i64 s.life,.int .i64 (num:Int),.int .i64 (root:Int)] 282))):=⟨((aAh w5 _).cell (aAk HX5.out.1)).trans HX5.out.1,((aAh w5 _).cell (aAk HX5.out.2)).trans HX5.out.2⟩
 go_simp
 clear hHeld
 refine hK.out _ _ HXX.out (fun hHeld=>?_)
 clear hK K
 try simp only [Act.put,siT,scZ,scS]
 refine wpAnyH_tk 9 2 ?_
 refine wpAnyH_tk 10 3 ?_
 refine wpAnyH_done (by kernel_rfl) ?_ _
 refine NoPanic.normal ?_
 go_wp2
 go_ret2
 have HBX:=hide (HB5.out.trans ((aAh w5 (.cells #[.slice (some ⟨g5,0,none⟩) s.n s.n,.pointer (some ⟨p,0,none⟩),.int .i64 s.life,.int .i64 (num:Int),.int .i64 (root:Int)] 282)).mono HB5.out.size))
 refine ⟨w5.heap.size,rfl,⟨HD5.out.later (aAh w5 _),g5,?_,?_,?_,?_,HPO.out,?_⟩,HB3.out.trans (HBX.out.mono HB3.out.size)⟩
 ·have e:=heap_alloc_new w5 (.cells #[.slice (some ⟨g5,0,none⟩) s.n s.n,.pointer (some ⟨p,0,none⟩),.int .i64 s.life,.int .i64 (num:Int),.int .i64 (root:Int)] 282)
  rw [e]
  show _=some (Obj.cells (storeV g5 p ⟨newSt s.n,s.life,num,root⟩) _ _)
  unfold storeV
  rw [HNL.out]
 ·rw [Below.heap_alloc _ _ _ (lO HR5.out)]
  exact HR5.out
 ·exact nT (nT hB HB3.out.size) HB5.out.size
 ·exact nT (nT hB HB3.out.size) (nT (by simp) HG5.out)
 ·intro k hk
  have h9:=(HD3.out.fb hk).lt
  have h7:=HB5.out.size
  have h8:w3.heap.size≤g5:=nT (by simp) HG5.out
  exact ⟨by omega,by omega⟩
theorem rdH_zero (n:Nat):rdH (pad []) n=(0,0):=by
 unfold rdH
 rw [if_pos pad_nil]
theorem lastH_zero:lastH (0,0) (0,0)=some (0,0):=by decide
section
variable {B p q:Nat} {s:DS} {t:PS} {w:World}
end
end Go.Proofs.YtgckjkocmkedfabGreat
