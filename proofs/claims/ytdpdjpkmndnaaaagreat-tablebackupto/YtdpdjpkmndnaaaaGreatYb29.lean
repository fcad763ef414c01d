import Derived.Handy
import Derived.Laws.ResultCell
import Derived.Test.YtdpdjpkmndnaaaaGreatYb23
import Derived.Test.YtdpdjpkmndnaaaaGreatYb25
import Derived.Test.YtdpdjpkmndnaaaaGreatYb17
set_option maxRecDepth 100000
set_option maxHeartbeats 16000000
set_option linter.unusedVariables false
namespace Go.Proofs.YtdpdjpkmndnaaaaGreat
open Go.RowKit _root_.Go.Proofs.Tryz
abbrev kBn:=@wpAnyH_done
abbrev kBk:=@NoPanic.normal
abbrev kBj:=@wp_region_noPanic
abbrev kBi:=@wp_region_held_drew
def bSf (num root n:Nat):Bool:=decide (4611686018427387904<num) || (decide (root≠0/\root<2) || decide (n<=root)) || decide (num=0/\root≠0)
def rdH (xs:List Nat) (n:Nat):Int×Nat :=
 if xs=zs blk then (0,0)
 else if bSf (bA1 ((xs.drop 4).take 8)) (bA1 ((xs.drop 12).take 4)) n then (-1,0)
 else if xs=pad (bAw (bA1 ((xs.drop 4).take 8)) (bA1 ((xs.drop 12).take 4))) then ((bA1 ((xs.drop 4).take 8):Int),bA1 ((xs.drop 12).take 4)) else (-1,0)
theorem bTz (w:World):BS w none 0 0 []:=BS.none w none 0 (by omega) (fun _=>rfl)
theorem set2 {w:World} {g:Nat} {t:TypeId} {a b x y:Value} (h:w.heap[g]?=some (.cells #[a,b] t (0,0))):((w.setCell ⟨g,0,none⟩ x).setCell ⟨g,1,none⟩ y).heap[g]?=some (.cells #[x,y] t (0,0)):=by
 rw [heap_setCell_same _ g 1 _ t y (heap_setCell_same w g 0 _ t x h)];rfl
theorem aA0:(prog.info? 246).map (·.size)=some 2:=by kernel_rfl
theorem bJo:pad []=zs blk:=by simp [pad]
theorem aG0 (g n:Nat) (xs:List Nat) (w:World) (h:BS w (some ⟨g,0,none⟩) blk blk xs) (hn:n<=4096) (hn0:1<=n) :
  Calls prog 184 #[.slice (some ⟨g,0,none⟩) blk blk,.int .i64 (n:Int)] w fun e w'=>e=.returned (.agg #[.int .i64 (rdH xs n).1,.int .i64 ((rdH xs n).2:Nat)])/\Below w.heap.size w w':=by
 have hz:∀ ww,(zeroValue 246).run prog ww=.ok (.agg #[.int .i64 0,.int .i64 0]) ww:=fun ww=>by kernel_rfl
 have H:=zH h;have HB8:Hid (blk=8192):=rfl;have b8:((blk:Nat):Int)=8192:=rfl
 have HR:Hid (rdH xs n=if xs=zs blk then (0,0)
  else if bSf (bA1 ((xs.drop 4).take 8)) (bA1 ((xs.drop 12).take 4)) n then (-1,0)
  else if xs=pad (bAw (bA1 ((xs.drop 4).take 8)) (bA1 ((xs.drop 12).take 4))) then ((bA1 ((xs.drop 4).take 8):Int),bA1 ((xs.drop 12).take 4)) else (-1,0)):=rfl
 have HS1:=zH (bDi h 4 8 (by unfold blk;omega));have HS2:=zH (bDi h 12 4 (by unfold blk;omega));have HBA:=zH (aAk w (.cells #[.int .i64 0,.int .i64 0] 246));generalize rdH xs n=R at *;clear h;go_enter func184,ntmps184;go_wp2_with fail;refine (aCf none 0 0 [] _ (bTz _) (by unfold blk;omega)).mono ?_;rintro e w1 ⟨rfl,ho1,hb1⟩;rw [bJo] at ho1;have e1:(w.alloc (.cells #[.int .i64 0,.int .i64 0] 246)).heap.size=w.heap.size+1:=by simp
 rw [e1] at ho1 hb1;have HB1:=zH (HBA.o.trans (hb1.mono (Nat.le_succ _)));have HZ1:=zH (BS.ofOwns ho1 (by unfold blk;omega) (bSh blk));have HX1:=zH (H.out.later HB1.o (nR _));have HEQ:=zH (aCp _ _ _ _ _ _ xs (zs blk) w1 HX1.o HZ1.o);have r4:w1.heap[w.heap.size]?=some (.cells #[.int .i64 0,.int .i64 0] 246 (0,0)):=(hb1.block _ (by simp)).trans (kBm w _);clear ho1 hb1 e1;generalize hN:blk=N at *;have HN:=zH hN;clear hN;have c40:w1.cell? ⟨w.heap.size,0,none⟩=some (.int .i64 0):=aAd r4;have c41:w1.cell? ⟨w.heap.size,1,none⟩=some (.int .i64 0):=aAd r4;have f40:w1.frozen? ⟨w.heap.size,0,none⟩=false:=aAm r4;have f41:w1.frozen? ⟨w.heap.size,1,none⟩=false:=aAm r4;have HR4:=zH r4;clear r4;by_cases h0:xs=zs N
 ·rw [kAg h0] at HR;rw [kAc h0] at HEQ;obtain rfl:R=(0,0):=HR.o;clear HR h0;go_wp2_with fail;refine HEQ.o.mono ?_;rintro e w2 ⟨rfl,rfl⟩;go_wp2;(try simp only [Exit.inBlock,Exit.then]);exact kBo (results_cell_row results184 _ _ w.heap.size _ _ _ _ rfl (set2 HR4.o) underlying246 rfl aA0) rfl ⟨rfl,(HB1.o.setCell (nR _) _).setCell (nR _) _⟩
 ·rw [kAb h0] at HR;rw [kAd h0] at HEQ;clear h0;go_wp2_with fail;refine HEQ.o.mono ?_;rintro e w2 ⟨rfl,rfl⟩;have hnn:bA1 ((xs.drop 4).take 8)<18446744073709551616:=by
   have h1:=aH8 HS1.o.hbyte 8 (by rw [HS1.o.hlen];exact nR _);rw [kAh (by rw [HS1.o.hlen];exact nR _)] at h1;exact h1
  have hrr:bA1 ((xs.drop 12).take 4)<4294967296:=by
   have h1:=aH8 HS2.o.hbyte 4 (by rw [HS2.o.hlen];exact nR _);rw [kAh (by rw [HS2.o.hlen];exact nR _)] at h1;exact h1
  go_wp2_with fail;refine (aB1 _ 8 _ _ w2 (HS1.o.later HB1.o (nR _)) (by omega)).mono ?_;rintro e w3 ⟨rfl,rfl⟩;go_wp2_with fail;refine (aB1 _ 4 _ _ w3 (HS2.o.later HB1.o (nR _)) (by omega)).mono ?_;rintro e w4 ⟨rfl,rfl⟩;generalize bA1 ((xs.drop 4).take 8)=num at *;generalize bA1 ((xs.drop 12).take 4)=root at *;have HBD:Hid (bSf num root n=(decide (4611686018427387904<num) || (decide (root≠0/\root<2) || decide (n<=root)) || decide (num=0/\root≠0))):=rfl;generalize bSf num root n=bad at *;have hn1:¬ (n:Int)<=0:=by omega
  cases bad with
  | true =>
   rw [kAg rfl] at HR;obtain rfl:R=(-1,0):=HR.o;clear HR;have hbad:=HBD.o;simp only [Bool.or_eq_true,decide_eq_true_eq,eq_comm (a:=true)] at hbad;clear HBD;have k0:root=0\/root=1\/(2<=root/\root<n)\/(2<=root/\n<=root):=by omega
   have m0:4611686018427387904<num\/num=0\/(0<num/\num<=4611686018427387904):=by omega
   rcases k0 with rfl | rfl | ⟨k1,k2⟩ | ⟨k1,k2⟩
   ·rcases m0 with m1 | rfl | ⟨m1,m2⟩
    ·have p1:(4611686018427387904:Int)<(num:Int):=by omega
     clear hbad hnn hrr;clear m1;go_wp2;(try simp only [Exit.inBlock,Exit.then]);exact kBo (results_cell_row results184 _ _ w.heap.size _ _ _ _ rfl (set2 HR4.o) underlying246 rfl aA0) rfl ⟨rfl,(HB1.o.setCell (nR _) _).setCell (nR _) _⟩
    ·exfalso;omega
    ·exfalso;omega
   ·rcases m0 with m1 | rfl | ⟨m1,m2⟩
    ·have p1:(4611686018427387904:Int)<(num:Int):=by omega
     clear hbad hnn hrr;clear m1;go_wp2;(try simp only [Exit.inBlock,Exit.then]);exact kBo (results_cell_row results184 _ _ w.heap.size _ _ _ _ rfl (set2 HR4.o) underlying246 rfl aA0) rfl ⟨rfl,(HB1.o.setCell (nR _) _).setCell (nR _) _⟩
    ·clear hbad hnn hrr;go_wp2;(try simp only [Exit.inBlock,Exit.then]);exact kBo (results_cell_row results184 _ _ w.heap.size _ _ _ _ rfl (set2 HR4.o) underlying246 rfl aA0) rfl ⟨rfl,(HB1.o.setCell (nR _) _).setCell (nR _) _⟩
    ·have p1:¬ (4611686018427387904:Int)<(num:Int):=by omega
     have p2:((num:Int) == 0)=false:=by simp;omega
     clear hbad hnn hrr;clear m1 m2;go_wp2;(try simp only [Exit.inBlock,Exit.then]);exact kBo (results_cell_row results184 _ _ w.heap.size _ _ _ _ rfl (set2 HR4.o) underlying246 rfl aA0) rfl ⟨rfl,(HB1.o.setCell (nR _) _).setCell (nR _) _⟩
   ·rcases m0 with m1 | rfl | ⟨m1,m2⟩
    ·have q1:((root:Int) != 0)=true:=by simp;omega
     have q2:¬ (root:Int)<2:=by omega
     have q3:¬ (n:Int)<=(root:Int):=by omega
     have p1:(4611686018427387904:Int)<(num:Int):=by omega
     clear hbad hnn hrr;clear k1 k2;clear m1;go_wp2;(try simp only [Exit.inBlock,Exit.then]);exact kBo (results_cell_row results184 _ _ w.heap.size _ _ _ _ rfl (set2 HR4.o) underlying246 rfl aA0) rfl ⟨rfl,(HB1.o.setCell (nR _) _).setCell (nR _) _⟩
    ·have q1:((root:Int) != 0)=true:=by simp;omega
     have q2:¬ (root:Int)<2:=by omega
     have q3:¬ (n:Int)<=(root:Int):=by omega
     clear hbad hnn hrr;clear k1 k2;go_wp2;(try simp only [Exit.inBlock,Exit.then]);exact kBo (results_cell_row results184 _ _ w.heap.size _ _ _ _ rfl (set2 HR4.o) underlying246 rfl aA0) rfl ⟨rfl,(HB1.o.setCell (nR _) _).setCell (nR _) _⟩
    ·exfalso;omega
   ·rcases m0 with m1 | rfl | ⟨m1,m2⟩
    ·have q1:((root:Int) != 0)=true:=by simp;omega
     have q2:¬ (root:Int)<2:=by omega
     have q3:(n:Int)<=(root:Int):=by omega
     have p1:(4611686018427387904:Int)<(num:Int):=by omega
     clear hbad hnn hrr;clear k1 k2;clear m1;go_wp2;(try simp only [Exit.inBlock,Exit.then]);exact kBo (results_cell_row results184 _ _ w.heap.size _ _ _ _ rfl (set2 HR4.o) underlying246 rfl aA0) rfl ⟨rfl,(HB1.o.setCell (nR _) _).setCell (nR _) _⟩
    ·have q1:((root:Int) != 0)=true:=by simp;omega
     have q2:¬ (root:Int)<2:=by omega
     have q3:(n:Int)<=(root:Int):=by omega
     clear hbad hnn hrr;clear k1 k2;go_wp2;(try simp only [Exit.inBlock,Exit.then]);exact kBo (results_cell_row results184 _ _ w.heap.size _ _ _ _ rfl (set2 HR4.o) underlying246 rfl aA0) rfl ⟨rfl,(HB1.o.setCell (nR _) _).setCell (nR _) _⟩
    ·have q1:((root:Int) != 0)=true:=by simp;omega
     have q2:¬ (root:Int)<2:=by omega
     have q3:(n:Int)<=(root:Int):=by omega
     have p1:¬ (4611686018427387904:Int)<(num:Int):=by omega
     have p2:((num:Int) == 0)=false:=by simp;omega
     clear hbad hnn hrr;clear k1 k2;clear m1 m2;go_wp2;(try simp only [Exit.inBlock,Exit.then]);exact kBo (results_cell_row results184 _ _ w.heap.size _ _ _ _ rfl (set2 HR4.o) underlying246 rfl aA0) rfl ⟨rfl,(HB1.o.setCell (nR _) _).setCell (nR _) _⟩
  | false =>
   rw [kAb (by simp)] at HR;have hbad:=HBD.o;clear HBD;have g1:¬ (4611686018427387904:Int)<(num:Int):=by simp only [eq_comm (a:=false),Bool.or_eq_false_iff,decide_eq_false_iff_not] at hbad;omega
   have g2:root=0\/(2<=root/\root<n/\num≠0):=by simp only [eq_comm (a:=false),Bool.or_eq_false_iff,decide_eq_false_iff_not] at hbad;omega
   clear hbad;have HPL:=zH (bK2 num root);have HPB:=zH (bN9 num root);have BX:=zH (fun ww=>aKt num root ww (by omega) (by omega));have RB:=zH (kBm w4 (.cells #[.int .i64 (num:Int),.int .i64 (root:Int)] 246));have HBB:=zH (aAk w4 (.cells #[.int .i64 (num:Int),.int .i64 (root:Int)] 246));have e8:(w4.alloc (.cells #[.int .i64 (num:Int),.int .i64 (root:Int)] 246)).heap.size=w4.heap.size+1:=by simp
   rcases g2 with g2 | ⟨k1,k2,k3⟩
   ·have q1:((root:Int) != 0)=false:=by simp;omega
    have q3:¬ (n:Int)<=(root:Int):=by omega
    clear g2;by_cases hz0:num=0
    ·have p2:((num:Int) == 0)=true:=by simp;omega
     clear hz0;clear hnn hrr;go_wp2_with fail;refine (BX.out _).mono ?_;rintro e w5 ⟨v5,rfl,ho5,hb5⟩;rw [e8] at ho5 hb5;obtain ⟨a5,c5,rfl,B5⟩:=aJt (xs:=bAw num root) (by rw [HPL.o];exact ho5) (by rw [HPL.o];omega) HPB.o;rw [HPL.o] at B5;have HBS5:=zH B5;have HB5:=zH (HBB.o.trans (hb5.mono (Nat.le_succ _)));have r85:=(hb5.block _ (Nat.lt_succ_self _)).trans RB.out;have HR8:=zH r85;clear ho5 hb5 B5 r85 e8;go_wp2_with fail;refine (aCf a5 20 c5 (bAw num root) w5 HBS5.o (by rw [HN.o,HB8.o];omega)).mono ?_;rintro e w6 ⟨rfl,ho6,hb6⟩;rw [HN.o] at ho6 ⊢;have HB6:=zH (HB5.o.trans (hb6.mono HB5.o.size));have HBS6:=zH (BS.ofOwns ho6 (by rw [HB8.o];omega) (aH7 HPB.o));have HR86:=zH ((hb6.block _ (lO HR8.o)).trans HR8.o);have HX6:=zH (HX1.o.later HB6.o (nR _));have r46:=(HB6.o.block _ (lO HR4.o)).trans HR4.o;have HR46:=zH r46;have HBT:=zH (HB1.o.trans (HB6.o.mono HB1.o.size));have d80:w6.cell? ⟨w4.heap.size,0,none⟩=some (.int .i64 (num:Int)):=aAd HR86.o;have d81:w6.cell? ⟨w4.heap.size,1,none⟩=some (.int .i64 (root:Int)):=aAd HR86.o;have d40:w6.cell? ⟨w.heap.size,0,none⟩=some (.int .i64 0):=aAd r46;have d41:w6.cell? ⟨w.heap.size,1,none⟩=some (.int .i64 0):=aAd r46;have e40:w6.frozen? ⟨w.heap.size,0,none⟩=false:=aAm r46;have e41:w6.frozen? ⟨w.heap.size,1,none⟩=false:=aAm r46;have HEQ6:=zH (aCp _ _ _ _ _ _ xs (pad (bAw num root)) w6 HX6.o HBS6.o);clear ho6 hb6 r46 c40 c41 f40 f41;by_cases h2:xs=pad (bAw num root)
     ·rw [kAg h2] at HR;obtain rfl:R=((num:Int),root):=HR.o;rw [kAc h2] at HEQ6;clear HR h2;go_wp2_with fail;refine HEQ6.o.mono ?_;rintro e w7 ⟨rfl,rfl⟩;go_wp2;(try simp only [Exit.inBlock,Exit.then]);exact kBo (results_cell_row results184 _ _ w.heap.size _ _ _ _ rfl (set2 HR46.o) underlying246 rfl aA0) rfl ⟨rfl,(HBT.o.setCell (nR _) _).setCell (nR _) _⟩
     ·rw [kAb h2] at HR;obtain rfl:R=(-1,0):=HR.o;rw [kAd h2] at HEQ6;clear HR h2;go_wp2_with fail;refine HEQ6.o.mono ?_;rintro e w7 ⟨rfl,rfl⟩;go_wp2;(try simp only [Exit.inBlock,Exit.then]);exact kBo (results_cell_row results184 _ _ w.heap.size _ _ _ _ rfl (set2 HR46.o) underlying246 rfl aA0) rfl ⟨rfl,(HBT.o.setCell (nR _) _).setCell (nR _) _⟩
    ·have p2:((num:Int) == 0)=false:=by simp;omega
     clear hz0;clear hnn hrr;go_wp2_with fail;refine (BX.out _).mono ?_;rintro e w5 ⟨v5,rfl,ho5,hb5⟩;rw [e8] at ho5 hb5;obtain ⟨a5,c5,rfl,B5⟩:=aJt (xs:=bAw num root) (by rw [HPL.o];exact ho5) (by rw [HPL.o];omega) HPB.o;rw [HPL.o] at B5;have HBS5:=zH B5;have HB5:=zH (HBB.o.trans (hb5.mono (Nat.le_succ _)));have r85:=(hb5.block _ (Nat.lt_succ_self _)).trans RB.out;have HR8:=zH r85;clear ho5 hb5 B5 r85 e8;go_wp2_with fail;refine (aCf a5 20 c5 (bAw num root) w5 HBS5.o (by rw [HN.o,HB8.o];omega)).mono ?_;rintro e w6 ⟨rfl,ho6,hb6⟩;rw [HN.o] at ho6 ⊢;have HB6:=zH (HB5.o.trans (hb6.mono HB5.o.size));have HBS6:=zH (BS.ofOwns ho6 (by rw [HB8.o];omega) (aH7 HPB.o));have HR86:=zH ((hb6.block _ (lO HR8.o)).trans HR8.o);have HX6:=zH (HX1.o.later HB6.o (nR _));have r46:=(HB6.o.block _ (lO HR4.o)).trans HR4.o;have HR46:=zH r46;have HBT:=zH (HB1.o.trans (HB6.o.mono HB1.o.size));have d80:w6.cell? ⟨w4.heap.size,0,none⟩=some (.int .i64 (num:Int)):=aAd HR86.o;have d81:w6.cell? ⟨w4.heap.size,1,none⟩=some (.int .i64 (root:Int)):=aAd HR86.o;have d40:w6.cell? ⟨w.heap.size,0,none⟩=some (.int .i64 0):=aAd r46;have d41:w6.cell? ⟨w.heap.size,1,none⟩=some (.int .i64 0):=aAd r46;have e40:w6.frozen? ⟨w.heap.size,0,none⟩=false:=aAm r46;have e41:w6.frozen? ⟨w.heap.size,1,none⟩=false:=aAm r46;have HEQ6:=zH (aCp _ _ _ _ _ _ xs (pad (bAw num root)) w6 HX6.o HBS6.o);clear ho6 hb6 r46 c40 c41 f40 f41;by_cases h2:xs=pad (bAw num root)
     ·rw [kAg h2] at HR;obtain rfl:R=((num:Int),root):=HR.o;rw [kAc h2] at HEQ6;clear HR h2;go_wp2_with fail;refine HEQ6.o.mono ?_;rintro e w7 ⟨rfl,rfl⟩;go_wp2;(try simp only [Exit.inBlock,Exit.then]);exact kBo (results_cell_row results184 _ _ w.heap.size _ _ _ _ rfl (set2 HR46.o) underlying246 rfl aA0) rfl ⟨rfl,(HBT.o.setCell (nR _) _).setCell (nR _) _⟩
     ·rw [kAb h2] at HR;obtain rfl:R=(-1,0):=HR.o;rw [kAd h2] at HEQ6;clear HR h2;go_wp2_with fail;refine HEQ6.o.mono ?_;rintro e w7 ⟨rfl,rfl⟩;go_wp2;(try simp only [Exit.inBlock,Exit.then]);exact kBo (results_cell_row results184 _ _ w.heap.size _ _ _ _ rfl (set2 HR46.o) underlying246 rfl aA0) rfl ⟨rfl,(HBT.o.setCell (nR _) _).setCell (nR _) _⟩
   ·have q1:((root:Int) != 0)=true:=by simp;omega
    have q2:¬ (root:Int)<2:=by omega
    have q3:¬ (n:Int)<=(root:Int):=by omega
    have p2:((num:Int) == 0)=false:=by simp;omega
    clear k1 k2 k3;clear hnn hrr;go_wp2_with fail;refine (BX.out _).mono ?_;rintro e w5 ⟨v5,rfl,ho5,hb5⟩;rw [e8] at ho5 hb5;obtain ⟨a5,c5,rfl,B5⟩:=aJt (xs:=bAw num root) (by rw [HPL.o];exact ho5) (by rw [HPL.o];omega) HPB.o;rw [HPL.o] at B5;have HBS5:=zH B5;have HB5:=zH (HBB.o.trans (hb5.mono (Nat.le_succ _)));have r85:=(hb5.block _ (Nat.lt_succ_self _)).trans RB.out;have HR8:=zH r85;clear ho5 hb5 B5 r85 e8;go_wp2_with fail;refine (aCf a5 20 c5 (bAw num root) w5 HBS5.o (by rw [HN.o,HB8.o];omega)).mono ?_;rintro e w6 ⟨rfl,ho6,hb6⟩;rw [HN.o] at ho6 ⊢;have HB6:=zH (HB5.o.trans (hb6.mono HB5.o.size));have HBS6:=zH (BS.ofOwns ho6 (by rw [HB8.o];omega) (aH7 HPB.o));have HR86:=zH ((hb6.block _ (lO HR8.o)).trans HR8.o);have HX6:=zH (HX1.o.later HB6.o (nR _));have r46:=(HB6.o.block _ (lO HR4.o)).trans HR4.o;have HR46:=zH r46;have HBT:=zH (HB1.o.trans (HB6.o.mono HB1.o.size));have d80:w6.cell? ⟨w4.heap.size,0,none⟩=some (.int .i64 (num:Int)):=aAd HR86.o;have d81:w6.cell? ⟨w4.heap.size,1,none⟩=some (.int .i64 (root:Int)):=aAd HR86.o;have d40:w6.cell? ⟨w.heap.size,0,none⟩=some (.int .i64 0):=aAd r46;have d41:w6.cell? ⟨w.heap.size,1,none⟩=some (.int .i64 0):=aAd r46;have e40:w6.frozen? ⟨w.heap.size,0,none⟩=false:=aAm r46;have e41:w6.frozen? ⟨w.heap.size,1,none⟩=false:=aAm r46;have HEQ6:=zH (aCp _ _ _ _ _ _ xs (pad (bAw num root)) w6 HX6.o HBS6.o);clear ho6 hb6 r46 c40 c41 f40 f41;by_cases h2:xs=pad (bAw num root)
    ·rw [kAg h2] at HR;obtain rfl:R=((num:Int),root):=HR.o;rw [kAc h2] at HEQ6;clear HR h2;go_wp2_with fail;refine HEQ6.o.mono ?_;rintro e w7 ⟨rfl,rfl⟩;go_wp2;(try simp only [Exit.inBlock,Exit.then]);exact kBo (results_cell_row results184 _ _ w.heap.size _ _ _ _ rfl (set2 HR46.o) underlying246 rfl aA0) rfl ⟨rfl,(HBT.o.setCell (nR _) _).setCell (nR _) _⟩
    ·rw [kAb h2] at HR;obtain rfl:R=(-1,0):=HR.o;rw [kAd h2] at HEQ6;clear HR h2;go_wp2_with fail;refine HEQ6.o.mono ?_;rintro e w7 ⟨rfl,rfl⟩;go_wp2;(try simp only [Exit.inBlock,Exit.then]);exact kBo (results_cell_row results184 _ _ w.heap.size _ _ _ _ rfl (set2 HR46.o) underlying246 rfl aA0) rfl ⟨rfl,(HBT.o.setCell (nR _) _).setCell (nR _) _⟩
def bAt (a b:Int×Nat):Option (Nat×Nat) :=
 if (if a.1<b.1 then b else a).1=-1 then none
 else if 0<(if a.1<b.1 then b else a).1/\(if (if a.1<b.1 then b else a).1 % 2=0 then a.1 else b.1)≠(if a.1<b.1 then b else a).1 then none
 else some ((if a.1<b.1 then b else a).1.toNat,(if a.1<b.1 then b else a).2)
theorem bFc (xs:List Nat) (n:Nat) (hn:1<=n):rdH xs n=(-1,0)\/∃ num root:Nat,rdH xs n=((num:Int),root)/\num<=4611686018427387904/\root<n:=by
 unfold rdH;split
 ·exact Or.inr ⟨0,0,rfl,by omega,by omega⟩
 ·split
  ·exact Or.inl rfl
  ·rename_i h
   split
   ·refine Or.inr ⟨_,_,rfl,?_,?_⟩
    ·simp only [bSf,Bool.or_eq_true,decide_eq_true_eq,not_or] at h;omega
    ·simp only [bSf,Bool.or_eq_true,decide_eq_true_eq,not_or] at h;omega
   ·exact Or.inl rfl
def fnd (a b:Int×Nat) (k:Nat):Array Value:=if k=0 then #[.int .i64 0,.int .i64 0,.int .i64 0,.int .i64 0] else if k=1 then #[.int .i64 a.1,.int .i64 (a.2:Nat),.int .i64 0,.int .i64 0] else #[.int .i64 a.1,.int .i64 (a.2:Nat),.int .i64 b.1,.int .i64 (b.2:Nat)]
theorem aAx {fn:Func} {p u:Tmp} (h:fn.results=#[.cell p 246,.tmp u]) (tmps:Array Value) (w:World) (g:Nat) (t:TypeId) (x y:Value) (fr:Nat×Nat)
  (hp:tmps.getD p undef=.pointer (some ⟨g,0,none⟩)) (hg:w.heap[g]?=some (.cells #[x,y] t fr)) :
  (results fn tmps).run prog w=.ok (.tuple #[.agg #[x,y],tmps.getD u undef]) w:=by
 rw [results_cell_tmp h,hp];simp only [asAddr,Sem.run_pure,Result.andThen_ok,run_loadVar_row w g t 246 #[x,y] fr _ hg underlying246 rfl aA0]
theorem bEb [Gd] (B p:Nat) (s:DS) (w:World) (h:DI B p s w) (hB:B<=w.heap.size) (hd:s.down=false) (h3:3<=s.n) :
  Calls prog 146 #[.pointer (some ⟨p,0,none⟩)] w fun e w'=>e=.returned (match bAt (rdH (pad (s.show 0)) s.n) (rdH (pad (s.show 1)) s.n) with | none=>.tuple #[.agg #[.int .i64 0,.int .i64 0],.int .i64 22] | some (num,root)=>.tuple #[.agg #[.int .i64 (num:Int),.int .i64 (root:Int)],.int .i64 0])/\Below w.heap.size w w':=by
 have hz:∀ ww,(zeroValue 246).run prog ww=.ok (.agg #[.int .i64 0,.int .i64 0]) ww:=fun ww=>by kernel_rfl
 have hz2:∀ ww,(zeroValue 290).run prog ww=.ok (.agg #[.int .i64 0,.int .i64 0,.int .i64 0,.int .i64 0]) ww:=fun ww=>by kernel_rfl
 have HB1:=zH ((aAk w (.cells #[.int .i64 0,.int .i64 0] 246)).alloc (by simp) (.cells #[.int .i64 0,.int .i64 0,.int .i64 0,.int .i64 0] 290));have HD:=zH h;have HN2:=zH h.ok.n2;have HSB:=zH (fun i=>aH7 (bDt h.ok i));have HSL:=zH (fun i=>aKe (bE7 h.ok i));obtain ⟨a,ha⟩:∃ a,a=rdH (pad (s.show 0)) s.n:=⟨_,rfl⟩;obtain ⟨b,hb⟩:∃ b,b=rdH (pad (s.show 1)) s.n:=⟨_,rfl⟩;have FA:=zH (bFc (pad (s.show 0)) s.n (by omega));have FB:=zH (bFc (pad (s.show 1)) s.n (by omega));rw [<-ha] at FA;rw [<-hb] at FB;rw [<-ha,<-hb];have HA:=zH ha;have HBb:=zH hb;generalize hLH:bAt a b=L;have HLH:=zH hLH;clear h ha hb hLH;go_enter func146,ntmps146;go_wp2;go_loopw [10] (fun i wr=>∃ k:Nat,k<=2/\i=.int .i64 k/\wr.heap[w.heap.size]?=some (.cells #[.int .i64 0,.int .i64 0] 246 (0,0))/\wr.heap[w.heap.size+1]?=some (.cells (fnd a b k) 290 (0,0))/\Below w.heap.size w wr) (fun i _=>2-(intOf i).toNat)
 case atStart=>exact ⟨0,by omega,rfl,heap_alloc2_old _ _ _,heap_alloc2_new _ _ _,HB1.o⟩
 case round =>
  clear HB1;obtain ⟨k,hk,rfl,hR,hF,hB2⟩:=hrel;have HR:=zH hR;have HF:=zH hF;have HBW:=zH hB2;have HBZ:=zH (nT hB hB2.size);have HDW:=zH (HD.o.later hB2);clear hR hF hB2;have hk3:k=0\/k=1\/k=2:=by omega
  rcases hk3 with rfl | rfl | rfl
  ·have RO:=zH (bD2 B p s 0 wr HDW.o HBZ.o hd (by omega));have BO:=zH (fun ww h=>aEv B p s ww h);go_wp2_with fail;refine RO.out.mono ?_;rintro e w2 ⟨g,rfl,ho2,hb2⟩;have HX2:=zH (BS.ofOwns ho2 (by unfold blk;omega) (HSB.o 0));have HB2:=zH hb2;have HD2:=zH (HDW.o.later hb2);clear ho2 hb2;go_wp2_with fail;refine (BO.out _ HD2.o).mono ?_;rintro e w3 ⟨rfl,rfl⟩;go_wp2_with fail;refine (aG0 g s.n (pad (s.show 0)) w3 HX2.o HN2.o (by omega)).mono ?_;rintro e w4 ⟨rfl,hb4⟩;rw [<-HA.o];have HB4:=zH (HB2.o.trans (hb4.mono HB2.o.size));have r4:=(HB4.o.block _ (lO HF.o)).trans HF.o;have HR4:=zH ((HB4.o.block _ (lO HR.o)).trans HR.o);have c0:∃ v,w4.cell? ⟨w.heap.size+1,0,none⟩=some v:=⟨_,(aAd r4).trans rfl⟩;have c1:∃ v,w4.cell? ⟨w.heap.size+1,1,none⟩=some v:=⟨_,(aAd r4).trans rfl⟩;obtain ⟨v0,c0⟩:=c0;obtain ⟨v1,c1⟩:=c1;have f0:=aAm (i:=0) r4;have f1:=aAm (i:=1) r4;have HF4:=zH r4;clear hb4 r4;go_wp2;refine ⟨⟨1,by omega,by go_num,?_,?_,((HBW.o.trans (HB4.o.mono HBW.o.size)).setCell (Nat.le_succ _) _).setCell (Nat.le_succ _) _⟩,by simp [intOf]⟩
   ·rw [kBf _ _ _ _ (Nat.ne_of_lt (Nat.lt_succ_self _)),kBf _ _ _ _ (Nat.ne_of_lt (Nat.lt_succ_self _))];exact HR4.o
   ·rw [heap_setCell_same _ _ 1 _ _ _ (heap_setCell_same w4 _ 0 _ _ _ HF4.o)];rfl
  ·have RO:=zH (bD2 B p s 1 wr HDW.o HBZ.o hd (by omega));have BO:=zH (fun ww h=>aEv B p s ww h);go_wp2_with fail;refine RO.out.mono ?_;rintro e w2 ⟨g,rfl,ho2,hb2⟩;have HX2:=zH (BS.ofOwns ho2 (by unfold blk;omega) (HSB.o 1));have HB2:=zH hb2;have HD2:=zH (HDW.o.later hb2);clear ho2 hb2;go_wp2_with fail;refine (BO.out _ HD2.o).mono ?_;rintro e w3 ⟨rfl,rfl⟩;go_wp2_with fail;refine (aG0 g s.n (pad (s.show 1)) w3 HX2.o HN2.o (by omega)).mono ?_;rintro e w4 ⟨rfl,hb4⟩;rw [<-HBb.o];have HB4:=zH (HB2.o.trans (hb4.mono HB2.o.size));have r4:=(HB4.o.block _ (lO HF.o)).trans HF.o;have HR4:=zH ((HB4.o.block _ (lO HR.o)).trans HR.o);have c0:∃ v,w4.cell? ⟨w.heap.size+1,2,none⟩=some v:=⟨_,(aAd r4).trans rfl⟩;have c1:∃ v,w4.cell? ⟨w.heap.size+1,3,none⟩=some v:=⟨_,(aAd r4).trans rfl⟩;obtain ⟨v0,c0⟩:=c0;obtain ⟨v1,c1⟩:=c1;have f0:=aAm (i:=2) r4;have f1:=aAm (i:=3) r4;have HF4:=zH r4;clear hb4 r4;go_wp2;refine ⟨⟨2,by omega,by go_num,?_,?_,((HBW.o.trans (HB4.o.mono HBW.o.size)).setCell (Nat.le_succ _) _).setCell (Nat.le_succ _) _⟩,by simp [intOf]⟩
   ·rw [kBf _ _ _ _ (Nat.ne_of_lt (Nat.lt_succ_self _)),kBf _ _ _ _ (Nat.ne_of_lt (Nat.lt_succ_self _))];exact HR4.o
   ·rw [heap_setCell_same _ _ 3 _ _ _ (heap_setCell_same w4 _ 2 _ _ _ HF4.o)];rfl
  ·clear HDW HBZ HD HN2 HSB HSL;have c0:wr.cell? ⟨w.heap.size+1,0,none⟩=some (.int .i64 a.1):=aAd HF.o;have c1:wr.cell? ⟨w.heap.size+1,1,none⟩=some (.int .i64 (a.2:Nat)):=aAd HF.o;have c2:wr.cell? ⟨w.heap.size+1,2,none⟩=some (.int .i64 b.1):=aAd HF.o;have c3:wr.cell? ⟨w.heap.size+1,3,none⟩=some (.int .i64 (b.2:Nat)):=aAd HF.o;have d0:wr.cell? ⟨w.heap.size,0,none⟩=some (.int .i64 0):=aAd HR.o;have d1:wr.cell? ⟨w.heap.size,1,none⟩=some (.int .i64 0):=aAd HR.o;have f0:wr.frozen? ⟨w.heap.size,0,none⟩=false:=aAm HR.o;have f1:wr.frozen? ⟨w.heap.size,1,none⟩=false:=aAm HR.o;have hlt0:=(lO HR.o);have hlt1:=(lO HF.o);have HW0:=zH hlt0;have HW1:=zH hlt1;have HFz:=zH HF.o;obtain ⟨a1,a2⟩:=a;obtain ⟨b1,b2⟩:=b;simp only at c0 c1 c2 c3 FA FB;clear HF HA HBb hlt0 hlt1;have la:-1<=a1:=by rcases FA.out with e | ⟨m,r,e,_⟩<;>(simp only [Prod.mk.injEq] at e;omega)
   have lb:-1<=b1:=by rcases FB.out with e | ⟨m,r,e,_⟩<;>(simp only [Prod.mk.injEq] at e;omega)
   have BX0:=zH (aAk wr (.cells #[.int .i64 a1,.int .i64 (a2:Nat)] 246));have g2:=(BX0.out.cell HW1.o).trans c2;have g3:=(BX0.out.cell HW1.o).trans c3;by_cases hlt:a1<b1
   ·rcases FB.out with e | ⟨m,r,e,hm,hr⟩
    ·simp only [Prod.mk.injEq] at e;omega
    ·simp only [Prod.mk.injEq] at e;obtain ⟨rfl,rfl⟩:=e;by_cases hm0:m=0
     ·subst hm0;have hL:bAt (a1,a2) (((0:Nat):Int),b2)=some (0,b2):=by
       unfold bAt;rw [kAg hlt];rfl
      obtain rfl:L=some (0,b2):=HLH.o.symm.trans hL;have HB8:=zH (HBW.o.alloc HBW.o.size (.cells #[.int .i64 0,.int .i64 (b2:Nat)] 246));have HRY:=zH (((aAk wr (.cells #[.int .i64 0,.int .i64 (b2:Nat)] 246)).block _ HW0.o).trans HR.o);have z0:=aAd (i:=0) HRY.o;have z1:=aAd (i:=1) HRY.o;have z2:=aAm (i:=0) HRY.o;have z3:=aAm (i:=1) HRY.o;have q8:decide ((0:Int)<0)=false:=rfl;clear HLH hL FA FB;go_wp2_with fail;go_quiet (fail);have HRX:=HRY;have HBX:=zH (below_drewN HB8.o nq);go_wp2;(try simp only [Exit.inBlock,Exit.then]);exact kBo (aAx results146 _ _ w.heap.size _ _ _ _ rfl (set2 HRX.o)) rfl ⟨rfl,(HBX.o.setCell (nR _) _).setCell (nR _) _⟩
     ·by_cases hev:m % 2=0
      ·have hL:bAt (a1,a2) ((m:Int),b2)=none:=by
        unfold bAt;rw [kAg hlt,kAb (by simp only;omega),kAg (by simp only;rw [kAg (by omega)];omega)]
       obtain rfl:L=none:=HLH.o.symm.trans hL;have HB8:=zH (HBW.o.alloc HBW.o.size (.cells #[.int .i64 (m:Int),.int .i64 (b2:Nat)] 246));have HX:Hid ((fun wx=>wx.cell? ⟨wr.heap.size,0,none⟩=some (.int .i64 (m:Int))/\wx.cell? ⟨wr.heap.size,1,none⟩=some (.int .i64 (b2:Nat))/\wx.cell? ⟨w.heap.size+1,0,none⟩=some (.int .i64 a1)) (wr.alloc (.cells #[.int .i64 (m:Int),.int .i64 (b2:Nat)] 246))):=⟨aAd (kBm wr _),aAd (kBm wr _),((aAk wr _).cell HW1.o).trans c0⟩;have HR8:=zH (((aAk wr (.cells #[.int .i64 (m:Int),.int .i64 (b2:Nat)] 246)).block _ HW0.o).trans HR.o);have HMM:Hid (((m % 2:Nat):Int)=0):=by show _=_;omega
       have q8:decide ((0:Int)<(m:Int))=true:=kAc (by omega);have q8n:decide (0<m)=true:=kAc (by omega);have q9:(a1 != (m:Int))=true:=by simp;omega
       have HMZ:=zH hm;have HMX:=zH hm0;clear HLH hL FA FB hm0 hev hm hr la lb;go_wp2_with fail;refine kBj ?_;refine kBi (S:=fun wx=>wx.cell? ⟨wr.heap.size,0,none⟩=some (.int .i64 (m:Int))/\wx.cell? ⟨wr.heap.size,1,none⟩=some (.int .i64 (b2:Nat))/\wx.cell? ⟨w.heap.size+1,0,none⟩=some (.int .i64 a1)) (by kernel_rfl) HX.o (fun hHeld=>?_);refine aAb 0 40 ?_;refine aAb 1 41 ?_;refine aAb 2 42 ?_;refine aAb 3 43 ?_;refine aAb 4 44 ?_;refine aAb 9 49 ?_;refine aAb 10 50 ?_;refine aAf 5 ?_;intro K hK;go_simp;refine (aBw m b2 _ HMZ.o).mono ?_;rintro e w9 ⟨rfl,hb9⟩;rw [HMM.o];have HB9:=zH ((HB8.o.drew).trans (hb9.mono (by have:=HB8.o.size;simpa using this)));have HX9:Hid ((fun wx=>wx.cell? ⟨wr.heap.size,0,none⟩=some (.int .i64 (m:Int))/\wx.cell? ⟨wr.heap.size,1,none⟩=some (.int .i64 (b2:Nat))/\wx.cell? ⟨w.heap.size+1,0,none⟩=some (.int .i64 a1)) w9):=⟨(hb9.cell (by simp)).trans HX.o.1,(hb9.cell (by simp)).trans HX.o.2.1,(hb9.cell (by have:=HW1.o;simp;omega)).trans HX.o.2.2⟩;have HRX:=zH ((hb9.block _ (by have:=HW0.o;simp;omega)).trans HR8.o);clear hb9 hHeld;refine hK.out _ _ HX9.o (fun hHeld=>?_);clear hK K
       try simp only [Act.put,siT,scZ,scS]
       refine aAb 6 46 ?_;refine aAb 7 47 ?_;refine aAb 8 48 ?_;refine aAb 11 51 ?_;refine aAb 12 52 ?_;refine aAb 13 9 ?_;refine kBn (by kernel_rfl) ?_ _;refine kBk ?_;have HBX:=HB9;have y0:=HX9.o.1;have y1:=HX9.o.2.1;have z0:w9.cell? ⟨w.heap.size,0,none⟩=some (.int .i64 0):=aAd HRX.o;have z1:w9.cell? ⟨w.heap.size,1,none⟩=some (.int .i64 0):=aAd HRX.o;have z2:w9.frozen? ⟨w.heap.size,0,none⟩=false:=aAm HRX.o;have z3:w9.frozen? ⟨w.heap.size,1,none⟩=false:=aAm HRX.o;go_wp2;(try simp only [Exit.inBlock,Exit.then]);exact kBo (aAx results146 _ _ w.heap.size _ _ _ _ rfl (set2 HRX.o)) rfl ⟨rfl,(HBX.o.setCell (nR _) _).setCell (nR _) _⟩
      ·have hL:bAt (a1,a2) ((m:Int),b2)=some (m,b2):=by
        unfold bAt;rw [kAg hlt,kAb (by simp only;omega),kAb (by simp only;rw [kAb (by omega)];omega)];rfl
       obtain rfl:L=some (m,b2):=HLH.o.symm.trans hL;have HB8:=zH (HBW.o.alloc HBW.o.size (.cells #[.int .i64 (m:Int),.int .i64 (b2:Nat)] 246));have HX:Hid ((fun wx=>wx.cell? ⟨wr.heap.size,0,none⟩=some (.int .i64 (m:Int))/\wx.cell? ⟨wr.heap.size,1,none⟩=some (.int .i64 (b2:Nat))/\wx.cell? ⟨w.heap.size+1,2,none⟩=some (.int .i64 (m:Int))) (wr.alloc (.cells #[.int .i64 (m:Int),.int .i64 (b2:Nat)] 246))):=⟨aAd (kBm wr _),aAd (kBm wr _),((aAk wr _).cell HW1.o).trans c2⟩;have HR8:=zH (((aAk wr (.cells #[.int .i64 (m:Int),.int .i64 (b2:Nat)] 246)).block _ HW0.o).trans HR.o);have HMM:Hid (((m % 2:Nat):Int)=1):=by show _=_;omega
       have q8:decide ((0:Int)<(m:Int))=true:=kAc (by omega);have q8n:decide (0<m)=true:=kAc (by omega);have HMZ:=zH hm;have HMX:=zH hm0;clear HLH hL FA FB hm0 hev hm hr la lb;go_wp2_with fail;refine kBj ?_;refine kBi (S:=fun wx=>wx.cell? ⟨wr.heap.size,0,none⟩=some (.int .i64 (m:Int))/\wx.cell? ⟨wr.heap.size,1,none⟩=some (.int .i64 (b2:Nat))/\wx.cell? ⟨w.heap.size+1,2,none⟩=some (.int .i64 (m:Int))) (by kernel_rfl) HX.o (fun hHeld=>?_);refine aAb 0 40 ?_;refine aAb 1 41 ?_;refine aAb 2 42 ?_;refine aAb 3 43 ?_;refine aAb 4 44 ?_;refine aAb 9 49 ?_;refine aAb 10 50 ?_;refine aAf 5 ?_;intro K hK;go_simp;refine (aBw m b2 _ HMZ.o).mono ?_;rintro e w9 ⟨rfl,hb9⟩;rw [HMM.o];have HB9:=zH ((HB8.o.drew).trans (hb9.mono (by have:=HB8.o.size;simpa using this)));have HX9:Hid ((fun wx=>wx.cell? ⟨wr.heap.size,0,none⟩=some (.int .i64 (m:Int))/\wx.cell? ⟨wr.heap.size,1,none⟩=some (.int .i64 (b2:Nat))/\wx.cell? ⟨w.heap.size+1,2,none⟩=some (.int .i64 (m:Int))) w9):=⟨(hb9.cell (by simp)).trans HX.o.1,(hb9.cell (by simp)).trans HX.o.2.1,(hb9.cell (by have:=HW1.o;simp;omega)).trans HX.o.2.2⟩;have HRX:=zH ((hb9.block _ (by have:=HW0.o;simp;omega)).trans HR8.o);clear hb9 hHeld;refine hK.out _ _ HX9.o (fun hHeld=>?_);clear hK K
       try simp only [Act.put,siT,scZ,scS]
       refine aAb 6 46 ?_;refine aAb 7 47 ?_;refine aAb 8 48 ?_;refine aAb 11 51 ?_;refine aAb 12 52 ?_;refine aAb 13 9 ?_;refine kBn (by kernel_rfl) ?_ _;refine kBk ?_;have HBX:=HB9;have y0:=HX9.o.1;have y1:=HX9.o.2.1;have z0:w9.cell? ⟨w.heap.size,0,none⟩=some (.int .i64 0):=aAd HRX.o;have z1:w9.cell? ⟨w.heap.size,1,none⟩=some (.int .i64 0):=aAd HRX.o;have z2:w9.frozen? ⟨w.heap.size,0,none⟩=false:=aAm HRX.o;have z3:w9.frozen? ⟨w.heap.size,1,none⟩=false:=aAm HRX.o;go_wp2;(try simp only [Exit.inBlock,Exit.then]);exact kBo (aAx results146 _ _ w.heap.size _ _ _ _ rfl (set2 HRX.o)) rfl ⟨rfl,(HBX.o.setCell (nR _) _).setCell (nR _) _⟩
   ·rcases FA.out with e | ⟨m,r,e,hm,hr⟩
    ·simp only [Prod.mk.injEq] at e;obtain ⟨rfl,rfl⟩:=e;have hL:bAt (-1,0) (b1,b2)=none:=by
      unfold bAt;rw [kAb hlt,kAg rfl]
     obtain rfl:L=none:=HLH.o.symm.trans hL;have HB8:=zH (HBW.o.alloc HBW.o.size (.cells #[.int .i64 (-1),.int .i64 0] 246));have HRY:=zH (((aAk wr (.cells #[.int .i64 (-1),.int .i64 0] 246)).block _ HW0.o).trans HR.o);have z0:=aAd (i:=0) HRY.o;have z1:=aAd (i:=1) HRY.o;have z2:=aAm (i:=0) HRY.o;have z3:=aAm (i:=1) HRY.o;have q8:decide ((0:Int)<(-1))=false:=rfl;have g2:(wr.alloc (.cells #[.int .i64 (-1),.int .i64 0] 246)).cell? ⟨w.heap.size+1,2,none⟩=some (.int .i64 b1):=g2;have g3:(wr.alloc (.cells #[.int .i64 (-1),.int .i64 0] 246)).cell? ⟨w.heap.size+1,3,none⟩=some (.int .i64 (b2:Nat)):=g3;clear HLH hL FA FB;go_wp2_with fail;go_quiet (fail);have HRX:=HRY;have HBX:=zH (below_drewN HB8.o nq);go_wp2;(try simp only [Exit.inBlock,Exit.then]);exact kBo (aAx results146 _ _ w.heap.size _ _ _ _ rfl (set2 HRX.o)) rfl ⟨rfl,(HBX.o.setCell (nR _) _).setCell (nR _) _⟩
    ·simp only [Prod.mk.injEq] at e;obtain ⟨rfl,rfl⟩:=e;by_cases hm0:m=0
     ·subst hm0;have hL:bAt (((0:Nat):Int),a2) (b1,b2)=some (0,a2):=by
       unfold bAt;rw [kAb hlt];rfl
      obtain rfl:L=some (0,a2):=HLH.o.symm.trans hL;have HB8:=zH (HBW.o.alloc HBW.o.size (.cells #[.int .i64 0,.int .i64 (a2:Nat)] 246));have HRY:=zH (((aAk wr (.cells #[.int .i64 0,.int .i64 (a2:Nat)] 246)).block _ HW0.o).trans HR.o);have z0:=aAd (i:=0) HRY.o;have z1:=aAd (i:=1) HRY.o;have z2:=aAm (i:=0) HRY.o;have z3:=aAm (i:=1) HRY.o;have q8:decide ((0:Int)<0)=false:=rfl;have g2:(wr.alloc (.cells #[.int .i64 0,.int .i64 (a2:Nat)] 246)).cell? ⟨w.heap.size+1,2,none⟩=some (.int .i64 b1):=g2;have g3:(wr.alloc (.cells #[.int .i64 0,.int .i64 (a2:Nat)] 246)).cell? ⟨w.heap.size+1,3,none⟩=some (.int .i64 (b2:Nat)):=g3;clear HLH hL FA FB;go_wp2_with fail;go_quiet (fail);have HRX:=HRY;have HBX:=zH (below_drewN HB8.o nq);go_wp2;(try simp only [Exit.inBlock,Exit.then]);exact kBo (aAx results146 _ _ w.heap.size _ _ _ _ rfl (set2 HRX.o)) rfl ⟨rfl,(HBX.o.setCell (nR _) _).setCell (nR _) _⟩
     ·by_cases hev:m % 2=0
      ·have hL:bAt ((m:Int),a2) (b1,b2)=some (m,a2):=by
        unfold bAt;rw [kAb hlt,kAb (by simp only;omega),kAb (by simp only;rw [kAg (by omega)];omega)];rfl
       obtain rfl:L=some (m,a2):=HLH.o.symm.trans hL;have HB8:=zH (HBW.o.alloc HBW.o.size (.cells #[.int .i64 (m:Int),.int .i64 (a2:Nat)] 246));have HX:Hid ((fun wx=>wx.cell? ⟨wr.heap.size,0,none⟩=some (.int .i64 (m:Int))/\wx.cell? ⟨wr.heap.size,1,none⟩=some (.int .i64 (a2:Nat))/\wx.cell? ⟨w.heap.size+1,0,none⟩=some (.int .i64 (m:Int))) (wr.alloc (.cells #[.int .i64 (m:Int),.int .i64 (a2:Nat)] 246))):=⟨aAd (kBm wr _),aAd (kBm wr _),((aAk wr _).cell HW1.o).trans c0⟩;have HR8:=zH (((aAk wr (.cells #[.int .i64 (m:Int),.int .i64 (a2:Nat)] 246)).block _ HW0.o).trans HR.o);have HMM:Hid (((m % 2:Nat):Int)=0):=by show _=_;omega
       have q8:decide ((0:Int)<(m:Int))=true:=kAc (by omega);have q8n:decide (0<m)=true:=kAc (by omega);have HMZ:=zH hm;have HMX:=zH hm0;clear HLH hL FA FB hm0 hev hm hr la lb;go_wp2_with fail;refine kBj ?_;refine kBi (S:=fun wx=>wx.cell? ⟨wr.heap.size,0,none⟩=some (.int .i64 (m:Int))/\wx.cell? ⟨wr.heap.size,1,none⟩=some (.int .i64 (a2:Nat))/\wx.cell? ⟨w.heap.size+1,0,none⟩=some (.int .i64 (m:Int))) (by kernel_rfl) HX.o (fun hHeld=>?_);refine aAb 0 40 ?_;refine aAb 1 41 ?_;refine aAb 2 42 ?_;refine aAb 3 43 ?_;refine aAb 4 44 ?_;refine aAb 9 49 ?_;refine aAb 10 50 ?_;refine aAf 5 ?_;intro K hK;go_simp;refine (aBw m a2 _ HMZ.o).mono ?_;rintro e w9 ⟨rfl,hb9⟩;rw [HMM.o];have HB9:=zH ((HB8.o.drew).trans (hb9.mono (by have:=HB8.o.size;simpa using this)));have HX9:Hid ((fun wx=>wx.cell? ⟨wr.heap.size,0,none⟩=some (.int .i64 (m:Int))/\wx.cell? ⟨wr.heap.size,1,none⟩=some (.int .i64 (a2:Nat))/\wx.cell? ⟨w.heap.size+1,0,none⟩=some (.int .i64 (m:Int))) w9):=⟨(hb9.cell (by simp)).trans HX.o.1,(hb9.cell (by simp)).trans HX.o.2.1,(hb9.cell (by have:=HW1.o;simp;omega)).trans HX.o.2.2⟩;have HRX:=zH ((hb9.block _ (by have:=HW0.o;simp;omega)).trans HR8.o);clear hb9 hHeld;refine hK.out _ _ HX9.o (fun hHeld=>?_);clear hK K
       try simp only [Act.put,siT,scZ,scS]
       refine aAb 6 46 ?_;refine aAb 7 47 ?_;refine aAb 8 48 ?_;refine aAb 11 51 ?_;refine aAb 12 52 ?_;refine aAb 13 9 ?_;refine kBn (by kernel_rfl) ?_ _;refine kBk ?_;have HBX:=HB9;have y0:=HX9.o.1;have y1:=HX9.o.2.1;have z0:w9.cell? ⟨w.heap.size,0,none⟩=some (.int .i64 0):=aAd HRX.o;have z1:w9.cell? ⟨w.heap.size,1,none⟩=some (.int .i64 0):=aAd HRX.o;have z2:w9.frozen? ⟨w.heap.size,0,none⟩=false:=aAm HRX.o;have z3:w9.frozen? ⟨w.heap.size,1,none⟩=false:=aAm HRX.o;go_wp2;(try simp only [Exit.inBlock,Exit.then]);exact kBo (aAx results146 _ _ w.heap.size _ _ _ _ rfl (set2 HRX.o)) rfl ⟨rfl,(HBX.o.setCell (nR _) _).setCell (nR _) _⟩
      ·by_cases hbm:b1=(m:Int)
       ·have hL:bAt ((m:Int),a2) (b1,b2)=some (m,a2):=by
         unfold bAt;rw [kAb hlt,kAb (by simp only;omega),kAb (by simp only;rw [kAb (by omega)];omega)];rfl
        obtain rfl:L=some (m,a2):=HLH.o.symm.trans hL;subst hbm;have HB8:=zH (HBW.o.alloc HBW.o.size (.cells #[.int .i64 (m:Int),.int .i64 (a2:Nat)] 246));have HX:Hid ((fun wx=>wx.cell? ⟨wr.heap.size,0,none⟩=some (.int .i64 (m:Int))/\wx.cell? ⟨wr.heap.size,1,none⟩=some (.int .i64 (a2:Nat))/\wx.cell? ⟨w.heap.size+1,2,none⟩=some (.int .i64 (m:Int))) (wr.alloc (.cells #[.int .i64 (m:Int),.int .i64 (a2:Nat)] 246))):=⟨aAd (kBm wr _),aAd (kBm wr _),((aAk wr _).cell HW1.o).trans c2⟩;have HR8:=zH (((aAk wr (.cells #[.int .i64 (m:Int),.int .i64 (a2:Nat)] 246)).block _ HW0.o).trans HR.o);have HMM:Hid (((m % 2:Nat):Int)=1):=by show _=_;omega
        have q8:decide ((0:Int)<(m:Int))=true:=kAc (by omega);have q8n:decide (0<m)=true:=kAc (by omega);have HMZ:=zH hm;have HMX:=zH hm0;clear HLH hL FA FB hm0 hev hm hr la lb;go_wp2_with fail;refine kBj ?_;refine kBi (S:=fun wx=>wx.cell? ⟨wr.heap.size,0,none⟩=some (.int .i64 (m:Int))/\wx.cell? ⟨wr.heap.size,1,none⟩=some (.int .i64 (a2:Nat))/\wx.cell? ⟨w.heap.size+1,2,none⟩=some (.int .i64 (m:Int))) (by kernel_rfl) HX.o (fun hHeld=>?_);refine aAb 0 40 ?_;refine aAb 1 41 ?_;refine aAb 2 42 ?_;refine aAb 3 43 ?_;refine aAb 4 44 ?_;refine aAb 9 49 ?_;refine aAb 10 50 ?_;refine aAf 5 ?_;intro K hK;go_simp;refine (aBw m a2 _ HMZ.o).mono ?_;rintro e w9 ⟨rfl,hb9⟩;rw [HMM.o];have HB9:=zH ((HB8.o.drew).trans (hb9.mono (by have:=HB8.o.size;simpa using this)));have HX9:Hid ((fun wx=>wx.cell? ⟨wr.heap.size,0,none⟩=some (.int .i64 (m:Int))/\wx.cell? ⟨wr.heap.size,1,none⟩=some (.int .i64 (a2:Nat))/\wx.cell? ⟨w.heap.size+1,2,none⟩=some (.int .i64 (m:Int))) w9):=⟨(hb9.cell (by simp)).trans HX.o.1,(hb9.cell (by simp)).trans HX.o.2.1,(hb9.cell (by have:=HW1.o;simp;omega)).trans HX.o.2.2⟩;have HRX:=zH ((hb9.block _ (by have:=HW0.o;simp;omega)).trans HR8.o);clear hb9 hHeld;refine hK.out _ _ HX9.o (fun hHeld=>?_);clear hK K
        try simp only [Act.put,siT,scZ,scS]
        refine aAb 6 46 ?_;refine aAb 7 47 ?_;refine aAb 8 48 ?_;refine aAb 11 51 ?_;refine aAb 12 52 ?_;refine aAb 13 9 ?_;refine kBn (by kernel_rfl) ?_ _;refine kBk ?_;have HBX:=HB9;have y0:=HX9.o.1;have y1:=HX9.o.2.1;have z0:w9.cell? ⟨w.heap.size,0,none⟩=some (.int .i64 0):=aAd HRX.o;have z1:w9.cell? ⟨w.heap.size,1,none⟩=some (.int .i64 0):=aAd HRX.o;have z2:w9.frozen? ⟨w.heap.size,0,none⟩=false:=aAm HRX.o;have z3:w9.frozen? ⟨w.heap.size,1,none⟩=false:=aAm HRX.o;go_wp2;(try simp only [Exit.inBlock,Exit.then]);exact kBo (aAx results146 _ _ w.heap.size _ _ _ _ rfl (set2 HRX.o)) rfl ⟨rfl,(HBX.o.setCell (nR _) _).setCell (nR _) _⟩
       ·have hL:bAt ((m:Int),a2) (b1,b2)=none:=by
         unfold bAt;rw [kAb hlt,kAb (by simp only;omega),kAg (by simp only;rw [kAb (by omega)];omega)]
        obtain rfl:L=none:=HLH.o.symm.trans hL;have HB8:=zH (HBW.o.alloc HBW.o.size (.cells #[.int .i64 (m:Int),.int .i64 (a2:Nat)] 246));have HX:Hid ((fun wx=>wx.cell? ⟨wr.heap.size,0,none⟩=some (.int .i64 (m:Int))/\wx.cell? ⟨wr.heap.size,1,none⟩=some (.int .i64 (a2:Nat))/\wx.cell? ⟨w.heap.size+1,2,none⟩=some (.int .i64 b1)) (wr.alloc (.cells #[.int .i64 (m:Int),.int .i64 (a2:Nat)] 246))):=⟨aAd (kBm wr _),aAd (kBm wr _),((aAk wr _).cell HW1.o).trans c2⟩;have HR8:=zH (((aAk wr (.cells #[.int .i64 (m:Int),.int .i64 (a2:Nat)] 246)).block _ HW0.o).trans HR.o);have HMM:Hid (((m % 2:Nat):Int)=1):=by show _=_;omega
        have q8:decide ((0:Int)<(m:Int))=true:=kAc (by omega);have q8n:decide (0<m)=true:=kAc (by omega);have q9:(b1 != (m:Int))=true:=by simp;omega
        have HMZ:=zH hm;have HMX:=zH hm0;clear HLH hL FA FB hm0 hev hm hr la lb;go_wp2_with fail;refine kBj ?_;refine kBi (S:=fun wx=>wx.cell? ⟨wr.heap.size,0,none⟩=some (.int .i64 (m:Int))/\wx.cell? ⟨wr.heap.size,1,none⟩=some (.int .i64 (a2:Nat))/\wx.cell? ⟨w.heap.size+1,2,none⟩=some (.int .i64 b1)) (by kernel_rfl) HX.o (fun hHeld=>?_);refine aAb 0 40 ?_;refine aAb 1 41 ?_;refine aAb 2 42 ?_;refine aAb 3 43 ?_;refine aAb 4 44 ?_;refine aAb 9 49 ?_;refine aAb 10 50 ?_;refine aAf 5 ?_;intro K hK;go_simp;refine (aBw m a2 _ HMZ.o).mono ?_;rintro e w9 ⟨rfl,hb9⟩;rw [HMM.o];have HB9:=zH ((HB8.o.drew).trans (hb9.mono (by have:=HB8.o.size;simpa using this)));have HX9:Hid ((fun wx=>wx.cell? ⟨wr.heap.size,0,none⟩=some (.int .i64 (m:Int))/\wx.cell? ⟨wr.heap.size,1,none⟩=some (.int .i64 (a2:Nat))/\wx.cell? ⟨w.heap.size+1,2,none⟩=some (.int .i64 b1)) w9):=⟨(hb9.cell (by simp)).trans HX.o.1,(hb9.cell (by simp)).trans HX.o.2.1,(hb9.cell (by have:=HW1.o;simp;omega)).trans HX.o.2.2⟩;have HRX:=zH ((hb9.block _ (by have:=HW0.o;simp;omega)).trans HR8.o);clear hb9 hHeld;refine hK.out _ _ HX9.o (fun hHeld=>?_);clear hK K
        try simp only [Act.put,siT,scZ,scS]
        refine aAb 6 46 ?_;refine aAb 7 47 ?_;refine aAb 8 48 ?_;refine aAb 11 51 ?_;refine aAb 12 52 ?_;refine aAb 13 9 ?_;refine kBn (by kernel_rfl) ?_ _;refine kBk ?_;have HBX:=HB9;have y0:=HX9.o.1;have y1:=HX9.o.2.1;have z0:w9.cell? ⟨w.heap.size,0,none⟩=some (.int .i64 0):=aAd HRX.o;have z1:w9.cell? ⟨w.heap.size,1,none⟩=some (.int .i64 0):=aAd HRX.o;have z2:w9.frozen? ⟨w.heap.size,0,none⟩=false:=aAm HRX.o;have z3:w9.frozen? ⟨w.heap.size,1,none⟩=false:=aAm HRX.o;go_wp2;(try simp only [Exit.inBlock,Exit.then]);exact kBo (aAx results146 _ _ w.heap.size _ _ _ _ rfl (set2 HRX.o)) rfl ⟨rfl,(HBX.o.setCell (nR _) _).setCell (nR _) _⟩
theorem aDc (n:Nat):(bAo n).length=n:=by simp [bAo]
theorem bNj {n num root:Nat} {l:Int} (hn:n<=4096) (h1:num<=4611686018427387904) (h2:root<=4096):(PS.mk (bAo n) l num root).Ok where
 sl:=by show (bAo n).length<=4096;rw [aDc];exact hn
 sb:=by
  intro c hc;simp only [bAo,List.mem_map] at hc;obtain ⟨i,_,rfl⟩:=hc
  split<;>omega
 nm:=h1
 rt:=h2
theorem bQy [Gd] (B p:Nat) (s:DS) (num root:Nat) (w:World) (h:DI B p s w) (hB:B<=w.heap.size) (hd:s.down=false) (h3:3<=s.n) (hl:bAt (rdH (pad (s.show 0)) s.n) (rdH (pad (s.show 1)) s.n)=some (num,root)) (h1:num<=4611686018427387904) (h2:root<=4096) :
  Calls prog 104 #[.pointer (some ⟨p,0,none⟩)] w fun e w'=>∃ q,e=.returned (.tuple #[.pointer (some ⟨q,0,none⟩),.int .i64 0])/\ST B p q s ⟨bAo s.n,s.life,num,root⟩ w'/\Below w.heap.size w w':=by
 have hz:∀ ww,(zeroValue 246).run prog ww=.ok (.agg #[.int .i64 0,.int .i64 0]) ww:=fun ww=>by kernel_rfl
 have HBl:=zH (aEv B p s w h);have HL:=zH (bEb B p s w h hB hd h3);rw [hl] at HL;have HN2:=zH h.ok.n2;have HPO:=zH (bNj (l:=s.life) h.ok.n2 h1 h2);have HNL:=zH (aDc s.n);have d1:¬ ((s.n:Nat):Int)<3:=by omega
 have HD:=zH h;clear h hl;go_enter func104,ntmps104;go_wp2_with fail;refine HBl.o.mono ?_;rintro e w1 ⟨rfl,rfl⟩;go_wp2_with fail;refine HL.o.mono ?_;rintro e w2 ⟨rfl,hb2⟩;obtain ⟨w3,HW3⟩:∃ w3,w3=w2.alloc (.cells #[.int .i64 (num:Int),.int .i64 (root:Int)] 246):=⟨_,rfl⟩;have HB3:Hid (Below w1.heap.size w1 w3):=by rw [HW3];exact hb2.alloc hb2.size _
 have HD3:=zH (HD.o.later HB3.o);obtain ⟨h4,HH4⟩:∃ h4,h4=w2.heap.size:=⟨_,rfl⟩;have HX:Hid ((fun wx=>wx.cell? ⟨h4,0,none⟩=some (.int .i64 (num:Int))/\wx.cell? ⟨h4,1,none⟩=some (.int .i64 (root:Int))) w3):=by rw [HW3,HH4];exact ⟨aAd (kBm w2 _),aAd (kBm w2 _)⟩
 have HHW:=zH HW3;have HHH:=zH HH4;clear hb2 HW3 HH4;go_wp2_with fail;rw [<-HHH.o,<-HHW.o];refine kBj ?_;refine kBi (S:=fun wx=>wx.cell? ⟨h4,0,none⟩=some (.int .i64 (num:Int))/\wx.cell? ⟨h4,1,none⟩=some (.int .i64 (root:Int))) (by kernel_rfl) HX.o (fun hHeld=>?_);refine aAb 0 21 ?_;refine aAb 3 24 ?_;refine aAb 4 25 ?_;refine aAb 6 27 ?_;refine aAf 1 ?_;intro K hK;go_simp;refine (aEv B p s _ (HD3.o.later ((kBh _ _).drew))).mono ?_;rintro e wq ⟨rfl,hq⟩;have hq:=hq.symm;subst hq;refine hK.out _ _ hHeld (fun hHeld=>?_);clear hK K
 try simp only [Act.put,siT,scZ,scS]
 refine aAf 2 ?_;intro K hK;go_simp;refine (bCp s.n _ h3 HN2.o).mono ?_;rintro e w5 ⟨g5,rfl,hr5,hg5,hb5⟩;have HB5:=zH (((kBh _ w3).drew).trans hb5);have HR5:=zH hr5;have HG5:=zH hg5;have HX5:Hid ((fun wx=>wx.cell? ⟨h4,0,none⟩=some (.int .i64 (num:Int))/\wx.cell? ⟨h4,1,none⟩=some (.int .i64 (root:Int))) w5):=⟨(HB5.o.cell (aAn HX.o.1)).trans HX.o.1,(HB5.o.cell (aAn HX.o.2)).trans HX.o.2⟩;have HD5:=zH (HD3.o.later HB5.o);clear hr5 hg5 hb5 hHeld;refine hK.out _ _ HX5.o (fun hHeld=>?_);clear hK K
 try simp only [Act.put,siT,scZ,scS]
 refine aAf 5 ?_;intro K hK;go_simp;refine (bFn B p s _ HD5.o).mono ?_;rintro e wq ⟨rfl,hq⟩;have hq:=hq.symm;subst hq;refine hK.out _ _ hHeld (fun hHeld=>?_);clear hK K
 try simp only [Act.put,siT,scZ,scS]
 refine aAb 7 28 ?_;refine aAf 8 ?_;intro K hK;have HXX:Hid ((fun wx=>wx.cell? ⟨h4,0,none⟩=some (.int .i64 (num:Int))/\wx.cell? ⟨h4,1,none⟩=some (.int .i64 (root:Int))) (w5.alloc (.cells #[.slice (some ⟨g5,0,none⟩) s.n s.n,.pointer (some ⟨p,0,none⟩),.int .i64 s.life,.int .i64 (num:Int),.int .i64 (root:Int)] 254))):=⟨((aAk w5 _).cell (aAn HX5.o.1)).trans HX5.o.1,((aAk w5 _).cell (aAn HX5.o.2)).trans HX5.o.2⟩;go_simp;clear hHeld;refine hK.out _ _ HXX.o (fun hHeld=>?_);clear hK K
 try simp only [Act.put,siT,scZ,scS]
 refine aAb 9 2 ?_;refine aAb 10 3 ?_;refine kBn (by kernel_rfl) ?_ _;refine kBk ?_;go_wp2;go_ret2;have HBX:=zH (HB5.o.trans ((aAk w5 (.cells #[.slice (some ⟨g5,0,none⟩) s.n s.n,.pointer (some ⟨p,0,none⟩),.int .i64 s.life,.int .i64 (num:Int),.int .i64 (root:Int)] 254)).mono HB5.o.size));refine ⟨w5.heap.size,rfl,⟨HD5.o.later (aAk w5 _),g5,?_,?_,?_,?_,HPO.o,?_⟩,HB3.o.trans (HBX.o.mono HB3.o.size)⟩
 ·have e:=kBm w5 (.cells #[.slice (some ⟨g5,0,none⟩) s.n s.n,.pointer (some ⟨p,0,none⟩),.int .i64 s.life,.int .i64 (num:Int),.int .i64 (root:Int)] 254);rw [e];show _=some (Obj.cells (bBw g5 p ⟨bAo s.n,s.life,num,root⟩) _ _);unfold bBw;rw [HNL.o]
 ·rw [Below.heap_alloc _ _ _ (lO HR5.o)];exact HR5.o
 ·exact nT (nT hB HB3.o.size) HB5.o.size
 ·exact nT (nT hB HB3.o.size) (nT (by simp) HG5.o)
 ·intro k hk;have h9:=(HD3.o.fb hk).lt;have h7:=HB5.o.size;have h8:w3.heap.size<=g5:=nT (by simp) HG5.o;exact ⟨by omega,by omega⟩
theorem bM7 (n:Nat):rdH (pad []) n=(0,0):=by
 unfold rdH;rw [kAg bJo]
theorem bG7:bAt (0,0) (0,0)=some (0,0):=by decide
section
variable {B p q:Nat} {s:DS} {t:PS} {w:World}
end
end Go.Proofs.YtdpdjpkmndnaaaaGreat
