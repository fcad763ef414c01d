import Derived.Test.YtohgmapjokaibaaGreatZ22
import Derived.Test.YtohgmapjokaibaaGreatZ14
set_option maxRecDepth 100000
set_option maxHeartbeats 16000000
set_option linter.unusedVariables false
namespace Go.Proofs.YtohgmapjokaibaaGreat
open Go.RowKit
theorem aGl {s:DS} (hf:¬ s.after=1):s.tick.down=s.down∧s.tick.life=s.life∧s.tick.n=s.n∧s.tick.m=s.m:=by
 refine ⟨?_,?_,(tick_n hf).1,(tick_n hf).2⟩
 ·unfold DS.tick;split
  ·rfl
  ·first | rfl | (rw [if_neg hf];rfl)
 ·unfold DS.tick;split
  ·rfl
  ·first | rfl | (rw [if_neg hf];rfl)
theorem aCw {s:DS} (hd:s.down=false) (hf:¬ s.after=1):s.flushE=0∧s.flush.down=false∧s.flush.n=s.n∧s.flush.m=0∧s.flush.life=s.life:=by
 have h1:=aGl hf
 have e:s.flush=s.tick.settle 18446744073709551615 (-1) 0:=by unfold DS.flush;rw [hd];simp only [Bool.false_eq_true,if_false];rw [if_neg hf]
 refine ⟨by unfold DS.flushE;rw [hd];simp only [Bool.false_eq_true,if_false];rw [if_neg hf],?_,?_,?_,?_⟩
 ·rw [e];exact h1.1.trans hd
 ·rw [e,aB0];exact h1.2.2.1
 ·rw [e];rfl
 ·rw [e];exact h1.2.1
def DS.commit (s:DS) (num root:Nat):DS×Int :=
 if s.after=1 then (s.flush,20)
 else if s.flush.after=1 then (s.flush.tick,20)
 else ((s.flush.tick.wrote (num % 2) (headB num root)).flush,(s.flush.tick.wrote (num % 2) (headB num root)).flushE)
section
variable {B p q gs:Nat} {s:DS} {t:PS} {w:World}
theorem write_ok_c [Gd] (num root:Nat) (hS:SV B p q gs t w) (hD:DI B p s w) (hB:B≤w.heap.size) (hd:s.down=false) (hn2:2≤s.n) (hlf:s.life<100000) (hf:¬ s.after=1) (hf2:¬ s.flush.after=1) (hn:num≤4611686018427387904) (hr:root<4294967296) :
  Calls Tryz.prog 49 #[.pointer (some ⟨q,0,none⟩),.agg #[.int .i64 (num:Int),.int .i64 (root:Int)]] w fun e w'=>e=.returned (.int .i64 (s.commit num root).2)∧DI B p (s.commit num root).1 w'∧Fr B w w':=by
 have HFF:=hide (aCw hd hf)
 have HCS:Hid (s.commit num root=((s.flush.tick.wrote (num % 2) (headB num root)).flush,(s.flush.tick.wrote (num % 2) (headB num root)).flushE)):=by
  show _=_
  unfold DS.commit
  rw [if_neg hf,if_neg hf2]
 have HLF2:Hid ((s.flush.tick.wrote (num % 2) (headB num root)).life<100000):=by show s.flush.tick.life<100000;rw [(aGl hf2).2.1,HFF.out.2.2.2.2];exact hlf
 have HHL:=hide (aF3 num root)
 have HHB:=hide (aHw num root)
 have HB0:=hide (aAb w (.cells #[.int .i64 (num:Int),.int .i64 (root:Int)] 111))
 have HF0:=hide (Fr.of HB0.out hB)
 have HBOX:=hide (heap_alloc_new w (.cells #[.int .i64 (num:Int),.int .i64 (root:Int)] 111))
 have HS:=hide (hS.later HB0.out)
 have HD0:=hide (hD.later HB0.out)
 have c1:=HS.out.c1
 have HFL:=hide (aEd B p s _ HD0.out (nT hB HB0.out.size) hlf)
 rw [HFF.out.1] at HFL
 generalize s.commit num root=CR at *
 clear hS hD
 go_enter Tryz.func49,Tryz.ntmps49
 go_wp2_with fail
 refine HFL.out.mono ?_
 rintro e w2 ⟨rfl,hD2,hF2⟩
 have HD2:=hide hD2
 have HF2:=hide hF2
 have HX2:Hid ((fun wx=>wx.cell? ⟨q,1,none⟩=some (.pointer (some ⟨p,0,none⟩))∧wx.cell? ⟨w.heap.size,0,none⟩=some (.int .i64 (num:Int))∧wx.cell? ⟨w.heap.size,1,none⟩=some (.int .i64 (root:Int))) w2):=⟨(HS.out.fr hF2).c1,aAa (hF2.stay _ _ _ _ HBOX.out (by decide) (by decide) (by decide) (by decide)),aAa (hF2.stay _ _ _ _ HBOX.out (by decide) (by decide) (by decide) (by decide))⟩
 have HBZ:=hide (nT hB (nT HB0.out.size hF2.bel.size))
 clear hD2 hF2 c1
 go_wp2_with fail
 refine wp_region_noPanic ?_
 refine wp_region_held_drew (S:=fun wx=>wx.cell? ⟨q,1,none⟩=some (.pointer (some ⟨p,0,none⟩))∧wx.cell? ⟨w.heap.size,0,none⟩=some (.int .i64 (num:Int))∧wx.cell? ⟨w.heap.size,1,none⟩=some (.int .i64 (root:Int))) (by kernel_rfl) HX2.out (fun hHeld=>?_)
 refine wpAnyH_tk 0 15 ?_
 refine wpAnyH_tk 1 16 ?_
 refine wpAnyH_tk 2 17 ?_
 refine wpAnyH_tk 3 18 ?_
 refine wpAnyH_tk 4 19 ?_
 refine wpAnyH_tk 6 21 ?_
 refine wpAnyH_cm 5 ?_;intro K hK
 go_simp
 refine (aA9 num root _ hn).mono ?_
 rintro e w3 ⟨rfl,hb⟩
 have HB3:=hide (((Below.refl _ w2).drew).trans (hb.mono (nR _)))
 have HX3:Hid ((fun wx=>wx.cell? ⟨q,1,none⟩=some (.pointer (some ⟨p,0,none⟩))∧wx.cell? ⟨w.heap.size,0,none⟩=some (.int .i64 (num:Int))∧wx.cell? ⟨w.heap.size,1,none⟩=some (.int .i64 (root:Int))) w3):=⟨(HB3.out.cell (aAi HX2.out.1)).trans HX2.out.1,(HB3.out.cell (aAi HX2.out.2.1)).trans HX2.out.2.1,(HB3.out.cell (aAi HX2.out.2.2)).trans HX2.out.2.2⟩
 clear hb hHeld
 refine hK.out _ _ HX3.out (fun hHeld=>?_)
 clear hK K
 try simp only [Act.put,siT,scZ,scS]
 refine wpAnyH_cm 7 ?_;intro K hK
 go_simp
 refine (aCv num root _ hn hr).mono ?_
 rintro e w4 ⟨v9,rfl,ho,hb⟩
 have HB4:=hide (HB3.out.trans (hb.mono HB3.out.size))
 have HX4:Hid ((fun wx=>wx.cell? ⟨q,1,none⟩=some (.pointer (some ⟨p,0,none⟩))∧wx.cell? ⟨w.heap.size,0,none⟩=some (.int .i64 (num:Int))∧wx.cell? ⟨w.heap.size,1,none⟩=some (.int .i64 (root:Int))) w4):=⟨(HB4.out.cell (aAi HX2.out.1)).trans HX2.out.1,(HB4.out.cell (aAi HX2.out.2.1)).trans HX2.out.2.1,(HB4.out.cell (aAi HX2.out.2.2)).trans HX2.out.2.2⟩
 have HO4:=hide (aBn ho (nT HBZ.out HB3.out.size))
 clear hb ho hHeld
 refine hK.out _ _ HX4.out (fun hHeld=>?_)
 clear hK K
 try simp only [Act.put,siT,scZ,scS]
 refine wpAnyH_cm 8 ?_;intro K hK
 obtain ⟨a9,c9,rfl,B9⟩:=aCq (xs:=headB num root) (by rw [HHL.out];exact HO4.out) (by rw [HHL.out];omega) HHB.out
 have HBS9:=hide B9
 clear B9
 rw [HHL.out]
 rw [HHL.out] at HBS9
 go_simp
 refine (write_ok B p s.flush (num % 2) a9 20 c9 (headB num root) w4 (HD2.out.later HB4.out) (nT HBZ.out HB4.out.size) HFF.out.2.1 (by rw [HFF.out.2.2.1];omega) hf2 (by rw [HFF.out.2.2.2.2];exact hlf) (by rw [HFF.out.2.2.2.1];omega) (by rw [HHL.out];unfold blk;omega) HHB.out HHL.out ?_).mono ?_
 ·intro ww f
  obtain ⟨a8,c8,e8,B8⟩:=aCq (xs:=headB num root) (f.row (by rw [HHL.out];exact HO4.out) (by decide) (by decide) (by decide) (by decide)) (by rw [HHL.out];omega) HHB.out
  rw [HHL.out] at e8 B8
  simp only [Value.slice.injEq] at e8
  obtain ⟨rfl,_,rfl⟩:=e8
  exact B8
 rintro e w5 ⟨rfl,hD5,hF5⟩
 have HF5:=hide (HF2.out.trans ((Fr.of HB4.out HBZ.out).trans hF5))
 have HD5:=hide hD5
 have HS5:=hide (HS.out.fr HF5.out)
 have HX5:Hid ((fun wx=>wx.cell? ⟨q,1,none⟩=some (.pointer (some ⟨p,0,none⟩))∧wx.cell? ⟨w.heap.size,0,none⟩=some (.int .i64 (num:Int))∧wx.cell? ⟨w.heap.size,1,none⟩=some (.int .i64 (root:Int))) w5):=⟨HS5.out.c1,aAa (HF5.out.stay _ _ _ _ HBOX.out (by decide) (by decide) (by decide) (by decide)),aAa (HF5.out.stay _ _ _ _ HBOX.out (by decide) (by decide) (by decide) (by decide))⟩
 clear hD5 hF5 hHeld
 refine hK.out _ _ HX5.out (fun hHeld=>?_)
 clear hK K
 try simp only [Act.put,siT,scZ,scS]
 refine wpAnyH_tk 9 6 ?_
 refine wpAnyH_done (by kernel_rfl) ?_ _
 refine NoPanic.normal ?_
 have c1:=HX5.out.1
 have HFL:=hide (aEd B p _ w5 HD5.out (nT hB (nT HB0.out.size HF5.out.bel.size)) HLF2.out)
 go_wp2_with fail
 refine HFL.out.mono ?_
 rintro e w6 ⟨rfl,hD6,hF6⟩
 have HD6:=hide hD6
 have HF6:=hide (HF5.out.trans hF6)
 clear hD6 hF6
 go_wp2
 go_ret
 rw [HCS.out]
 exact ⟨rfl,HD6.out,HF0.out.trans HF6.out⟩
theorem write_no_c [Gd] (num root:Nat) (hS:SV B p q gs t w) (hD:DI B p s w) (hB:B≤w.heap.size) (hd:s.down=false) (hn2:2≤s.n) (hlf:s.life<100000) (hf:¬ s.after=1) (hf2:s.flush.after=1) (hn:num≤4611686018427387904) (hr:root<4294967296) :
  Calls Tryz.prog 49 #[.pointer (some ⟨q,0,none⟩),.agg #[.int .i64 (num:Int),.int .i64 (root:Int)]] w fun e w'=>e=.returned (.int .i64 (s.commit num root).2)∧DI B p (s.commit num root).1 w'∧Fr B w w':=by
 have HFF:=hide (aCw hd hf)
 have HCS:Hid (s.commit num root=(s.flush.tick,20)):=by
  show _=_
  unfold DS.commit
  rw [if_neg hf,if_pos hf2]
 skip
 have HHL:=hide (aF3 num root)
 have HHB:=hide (aHw num root)
 have HB0:=hide (aAb w (.cells #[.int .i64 (num:Int),.int .i64 (root:Int)] 111))
 have HF0:=hide (Fr.of HB0.out hB)
 have HBOX:=hide (heap_alloc_new w (.cells #[.int .i64 (num:Int),.int .i64 (root:Int)] 111))
 have HS:=hide (hS.later HB0.out)
 have HD0:=hide (hD.later HB0.out)
 have c1:=HS.out.c1
 have HFL:=hide (aEd B p s _ HD0.out (nT hB HB0.out.size) hlf)
 rw [HFF.out.1] at HFL
 generalize s.commit num root=CR at *
 clear hS hD
 go_enter Tryz.func49,Tryz.ntmps49
 go_wp2_with fail
 refine HFL.out.mono ?_
 rintro e w2 ⟨rfl,hD2,hF2⟩
 have HD2:=hide hD2
 have HF2:=hide hF2
 have HX2:Hid ((fun wx=>wx.cell? ⟨q,1,none⟩=some (.pointer (some ⟨p,0,none⟩))∧wx.cell? ⟨w.heap.size,0,none⟩=some (.int .i64 (num:Int))∧wx.cell? ⟨w.heap.size,1,none⟩=some (.int .i64 (root:Int))) w2):=⟨(HS.out.fr hF2).c1,aAa (hF2.stay _ _ _ _ HBOX.out (by decide) (by decide) (by decide) (by decide)),aAa (hF2.stay _ _ _ _ HBOX.out (by decide) (by decide) (by decide) (by decide))⟩
 have HBZ:=hide (nT hB (nT HB0.out.size hF2.bel.size))
 clear hD2 hF2 c1
 go_wp2_with fail
 refine wp_region_noPanic ?_
 refine wp_region_held_drew (S:=fun wx=>wx.cell? ⟨q,1,none⟩=some (.pointer (some ⟨p,0,none⟩))∧wx.cell? ⟨w.heap.size,0,none⟩=some (.int .i64 (num:Int))∧wx.cell? ⟨w.heap.size,1,none⟩=some (.int .i64 (root:Int))) (by kernel_rfl) HX2.out (fun hHeld=>?_)
 refine wpAnyH_tk 0 15 ?_
 refine wpAnyH_tk 1 16 ?_
 refine wpAnyH_tk 2 17 ?_
 refine wpAnyH_tk 3 18 ?_
 refine wpAnyH_tk 4 19 ?_
 refine wpAnyH_tk 6 21 ?_
 refine wpAnyH_cm 5 ?_;intro K hK
 go_simp
 refine (aA9 num root _ hn).mono ?_
 rintro e w3 ⟨rfl,hb⟩
 have HB3:=hide (((Below.refl _ w2).drew).trans (hb.mono (nR _)))
 have HX3:Hid ((fun wx=>wx.cell? ⟨q,1,none⟩=some (.pointer (some ⟨p,0,none⟩))∧wx.cell? ⟨w.heap.size,0,none⟩=some (.int .i64 (num:Int))∧wx.cell? ⟨w.heap.size,1,none⟩=some (.int .i64 (root:Int))) w3):=⟨(HB3.out.cell (aAi HX2.out.1)).trans HX2.out.1,(HB3.out.cell (aAi HX2.out.2.1)).trans HX2.out.2.1,(HB3.out.cell (aAi HX2.out.2.2)).trans HX2.out.2.2⟩
 clear hb hHeld
 refine hK.out _ _ HX3.out (fun hHeld=>?_)
 clear hK K
 try simp only [Act.put,siT,scZ,scS]
 refine wpAnyH_cm 7 ?_;intro K hK
 go_simp
 refine (aCv num root _ hn hr).mono ?_
 rintro e w4 ⟨v9,rfl,ho,hb⟩
 have HB4:=hide (HB3.out.trans (hb.mono HB3.out.size))
 have HX4:Hid ((fun wx=>wx.cell? ⟨q,1,none⟩=some (.pointer (some ⟨p,0,none⟩))∧wx.cell? ⟨w.heap.size,0,none⟩=some (.int .i64 (num:Int))∧wx.cell? ⟨w.heap.size,1,none⟩=some (.int .i64 (root:Int))) w4):=⟨(HB4.out.cell (aAi HX2.out.1)).trans HX2.out.1,(HB4.out.cell (aAi HX2.out.2.1)).trans HX2.out.2.1,(HB4.out.cell (aAi HX2.out.2.2)).trans HX2.out.2.2⟩
 have HO4:=hide (aBn ho (nT HBZ.out HB3.out.size))
 clear hb ho hHeld
 refine hK.out _ _ HX4.out (fun hHeld=>?_)
 clear hK K
 try simp only [Act.put,siT,scZ,scS]
 refine wpAnyH_cm 8 ?_;intro K hK
 obtain ⟨a9,c9,rfl,B9⟩:=aCq (xs:=headB num root) (by rw [HHL.out];exact HO4.out) (by rw [HHL.out];omega) HHB.out
 have HBS9:=hide B9
 clear B9
 rw [HHL.out]
 rw [HHL.out] at HBS9
 go_simp
 refine (write_fails B p s.flush ((num % 2:Nat):Int) a9 20 c9 w4 (HD2.out.later HB4.out) (nT HBZ.out HB4.out.size) HFF.out.2.1 ⟨by omega,by rw [HFF.out.2.2.1];omega⟩ (by unfold blk;omega) hf2 (by rw [HFF.out.2.2.2.2];exact hlf)).mono ?_
 rintro e w5 ⟨rfl,hD5,hF5⟩
 have HF5:=hide (HF2.out.trans ((Fr.of HB4.out HBZ.out).trans hF5))
 have HD5:=hide hD5
 have HS5:=hide (HS.out.fr HF5.out)
 have HX5:Hid ((fun wx=>wx.cell? ⟨q,1,none⟩=some (.pointer (some ⟨p,0,none⟩))∧wx.cell? ⟨w.heap.size,0,none⟩=some (.int .i64 (num:Int))∧wx.cell? ⟨w.heap.size,1,none⟩=some (.int .i64 (root:Int))) w5):=⟨HS5.out.c1,aAa (HF5.out.stay _ _ _ _ HBOX.out (by decide) (by decide) (by decide) (by decide)),aAa (HF5.out.stay _ _ _ _ HBOX.out (by decide) (by decide) (by decide) (by decide))⟩
 clear hD5 hF5 hHeld
 refine hK.out _ _ HX5.out (fun hHeld=>?_)
 clear hK K
 try simp only [Act.put,siT,scZ,scS]
 refine wpAnyH_tk 9 6 ?_
 refine wpAnyH_done (by kernel_rfl) ?_ _
 refine NoPanic.normal ?_
 go_wp2
 go_ret
 rw [HCS.out]
 exact ⟨rfl,HD5.out,HF0.out.trans HF5.out⟩
end
def PS.turn (t:PS) (num root:Nat):PS:={ t with num:=num,root:=root }
section
variable {B p q gs:Nat} {s:DS} {t:PS} {w:World}
theorem SV.turn [Gd] (h:SV B p q gs t w) {num root:Nat} (hn:num≤4611686018427387904) (hr:root≤4096):SV B p q gs (t.turn num root) ((w.setCell ⟨q,3,none⟩ (.int .i64 (num:Int))).setCell ⟨q,4,none⟩ (.int .i64 (root:Int))):=by
 refine ⟨?_,?_,h.qB,h.gB,⟨h.ok.sl,h.ok.sb,hn,hr⟩,h.hG⟩
 ·rw [heap_setCell_same _ q 4 _ _ _ (heap_setCell_same w q 3 _ _ _ h.hq)]
  rfl
 ·rw [heap_setCell_other _ _ _ _ h.ne.symm,heap_setCell_other _ _ _ _ h.ne.symm]
  exact h.hs
theorem commit_low {num root:Nat} (hd:s.down=false) (h:s.after=1):s.commit num root=(s.flush,20)∧s.flushE=20:=by
 refine ⟨by unfold DS.commit;rw [if_pos h],by unfold DS.flushE;rw [hd];simp only [Bool.false_eq_true,if_false];rw [if_pos h]⟩
theorem write_any [Gd] (num root:Nat) (hS:SV B p q gs t w) (hD:DI B p s w) (hB:B≤w.heap.size) (hd:s.down=false) (hn2:2≤s.n) (hlf:s.life<100000) (hn:num≤4611686018427387904) (hr:root<4294967296) :
  Calls Tryz.prog 49 #[.pointer (some ⟨q,0,none⟩),.agg #[.int .i64 (num:Int),.int .i64 (root:Int)]] w fun e w'=>e=.returned (.int .i64 (s.commit num root).2)∧DI B p (s.commit num root).1 w'∧Fr B w w':=by
 by_cases hf:s.after=1
 ·obtain ⟨e1,e2⟩:=commit_low (num:=num) (root:=root) hd hf
  rw [e1]
  have HB0:=hide (aAb w (.cells #[.int .i64 (num:Int),.int .i64 (root:Int)] 111))
  have HF0:=hide (Fr.of HB0.out hB)
  have c1:=(hS.later HB0.out).c1
  have HFL:=hide (aEd B p s _ (hD.later HB0.out) (nT hB HB0.out.size) hlf)
  rw [e2] at HFL
  clear hS hD e1 e2
  go_enter Tryz.func49,Tryz.ntmps49
  go_wp2_with fail
  refine HFL.out.mono ?_
  rintro e w2 ⟨rfl,hD2,hF2⟩
  have HD2:=hide hD2
  have HF2:=hide hF2
  clear hD2 hF2
  go_wp2
  go_ret
  exact ⟨rfl,HD2.out,HF0.out.trans HF2.out⟩
 ·by_cases hf2:s.flush.after=1
  ·exact write_no_c num root hS hD hB hd hn2 hlf hf hf2 hn hr
  ·exact write_ok_c num root hS hD hB hd hn2 hlf hf hf2 hn hr
def PS.committed (t:PS) (root:Nat):PS:=⟨backF t.st,t.life,t.num+1,root⟩
theorem commit_any [Gd] (root:Nat) (h:ST B p q s t w) (hB:B≤w.heap.size) (hl:s.life=t.life) (hd:s.down=false) (hn2:2≤s.n) (hlf:s.life<100000) (hr:root=0∨t.of (root:Int)=2) (hrl:root≤4096) (hnum:t.num<4611686018427387904) :
  Calls Tryz.prog 21 #[.pointer (some ⟨q,0,none⟩),.int .i64 (root:Int)] w fun e w'=>e=.returned (.int .i64 (s.commit (t.num+1) root).2)∧ST B p q (s.commit (t.num+1) root).1 (if (s.commit (t.num+1) root).2=0 then t.committed root else t) w'∧Fp B w w':=by
 have HDD:=hide (aDi h hl)
 obtain ⟨hD,gs,hS⟩:=h
 have HO:=hide (fun ww hb=>of_any (root:Int) (hS.later (w':=ww) hb) (by omega))
 have HS:=hide hS
 have HD:=hide hD
 have HTR:=hide (fun ww (h:SV B p q gs t ww)=>h.turn (num:=t.num+1) (root:=root) (by omega) hrl)
 have HW:=hide (fun ww (h1:SV B p q gs t ww) (h2:DI B p s ww) (h3:B≤ww.heap.size)=>write_any (t.num+1) root h1 h2 h3 hd hn2 hlf (by omega) (by omega))
 have q5:((t.num:Int) == 4611686018427387904)=false:=by simp;omega
 have q6:(t.num:Int)<4611686018427387904:=by omega
 generalize hCR:s.commit (t.num+1) root=CR at *
 obtain ⟨s',E⟩:=CR
 clear hCR hnum hS hD
 simp only at HW ⊢
 rcases hr with hr | hr
 ·have q1:((root:Int) != 0)=false:=by simp;omega
  clear hr
  go_enter Tryz.func21,Tryz.ntmps21
  go_wp2_with fail
  refine HDD.out.mono ?_
  rintro e w1 ⟨rfl,hb1⟩
  have HB1:=hide hb1
  clear hb1
  have c3:=(HS.out.later HB1.out).c3
  go_wp2_with fail
  have HB2:=hide (HB1.out.trans ((aAb w1 (.cells #[.int .i64 ((t.num:Int)+1),.int .i64 (root:Int)] 111)).mono HB1.out.size))
  have HBOX:=hide (heap_alloc_new w1 (.cells #[.int .i64 ((t.num:Int)+1),.int .i64 (root:Int)] 111))
  refine (HW.out _ (HS.out.later HB2.out) (HD.out.later HB2.out) (nT hB HB2.out.size)).mono ?_
  rintro e w3 ⟨rfl,hD3,hF3⟩
  have HD3:=hide hD3
  have HS3:=hide ((HS.out.later HB2.out).fr hF3)
  have HF3:=hide ((Fr.of HB2.out hB).trans hF3)
  have HB5:=hide (hF3.stay _ _ _ _ HBOX.out (by decide) (by decide) (by decide) (by decide))
  clear hD3 hF3 c3
  by_cases hE:E=0
  ·subst hE
   have b0:w3.cell? ⟨w1.heap.size,0,none⟩=some (.int .i64 ((t.num:Int)+1)):=aAa HB5.out
   have b1:w3.cell? ⟨w1.heap.size,1,none⟩=some (.int .i64 (root:Int)):=aAa HB5.out
   have y3:=HS3.out.c3
   have y4:=HS3.out.c4
   have f3:=aAc (i:=3) HS3.out.hq
   have f4:=aAc (i:=4) HS3.out.hq
   have HT4:=hide (HTR.out _ HS3.out)
   have HD4:=hide ((HD3.out.other (o:=3) (u:=.int .i64 ((t.num:Int)+1)) HS3.out.hq (by decide) (by decide) (by decide) (by decide) (by decide) (fun e=>(HS3.out.hG q e).1 rfl)).other (o:=4) (u:=.int .i64 (root:Int)) (heap_setCell_same w3 q 3 _ _ _ HS3.out.hq) (by decide) (by decide) (by decide) (by decide) (by decide) (fun e=>(HS3.out.hG q e).1 rfl))
   have HF4:=hide (((Fp.ofFr HF3.out).trans (Fp.set (o:=3) (u:=.int .i64 ((t.num:Int)+1)) HS3.out.hq HS3.out.qB (Or.inl rfl) (fun e=>(HS3.out.hG q e).1 rfl))).trans (Fp.set (o:=4) (u:=.int .i64 (root:Int)) (heap_setCell_same w3 q 3 _ _ _ HS3.out.hq) HS3.out.qB (Or.inl rfl) (fun e=>(HS3.out.hG q e).1 rfl)))
   have HFG:=hide (aBu HT4.out)
   go_wp2_with fail
   refine HFG.out.mono ?_
   rintro e w5 ⟨rfl,hS5,hF5,hD5⟩
   have HS5:=hide hS5
   have HF5:=hide (HF4.out.trans hF5)
   have HD5:=hide (hD5 _ HD4.out)
   clear hS5 hF5 hD5
   go_wp2
   go_ret
   refine ⟨rfl,?_,HF5.out⟩
   exact ⟨HD5.out,gs,HS5.out⟩
  ·have HNE:=hide hE
   have q7:(E != 0)=true:=by simpa using hE
   clear hE q5 q6
   go_wp2
   go_ret
   refine ⟨rfl,?_,Fp.ofFr HF3.out⟩
   exact ⟨HD3.out,gs,HS3.out⟩
 ·by_cases hr0:root=0
  ·have q1:((root:Int) != 0)=false:=by simp;omega
   clear hr hr0
   go_enter Tryz.func21,Tryz.ntmps21
   go_wp2_with fail
   refine HDD.out.mono ?_
   rintro e w1 ⟨rfl,hb1⟩
   have HB1:=hide hb1
   clear hb1
   have c3:=(HS.out.later HB1.out).c3
   go_wp2_with fail
   have HB2:=hide (HB1.out.trans ((aAb w1 (.cells #[.int .i64 ((t.num:Int)+1),.int .i64 (root:Int)] 111)).mono HB1.out.size))
   have HBOX:=hide (heap_alloc_new w1 (.cells #[.int .i64 ((t.num:Int)+1),.int .i64 (root:Int)] 111))
   refine (HW.out _ (HS.out.later HB2.out) (HD.out.later HB2.out) (nT hB HB2.out.size)).mono ?_
   rintro e w3 ⟨rfl,hD3,hF3⟩
   have HD3:=hide hD3
   have HS3:=hide ((HS.out.later HB2.out).fr hF3)
   have HF3:=hide ((Fr.of HB2.out hB).trans hF3)
   have HB5:=hide (hF3.stay _ _ _ _ HBOX.out (by decide) (by decide) (by decide) (by decide))
   clear hD3 hF3 c3
   by_cases hE:E=0
   ·subst hE
    have b0:w3.cell? ⟨w1.heap.size,0,none⟩=some (.int .i64 ((t.num:Int)+1)):=aAa HB5.out
    have b1:w3.cell? ⟨w1.heap.size,1,none⟩=some (.int .i64 (root:Int)):=aAa HB5.out
    have y3:=HS3.out.c3
    have y4:=HS3.out.c4
    have f3:=aAc (i:=3) HS3.out.hq
    have f4:=aAc (i:=4) HS3.out.hq
    have HT4:=hide (HTR.out _ HS3.out)
    have HD4:=hide ((HD3.out.other (o:=3) (u:=.int .i64 ((t.num:Int)+1)) HS3.out.hq (by decide) (by decide) (by decide) (by decide) (by decide) (fun e=>(HS3.out.hG q e).1 rfl)).other (o:=4) (u:=.int .i64 (root:Int)) (heap_setCell_same w3 q 3 _ _ _ HS3.out.hq) (by decide) (by decide) (by decide) (by decide) (by decide) (fun e=>(HS3.out.hG q e).1 rfl))
    have HF4:=hide (((Fp.ofFr HF3.out).trans (Fp.set (o:=3) (u:=.int .i64 ((t.num:Int)+1)) HS3.out.hq HS3.out.qB (Or.inl rfl) (fun e=>(HS3.out.hG q e).1 rfl))).trans (Fp.set (o:=4) (u:=.int .i64 (root:Int)) (heap_setCell_same w3 q 3 _ _ _ HS3.out.hq) HS3.out.qB (Or.inl rfl) (fun e=>(HS3.out.hG q e).1 rfl)))
    have HFG:=hide (aBu HT4.out)
    go_wp2_with fail
    refine HFG.out.mono ?_
    rintro e w5 ⟨rfl,hS5,hF5,hD5⟩
    have HS5:=hide hS5
    have HF5:=hide (HF4.out.trans hF5)
    have HD5:=hide (hD5 _ HD4.out)
    clear hS5 hF5 hD5
    go_wp2
    go_ret
    refine ⟨rfl,?_,HF5.out⟩
    exact ⟨HD5.out,gs,HS5.out⟩
   ·have HNE:=hide hE
    have q7:(E != 0)=true:=by simpa using hE
    clear hE q5 q6
    go_wp2
    go_ret
    refine ⟨rfl,?_,Fp.ofFr HF3.out⟩
    exact ⟨HD3.out,gs,HS3.out⟩
  ·have q1:((root:Int) != 0)=true:=by simp;omega
   rw [hr] at HO
   clear hr hr0
   go_enter Tryz.func21,Tryz.ntmps21
   go_wp2_with fail
   refine HDD.out.mono ?_
   rintro e w1 ⟨rfl,hb1⟩
   have HB1:=hide hb1
   clear hb1
   go_wp2_with fail
   refine (HO.out _ HB1.out).mono ?_
   rintro e w2 ⟨rfl,rfl⟩
   have c3:=(HS.out.later HB1.out).c3
   go_wp2_with fail
   have HB2:=hide (HB1.out.trans ((aAb w2 (.cells #[.int .i64 ((t.num:Int)+1),.int .i64 (root:Int)] 111)).mono HB1.out.size))
   have HBOX:=hide (heap_alloc_new w2 (.cells #[.int .i64 ((t.num:Int)+1),.int .i64 (root:Int)] 111))
   refine (HW.out _ (HS.out.later HB2.out) (HD.out.later HB2.out) (nT hB HB2.out.size)).mono ?_
   rintro e w3 ⟨rfl,hD3,hF3⟩
   have HD3:=hide hD3
   have HS3:=hide ((HS.out.later HB2.out).fr hF3)
   have HF3:=hide ((Fr.of HB2.out hB).trans hF3)
   have HB5:=hide (hF3.stay _ _ _ _ HBOX.out (by decide) (by decide) (by decide) (by decide))
   clear hD3 hF3 c3
   by_cases hE:E=0
   ·subst hE
    have b0:w3.cell? ⟨w2.heap.size,0,none⟩=some (.int .i64 ((t.num:Int)+1)):=aAa HB5.out
    have b1:w3.cell? ⟨w2.heap.size,1,none⟩=some (.int .i64 (root:Int)):=aAa HB5.out
    have y3:=HS3.out.c3
    have y4:=HS3.out.c4
    have f3:=aAc (i:=3) HS3.out.hq
    have f4:=aAc (i:=4) HS3.out.hq
    have HT4:=hide (HTR.out _ HS3.out)
    have HD4:=hide ((HD3.out.other (o:=3) (u:=.int .i64 ((t.num:Int)+1)) HS3.out.hq (by decide) (by decide) (by decide) (by decide) (by decide) (fun e=>(HS3.out.hG q e).1 rfl)).other (o:=4) (u:=.int .i64 (root:Int)) (heap_setCell_same w3 q 3 _ _ _ HS3.out.hq) (by decide) (by decide) (by decide) (by decide) (by decide) (fun e=>(HS3.out.hG q e).1 rfl))
    have HF4:=hide (((Fp.ofFr HF3.out).trans (Fp.set (o:=3) (u:=.int .i64 ((t.num:Int)+1)) HS3.out.hq HS3.out.qB (Or.inl rfl) (fun e=>(HS3.out.hG q e).1 rfl))).trans (Fp.set (o:=4) (u:=.int .i64 (root:Int)) (heap_setCell_same w3 q 3 _ _ _ HS3.out.hq) HS3.out.qB (Or.inl rfl) (fun e=>(HS3.out.hG q e).1 rfl)))
    have HFG:=hide (aBu HT4.out)
    go_wp2_with fail
    refine HFG.out.mono ?_
    rintro e w5 ⟨rfl,hS5,hF5,hD5⟩
    have HS5:=hide hS5
    have HF5:=hide (HF4.out.trans hF5)
    have HD5:=hide (hD5 _ HD4.out)
    clear hS5 hF5 hD5
    go_wp2
    go_ret
    refine ⟨rfl,?_,HF5.out⟩
    exact ⟨HD5.out,gs,HS5.out⟩
   ·have HNE:=hide hE
    have q7:(E != 0)=true:=by simpa using hE
    clear hE q5 q6
    go_wp2
    go_ret
    refine ⟨rfl,?_,Fp.ofFr HF3.out⟩
    exact ⟨HD3.out,gs,HS3.out⟩
end
end Go.Proofs.YtohgmapjokaibaaGreat
