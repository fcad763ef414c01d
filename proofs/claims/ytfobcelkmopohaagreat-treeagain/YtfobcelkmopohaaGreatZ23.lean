import Derived.Test.YtfobcelkmopohaaGreatZ22
import Derived.Test.YtfobcelkmopohaaGreatZ14
set_option maxRecDepth 100000
set_option maxHeartbeats 16000000
set_option linter.unusedVariables false
namespace Go.Proofs.YtfobcelkmopohaaGreat
open Go.RowKit
theorem aGv {s:DS} (hf:¬ s.after=1):s.tick.down=s.down/\s.tick.life=s.life/\s.tick.n=s.n/\s.tick.m=s.m:=by
 refine ⟨?_,?_,(tick_n hf).1,(tick_n hf).2⟩
 ·unfold DS.tick;split
  ·rfl
  ·first | rfl | (rw [if_neg hf];rfl)
 ·unfold DS.tick;split
  ·rfl
  ·first | rfl | (rw [if_neg hf];rfl)
theorem aC0 {s:DS} (hd:s.down=false) (hf:¬ s.after=1):s.flushE=0/\s.flush.down=false/\s.flush.n=s.n/\s.flush.m=0/\s.flush.life=s.life:=by
 have h1:=aGv hf
 have e:s.flush=s.tick.settle 18446744073709551615 (-1) 0:=by unfold DS.flush;rw [hd];simp only [Bool.false_eq_true,if_false];rw [if_neg hf]
 refine ⟨by unfold DS.flushE;rw [hd];simp only [Bool.false_eq_true,if_false];rw [if_neg hf],?_,?_,?_,?_⟩
 ·rw [e];exact h1.1.trans hd
 ·rw [e,aBy];exact h1.2.2.1
 ·rw [e];rfl
 ·rw [e];exact h1.2.1
def DS.commit (s:DS) (num root:Nat):DS×Int :=
 if s.after=1 then (s.flush,20)
 else if s.flush.after=1 then (s.flush.tick,20)
 else ((s.flush.tick.wrote (num % 2) (headB num root)).flush,(s.flush.tick.wrote (num % 2) (headB num root)).flushE)
section
variable {B p q gs:Nat} {s:DS} {t:PS} {w:World}
theorem write_ok_c [Gd] (num root:Nat) (hS:SV B p q gs t w) (hD:DI B p s w) (hB:B<=w.heap.size) (hd:s.down=false) (hn2:2<=s.n) (hlf:s.life<100000) (hf:¬ s.after=1) (hf2:¬ s.flush.after=1) (hn:num<=4611686018427387904) (hr:root<4294967296) :
  Calls Tryz.prog 53 #[.pointer (some ⟨q,0,none⟩),.agg #[.int .i64 (num:Int),.int .i64 (root:Int)]] w fun e w'=>e=.returned (.int .i64 (s.commit num root).2)/\DI B p (s.commit num root).1 w'/\Fr B w w':=by
 have HFF:=zH (aC0 hd hf)
 have HCS:Hid (s.commit num root=((s.flush.tick.wrote (num % 2) (headB num root)).flush,(s.flush.tick.wrote (num % 2) (headB num root)).flushE)):=by
  show _=_
  unfold DS.commit
  rw [if_neg hf,if_neg hf2]
 have HLF2:Hid ((s.flush.tick.wrote (num % 2) (headB num root)).life<100000):=by show s.flush.tick.life<100000;rw [(aGv hf2).2.1,HFF.o.2.2.2.2];exact hlf
 have HHL:=zH (aGc num root)
 have HHB:=zH (aH6 num root)
 have HB0:=zH (aAb w (.cells #[.int .i64 (num:Int),.int .i64 (root:Int)] 111))
 have HF0:=zH (Fr.of HB0.o hB)
 have HBOX:=zH (heap_alloc_new w (.cells #[.int .i64 (num:Int),.int .i64 (root:Int)] 111))
 have HS:=zH (hS.later HB0.o)
 have HD0:=zH (hD.later HB0.o)
 have c1:=HS.o.c1
 have HFL:=zH (aEj B p s _ HD0.o (nT hB HB0.o.size) hlf)
 rw [HFF.o.1] at HFL
 generalize s.commit num root=CR at *
 clear hS hD
 go_enter Tryz.func53,Tryz.ntmps53
 go_wp2_with fail
 refine HFL.o.mono ?_
 rintro e w2 ⟨rfl,hD2,hF2⟩
 have HD2:=zH hD2
 have HF2:=zH hF2
 have HX2:Hid ((fun wx=>wx.cell? ⟨q,1,none⟩=some (.pointer (some ⟨p,0,none⟩))/\wx.cell? ⟨w.heap.size,0,none⟩=some (.int .i64 (num:Int))/\wx.cell? ⟨w.heap.size,1,none⟩=some (.int .i64 (root:Int))) w2):=⟨(HS.o.fr hF2).c1,aAa (hF2.stay _ _ _ _ HBOX.o (by decide) (by decide) (by decide) (by decide)),aAa (hF2.stay _ _ _ _ HBOX.o (by decide) (by decide) (by decide) (by decide))⟩
 have HBZ:=zH (nT hB (nT HB0.o.size hF2.bel.size))
 clear hD2 hF2 c1
 go_wp2_with fail
 refine wp_region_noPanic ?_
 refine wp_region_held_drew (S:=fun wx=>wx.cell? ⟨q,1,none⟩=some (.pointer (some ⟨p,0,none⟩))/\wx.cell? ⟨w.heap.size,0,none⟩=some (.int .i64 (num:Int))/\wx.cell? ⟨w.heap.size,1,none⟩=some (.int .i64 (root:Int))) (by kernel_rfl) HX2.o (fun hHeld=>?_)
 refine kT 0 15 ?_
 refine kT 1 16 ?_
 refine kT 2 17 ?_
 refine kT 3 18 ?_
 refine kT 4 19 ?_
 refine kT 6 21 ?_
 refine kC 5 ?_;intro K hK
 go_simp
 refine (aA8 num root _ hn).mono ?_
 rintro e w3 ⟨rfl,hb⟩
 have HB3:=zH (((Below.refl _ w2).drew).trans (hb.mono (nR _)))
 have HX3:Hid ((fun wx=>wx.cell? ⟨q,1,none⟩=some (.pointer (some ⟨p,0,none⟩))/\wx.cell? ⟨w.heap.size,0,none⟩=some (.int .i64 (num:Int))/\wx.cell? ⟨w.heap.size,1,none⟩=some (.int .i64 (root:Int))) w3):=⟨(HB3.o.cell (aAi HX2.o.1)).trans HX2.o.1,(HB3.o.cell (aAi HX2.o.2.1)).trans HX2.o.2.1,(HB3.o.cell (aAi HX2.o.2.2)).trans HX2.o.2.2⟩
 clear hb hHeld
 refine hK.out _ _ HX3.o (fun hHeld=>?_)
 clear hK K
 try simp only [Act.put,siT,scZ,scS]
 refine kC 7 ?_;intro K hK
 go_simp
 refine (aCz num root _ hn hr).mono ?_
 rintro e w4 ⟨v9,rfl,ho,hb⟩
 have HB4:=zH (HB3.o.trans (hb.mono HB3.o.size))
 have HX4:Hid ((fun wx=>wx.cell? ⟨q,1,none⟩=some (.pointer (some ⟨p,0,none⟩))/\wx.cell? ⟨w.heap.size,0,none⟩=some (.int .i64 (num:Int))/\wx.cell? ⟨w.heap.size,1,none⟩=some (.int .i64 (root:Int))) w4):=⟨(HB4.o.cell (aAi HX2.o.1)).trans HX2.o.1,(HB4.o.cell (aAi HX2.o.2.1)).trans HX2.o.2.1,(HB4.o.cell (aAi HX2.o.2.2)).trans HX2.o.2.2⟩
 have HO4:=zH (aBo ho (nT HBZ.o HB3.o.size))
 clear hb ho hHeld
 refine hK.out _ _ HX4.o (fun hHeld=>?_)
 clear hK K
 try simp only [Act.put,siT,scZ,scS]
 refine kC 8 ?_;intro K hK
 obtain ⟨a9,c9,rfl,B9⟩:=aCv (xs:=headB num root) (by rw [HHL.o];exact HO4.o) (by rw [HHL.o];omega) HHB.o
 have HBS9:=zH B9
 clear B9
 rw [HHL.o]
 rw [HHL.o] at HBS9
 go_simp
 refine (write_ok B p s.flush (num % 2) a9 20 c9 (headB num root) w4 (HD2.o.later HB4.o) (nT HBZ.o HB4.o.size) HFF.o.2.1 (by rw [HFF.o.2.2.1];omega) hf2 (by rw [HFF.o.2.2.2.2];exact hlf) (by rw [HFF.o.2.2.2.1];omega) (by rw [HHL.o];unfold blk;omega) HHB.o HHL.o ?_).mono ?_
 ·intro ww f
  obtain ⟨a8,c8,e8,B8⟩:=aCv (xs:=headB num root) (f.row (by rw [HHL.o];exact HO4.o) (by decide) (by decide) (by decide) (by decide)) (by rw [HHL.o];omega) HHB.o
  rw [HHL.o] at e8 B8
  simp only [Value.slice.injEq] at e8
  obtain ⟨rfl,_,rfl⟩:=e8
  exact B8
 rintro e w5 ⟨rfl,hD5,hF5⟩
 have HF5:=zH (HF2.o.trans ((Fr.of HB4.o HBZ.o).trans hF5))
 have HD5:=zH hD5
 have HS5:=zH (HS.o.fr HF5.o)
 have HX5:Hid ((fun wx=>wx.cell? ⟨q,1,none⟩=some (.pointer (some ⟨p,0,none⟩))/\wx.cell? ⟨w.heap.size,0,none⟩=some (.int .i64 (num:Int))/\wx.cell? ⟨w.heap.size,1,none⟩=some (.int .i64 (root:Int))) w5):=⟨HS5.o.c1,aAa (HF5.o.stay _ _ _ _ HBOX.o (by decide) (by decide) (by decide) (by decide)),aAa (HF5.o.stay _ _ _ _ HBOX.o (by decide) (by decide) (by decide) (by decide))⟩
 clear hD5 hF5 hHeld
 refine hK.out _ _ HX5.o (fun hHeld=>?_)
 clear hK K
 try simp only [Act.put,siT,scZ,scS]
 refine kT 9 6 ?_
 refine wpAnyH_done (by kernel_rfl) ?_ _
 refine NoPanic.normal ?_
 have c1:=HX5.o.1
 have HFL:=zH (aEj B p _ w5 HD5.o (nT hB (nT HB0.o.size HF5.o.bel.size)) HLF2.o)
 go_wp2_with fail
 refine HFL.o.mono ?_
 rintro e w6 ⟨rfl,hD6,hF6⟩
 have HD6:=zH hD6
 have HF6:=zH (HF5.o.trans hF6)
 clear hD6 hF6
 go_wp2
 go_ret
 rw [HCS.o]
 exact ⟨rfl,HD6.o,HF0.o.trans HF6.o⟩
theorem write_no_c [Gd] (num root:Nat) (hS:SV B p q gs t w) (hD:DI B p s w) (hB:B<=w.heap.size) (hd:s.down=false) (hn2:2<=s.n) (hlf:s.life<100000) (hf:¬ s.after=1) (hf2:s.flush.after=1) (hn:num<=4611686018427387904) (hr:root<4294967296) :
  Calls Tryz.prog 53 #[.pointer (some ⟨q,0,none⟩),.agg #[.int .i64 (num:Int),.int .i64 (root:Int)]] w fun e w'=>e=.returned (.int .i64 (s.commit num root).2)/\DI B p (s.commit num root).1 w'/\Fr B w w':=by
 have HFF:=zH (aC0 hd hf)
 have HCS:Hid (s.commit num root=(s.flush.tick,20)):=by
  show _=_
  unfold DS.commit
  rw [if_neg hf,if_pos hf2]
 skip
 have HHL:=zH (aGc num root)
 have HHB:=zH (aH6 num root)
 have HB0:=zH (aAb w (.cells #[.int .i64 (num:Int),.int .i64 (root:Int)] 111))
 have HF0:=zH (Fr.of HB0.o hB)
 have HBOX:=zH (heap_alloc_new w (.cells #[.int .i64 (num:Int),.int .i64 (root:Int)] 111))
 have HS:=zH (hS.later HB0.o)
 have HD0:=zH (hD.later HB0.o)
 have c1:=HS.o.c1
 have HFL:=zH (aEj B p s _ HD0.o (nT hB HB0.o.size) hlf)
 rw [HFF.o.1] at HFL
 generalize s.commit num root=CR at *
 clear hS hD
 go_enter Tryz.func53,Tryz.ntmps53
 go_wp2_with fail
 refine HFL.o.mono ?_
 rintro e w2 ⟨rfl,hD2,hF2⟩
 have HD2:=zH hD2
 have HF2:=zH hF2
 have HX2:Hid ((fun wx=>wx.cell? ⟨q,1,none⟩=some (.pointer (some ⟨p,0,none⟩))/\wx.cell? ⟨w.heap.size,0,none⟩=some (.int .i64 (num:Int))/\wx.cell? ⟨w.heap.size,1,none⟩=some (.int .i64 (root:Int))) w2):=⟨(HS.o.fr hF2).c1,aAa (hF2.stay _ _ _ _ HBOX.o (by decide) (by decide) (by decide) (by decide)),aAa (hF2.stay _ _ _ _ HBOX.o (by decide) (by decide) (by decide) (by decide))⟩
 have HBZ:=zH (nT hB (nT HB0.o.size hF2.bel.size))
 clear hD2 hF2 c1
 go_wp2_with fail
 refine wp_region_noPanic ?_
 refine wp_region_held_drew (S:=fun wx=>wx.cell? ⟨q,1,none⟩=some (.pointer (some ⟨p,0,none⟩))/\wx.cell? ⟨w.heap.size,0,none⟩=some (.int .i64 (num:Int))/\wx.cell? ⟨w.heap.size,1,none⟩=some (.int .i64 (root:Int))) (by kernel_rfl) HX2.o (fun hHeld=>?_)
 refine kT 0 15 ?_
 refine kT 1 16 ?_
 refine kT 2 17 ?_
 refine kT 3 18 ?_
 refine kT 4 19 ?_
 refine kT 6 21 ?_
 refine kC 5 ?_;intro K hK
 go_simp
 refine (aA8 num root _ hn).mono ?_
 rintro e w3 ⟨rfl,hb⟩
 have HB3:=zH (((Below.refl _ w2).drew).trans (hb.mono (nR _)))
 have HX3:Hid ((fun wx=>wx.cell? ⟨q,1,none⟩=some (.pointer (some ⟨p,0,none⟩))/\wx.cell? ⟨w.heap.size,0,none⟩=some (.int .i64 (num:Int))/\wx.cell? ⟨w.heap.size,1,none⟩=some (.int .i64 (root:Int))) w3):=⟨(HB3.o.cell (aAi HX2.o.1)).trans HX2.o.1,(HB3.o.cell (aAi HX2.o.2.1)).trans HX2.o.2.1,(HB3.o.cell (aAi HX2.o.2.2)).trans HX2.o.2.2⟩
 clear hb hHeld
 refine hK.out _ _ HX3.o (fun hHeld=>?_)
 clear hK K
 try simp only [Act.put,siT,scZ,scS]
 refine kC 7 ?_;intro K hK
 go_simp
 refine (aCz num root _ hn hr).mono ?_
 rintro e w4 ⟨v9,rfl,ho,hb⟩
 have HB4:=zH (HB3.o.trans (hb.mono HB3.o.size))
 have HX4:Hid ((fun wx=>wx.cell? ⟨q,1,none⟩=some (.pointer (some ⟨p,0,none⟩))/\wx.cell? ⟨w.heap.size,0,none⟩=some (.int .i64 (num:Int))/\wx.cell? ⟨w.heap.size,1,none⟩=some (.int .i64 (root:Int))) w4):=⟨(HB4.o.cell (aAi HX2.o.1)).trans HX2.o.1,(HB4.o.cell (aAi HX2.o.2.1)).trans HX2.o.2.1,(HB4.o.cell (aAi HX2.o.2.2)).trans HX2.o.2.2⟩
 have HO4:=zH (aBo ho (nT HBZ.o HB3.o.size))
 clear hb ho hHeld
 refine hK.out _ _ HX4.o (fun hHeld=>?_)
 clear hK K
 try simp only [Act.put,siT,scZ,scS]
 refine kC 8 ?_;intro K hK
 obtain ⟨a9,c9,rfl,B9⟩:=aCv (xs:=headB num root) (by rw [HHL.o];exact HO4.o) (by rw [HHL.o];omega) HHB.o
 have HBS9:=zH B9
 clear B9
 rw [HHL.o]
 rw [HHL.o] at HBS9
 go_simp
 refine (write_fails B p s.flush ((num % 2:Nat):Int) a9 20 c9 w4 (HD2.o.later HB4.o) (nT HBZ.o HB4.o.size) HFF.o.2.1 ⟨by omega,by rw [HFF.o.2.2.1];omega⟩ (by unfold blk;omega) hf2 (by rw [HFF.o.2.2.2.2];exact hlf)).mono ?_
 rintro e w5 ⟨rfl,hD5,hF5⟩
 have HF5:=zH (HF2.o.trans ((Fr.of HB4.o HBZ.o).trans hF5))
 have HD5:=zH hD5
 have HS5:=zH (HS.o.fr HF5.o)
 have HX5:Hid ((fun wx=>wx.cell? ⟨q,1,none⟩=some (.pointer (some ⟨p,0,none⟩))/\wx.cell? ⟨w.heap.size,0,none⟩=some (.int .i64 (num:Int))/\wx.cell? ⟨w.heap.size,1,none⟩=some (.int .i64 (root:Int))) w5):=⟨HS5.o.c1,aAa (HF5.o.stay _ _ _ _ HBOX.o (by decide) (by decide) (by decide) (by decide)),aAa (HF5.o.stay _ _ _ _ HBOX.o (by decide) (by decide) (by decide) (by decide))⟩
 clear hD5 hF5 hHeld
 refine hK.out _ _ HX5.o (fun hHeld=>?_)
 clear hK K
 try simp only [Act.put,siT,scZ,scS]
 refine kT 9 6 ?_
 refine wpAnyH_done (by kernel_rfl) ?_ _
 refine NoPanic.normal ?_
 go_wp2
 go_ret
 rw [HCS.o]
 exact ⟨rfl,HD5.o,HF0.o.trans HF5.o⟩
end
def PS.turn (t:PS) (num root:Nat):PS:={ t with num:=num,root:=root }
section
variable {B p q gs:Nat} {s:DS} {t:PS} {w:World}
theorem SV.turn [Gd] (h:SV B p q gs t w) {num root:Nat} (hn:num<=4611686018427387904) (hr:root<=4096):SV B p q gs (t.turn num root) ((w.setCell ⟨q,3,none⟩ (.int .i64 (num:Int))).setCell ⟨q,4,none⟩ (.int .i64 (root:Int))):=by
 refine ⟨?_,?_,h.qB,h.gB,⟨h.ok.sl,h.ok.sb,hn,hr⟩,h.hG⟩
 ·rw [heap_setCell_same _ q 4 _ _ _ (heap_setCell_same w q 3 _ _ _ h.hq)]
  rfl
 ·rw [heap_setCell_other _ _ _ _ h.ne.symm,heap_setCell_other _ _ _ _ h.ne.symm]
  exact h.hs
theorem commit_low {num root:Nat} (hd:s.down=false) (h:s.after=1):s.commit num root=(s.flush,20)/\s.flushE=20:=by
 refine ⟨by unfold DS.commit;rw [if_pos h],by unfold DS.flushE;rw [hd];simp only [Bool.false_eq_true,if_false];rw [if_pos h]⟩
theorem write_any [Gd] (num root:Nat) (hS:SV B p q gs t w) (hD:DI B p s w) (hB:B<=w.heap.size) (hd:s.down=false) (hn2:2<=s.n) (hlf:s.life<100000) (hn:num<=4611686018427387904) (hr:root<4294967296) :
  Calls Tryz.prog 53 #[.pointer (some ⟨q,0,none⟩),.agg #[.int .i64 (num:Int),.int .i64 (root:Int)]] w fun e w'=>e=.returned (.int .i64 (s.commit num root).2)/\DI B p (s.commit num root).1 w'/\Fr B w w':=by
 by_cases hf:s.after=1
 ·obtain ⟨e1,e2⟩:=commit_low (num:=num) (root:=root) hd hf
  rw [e1]
  have HB0:=zH (aAb w (.cells #[.int .i64 (num:Int),.int .i64 (root:Int)] 111))
  have HF0:=zH (Fr.of HB0.o hB)
  have c1:=(hS.later HB0.o).c1
  have HFL:=zH (aEj B p s _ (hD.later HB0.o) (nT hB HB0.o.size) hlf)
  rw [e2] at HFL
  clear hS hD e1 e2
  go_enter Tryz.func53,Tryz.ntmps53
  go_wp2_with fail
  refine HFL.o.mono ?_
  rintro e w2 ⟨rfl,hD2,hF2⟩
  have HD2:=zH hD2
  have HF2:=zH hF2
  clear hD2 hF2
  go_wp2
  go_ret
  exact ⟨rfl,HD2.o,HF0.o.trans HF2.o⟩
 ·by_cases hf2:s.flush.after=1
  ·exact write_no_c num root hS hD hB hd hn2 hlf hf hf2 hn hr
  ·exact write_ok_c num root hS hD hB hd hn2 hlf hf hf2 hn hr
def PS.committed (t:PS) (root:Nat):PS:=⟨backF t.st,t.life,t.num+1,root⟩
theorem commit_any [Gd] (root:Nat) (h:ST B p q s t w) (hB:B<=w.heap.size) (hl:s.life=t.life) (hd:s.down=false) (hn2:2<=s.n) (hlf:s.life<100000) (hr:root=0\/t.of (root:Int)=2) (hrl:root<=4096) (hnum:t.num<4611686018427387904) :
  Calls Tryz.prog 23 #[.pointer (some ⟨q,0,none⟩),.int .i64 (root:Int)] w fun e w'=>e=.returned (.int .i64 (s.commit (t.num+1) root).2)/\ST B p q (s.commit (t.num+1) root).1 (if (s.commit (t.num+1) root).2=0 then t.committed root else t) w'/\Fp B w w':=by
 have HDD:=zH (aDn h hl)
 obtain ⟨hD,gs,hS⟩:=h
 have HO:=zH (fun ww hb=>of_any (root:Int) (hS.later (w':=ww) hb) (by omega))
 have HS:=zH hS
 have HD:=zH hD
 have HTR:=zH (fun ww (h:SV B p q gs t ww)=>h.turn (num:=t.num+1) (root:=root) (by omega) hrl)
 have HW:=zH (fun ww (h1:SV B p q gs t ww) (h2:DI B p s ww) (h3:B<=ww.heap.size)=>write_any (t.num+1) root h1 h2 h3 hd hn2 hlf (by omega) (by omega))
 have q5:((t.num:Int) == 4611686018427387904)=false:=by simp;omega
 have q6:(t.num:Int)<4611686018427387904:=by omega
 generalize hCR:s.commit (t.num+1) root=CR at *
 obtain ⟨s',E⟩:=CR
 clear hCR hnum hS hD
 simp only at HW ⊢
 rcases hr with hr | hr
 ·have q1:((root:Int) != 0)=false:=by simp;omega
  clear hr
  go_enter Tryz.func23,Tryz.ntmps23
  go_wp2_with fail
  refine HDD.o.mono ?_
  rintro e w1 ⟨rfl,hb1⟩
  have HB1:=zH hb1
  clear hb1
  have c3:=(HS.o.later HB1.o).c3
  go_wp2_with fail
  have HB2:=zH (HB1.o.trans ((aAb w1 (.cells #[.int .i64 ((t.num:Int)+1),.int .i64 (root:Int)] 111)).mono HB1.o.size))
  have HBOX:=zH (heap_alloc_new w1 (.cells #[.int .i64 ((t.num:Int)+1),.int .i64 (root:Int)] 111))
  refine (HW.o _ (HS.o.later HB2.o) (HD.o.later HB2.o) (nT hB HB2.o.size)).mono ?_
  rintro e w3 ⟨rfl,hD3,hF3⟩
  have HD3:=zH hD3
  have HS3:=zH ((HS.o.later HB2.o).fr hF3)
  have HF3:=zH ((Fr.of HB2.o hB).trans hF3)
  have HB5:=zH (hF3.stay _ _ _ _ HBOX.o (by decide) (by decide) (by decide) (by decide))
  clear hD3 hF3 c3
  by_cases hE:E=0
  ·subst hE
   have b0:w3.cell? ⟨w1.heap.size,0,none⟩=some (.int .i64 ((t.num:Int)+1)):=aAa HB5.o
   have b1:w3.cell? ⟨w1.heap.size,1,none⟩=some (.int .i64 (root:Int)):=aAa HB5.o
   have y3:=HS3.o.c3
   have y4:=HS3.o.c4
   have f3:=aAc (i:=3) HS3.o.hq
   have f4:=aAc (i:=4) HS3.o.hq
   have HT4:=zH (HTR.o _ HS3.o)
   have HD4:=zH ((HD3.o.other (o:=3) (u:=.int .i64 ((t.num:Int)+1)) HS3.o.hq (by decide) (by decide) (by decide) (by decide) (by decide) (fun e=>(HS3.o.hG q e).1 rfl)).other (o:=4) (u:=.int .i64 (root:Int)) (heap_setCell_same w3 q 3 _ _ _ HS3.o.hq) (by decide) (by decide) (by decide) (by decide) (by decide) (fun e=>(HS3.o.hG q e).1 rfl))
   have HF4:=zH (((Fp.ofFr HF3.o).trans (Fp.set (o:=3) (u:=.int .i64 ((t.num:Int)+1)) HS3.o.hq HS3.o.qB (Or.inl rfl) (fun e=>(HS3.o.hG q e).1 rfl))).trans (Fp.set (o:=4) (u:=.int .i64 (root:Int)) (heap_setCell_same w3 q 3 _ _ _ HS3.o.hq) HS3.o.qB (Or.inl rfl) (fun e=>(HS3.o.hG q e).1 rfl)))
   have HFG:=zH (aBu HT4.o)
   go_wp2_with fail
   refine HFG.o.mono ?_
   rintro e w5 ⟨rfl,hS5,hF5,hD5⟩
   have HS5:=zH hS5
   have HF5:=zH (HF4.o.trans hF5)
   have HD5:=zH (hD5 _ HD4.o)
   clear hS5 hF5 hD5
   go_wp2
   go_ret
   refine ⟨rfl,?_,HF5.o⟩
   exact ⟨HD5.o,gs,HS5.o⟩
  ·have HNE:=zH hE
   have q7:(E != 0)=true:=by simpa using hE
   clear hE q5 q6
   go_wp2
   go_ret
   refine ⟨rfl,?_,Fp.ofFr HF3.o⟩
   exact ⟨HD3.o,gs,HS3.o⟩
 ·by_cases hr0:root=0
  ·have q1:((root:Int) != 0)=false:=by simp;omega
   clear hr hr0
   go_enter Tryz.func23,Tryz.ntmps23
   go_wp2_with fail
   refine HDD.o.mono ?_
   rintro e w1 ⟨rfl,hb1⟩
   have HB1:=zH hb1
   clear hb1
   have c3:=(HS.o.later HB1.o).c3
   go_wp2_with fail
   have HB2:=zH (HB1.o.trans ((aAb w1 (.cells #[.int .i64 ((t.num:Int)+1),.int .i64 (root:Int)] 111)).mono HB1.o.size))
   have HBOX:=zH (heap_alloc_new w1 (.cells #[.int .i64 ((t.num:Int)+1),.int .i64 (root:Int)] 111))
   refine (HW.o _ (HS.o.later HB2.o) (HD.o.later HB2.o) (nT hB HB2.o.size)).mono ?_
   rintro e w3 ⟨rfl,hD3,hF3⟩
   have HD3:=zH hD3
   have HS3:=zH ((HS.o.later HB2.o).fr hF3)
   have HF3:=zH ((Fr.of HB2.o hB).trans hF3)
   have HB5:=zH (hF3.stay _ _ _ _ HBOX.o (by decide) (by decide) (by decide) (by decide))
   clear hD3 hF3 c3
   by_cases hE:E=0
   ·subst hE
    have b0:w3.cell? ⟨w1.heap.size,0,none⟩=some (.int .i64 ((t.num:Int)+1)):=aAa HB5.o
    have b1:w3.cell? ⟨w1.heap.size,1,none⟩=some (.int .i64 (root:Int)):=aAa HB5.o
    have y3:=HS3.o.c3
    have y4:=HS3.o.c4
    have f3:=aAc (i:=3) HS3.o.hq
    have f4:=aAc (i:=4) HS3.o.hq
    have HT4:=zH (HTR.o _ HS3.o)
    have HD4:=zH ((HD3.o.other (o:=3) (u:=.int .i64 ((t.num:Int)+1)) HS3.o.hq (by decide) (by decide) (by decide) (by decide) (by decide) (fun e=>(HS3.o.hG q e).1 rfl)).other (o:=4) (u:=.int .i64 (root:Int)) (heap_setCell_same w3 q 3 _ _ _ HS3.o.hq) (by decide) (by decide) (by decide) (by decide) (by decide) (fun e=>(HS3.o.hG q e).1 rfl))
    have HF4:=zH (((Fp.ofFr HF3.o).trans (Fp.set (o:=3) (u:=.int .i64 ((t.num:Int)+1)) HS3.o.hq HS3.o.qB (Or.inl rfl) (fun e=>(HS3.o.hG q e).1 rfl))).trans (Fp.set (o:=4) (u:=.int .i64 (root:Int)) (heap_setCell_same w3 q 3 _ _ _ HS3.o.hq) HS3.o.qB (Or.inl rfl) (fun e=>(HS3.o.hG q e).1 rfl)))
    have HFG:=zH (aBu HT4.o)
    go_wp2_with fail
    refine HFG.o.mono ?_
    rintro e w5 ⟨rfl,hS5,hF5,hD5⟩
    have HS5:=zH hS5
    have HF5:=zH (HF4.o.trans hF5)
    have HD5:=zH (hD5 _ HD4.o)
    clear hS5 hF5 hD5
    go_wp2
    go_ret
    refine ⟨rfl,?_,HF5.o⟩
    exact ⟨HD5.o,gs,HS5.o⟩
   ·have HNE:=zH hE
    have q7:(E != 0)=true:=by simpa using hE
    clear hE q5 q6
    go_wp2
    go_ret
    refine ⟨rfl,?_,Fp.ofFr HF3.o⟩
    exact ⟨HD3.o,gs,HS3.o⟩
  ·have q1:((root:Int) != 0)=true:=by simp;omega
   rw [hr] at HO
   clear hr hr0
   go_enter Tryz.func23,Tryz.ntmps23
   go_wp2_with fail
   refine HDD.o.mono ?_
   rintro e w1 ⟨rfl,hb1⟩
   have HB1:=zH hb1
   clear hb1
   go_wp2_with fail
   refine (HO.o _ HB1.o).mono ?_
   rintro e w2 ⟨rfl,rfl⟩
   have c3:=(HS.o.later HB1.o).c3
   go_wp2_with fail
   have HB2:=zH (HB1.o.trans ((aAb w2 (.cells #[.int .i64 ((t.num:Int)+1),.int .i64 (root:Int)] 111)).mono HB1.o.size))
   have HBOX:=zH (heap_alloc_new w2 (.cells #[.int .i64 ((t.num:Int)+1),.int .i64 (root:Int)] 111))
   refine (HW.o _ (HS.o.later HB2.o) (HD.o.later HB2.o) (nT hB HB2.o.size)).mono ?_
   rintro e w3 ⟨rfl,hD3,hF3⟩
   have HD3:=zH hD3
   have HS3:=zH ((HS.o.later HB2.o).fr hF3)
   have HF3:=zH ((Fr.of HB2.o hB).trans hF3)
   have HB5:=zH (hF3.stay _ _ _ _ HBOX.o (by decide) (by decide) (by decide) (by decide))
   clear hD3 hF3 c3
   by_cases hE:E=0
   ·subst hE
    have b0:w3.cell? ⟨w2.heap.size,0,none⟩=some (.int .i64 ((t.num:Int)+1)):=aAa HB5.o
    have b1:w3.cell? ⟨w2.heap.size,1,none⟩=some (.int .i64 (root:Int)):=aAa HB5.o
    have y3:=HS3.o.c3
    have y4:=HS3.o.c4
    have f3:=aAc (i:=3) HS3.o.hq
    have f4:=aAc (i:=4) HS3.o.hq
    have HT4:=zH (HTR.o _ HS3.o)
    have HD4:=zH ((HD3.o.other (o:=3) (u:=.int .i64 ((t.num:Int)+1)) HS3.o.hq (by decide) (by decide) (by decide) (by decide) (by decide) (fun e=>(HS3.o.hG q e).1 rfl)).other (o:=4) (u:=.int .i64 (root:Int)) (heap_setCell_same w3 q 3 _ _ _ HS3.o.hq) (by decide) (by decide) (by decide) (by decide) (by decide) (fun e=>(HS3.o.hG q e).1 rfl))
    have HF4:=zH (((Fp.ofFr HF3.o).trans (Fp.set (o:=3) (u:=.int .i64 ((t.num:Int)+1)) HS3.o.hq HS3.o.qB (Or.inl rfl) (fun e=>(HS3.o.hG q e).1 rfl))).trans (Fp.set (o:=4) (u:=.int .i64 (root:Int)) (heap_setCell_same w3 q 3 _ _ _ HS3.o.hq) HS3.o.qB (Or.inl rfl) (fun e=>(HS3.o.hG q e).1 rfl)))
    have HFG:=zH (aBu HT4.o)
    go_wp2_with fail
    refine HFG.o.mono ?_
    rintro e w5 ⟨rfl,hS5,hF5,hD5⟩
    have HS5:=zH hS5
    have HF5:=zH (HF4.o.trans hF5)
    have HD5:=zH (hD5 _ HD4.o)
    clear hS5 hF5 hD5
    go_wp2
    go_ret
    refine ⟨rfl,?_,HF5.o⟩
    exact ⟨HD5.o,gs,HS5.o⟩
   ·have HNE:=zH hE
    have q7:(E != 0)=true:=by simpa using hE
    clear hE q5 q6
    go_wp2
    go_ret
    refine ⟨rfl,?_,Fp.ofFr HF3.o⟩
    exact ⟨HD3.o,gs,HS3.o⟩
end
end Go.Proofs.YtfobcelkmopohaaGreat
