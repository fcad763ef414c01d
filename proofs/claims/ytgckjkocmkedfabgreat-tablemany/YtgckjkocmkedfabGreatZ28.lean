import Derived.Test.YtgckjkocmkedfabGreatZ25
import Derived.Test.YtgckjkocmkedfabGreatZ2
import Derived.BigQuiet
set_option maxRecDepth 100000
set_option maxHeartbeats 16000000
set_option linter.unusedVariables false
namespace Go.Proofs.YtgckjkocmkedfabGreat
open Go.RowKit
structure RD (B:Nat) (w:World) (g:Nat) (a:Option Addr) (n c:Nat) (xs:List Nat) (p:Nat):Prop where
 hr:w.heap[g]?=some (.cells #[.slice a n c,.int .i64 (p:Int)] 394 (0,0))
 hb:BK B w a n c xs
 hB:B≤g
def On (g:Nat) (w w':World):Prop:=Below g w w'∧∀ k,k<w.heap.size→k≠g→w'.heap[k]?=w.heap[k]?
theorem On.trans {g:Nat} {a b c:World} (h:On g a b) (k:On g b c):On g a c:=⟨h.1.trans k.1,fun i hi hg=>(k.2 i (Nat.lt_of_lt_of_le hi h.1.size) hg).trans (h.2 i hi hg)⟩
theorem On.of {g:Nat} {w w':World} (hg:g≤w.heap.size) (h:Below w.heap.size w w'):On g w w':=⟨h.mono hg,fun i hi _=>h.block i hi⟩
theorem On.set {g o:Nat} {w:World} {u:Value}:On g w (w.setCell ⟨g,o,none⟩ u):=⟨(Below.refl g w).setCell (p:=⟨g,o,none⟩) (nR g) u,fun k _ hk=>heap_setCell_other _ _ _ _ hk⟩
theorem On.ft {B g:Nat} {w w':World} {cs:Array Value} {t:TypeId} (h:On g w w') (hB:B≤g) (hg:w.heap[g]?=some (.cells cs t (0,0))) (ht:t≠5):FT B w w':=by
 refine ⟨h.1.mono hB,fun k cs' fz e=>?_⟩
 rw [h.2 k (lO e) ?_,e]
 intro q
 subst q
 rw [hg] at e
 simp only [oI,cI] at e
 exact ht e.2.1
theorem ru_at {pre rest:List Nat} {k:Nat} (hk:k<9223372036854775808):ruN (pre++(enc k++rest)) (pre.length:Int)=k∧ruP (pre++(enc k++rest)) (pre.length:Int)=pre.length+grp k∧ruE (pre++(enc k++rest)) (pre.length:Int)=0:=by
 have h:=rd_enc k hk pre rest
 have c:(0:Int)≤(pre.length:Int)∧(pre.length:Int)≤((pre++(enc k++rest)).length:Nat):=by simp only [lA];omega
 unfold ruN ruP ruE rdNext
 rw [if_pos c,if_pos c,if_pos c,Int.toNat_natCast,h]
 simp
theorem rb_at {pre rest xs:List Nat} {most:Nat} (hk:xs.length≤most) (hm:most<9223372036854775808):rbE (pre++(enc xs.length++(xs++rest))) (pre.length:Int) (most:Int)=0∧rbS (pre++(enc xs.length++(xs++rest))) (pre.length:Int) (most:Int)=xs∧rbP (pre++(enc xs.length++(xs++rest))) (pre.length:Int) (most:Int)=pre.length+grp xs.length+xs.length:=by
 obtain ⟨h1,h2,h3⟩:=@ru_at pre (xs++rest) xs.length (by omega)
 obtain ⟨g1,-⟩:=aAp xs.length (by omega)
 have hl:=aAo xs.length (by omega)
 have e:rbE (pre++(enc xs.length++(xs++rest))) (pre.length:Int) (most:Int)=0:=by
  unfold rbE
  rw [h1,h2,h3]
  simp only [ne_eq,not_true_eq_false,if_false]
  rw [if_neg (by omega),if_neg (by omega),if_neg (by simp only [lA,hl];omega)]
 unfold rbS rbP
 rw [if_pos e,if_pos e,h1,h2]
 refine ⟨e,?_,rfl⟩
 rw [show pre++(enc xs.length++(xs++rest))=(pre++enc xs.length)++(xs++rest) by simp,List.drop_left' (by rw [lA,hl]),List.take_left' rfl]
theorem number_ok {B:Nat} {w:World} {g:Nat} {a:Option Addr} {n c:Nat} {pre rest:List Nat} {k:Nat} (h:RD B w g a n c (pre++(enc k++rest)) pre.length) (hk:k<9223372036854775808) :
  Calls Tryz.prog 278 #[.pointer (some ⟨g,0,none⟩)] w fun e w'=>e=.returned (.int .i64 (k:Int))∧RD B w' g a n c (pre++(enc k++rest)) (pre.length+grp k)∧On g w w':=by
 obtain ⟨h1,h2,h3⟩:=@ru_at pre rest k hk
 have HR:=hide h.hr
 have HB:=hide h.hb
 have HGB:=hide h.hB
 have r0:w.cell? ⟨g,0,none⟩=some (.slice a n c):=aAc h.hr
 have r1:w.cell? ⟨g,1,none⟩=some (.int .i64 (pre.length:Int)):=aAc h.hr
 have HQ:Hid (∀ nn,Calls Tryz.prog 192 #[.slice a n c,.int .i64 (pre.length:Int)] (w.drewN nn) fun e w'=>e=.returned (.tuple #[.int .i64 (k:Int),.int .i64 ((pre.length+grp k:Nat):Int),.int .i64 0])∧∃ m,w'=(w.drewN nn).drewN m):=by
  intro nn
  refine (aBt a n c (pre++(enc k++rest)) pre.length (w.drewN nn) (h.hb.1.later (below_drewN (Below.refl _ _) nn) (nR _))).mono ?_
  rintro e w' ⟨rfl,rfl⟩
  rw [h1,h2,h3]
  exact ⟨rfl,0,rfl⟩
 have f1:w.frozen? ⟨g,1,none⟩=false:=aAj h.hr
 generalize hP:((pre.length+grp k:Nat))=P at *
 have HPP:=hide hP
 clear h h1 h2 h3 hP
 generalize hp:pre.length=p at *
 generalize pre++(enc k++rest)=xs at *
 go_enter Tryz.func278,Tryz.ntmps278
 go_wp2_with fail
 go_quiet ((go_at_call 192;refine Calls.quiet_of (HQ.out _)))
 go_wp2_with fail
 refine (aAw _).mono ?_
 rintro e w4 ⟨rfl,hw⟩
 have hw:=hw.symm
 subst hw
 go_wp2
 go_ret
 refine ⟨rfl,⟨?_,?_,HGB.out⟩,?_⟩
 ·rw [heap_setCell_same _ _ _ _ _ _ (show (w.drewN _).heap[g]?=_ from HR.out)]
  rfl
 ·exact (HB.out.ft (FT.of (below_drewN (Below.refl _ _) _) (nT HGB.out (Nat.le_of_lt (lO HR.out))))).ft (FT.set (show (w.drewN _).heap[g]?=_ from HR.out) HGB.out (by decide))
 ·exact (On.of (Nat.le_of_lt (lO HR.out)) (below_drewN (Below.refl _ _) _)).trans On.set
theorem text_in {w:World} {g:Nat} {a:Option Addr} {n c:Nat} {xs ys:List Nat} {p p2:Nat} {most:Int} (HR:Hid (w.heap[g]?=some (.cells #[.slice a n c,.int .i64 (p:Int)] 394 (0,0)))) {B:Nat} (HB:Hid (BK B w a n c xs)) (HE:Hid (rbE xs p most=0)) (HS:Hid (rbS xs p most=ys)) (HP:Hid (rbP xs p most=p2)) :
  Calls Tryz.prog 285 #[.pointer (some ⟨g,0,none⟩),.int .i64 most] w fun e w'=>∃ g3 n3,e=.returned (.slice (some ⟨g3,0,none⟩) n3 n3)∧w.heap.size≤g3∧∃ w3,BS w3 (some ⟨g3,0,none⟩) n3 n3 ys∧w3.heap[g3]?=some (.cells (cellsOf ys).toArray 5 (0,0))∧Below w.heap.size w w3∧w'=w3.setCell ⟨g,1,none⟩ (.int .i64 (p2:Int)):=by
 go_enter Tryz.func285,Tryz.ntmps285
 have HX1:Hid ((fun wx=>wx.cell? ⟨g,0,none⟩=some (.slice a n c)∧wx.cell? ⟨g,1,none⟩=some (.int .i64 (p:Int))) w.drew):=⟨aAc HR.out,aAc HR.out⟩
 have HBd:=hide (HB.out.1.later (Below.refl w.heap.size w).drew (nR _))
 go_wp2_with fail
 refine wp_region_noPanic ?_
 refine wp_region_held_drew (S:=fun wx=>wx.cell? ⟨g,0,none⟩=some (.slice a n c)∧wx.cell? ⟨g,1,none⟩=some (.int .i64 (p:Int))) (by kernel_rfl) HX1.out (fun hHeld=>?_)
 refine wpAnyH_tk 0 9 ?_
 refine wpAnyH_tk 1 10 ?_
 refine wpAnyH_tk 2 11 ?_
 refine wpAnyH_tk 3 12 ?_
 refine wpAnyH_tk 4 13 ?_
 refine wpAnyH_tk 5 14 ?_
 refine wpAnyH_tk 6 15 ?_
 refine wpAnyH_tk 7 16 ?_
 refine wpAnyH_tk 8 17 ?_
 refine wpAnyH_cm 9 ?_;intro K hK
 go_simp
 refine (aFs a n c xs p most w.drew HBd.out HE.out).mono ?_
 rintro e w3 ⟨g3,n3,rfl,hg3,hb3,hh3,hbl3⟩
 rw [HS.out] at hb3 hh3
 rw [HP.out]
 have HB3:=hide hb3
 have HH3:=hide hh3
 have HL3:=hide (((Below.refl w.heap.size w).drew).trans (hbl3.mono (nR _)))
 have HR3:Hid (w3.heap[g]?=some (.cells #[.slice a n c,.int .i64 (p:Int)] 394 (0,0))):=(HL3.out.block g (lO HR.out)).trans HR.out
 have HX3:Hid ((fun wx=>wx.cell? ⟨g,0,none⟩=some (.slice a n c)∧wx.cell? ⟨g,1,none⟩=some (.int .i64 (p:Int))) w3):=⟨aAc HR3.out,aAc HR3.out⟩
 clear hb3 hh3 hbl3 hHeld
 refine hK.out _ _ HX3.out (fun hHeld=>?_)
 clear hK K
 try simp only [Act.put,siT,scZ,scS]
 refine wpAnyH_tk 10 8 ?_
 refine wpAnyH_tk 11 19 ?_
 refine wpAnyH_tk 12 20 ?_
 refine wpAnyH_tk 13 21 ?_
 refine wpAnyH_tk 14 5 ?_
 refine wpAnyH_tk 15 6 ?_
 refine wpAnyH_tk 16 7 ?_
 refine wpAnyH_done (by kernel_rfl) ?_ _
 refine NoPanic.normal ?_
 clear hHeld HX1 HX3
 have f1:w3.frozen? ⟨g,1,none⟩=false:=aAj HR3.out
 have r1:w3.cell? ⟨g,1,none⟩=some (.int .i64 (p:Int)):=aAc HR3.out
 go_wp2_with fail
 refine (aAw w3).mono ?_
 rintro e w4 ⟨rfl,hw⟩
 have hw:=hw.symm
 subst hw
 go_wp2
 go_ret
 exact ⟨g3,n3,rfl,hg3,_,HB3.out,HH3.out,HL3.out,rfl⟩
theorem text_ok {B:Nat} {w:World} {g:Nat} {a:Option Addr} {n c:Nat} {pre rest ys:List Nat} {most:Nat} (h:RD B w g a n c (pre++(enc ys.length++(ys++rest))) pre.length) (hk:ys.length≤most) (hm:most<9223372036854775808) :
  Calls Tryz.prog 285 #[.pointer (some ⟨g,0,none⟩),.int .i64 (most:Int)] w fun e w'=>∃ a3 c3,e=.returned (.slice a3 ys.length c3)∧BK B w' a3 ys.length c3 ys∧RD B w' g a n c (pre++(enc ys.length++(ys++rest))) (pre.length+grp ys.length+ys.length)∧On g w w':=by
 obtain ⟨h1,h2,h3⟩:=@rb_at pre rest ys most hk hm
 have hlt:=(lO h.hr)
 refine (text_in h.hr h.hb h1 h2 h3).mono ?_
 rintro e w' ⟨g3,n3,rfl,hg3,w3,hb3,hh3,hl3,rfl⟩
 have hn:=hb3.hlen
 subst hn
 have hr3:=(hl3.block g hlt).trans h.hr
 have f3:FT B w3 (w3.setCell ⟨g,1,none⟩ (.int .i64 ((pre.length+grp ys.length+ys.length:Nat):Int))):=FT.set hr3 h.hB (by decide)
 refine ⟨_,_,rfl,(BK.fresh hb3 hh3).ft f3,⟨?_,(h.hb.later hl3 (nT h.hB (Nat.le_of_lt hlt))).ft f3,h.hB⟩,(On.of (Nat.le_of_lt hlt) hl3).trans On.set⟩
 rw [heap_setCell_same _ _ _ _ _ _ hr3]
 rfl
end Go.Proofs.YtgckjkocmkedfabGreat
