import Derived.Test.YtdpdjpkmndnaaaaGreatY24
import Derived.Test.YtdpdjpkmndnaaaaGreatY2
import Derived.BigQuiet
set_option maxRecDepth 100000
set_option maxHeartbeats 16000000
set_option linter.unusedVariables false
namespace Go.Proofs.YtdpdjpkmndnaaaaGreat
open Go.RowKit Tryz
variable {B c g k most n o p:Nat} {a:Option Addr} {pre xs ys:List Nat} {t:TypeId} {w w':World}
structure RD (B:Nat) (w:World) (g:Nat) (a:Option Addr) (n c:Nat) (xs:List Nat) (p:Nat):Prop where
 hr:w.heap[g]?=some (.cells #[.slice a n c,.int .i64 (p:Int)] 356 (0,0))
 hb:BK B w a n c xs
 hB:B<=g
def On (g:Nat) (w w':World):Prop:=Below g w w'/\∀ k,k<w.heap.size->k≠g->w'.heap[k]?=w.heap[k]?
theorem On.trans {a b c:World} (h:On g a b) (k:On g b c):On g a c:=⟨h.1.trans k.1,fun i hi hg=>(k.2 i (Nat.lt_of_lt_of_le hi h.1.size) hg).trans (h.2 i hi hg)⟩
theorem On.of (hg:g<=w.heap.size) (h:Below w.heap.size w w'):On g w w':=⟨h.mono hg,fun i hi _=>h.block i hi⟩
theorem On.set {u:Value}:On g w (w.setCell ⟨g,o,none⟩ u):=⟨(Below.refl g w).setCell (p:=⟨g,o,none⟩) (nR g) u,fun k _ hk=>heap_setCell_other _ _ _ _ hk⟩
theorem On.ft {cs:Array Value} (h:On g w w') (hB:B<=g) (hg:w.heap[g]?=some (.cells cs t (0,0))) (ht:t≠5):FT B w w':=by
 refine ⟨h.1.mono hB,fun k cs' fz e=>?_⟩;rw [h.2 k (lO e) ?_,e];intro q;subst q;rw [hg] at e;simp only [oI,cI] at e;exact ht e.2.1
theorem ru_at {pre rest:List Nat} {k:Nat} (hk:k<9223372036854775808):ruN (pre++(enc k++rest)) (pre.length:Int)=k/\ruP (pre++(enc k++rest)) (pre.length:Int)=pre.length+grp k/\ruE (pre++(enc k++rest)) (pre.length:Int)=0:=by
 have h:=rd_enc k hk pre rest;have c:(0:Int)<=(pre.length:Int)/\(pre.length:Int)<=((pre++(enc k++rest)).length:Nat):=by simp only [lA];omega
 unfold ruN ruP ruE rdNext;rw [if_pos c,if_pos c,if_pos c,Int.toNat_natCast,h];simp
theorem rb_at {pre rest xs:List Nat} {most:Nat} (hk:xs.length<=most) (hm:most<9223372036854775808):rbE (pre++(enc xs.length++(xs++rest))) (pre.length:Int) (most:Int)=0/\rbS (pre++(enc xs.length++(xs++rest))) (pre.length:Int) (most:Int)=xs/\rbP (pre++(enc xs.length++(xs++rest))) (pre.length:Int) (most:Int)=pre.length+grp xs.length+xs.length:=by
 obtain ⟨h1,h2,h3⟩:=@ru_at pre (xs++rest) xs.length (by omega);obtain ⟨g1,-⟩:=aAt xs.length (by omega);have hl:=aAs xs.length (by omega);have e:rbE (pre++(enc xs.length++(xs++rest))) (pre.length:Int) (most:Int)=0:=by
  unfold rbE;rw [h1,h2,h3];simp only [ne_eq,not_true_eq_false,if_false];rw [if_neg (by omega),if_neg (by omega),if_neg (by simp only [lA,hl];omega)]
 unfold rbS rbP;rw [if_pos e,if_pos e,h1,h2];refine ⟨e,?_,rfl⟩;rw [show pre++(enc xs.length++(xs++rest))=(pre++enc xs.length)++(xs++rest) by simp,List.drop_left' (by rw [lA,hl]),List.take_left' rfl]
theorem number_ok {rest:List Nat} (h:RD B w g a n c (pre++(enc k++rest)) pre.length) (hk:k<9223372036854775808) :
  Calls prog 233 #[.pointer (some ⟨g,0,none⟩)] w fun e w'=>e=.returned (.int .i64 (k:Int))/\RD B w' g a n c (pre++(enc k++rest)) (pre.length+grp k)/\On g w w':=by
 obtain ⟨h1,h2,h3⟩:=@ru_at pre rest k hk;have HR:=zH h.hr;have HB:=zH h.hb;have HGB:=zH h.hB;have r0:w.cell? ⟨g,0,none⟩=some (.slice a n c):=aAd h.hr;have r1:w.cell? ⟨g,1,none⟩=some (.int .i64 (pre.length:Int)):=aAd h.hr;have HQ:Hid (∀ nn,Calls prog 159 #[.slice a n c,.int .i64 (pre.length:Int)] (w.drewN nn) fun e w'=>e=.returned (.tuple #[.int .i64 (k:Int),.int .i64 ((pre.length+grp k:Nat):Int),.int .i64 0])/\∃ m,w'=(w.drewN nn).drewN m):=by
  intro nn;refine (aB3 a n c (pre++(enc k++rest)) pre.length (w.drewN nn) (h.hb.1.later (below_drewN (Below.refl _ _) nn) (nR _))).mono ?_;rintro e w' ⟨rfl,rfl⟩;rw [h1,h2,h3];exact ⟨rfl,0,rfl⟩
 have f1:w.frozen? ⟨g,1,none⟩=false:=aAm h.hr;generalize hP:((pre.length+grp k:Nat))=P at *
 have HPP:=zH hP;clear h h1 h2 h3 hP;generalize hp:pre.length=p at *
 generalize pre++(enc k++rest)=xs at *
 go_enter func233,ntmps233;go_wp2_with fail;go_quiet ((go_at_call 159;refine Calls.quiet_of (HQ.o _)));go_wp2_with fail;refine (aA1 _).mono ?_;rintro e w4 ⟨rfl,hw⟩;have hw:=hw.symm;subst hw;go_wp2;go_ret;refine ⟨rfl,⟨?_,?_,HGB.o⟩,?_⟩
 ·rw [heap_setCell_same _ _ _ _ _ _ (show (w.drewN _).heap[g]?=_ from HR.o)];rfl
 ·exact (HB.o.ft (FT.of (below_drewN (Below.refl _ _) _) (nT HGB.o (Nat.le_of_lt (lO HR.o))))).ft (FT.set (show (w.drewN _).heap[g]?=_ from HR.o) HGB.o (by decide))
 ·exact (On.of (Nat.le_of_lt (lO HR.o)) (below_drewN (Below.refl _ _) _)).trans On.set
theorem text_in {p2:Nat} {most:Int} (HR:Hid (w.heap[g]?=some (.cells #[.slice a n c,.int .i64 (p:Int)] 356 (0,0)))) {B:Nat} (HB:Hid (BK B w a n c xs)) (HE:Hid (rbE xs p most=0)) (HS:Hid (rbS xs p most=ys)) (HP:Hid (rbP xs p most=p2)) :
  Calls prog 242 #[.pointer (some ⟨g,0,none⟩),.int .i64 most] w fun e w'=>∃ g3 n3,e=.returned (.slice (some ⟨g3,0,none⟩) n3 n3)/\w.heap.size<=g3/\∃ w3,BS w3 (some ⟨g3,0,none⟩) n3 n3 ys/\w3.heap[g3]?=some (.cells (cellsOf ys).toArray 5 (0,0))/\Below w.heap.size w w3/\w'=w3.setCell ⟨g,1,none⟩ (.int .i64 (p2:Int)):=by
 go_enter func242,ntmps242;have HX1:Hid ((fun wx=>wx.cell? ⟨g,0,none⟩=some (.slice a n c)/\wx.cell? ⟨g,1,none⟩=some (.int .i64 (p:Int))) w.drew):=⟨aAd HR.o,aAd HR.o⟩;have HBd:=zH (HB.o.1.later (Below.refl w.heap.size w).drew (nR _));go_wp2_with fail;refine wp_region_noPanic ?_;refine wp_region_held_drew (S:=fun wx=>wx.cell? ⟨g,0,none⟩=some (.slice a n c)/\wx.cell? ⟨g,1,none⟩=some (.int .i64 (p:Int))) (by kernel_rfl) HX1.o (fun hHeld=>?_);refine aAb 0 9 ?_;refine aAb 1 10 ?_;refine aAb 2 11 ?_;refine aAb 3 12 ?_;refine aAb 4 13 ?_;refine aAb 5 14 ?_;refine aAb 6 15 ?_;refine aAb 7 16 ?_;refine aAb 8 17 ?_;refine aAf 9 ?_;intro K hK;go_simp;refine (aGp a n c xs p most w.drew HBd.o HE.o).mono ?_;rintro e w3 ⟨g3,n3,rfl,hg3,hb3,hh3,hbl3⟩;rw [HS.o] at hb3 hh3;rw [HP.o];have HB3:=zH hb3;have HH3:=zH hh3;have HL3:=zH (((Below.refl w.heap.size w).drew).trans (hbl3.mono (nR _)));have HR3:Hid (w3.heap[g]?=some (.cells #[.slice a n c,.int .i64 (p:Int)] 356 (0,0))):=(HL3.o.block g (lO HR.o)).trans HR.o;have HX3:Hid ((fun wx=>wx.cell? ⟨g,0,none⟩=some (.slice a n c)/\wx.cell? ⟨g,1,none⟩=some (.int .i64 (p:Int))) w3):=⟨aAd HR3.o,aAd HR3.o⟩;clear hb3 hh3 hbl3 hHeld;refine hK.out _ _ HX3.o (fun hHeld=>?_);clear hK K
 try simp only [Act.put,siT,scZ,scS]
 refine aAb 10 8 ?_;refine aAb 11 19 ?_;refine aAb 12 20 ?_;refine aAb 13 21 ?_;refine aAb 14 5 ?_;refine aAb 15 6 ?_;refine aAb 16 7 ?_;refine wpAnyH_done (by kernel_rfl) ?_ _;refine NoPanic.normal ?_;clear hHeld HX1 HX3;have f1:w3.frozen? ⟨g,1,none⟩=false:=aAm HR3.o;have r1:w3.cell? ⟨g,1,none⟩=some (.int .i64 (p:Int)):=aAd HR3.o;go_wp2_with fail;refine (aA1 w3).mono ?_;rintro e w4 ⟨rfl,hw⟩;have hw:=hw.symm;subst hw;go_wp2;go_ret;exact ⟨g3,n3,rfl,hg3,_,HB3.o,HH3.o,HL3.o,rfl⟩
theorem text_ok {rest:List Nat} (h:RD B w g a n c (pre++(enc ys.length++(ys++rest))) pre.length) (hk:ys.length<=most) (hm:most<9223372036854775808) :
  Calls prog 242 #[.pointer (some ⟨g,0,none⟩),.int .i64 (most:Int)] w fun e w'=>∃ a3 c3,e=.returned (.slice a3 ys.length c3)/\BK B w' a3 ys.length c3 ys/\RD B w' g a n c (pre++(enc ys.length++(ys++rest))) (pre.length+grp ys.length+ys.length)/\On g w w':=by
 obtain ⟨h1,h2,h3⟩:=@rb_at pre rest ys most hk hm;have hlt:=(lO h.hr);refine (text_in h.hr h.hb h1 h2 h3).mono ?_;rintro e w' ⟨g3,n3,rfl,hg3,w3,hb3,hh3,hl3,rfl⟩;have hn:=hb3.hlen;subst hn;have hr3:=(hl3.block g hlt).trans h.hr;have f3:FT B w3 (w3.setCell ⟨g,1,none⟩ (.int .i64 ((pre.length+grp ys.length+ys.length:Nat):Int))):=FT.set hr3 h.hB (by decide);refine ⟨_,_,rfl,(BK.fresh hb3 hh3).ft f3,⟨?_,(h.hb.later hl3 (nT h.hB (Nat.le_of_lt hlt))).ft f3,h.hB⟩,(On.of (Nat.le_of_lt hlt) hl3).trans On.set⟩;rw [heap_setCell_same _ _ _ _ _ _ hr3];rfl
end Go.Proofs.YtdpdjpkmndnaaaaGreat
