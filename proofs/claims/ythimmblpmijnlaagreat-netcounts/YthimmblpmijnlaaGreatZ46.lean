import Derived.Laws.StructEq
import Derived.Test.YthimmblpmijnlaaGreatZ45
set_option maxRecDepth 100000
set_option maxHeartbeats 16000000
set_option linter.unusedVariables false
namespace Go.Proofs.YthimmblpmijnlaaGreat
open Go.RowKit
section
variable [Gd] {B p q g ls rg nd N c u b:Nat} {l:List It} {L:Nat→Lg} {W w w':World}
theorem NDM.bset (h:NDM B p q g ls rg nd N c u l L W w) {cf:Array Value} {o:Nat} {x:Value} (hf:w.heap[b]?=some (.cells cf 83 (0,0))) (hB:B≤b):NDM B p q g ls rg nd N c u l L W (w.setCell ⟨b,o,none⟩ x):=by
 obtain ⟨cs,h1,h2⟩:=h.s.lv
 obtain ⟨cn,h3,h4⟩:=h.v
 have keep:∀ (k:Nat) (cs:Array Value) (t:TypeId) (fz:Nat×Nat),w.heap[k]?=some (Obj.cells cs t fz)→t≠83→(w.setCell ⟨b,o,none⟩ x).heap[k]?=some (Obj.cells cs t fz):=fun k cs t fz e ht=>by
  rw [(Ex.set (w:=w) (o:=o) (u:=x) hB).2 k (lO e) (by simpa using aA0 e hf ht),e]
 refine ⟨⟨h.s.kx.same (Ex.set hB).1 (fun k cs t fz e ht=>keep k cs t fz e ?_),h.s.bl,cs,keep _ _ _ _ h1 (by decide),h2⟩,h.b,cn,keep _ _ _ _ h3 (by decide),h4⟩
 rcases ht with rfl | rfl | ht
 ·decide
 ·decide
 ·intro q9
  rw [q9] at ht
  exact ht (by decide)
end
theorem aDu [Gd] {B p q g ls rg nd N c u lg at_ n cp tl tr:Nat} {sl:Bool} {l:List It} {L:Nat→Lg} {W w:World} {k:Int} {va:Option Addr} (h:NDM B p q g ls rg nd N c u l L W w) (hlg:lg≤16) (HL:Hid (L lg=(tl,tr,sl))) (hk5:¬ k=5) (hre:∀ ww,Calls Tryz.prog 53 #[.agg #[.int .i64 (tl:Int),.int .i64 (tr:Int),.bool sl],.agg #[.int .i64 k,.int .i64 (lg:Int),.int .i64 (at_:Int),.slice va n cp]] ww fun e w'=>e=.returned (.int .i64 0)∧Below ww.heap.size ww w')
  (hbe:∀ ww,Calls Tryz.prog 55 #[.agg #[.int .i64 (tl:Int),.int .i64 (tr:Int),.bool sl],.agg #[.int .i64 k,.int .i64 (lg:Int),.int .i64 (at_:Int),.slice va n cp]] ww fun e w'=>e=.returned (.agg #[.int .i64 (tl:Int),.int .i64 (tr:Int),.bool sl])∧Below ww.heap.size ww w') :
  Calls Tryz.prog 38 #[.pointer (some ⟨nd,0,none⟩),.agg #[.int .i64 k,.int .i64 (lg:Int),.int .i64 (at_:Int),.slice va n cp]] w fun e w'=>e=.returned (.tuple #[.slice none 0 0,.int .i64 0])∧Below w.heap.size w w':=by
 have HBE:=hide hbe
 clear hbe
 have lt:∀ {k:Nat} {o:Obj} {ww:World},ww.heap[k]?=some o→k<ww.heap.size:=fun e=>(lO e)
 have j1:(0:Int)≤(lg:Int):=by omega
 have j2:(lg:Int)<17:=by omega
 have HNW:Hid ((w.alloc (.cells #[.int .i64 k,.int .i64 (lg:Int),.int .i64 (at_:Int),.slice va n cp] 34)).heap[w.heap.size]?=some (.cells #[.int .i64 k,.int .i64 (lg:Int),.int .i64 (at_:Int),.slice va n cp] 34 (0,0))):=heap_alloc_new w _
 have HBX:=hide (aAc w (.cells #[.int .i64 k,.int .i64 (lg:Int),.int .i64 (at_:Int),.slice va n cp] 34))
 have H1:=hide (h.later HBX.out)
 have HLG:=hide hlg
 have HRE:=hide hre
 clear h hlg hre
 go_enter Tryz.func38,Tryz.ntmps38
 go_upto_region 1 with fail
 generalize w.alloc (.cells #[.int .i64 k,.int .i64 (lg:Int),.int .i64 (at_:Int),.slice va n cp] 34)=w1 at *
 generalize hn0:w.heap.size=n0 at *
 have HD1:=hide (H1.out.later (show Below w1.heap.size w1 w1.drew from (Below.refl _ _).drew))
 have HND:Hid (w1.drew.heap[n0]?=some (.cells #[.int .i64 k,.int .i64 (lg:Int),.int .i64 (at_:Int),.slice va n cp] 34 (0,0))):=HNW.out
 have HBD:Hid (Below n0 w w1.drew):=HBX.out.drew
 have hcl:=HD1.out.lg HLG.out
 rw [HL.out] at hcl
 have HX0:Hid ((fun wx=>wx.cell? ⟨n0,1,none⟩=some (.int .i64 (lg:Int))∧wx.cell? ⟨nd,2+lg*3,none⟩=some (.int .i64 (tl:Int))∧wx.cell? ⟨nd,2+lg*3+1,none⟩=some (.int .i64 (tr:Int))∧wx.cell? ⟨nd,2+lg*3+2,none⟩=some (.bool sl)) w1.drew):=⟨aAa HND.out,hcl.1,hcl.2.1,hcl.2.2⟩
 clear hcl
 refine wp_region_noPanic ?_
 refine wp_region_held_drew (S:=fun wx=>wx.cell? ⟨n0,1,none⟩=some (.int .i64 (lg:Int))∧wx.cell? ⟨nd,2+lg*3,none⟩=some (.int .i64 (tl:Int))∧wx.cell? ⟨nd,2+lg*3+1,none⟩=some (.int .i64 (tr:Int))∧wx.cell? ⟨nd,2+lg*3+2,none⟩=some (.bool sl)) (by kernel_rfl) HX0.out (fun hHeld=>?_)
 refine wpAnyH_tk 0 10 ?_
 refine wpAnyH_tk 1 11 ?_
 refine wpAnyH_tk 2 12 ?_
 refine wpAnyH_tk 3 13 ?_
 refine wpAnyH_tk 4 14 ?_
 refine wpAnyH_tk 5 15 ?_
 refine wpAnyH_tk 6 16 ?_
 refine wpAnyH_cm 7 ?_;intro K hK
 go_simp
 have hb2:Below w1.heap.size w1 (w1.alloc (.cells #[.int .i64 0,.int .i64 0,.bool false] 83)).drew:=(aAc w1 (.cells #[.int .i64 0,.int .i64 0,.bool false] 83)).drew
 have HD2:=hide (H1.out.later hb2)
 have HN2:Hid ((w1.alloc (.cells #[.int .i64 0,.int .i64 0,.bool false] 83)).drew.heap[n0]?=some (.cells #[.int .i64 k,.int .i64 (lg:Int),.int .i64 (at_:Int),.slice va n cp] 34 (0,0))):=(hb2.block n0 (lt HNW.out)).trans HNW.out
 have HM2:Hid ((w1.alloc (.cells #[.int .i64 0,.int .i64 0,.bool false] 83)).drew.heap[w1.heap.size]?=some (.cells #[.int .i64 0,.int .i64 0,.bool false] 83 (0,0))):=heap_alloc_new w1 _
 have HB2:Hid (Below n0 w (w1.alloc (.cells #[.int .i64 0,.int .i64 0,.bool false] 83)).drew):=HBX.out.trans (hb2.mono (by have:=HBX.out.size;omega))
 have HNN:Hid (n0<w1.heap.size):=lt HNW.out
 have HBN:Hid (B≤w1.heap.size):=H1.out.bw
 have hcl:=HD2.out.lg HLG.out
 rw [HL.out] at hcl
 have HX2:Hid ((fun wx=>wx.cell? ⟨n0,1,none⟩=some (.int .i64 (lg:Int))∧wx.cell? ⟨nd,2+lg*3,none⟩=some (.int .i64 (tl:Int))∧wx.cell? ⟨nd,2+lg*3+1,none⟩=some (.int .i64 (tr:Int))∧wx.cell? ⟨nd,2+lg*3+2,none⟩=some (.bool sl)) (w1.alloc (.cells #[.int .i64 0,.int .i64 0,.bool false] 83)).drew):=⟨aAa HN2.out,hcl.1,hcl.2.1,hcl.2.2⟩
 clear hcl hb2 hHeld H1 HNW HBX
 generalize (w1.alloc (.cells #[.int .i64 0,.int .i64 0,.bool false] 83)).drew=w2 at *
 generalize w1.heap.size=n1 at *
 refine hK.out _ _ HX2.out (fun hHeld=>?_)
 clear hK K
 try simp only [Act.put,siT,scZ,scS]
 have m0:w2.cell? ⟨n1,0,none⟩=some (.int .i64 0):=aAa HM2.out
 have mf0:w2.frozen? ⟨n1,0,none⟩=false:=aAb HM2.out
 have m1:w2.cell? ⟨n1,1,none⟩=some (.int .i64 0):=aAa HM2.out
 have mf1:w2.frozen? ⟨n1,1,none⟩=false:=aAb HM2.out
 have m2:w2.cell? ⟨n1,2,none⟩=some (.bool false):=aAa HM2.out
 have mf2:w2.frozen? ⟨n1,2,none⟩=false:=aAb HM2.out
 refine wpAnyH_cm 8 ?_;intro K hK
 go_simp
 have HD3:=hide (((HD2.out.bset (o:=0) (x:=.int .i64 (tl:Int)) HM2.out HBN.out).bset (o:=1) (x:=.int .i64 (tr:Int)) (heap_setCell_same _ _ _ _ _ _ HM2.out) HBN.out).bset (o:=2) (x:=.bool sl) (heap_setCell_same _ _ _ _ _ _ (heap_setCell_same _ _ _ _ _ _ HM2.out)) HBN.out)
 have HM3:Hid ((((w2.setCell ⟨n1,0,none⟩ (.int .i64 (tl:Int))).setCell ⟨n1,1,none⟩ (.int .i64 (tr:Int))).setCell ⟨n1,2,none⟩ (.bool sl)).heap[n1]?=some (.cells #[.int .i64 (tl:Int),.int .i64 (tr:Int),.bool sl] 83 (0,0))):=set3 HM2.out
 have HN3:Hid ((((w2.setCell ⟨n1,0,none⟩ (.int .i64 (tl:Int))).setCell ⟨n1,1,none⟩ (.int .i64 (tr:Int))).setCell ⟨n1,2,none⟩ (.bool sl)).heap[n0]?=some (.cells #[.int .i64 k,.int .i64 (lg:Int),.int .i64 (at_:Int),.slice va n cp] 34 (0,0))):=by
  have hne:n0≠n1:=Nat.ne_of_lt HNN.out
  show _=_
  rw [heap_setCell_other _ _ _ _ hne,heap_setCell_other _ _ _ _ hne,heap_setCell_other _ _ _ _ hne]
  exact HN2.out
 have HB3:Hid (Below n0 w (((w2.setCell ⟨n1,0,none⟩ (.int .i64 (tl:Int))).setCell ⟨n1,1,none⟩ (.int .i64 (tr:Int))).setCell ⟨n1,2,none⟩ (.bool sl))):=bel3 HB2.out (Nat.le_of_lt HNN.out)
 have hcl:=HD3.out.lg HLG.out
 rw [HL.out] at hcl
 have HX3:Hid ((fun wx=>wx.cell? ⟨n0,1,none⟩=some (.int .i64 (lg:Int))∧wx.cell? ⟨nd,2+lg*3,none⟩=some (.int .i64 (tl:Int))∧wx.cell? ⟨nd,2+lg*3+1,none⟩=some (.int .i64 (tr:Int))∧wx.cell? ⟨nd,2+lg*3+2,none⟩=some (.bool sl)) (((w2.setCell ⟨n1,0,none⟩ (.int .i64 (tl:Int))).setCell ⟨n1,1,none⟩ (.int .i64 (tr:Int))).setCell ⟨n1,2,none⟩ (.bool sl))):=⟨aAa HN3.out,hcl.1,hcl.2.1,hcl.2.2⟩
 clear hcl hHeld m0 m1 m2 mf0 mf1 mf2
 generalize (((w2.setCell ⟨n1,0,none⟩ (.int .i64 (tl:Int))).setCell ⟨n1,1,none⟩ (.int .i64 (tr:Int))).setCell ⟨n1,2,none⟩ (.bool sl))=w3 at *
 refine hK.out _ _ HX3.out (fun hHeld=>?_)
 clear hK K
 try simp only [Act.put,siT,scZ,scS]
 refine wpAnyH_done (by kernel_rfl) ?_ _
 refine NoPanic.normal ?_
 clear hHeld
 have y0:w3.cell? ⟨n0,0,none⟩=some (.int .i64 k):=aAa HN3.out
 have yf0:w3.frozen? ⟨n0,0,none⟩=false:=aAb HN3.out
 have y1:w3.cell? ⟨n0,1,none⟩=some (.int .i64 (lg:Int)):=aAa HN3.out
 have yf1:w3.frozen? ⟨n0,1,none⟩=false:=aAb HN3.out
 have y2:w3.cell? ⟨n0,2,none⟩=some (.int .i64 (at_:Int)):=aAa HN3.out
 have yf2:w3.frozen? ⟨n0,2,none⟩=false:=aAb HN3.out
 have y3:w3.cell? ⟨n0,3,none⟩=some (.slice va n cp):=aAa HN3.out
 have yf3:w3.frozen? ⟨n0,3,none⟩=false:=aAb HN3.out
 have x0:w3.cell? ⟨n1,0,none⟩=some (.int .i64 (tl:Int)):=aAa HM3.out
 have xf0:w3.frozen? ⟨n1,0,none⟩=false:=aAb HM3.out
 have x1:w3.cell? ⟨n1,1,none⟩=some (.int .i64 (tr:Int)):=aAa HM3.out
 have xf1:w3.frozen? ⟨n1,1,none⟩=false:=aAb HM3.out
 have x2:w3.cell? ⟨n1,2,none⟩=some (.bool sl):=aAa HM3.out
 have xf2:w3.frozen? ⟨n1,2,none⟩=false:=aAb HM3.out
 have HR3:=hide (HRE.out w3)
 go_wp2_with fail
 refine HR3.out.mono ?_
 rintro e w4 ⟨rfl,hb4⟩
 have HD4:=hide (HD3.out.later hb4)
 have HM4:=hide ((hb4.block n1 (lt HM3.out)).trans HM3.out)
 have HN4:=hide ((hb4.block n0 (lt HN3.out)).trans HN3.out)
 have HB4:Hid (Below n0 w w4):=HB3.out.trans (hb4.mono (by have:=HB3.out.size;omega))
 clear hb4 HR3 x0 x1 x2 xf0 xf1 xf2 y0 y1 y2 y3 yf0 yf1 yf2 yf3
 have y0:w4.cell? ⟨n0,0,none⟩=some (.int .i64 k):=aAa HN4.out
 have yf0:w4.frozen? ⟨n0,0,none⟩=false:=aAb HN4.out
 have y1:w4.cell? ⟨n0,1,none⟩=some (.int .i64 (lg:Int)):=aAa HN4.out
 have yf1:w4.frozen? ⟨n0,1,none⟩=false:=aAb HN4.out
 have y2:w4.cell? ⟨n0,2,none⟩=some (.int .i64 (at_:Int)):=aAa HN4.out
 have yf2:w4.frozen? ⟨n0,2,none⟩=false:=aAb HN4.out
 have y3:w4.cell? ⟨n0,3,none⟩=some (.slice va n cp):=aAa HN4.out
 have yf3:w4.frozen? ⟨n0,3,none⟩=false:=aAb HN4.out
 have x0:w4.cell? ⟨n1,0,none⟩=some (.int .i64 (tl:Int)):=aAa HM4.out
 have xf0:w4.frozen? ⟨n1,0,none⟩=false:=aAb HM4.out
 have x1:w4.cell? ⟨n1,1,none⟩=some (.int .i64 (tr:Int)):=aAa HM4.out
 have xf1:w4.frozen? ⟨n1,1,none⟩=false:=aAb HM4.out
 have x2:w4.cell? ⟨n1,2,none⟩=some (.bool sl):=aAa HM4.out
 have xf2:w4.frozen? ⟨n1,2,none⟩=false:=aAb HM4.out
 have HBE4:=hide (HBE.out w4)
 go_wp2_with fail
 refine HBE4.out.mono ?_
 rintro e w5 ⟨rfl,hb5⟩
 have hb6:=aAc w5 (.cells #[.int .i64 (tl:Int),.int .i64 (tr:Int),.bool sl] 83)
 have HD7:=hide ((HD4.out.later hb5).later hb6)
 have HM5:=(hb5.block n1 (lt HM4.out)).trans HM4.out
 have HN5:=(hb5.block n0 (lt HN4.out)).trans HN4.out
 have HM7:=hide ((hb6.block n1 (lt HM5)).trans HM5)
 have HN7:=hide ((hb6.block n0 (lt HN5)).trans HN5)
 have HP7:Hid ((w5.alloc (.cells #[.int .i64 (tl:Int),.int .i64 (tr:Int),.bool sl] 83)).heap[w5.heap.size]?=some (.cells #[.int .i64 (tl:Int),.int .i64 (tr:Int),.bool sl] 83 (0,0))):=heap_alloc_new w5 _
 have HB7:Hid (Below n0 w (w5.alloc (.cells #[.int .i64 (tl:Int),.int .i64 (tr:Int),.bool sl] 83))):=(HB4.out.trans (hb5.mono (by have:=HB4.out.size;omega))).trans (hb6.mono (by have:=HB4.out.size;have:=hb5.size;omega))
 have HNN7:Hid (n0<w5.heap.size∧n1<w5.heap.size):=⟨lt HN5,lt HM5⟩
 have HBN7:Hid (B≤w5.heap.size):=(HD4.out.later hb5).bw
 clear hb5 hb6 HM5 HN5 HBE4 x0 x1 x2 xf0 xf1 xf2 y0 y1 y2 y3 yf0 yf1 yf2 yf3
 go_upto_region 8 with fail
 generalize (w5.alloc (.cells #[.int .i64 (tl:Int),.int .i64 (tr:Int),.bool sl] 83))=w7 at *
 generalize w5.heap.size=n5 at *
 have z0:w7.cell? ⟨n5,0,none⟩=some (.int .i64 (tl:Int)):=aAa HP7.out
 have zf0:w7.frozen? ⟨n5,0,none⟩=false:=aAb HP7.out
 have z1:w7.cell? ⟨n5,1,none⟩=some (.int .i64 (tr:Int)):=aAa HP7.out
 have zf1:w7.frozen? ⟨n5,1,none⟩=false:=aAb HP7.out
 have z2:w7.cell? ⟨n5,2,none⟩=some (.bool sl):=aAa HP7.out
 have zf2:w7.frozen? ⟨n5,2,none⟩=false:=aAb HP7.out
 have x0:w7.cell? ⟨n1,0,none⟩=some (.int .i64 (tl:Int)):=aAa HM7.out
 have xf0:w7.frozen? ⟨n1,0,none⟩=false:=aAb HM7.out
 have x1:w7.cell? ⟨n1,1,none⟩=some (.int .i64 (tr:Int)):=aAa HM7.out
 have xf1:w7.frozen? ⟨n1,1,none⟩=false:=aAb HM7.out
 have x2:w7.cell? ⟨n1,2,none⟩=some (.bool sl):=aAa HM7.out
 have xf2:w7.frozen? ⟨n1,2,none⟩=false:=aAb HM7.out
 go_wp2
 go_ret2
 exact ⟨rfl,by rw [hn0];exact HB7.out⟩
theorem serve_read [Gd] {B p q g ls rg nd N c u lg at_ n cp tl tr:Nat} {sl:Bool} {l:List It} {L:Nat→Lg} {W w:World} {k:Int} {va:Option Addr} (h:NDM B p q g ls rg nd N c u l L W w) (hlg:lg≤16) (HL:Hid (L lg=(tl,tr,sl))) {val:List Nat} (hk5:k=5) (hat:at_<256) (hval:valL l [0,lg,at_]=some val) (hre:∀ ww,Calls Tryz.prog 53 #[.agg #[.int .i64 (tl:Int),.int .i64 (tr:Int),.bool sl],.agg #[.int .i64 k,.int .i64 (lg:Int),.int .i64 (at_:Int),.slice va n cp]] ww fun e w'=>e=.returned (.int .i64 0)∧Below ww.heap.size ww w') :
  Calls Tryz.prog 38 #[.pointer (some ⟨nd,0,none⟩),.agg #[.int .i64 k,.int .i64 (lg:Int),.int .i64 (at_:Int),.slice va n cp]] w fun e w'=>∃ sa sc,e=.returned (.tuple #[.slice sa val.length sc,.int .i64 0])∧BK B w' sa val.length sc val∧Below w.heap.size w w':=by
 have d5:decide (k=5)=true:=by rw [decide_eq_true_eq];exact hk5
 have d6:(k == 5)=true:=by rw [beq_iff_eq];exact hk5
 clear hk5
 have HVAL:=hide hval
 have HAT:=hide hat
 clear hval hat
 have lt:∀ {k:Nat} {o:Obj} {ww:World},ww.heap[k]?=some o→k<ww.heap.size:=fun e=>(lO e)
 have j1:(0:Int)≤(lg:Int):=by omega
 have j2:(lg:Int)<17:=by omega
 have HNW:Hid ((w.alloc (.cells #[.int .i64 k,.int .i64 (lg:Int),.int .i64 (at_:Int),.slice va n cp] 34)).heap[w.heap.size]?=some (.cells #[.int .i64 k,.int .i64 (lg:Int),.int .i64 (at_:Int),.slice va n cp] 34 (0,0))):=heap_alloc_new w _
 have HBX:=hide (aAc w (.cells #[.int .i64 k,.int .i64 (lg:Int),.int .i64 (at_:Int),.slice va n cp] 34))
 have H1:=hide (h.later HBX.out)
 have HLG:=hide hlg
 have HRE:=hide hre
 clear h hlg hre
 go_enter Tryz.func38,Tryz.ntmps38
 go_upto_region 1 with fail
 generalize w.alloc (.cells #[.int .i64 k,.int .i64 (lg:Int),.int .i64 (at_:Int),.slice va n cp] 34)=w1 at *
 generalize hn0:w.heap.size=n0 at *
 have HD1:=hide (H1.out.later (show Below w1.heap.size w1 w1.drew from (Below.refl _ _).drew))
 have HND:Hid (w1.drew.heap[n0]?=some (.cells #[.int .i64 k,.int .i64 (lg:Int),.int .i64 (at_:Int),.slice va n cp] 34 (0,0))):=HNW.out
 have HBD:Hid (Below n0 w w1.drew):=HBX.out.drew
 have hcl:=HD1.out.lg HLG.out
 rw [HL.out] at hcl
 have HX0:Hid ((fun wx=>wx.cell? ⟨n0,1,none⟩=some (.int .i64 (lg:Int))∧wx.cell? ⟨nd,2+lg*3,none⟩=some (.int .i64 (tl:Int))∧wx.cell? ⟨nd,2+lg*3+1,none⟩=some (.int .i64 (tr:Int))∧wx.cell? ⟨nd,2+lg*3+2,none⟩=some (.bool sl)) w1.drew):=⟨aAa HND.out,hcl.1,hcl.2.1,hcl.2.2⟩
 clear hcl
 refine wp_region_noPanic ?_
 refine wp_region_held_drew (S:=fun wx=>wx.cell? ⟨n0,1,none⟩=some (.int .i64 (lg:Int))∧wx.cell? ⟨nd,2+lg*3,none⟩=some (.int .i64 (tl:Int))∧wx.cell? ⟨nd,2+lg*3+1,none⟩=some (.int .i64 (tr:Int))∧wx.cell? ⟨nd,2+lg*3+2,none⟩=some (.bool sl)) (by kernel_rfl) HX0.out (fun hHeld=>?_)
 refine wpAnyH_tk 0 10 ?_
 refine wpAnyH_tk 1 11 ?_
 refine wpAnyH_tk 2 12 ?_
 refine wpAnyH_tk 3 13 ?_
 refine wpAnyH_tk 4 14 ?_
 refine wpAnyH_tk 5 15 ?_
 refine wpAnyH_tk 6 16 ?_
 refine wpAnyH_cm 7 ?_;intro K hK
 go_simp
 have hb2:Below w1.heap.size w1 (w1.alloc (.cells #[.int .i64 0,.int .i64 0,.bool false] 83)).drew:=(aAc w1 (.cells #[.int .i64 0,.int .i64 0,.bool false] 83)).drew
 have HD2:=hide (H1.out.later hb2)
 have HN2:Hid ((w1.alloc (.cells #[.int .i64 0,.int .i64 0,.bool false] 83)).drew.heap[n0]?=some (.cells #[.int .i64 k,.int .i64 (lg:Int),.int .i64 (at_:Int),.slice va n cp] 34 (0,0))):=(hb2.block n0 (lt HNW.out)).trans HNW.out
 have HM2:Hid ((w1.alloc (.cells #[.int .i64 0,.int .i64 0,.bool false] 83)).drew.heap[w1.heap.size]?=some (.cells #[.int .i64 0,.int .i64 0,.bool false] 83 (0,0))):=heap_alloc_new w1 _
 have HB2:Hid (Below n0 w (w1.alloc (.cells #[.int .i64 0,.int .i64 0,.bool false] 83)).drew):=HBX.out.trans (hb2.mono (by have:=HBX.out.size;omega))
 have HNN:Hid (n0<w1.heap.size):=lt HNW.out
 have HBN:Hid (B≤w1.heap.size):=H1.out.bw
 have hcl:=HD2.out.lg HLG.out
 rw [HL.out] at hcl
 have HX2:Hid ((fun wx=>wx.cell? ⟨n0,1,none⟩=some (.int .i64 (lg:Int))∧wx.cell? ⟨nd,2+lg*3,none⟩=some (.int .i64 (tl:Int))∧wx.cell? ⟨nd,2+lg*3+1,none⟩=some (.int .i64 (tr:Int))∧wx.cell? ⟨nd,2+lg*3+2,none⟩=some (.bool sl)) (w1.alloc (.cells #[.int .i64 0,.int .i64 0,.bool false] 83)).drew):=⟨aAa HN2.out,hcl.1,hcl.2.1,hcl.2.2⟩
 clear hcl hb2 hHeld H1 HNW HBX
 generalize (w1.alloc (.cells #[.int .i64 0,.int .i64 0,.bool false] 83)).drew=w2 at *
 generalize w1.heap.size=n1 at *
 refine hK.out _ _ HX2.out (fun hHeld=>?_)
 clear hK K
 try simp only [Act.put,siT,scZ,scS]
 have m0:w2.cell? ⟨n1,0,none⟩=some (.int .i64 0):=aAa HM2.out
 have mf0:w2.frozen? ⟨n1,0,none⟩=false:=aAb HM2.out
 have m1:w2.cell? ⟨n1,1,none⟩=some (.int .i64 0):=aAa HM2.out
 have mf1:w2.frozen? ⟨n1,1,none⟩=false:=aAb HM2.out
 have m2:w2.cell? ⟨n1,2,none⟩=some (.bool false):=aAa HM2.out
 have mf2:w2.frozen? ⟨n1,2,none⟩=false:=aAb HM2.out
 refine wpAnyH_cm 8 ?_;intro K hK
 go_simp
 have HD3:=hide (((HD2.out.bset (o:=0) (x:=.int .i64 (tl:Int)) HM2.out HBN.out).bset (o:=1) (x:=.int .i64 (tr:Int)) (heap_setCell_same _ _ _ _ _ _ HM2.out) HBN.out).bset (o:=2) (x:=.bool sl) (heap_setCell_same _ _ _ _ _ _ (heap_setCell_same _ _ _ _ _ _ HM2.out)) HBN.out)
 have HM3:Hid ((((w2.setCell ⟨n1,0,none⟩ (.int .i64 (tl:Int))).setCell ⟨n1,1,none⟩ (.int .i64 (tr:Int))).setCell ⟨n1,2,none⟩ (.bool sl)).heap[n1]?=some (.cells #[.int .i64 (tl:Int),.int .i64 (tr:Int),.bool sl] 83 (0,0))):=set3 HM2.out
 have HN3:Hid ((((w2.setCell ⟨n1,0,none⟩ (.int .i64 (tl:Int))).setCell ⟨n1,1,none⟩ (.int .i64 (tr:Int))).setCell ⟨n1,2,none⟩ (.bool sl)).heap[n0]?=some (.cells #[.int .i64 k,.int .i64 (lg:Int),.int .i64 (at_:Int),.slice va n cp] 34 (0,0))):=by
  have hne:n0≠n1:=Nat.ne_of_lt HNN.out
  show _=_
  rw [heap_setCell_other _ _ _ _ hne,heap_setCell_other _ _ _ _ hne,heap_setCell_other _ _ _ _ hne]
  exact HN2.out
 have HB3:Hid (Below n0 w (((w2.setCell ⟨n1,0,none⟩ (.int .i64 (tl:Int))).setCell ⟨n1,1,none⟩ (.int .i64 (tr:Int))).setCell ⟨n1,2,none⟩ (.bool sl))):=bel3 HB2.out (Nat.le_of_lt HNN.out)
 have hcl:=HD3.out.lg HLG.out
 rw [HL.out] at hcl
 have HX3:Hid ((fun wx=>wx.cell? ⟨n0,1,none⟩=some (.int .i64 (lg:Int))∧wx.cell? ⟨nd,2+lg*3,none⟩=some (.int .i64 (tl:Int))∧wx.cell? ⟨nd,2+lg*3+1,none⟩=some (.int .i64 (tr:Int))∧wx.cell? ⟨nd,2+lg*3+2,none⟩=some (.bool sl)) (((w2.setCell ⟨n1,0,none⟩ (.int .i64 (tl:Int))).setCell ⟨n1,1,none⟩ (.int .i64 (tr:Int))).setCell ⟨n1,2,none⟩ (.bool sl))):=⟨aAa HN3.out,hcl.1,hcl.2.1,hcl.2.2⟩
 clear hcl hHeld m0 m1 m2 mf0 mf1 mf2
 generalize (((w2.setCell ⟨n1,0,none⟩ (.int .i64 (tl:Int))).setCell ⟨n1,1,none⟩ (.int .i64 (tr:Int))).setCell ⟨n1,2,none⟩ (.bool sl))=w3 at *
 refine hK.out _ _ HX3.out (fun hHeld=>?_)
 clear hK K
 try simp only [Act.put,siT,scZ,scS]
 refine wpAnyH_done (by kernel_rfl) ?_ _
 refine NoPanic.normal ?_
 clear hHeld
 have y0:w3.cell? ⟨n0,0,none⟩=some (.int .i64 k):=aAa HN3.out
 have yf0:w3.frozen? ⟨n0,0,none⟩=false:=aAb HN3.out
 have y1:w3.cell? ⟨n0,1,none⟩=some (.int .i64 (lg:Int)):=aAa HN3.out
 have yf1:w3.frozen? ⟨n0,1,none⟩=false:=aAb HN3.out
 have y2:w3.cell? ⟨n0,2,none⟩=some (.int .i64 (at_:Int)):=aAa HN3.out
 have yf2:w3.frozen? ⟨n0,2,none⟩=false:=aAb HN3.out
 have y3:w3.cell? ⟨n0,3,none⟩=some (.slice va n cp):=aAa HN3.out
 have yf3:w3.frozen? ⟨n0,3,none⟩=false:=aAb HN3.out
 have x0:w3.cell? ⟨n1,0,none⟩=some (.int .i64 (tl:Int)):=aAa HM3.out
 have xf0:w3.frozen? ⟨n1,0,none⟩=false:=aAb HM3.out
 have x1:w3.cell? ⟨n1,1,none⟩=some (.int .i64 (tr:Int)):=aAa HM3.out
 have xf1:w3.frozen? ⟨n1,1,none⟩=false:=aAb HM3.out
 have x2:w3.cell? ⟨n1,2,none⟩=some (.bool sl):=aAa HM3.out
 have xf2:w3.frozen? ⟨n1,2,none⟩=false:=aAb HM3.out
 have HR3:=hide (HRE.out w3)
 go_wp2_with fail
 refine HR3.out.mono ?_
 rintro e w4 ⟨rfl,hb4⟩
 have HD4:=hide (HD3.out.later hb4)
 have HM4:=hide ((hb4.block n1 (lt HM3.out)).trans HM3.out)
 have HN4:=hide ((hb4.block n0 (lt HN3.out)).trans HN3.out)
 have HB4:Hid (Below n0 w w4):=HB3.out.trans (hb4.mono (by have:=HB3.out.size;omega))
 clear hb4 HR3 x0 x1 x2 xf0 xf1 xf2 y0 y1 y2 y3 yf0 yf1 yf2 yf3
 have y0:w4.cell? ⟨n0,0,none⟩=some (.int .i64 k):=aAa HN4.out
 have yf0:w4.frozen? ⟨n0,0,none⟩=false:=aAb HN4.out
 have y1:w4.cell? ⟨n0,1,none⟩=some (.int .i64 (lg:Int)):=aAa HN4.out
 have yf1:w4.frozen? ⟨n0,1,none⟩=false:=aAb HN4.out
 have y2:w4.cell? ⟨n0,2,none⟩=some (.int .i64 (at_:Int)):=aAa HN4.out
 have yf2:w4.frozen? ⟨n0,2,none⟩=false:=aAb HN4.out
 have y3:w4.cell? ⟨n0,3,none⟩=some (.slice va n cp):=aAa HN4.out
 have yf3:w4.frozen? ⟨n0,3,none⟩=false:=aAb HN4.out
 have HDR:Hid (Below w4.heap.size w4 w4.drew):=(Below.refl _ _).drew
 have HND4:Hid (w4.drew.heap[n0]?=some (.cells #[.int .i64 k,.int .i64 (lg:Int),.int .i64 (at_:Int),.slice va n cp] 34 (0,0))):=HN4.out
 have HRS:=hide ((HD4.out.later HDR.out).s.readSlot (lg:=lg) (at_:=at_) (by have:=HLG.out;omega) HAT.out HVAL.out)
 have HX5:Hid ((fun wx=>wx.cell? ⟨nd,0,none⟩=some (.pointer (some ⟨ls,0,none⟩))∧wx.cell? ⟨n0,1,none⟩=some (.int .i64 (lg:Int))∧wx.cell? ⟨n0,2,none⟩=some (.int .i64 (at_:Int))) w4.drew):=⟨(HD4.out.later HDR.out).cell0,aAa HN4.out,aAa HN4.out⟩
 go_upto_region 6 with fail
 refine wp_region_noPanic ?_
 refine wp_region_held_drew (S:=fun wx=>wx.cell? ⟨nd,0,none⟩=some (.pointer (some ⟨ls,0,none⟩))∧wx.cell? ⟨n0,1,none⟩=some (.int .i64 (lg:Int))∧wx.cell? ⟨n0,2,none⟩=some (.int .i64 (at_:Int))) (by kernel_rfl) HX5.out (fun hHeld=>?_)
 refine wpAnyH_tk 0 26 ?_
 refine wpAnyH_tk 1 27 ?_
 refine wpAnyH_tk 2 28 ?_
 refine wpAnyH_tk 3 29 ?_
 refine wpAnyH_tk 4 30 ?_
 refine wpAnyH_tk 5 31 ?_
 refine wpAnyH_tk 6 32 ?_
 refine wpAnyH_tk 7 33 ?_
 refine wpAnyH_cm 8 ?_;intro K hK
 go_simp
 refine HRS.out.mono ?_
 rintro e w5 ⟨sa,sc,rfl,hk5',hb5⟩
 have HD5:=hide ((HD4.out.later HDR.out).later hb5)
 have HN5:=hide ((hb5.block n0 (lt HND4.out)).trans HND4.out)
 have HB5:Hid (Below n0 w w5):=HB4.out.drew.trans (hb5.mono (by have:=HB4.out.drew.size;omega))
 have HK5:=hide hk5'
 have HX6:Hid ((fun wx=>wx.cell? ⟨nd,0,none⟩=some (.pointer (some ⟨ls,0,none⟩))∧wx.cell? ⟨n0,1,none⟩=some (.int .i64 (lg:Int))∧wx.cell? ⟨n0,2,none⟩=some (.int .i64 (at_:Int))) w5):=⟨HD5.out.cell0,aAa HN5.out,aAa HN5.out⟩
 clear hk5' hb5 hHeld HRS
 refine hK.out _ _ HX6.out (fun hHeld=>?_)
 clear hK K
 try simp only [Act.put,siT,scZ,scS]
 refine wpAnyH_tk 9 35 ?_
 refine wpAnyH_tk 10 36 ?_
 refine wpAnyH_tk 11 4 ?_
 refine wpAnyH_tk 12 5 ?_
 refine wpAnyH_done (by kernel_rfl) ?_ _
 refine NoPanic.normal ?_
 clear hHeld
 go_wp2
 go_ret2
 exact ⟨sa,sc,rfl,HK5.out,by first | exact HB5.out | (rw [hn0];exact HB5.out)⟩
theorem serve_w [Gd] {B p q g ls rg nd N c u lg at_ n cp tl tr:Nat} {sl:Bool} {l:List It} {L:Nat→Lg} {W w:World} {k:Int} {va:Option Addr} (h:NDM B p q g ls rg nd N c u l L W w) (hlg:lg≤16) (HL:Hid (L lg=(tl,tr,sl))) {val:List Nat} (hk5:¬ k=5) (hg0:True) (hn:val.length=n) (hvb:BK B w va n cp val) (htl:tl<256)
  (har:3≤N∧c<900∧u+9*[(([lg,tl],val):It)].length+11≤N∧u≤2000∧l.length+[(([lg,tl],val):It)].length<90∧∀ x∈[(([lg,tl],val):It)],0<x.1.length∧x.1.length≤60∧x.2.length≤1800∧(∀ n∈x.1,n<256)∧∀ n∈x.2,n<256) (hre:∀ ww,Calls Tryz.prog 53 #[.agg #[.int .i64 (tl:Int),.int .i64 (tr:Int),.bool sl],.agg #[.int .i64 k,.int .i64 (lg:Int),.int .i64 (at_:Int),.slice va n cp]] ww fun e w'=>e=.returned (.int .i64 0)∧Below ww.heap.size ww w')
  (hbe:∀ ww,Calls Tryz.prog 55 #[.agg #[.int .i64 (tl:Int),.int .i64 (tr:Int),.bool sl],.agg #[.int .i64 k,.int .i64 (lg:Int),.int .i64 (at_:Int),.slice va n cp]] ww fun e w'=>e=.returned (.agg #[.int .i64 ((tl:Int)+1),.int .i64 (tr:Int),.bool sl])∧Below ww.heap.size ww w') :
  Calls Tryz.prog 38 #[.pointer (some ⟨nd,0,none⟩),.agg #[.int .i64 k,.int .i64 (lg:Int),.int .i64 (at_:Int),.slice va n cp]] w fun e w'=>e=.returned (.tuple #[.slice none 0 0,.int .i64 0])∧NDM B p q g ls rg nd N (c+1) (apL0 l [([lg,tl],val)]).length (apL0 l [([lg,tl],val)]) (upL L lg (tl+1,tr,sl)) W w'∧RgF B g ls nd w w':=by
 have e8:(((tl:Int)+1) == (tl:Int))=false:=by rw [beq_eq_false_iff_ne];omega
 have HBE:=hide hbe
 have HAR:=hide har
 have HVB:=hide hvb
 have HTL:=hide htl
 have HHN:=hide hn
 have HBW:=hide h.bw
 clear hbe har hvb htl hn
 have lt:∀ {k:Nat} {o:Obj} {ww:World},ww.heap[k]?=some o→k<ww.heap.size:=fun e=>(lO e)
 have j1:(0:Int)≤(lg:Int):=by omega
 have j2:(lg:Int)<17:=by omega
 have HNW:Hid ((w.alloc (.cells #[.int .i64 k,.int .i64 (lg:Int),.int .i64 (at_:Int),.slice va n cp] 34)).heap[w.heap.size]?=some (.cells #[.int .i64 k,.int .i64 (lg:Int),.int .i64 (at_:Int),.slice va n cp] 34 (0,0))):=heap_alloc_new w _
 have HBX:=hide (aAc w (.cells #[.int .i64 k,.int .i64 (lg:Int),.int .i64 (at_:Int),.slice va n cp] 34))
 have H1:=hide (h.later HBX.out)
 have HLG:=hide hlg
 have HRE:=hide hre
 clear h hlg hre
 go_enter Tryz.func38,Tryz.ntmps38
 go_upto_region 1 with fail
 generalize w.alloc (.cells #[.int .i64 k,.int .i64 (lg:Int),.int .i64 (at_:Int),.slice va n cp] 34)=w1 at *
 generalize hn0:w.heap.size=n0 at *
 have HD1:=hide (H1.out.later (show Below w1.heap.size w1 w1.drew from (Below.refl _ _).drew))
 have HND:Hid (w1.drew.heap[n0]?=some (.cells #[.int .i64 k,.int .i64 (lg:Int),.int .i64 (at_:Int),.slice va n cp] 34 (0,0))):=HNW.out
 have HBD:Hid (Below n0 w w1.drew):=HBX.out.drew
 have hcl:=HD1.out.lg HLG.out
 rw [HL.out] at hcl
 have HX0:Hid ((fun wx=>wx.cell? ⟨n0,1,none⟩=some (.int .i64 (lg:Int))∧wx.cell? ⟨nd,2+lg*3,none⟩=some (.int .i64 (tl:Int))∧wx.cell? ⟨nd,2+lg*3+1,none⟩=some (.int .i64 (tr:Int))∧wx.cell? ⟨nd,2+lg*3+2,none⟩=some (.bool sl)) w1.drew):=⟨aAa HND.out,hcl.1,hcl.2.1,hcl.2.2⟩
 clear hcl
 refine wp_region_noPanic ?_
 refine wp_region_held_drew (S:=fun wx=>wx.cell? ⟨n0,1,none⟩=some (.int .i64 (lg:Int))∧wx.cell? ⟨nd,2+lg*3,none⟩=some (.int .i64 (tl:Int))∧wx.cell? ⟨nd,2+lg*3+1,none⟩=some (.int .i64 (tr:Int))∧wx.cell? ⟨nd,2+lg*3+2,none⟩=some (.bool sl)) (by kernel_rfl) HX0.out (fun hHeld=>?_)
 refine wpAnyH_tk 0 10 ?_
 refine wpAnyH_tk 1 11 ?_
 refine wpAnyH_tk 2 12 ?_
 refine wpAnyH_tk 3 13 ?_
 refine wpAnyH_tk 4 14 ?_
 refine wpAnyH_tk 5 15 ?_
 refine wpAnyH_tk 6 16 ?_
 refine wpAnyH_cm 7 ?_;intro K hK
 go_simp
 have hb2:Below w1.heap.size w1 (w1.alloc (.cells #[.int .i64 0,.int .i64 0,.bool false] 83)).drew:=(aAc w1 (.cells #[.int .i64 0,.int .i64 0,.bool false] 83)).drew
 have HD2:=hide (H1.out.later hb2)
 have HN2:Hid ((w1.alloc (.cells #[.int .i64 0,.int .i64 0,.bool false] 83)).drew.heap[n0]?=some (.cells #[.int .i64 k,.int .i64 (lg:Int),.int .i64 (at_:Int),.slice va n cp] 34 (0,0))):=(hb2.block n0 (lt HNW.out)).trans HNW.out
 have HM2:Hid ((w1.alloc (.cells #[.int .i64 0,.int .i64 0,.bool false] 83)).drew.heap[w1.heap.size]?=some (.cells #[.int .i64 0,.int .i64 0,.bool false] 83 (0,0))):=heap_alloc_new w1 _
 have HB2:Hid (Below n0 w (w1.alloc (.cells #[.int .i64 0,.int .i64 0,.bool false] 83)).drew):=HBX.out.trans (hb2.mono (by have:=HBX.out.size;omega))
 have HNN:Hid (n0<w1.heap.size):=lt HNW.out
 have HBN:Hid (B≤w1.heap.size):=H1.out.bw
 have hcl:=HD2.out.lg HLG.out
 rw [HL.out] at hcl
 have HX2:Hid ((fun wx=>wx.cell? ⟨n0,1,none⟩=some (.int .i64 (lg:Int))∧wx.cell? ⟨nd,2+lg*3,none⟩=some (.int .i64 (tl:Int))∧wx.cell? ⟨nd,2+lg*3+1,none⟩=some (.int .i64 (tr:Int))∧wx.cell? ⟨nd,2+lg*3+2,none⟩=some (.bool sl)) (w1.alloc (.cells #[.int .i64 0,.int .i64 0,.bool false] 83)).drew):=⟨aAa HN2.out,hcl.1,hcl.2.1,hcl.2.2⟩
 clear hcl hb2 hHeld H1 HNW HBX
 generalize (w1.alloc (.cells #[.int .i64 0,.int .i64 0,.bool false] 83)).drew=w2 at *
 generalize w1.heap.size=n1 at *
 refine hK.out _ _ HX2.out (fun hHeld=>?_)
 clear hK K
 try simp only [Act.put,siT,scZ,scS]
 have m0:w2.cell? ⟨n1,0,none⟩=some (.int .i64 0):=aAa HM2.out
 have mf0:w2.frozen? ⟨n1,0,none⟩=false:=aAb HM2.out
 have m1:w2.cell? ⟨n1,1,none⟩=some (.int .i64 0):=aAa HM2.out
 have mf1:w2.frozen? ⟨n1,1,none⟩=false:=aAb HM2.out
 have m2:w2.cell? ⟨n1,2,none⟩=some (.bool false):=aAa HM2.out
 have mf2:w2.frozen? ⟨n1,2,none⟩=false:=aAb HM2.out
 refine wpAnyH_cm 8 ?_;intro K hK
 go_simp
 have HD3:=hide (((HD2.out.bset (o:=0) (x:=.int .i64 (tl:Int)) HM2.out HBN.out).bset (o:=1) (x:=.int .i64 (tr:Int)) (heap_setCell_same _ _ _ _ _ _ HM2.out) HBN.out).bset (o:=2) (x:=.bool sl) (heap_setCell_same _ _ _ _ _ _ (heap_setCell_same _ _ _ _ _ _ HM2.out)) HBN.out)
 have HM3:Hid ((((w2.setCell ⟨n1,0,none⟩ (.int .i64 (tl:Int))).setCell ⟨n1,1,none⟩ (.int .i64 (tr:Int))).setCell ⟨n1,2,none⟩ (.bool sl)).heap[n1]?=some (.cells #[.int .i64 (tl:Int),.int .i64 (tr:Int),.bool sl] 83 (0,0))):=set3 HM2.out
 have HN3:Hid ((((w2.setCell ⟨n1,0,none⟩ (.int .i64 (tl:Int))).setCell ⟨n1,1,none⟩ (.int .i64 (tr:Int))).setCell ⟨n1,2,none⟩ (.bool sl)).heap[n0]?=some (.cells #[.int .i64 k,.int .i64 (lg:Int),.int .i64 (at_:Int),.slice va n cp] 34 (0,0))):=by
  have hne:n0≠n1:=Nat.ne_of_lt HNN.out
  show _=_
  rw [heap_setCell_other _ _ _ _ hne,heap_setCell_other _ _ _ _ hne,heap_setCell_other _ _ _ _ hne]
  exact HN2.out
 have HB3:Hid (Below n0 w (((w2.setCell ⟨n1,0,none⟩ (.int .i64 (tl:Int))).setCell ⟨n1,1,none⟩ (.int .i64 (tr:Int))).setCell ⟨n1,2,none⟩ (.bool sl))):=bel3 HB2.out (Nat.le_of_lt HNN.out)
 have hcl:=HD3.out.lg HLG.out
 rw [HL.out] at hcl
 have HX3:Hid ((fun wx=>wx.cell? ⟨n0,1,none⟩=some (.int .i64 (lg:Int))∧wx.cell? ⟨nd,2+lg*3,none⟩=some (.int .i64 (tl:Int))∧wx.cell? ⟨nd,2+lg*3+1,none⟩=some (.int .i64 (tr:Int))∧wx.cell? ⟨nd,2+lg*3+2,none⟩=some (.bool sl)) (((w2.setCell ⟨n1,0,none⟩ (.int .i64 (tl:Int))).setCell ⟨n1,1,none⟩ (.int .i64 (tr:Int))).setCell ⟨n1,2,none⟩ (.bool sl))):=⟨aAa HN3.out,hcl.1,hcl.2.1,hcl.2.2⟩
 clear hcl hHeld m0 m1 m2 mf0 mf1 mf2
 generalize (((w2.setCell ⟨n1,0,none⟩ (.int .i64 (tl:Int))).setCell ⟨n1,1,none⟩ (.int .i64 (tr:Int))).setCell ⟨n1,2,none⟩ (.bool sl))=w3 at *
 refine hK.out _ _ HX3.out (fun hHeld=>?_)
 clear hK K
 try simp only [Act.put,siT,scZ,scS]
 refine wpAnyH_done (by kernel_rfl) ?_ _
 refine NoPanic.normal ?_
 clear hHeld
 have y0:w3.cell? ⟨n0,0,none⟩=some (.int .i64 k):=aAa HN3.out
 have yf0:w3.frozen? ⟨n0,0,none⟩=false:=aAb HN3.out
 have y1:w3.cell? ⟨n0,1,none⟩=some (.int .i64 (lg:Int)):=aAa HN3.out
 have yf1:w3.frozen? ⟨n0,1,none⟩=false:=aAb HN3.out
 have y2:w3.cell? ⟨n0,2,none⟩=some (.int .i64 (at_:Int)):=aAa HN3.out
 have yf2:w3.frozen? ⟨n0,2,none⟩=false:=aAb HN3.out
 have y3:w3.cell? ⟨n0,3,none⟩=some (.slice va n cp):=aAa HN3.out
 have yf3:w3.frozen? ⟨n0,3,none⟩=false:=aAb HN3.out
 have x0:w3.cell? ⟨n1,0,none⟩=some (.int .i64 (tl:Int)):=aAa HM3.out
 have xf0:w3.frozen? ⟨n1,0,none⟩=false:=aAb HM3.out
 have x1:w3.cell? ⟨n1,1,none⟩=some (.int .i64 (tr:Int)):=aAa HM3.out
 have xf1:w3.frozen? ⟨n1,1,none⟩=false:=aAb HM3.out
 have x2:w3.cell? ⟨n1,2,none⟩=some (.bool sl):=aAa HM3.out
 have xf2:w3.frozen? ⟨n1,2,none⟩=false:=aAb HM3.out
 have HR3:=hide (HRE.out w3)
 go_wp2_with fail
 refine HR3.out.mono ?_
 rintro e w4 ⟨rfl,hb4⟩
 have HD4:=hide (HD3.out.later hb4)
 have HM4:=hide ((hb4.block n1 (lt HM3.out)).trans HM3.out)
 have HN4:=hide ((hb4.block n0 (lt HN3.out)).trans HN3.out)
 have HB4:Hid (Below n0 w w4):=HB3.out.trans (hb4.mono (by have:=HB3.out.size;omega))
 clear hb4 HR3 x0 x1 x2 xf0 xf1 xf2 y0 y1 y2 y3 yf0 yf1 yf2 yf3
 have y0:w4.cell? ⟨n0,0,none⟩=some (.int .i64 k):=aAa HN4.out
 have yf0:w4.frozen? ⟨n0,0,none⟩=false:=aAb HN4.out
 have y1:w4.cell? ⟨n0,1,none⟩=some (.int .i64 (lg:Int)):=aAa HN4.out
 have yf1:w4.frozen? ⟨n0,1,none⟩=false:=aAb HN4.out
 have y2:w4.cell? ⟨n0,2,none⟩=some (.int .i64 (at_:Int)):=aAa HN4.out
 have yf2:w4.frozen? ⟨n0,2,none⟩=false:=aAb HN4.out
 have y3:w4.cell? ⟨n0,3,none⟩=some (.slice va n cp):=aAa HN4.out
 have yf3:w4.frozen? ⟨n0,3,none⟩=false:=aAb HN4.out
 have x0:w4.cell? ⟨n1,0,none⟩=some (.int .i64 (tl:Int)):=aAa HM4.out
 have xf0:w4.frozen? ⟨n1,0,none⟩=false:=aAb HM4.out
 have x1:w4.cell? ⟨n1,1,none⟩=some (.int .i64 (tr:Int)):=aAa HM4.out
 have xf1:w4.frozen? ⟨n1,1,none⟩=false:=aAb HM4.out
 have x2:w4.cell? ⟨n1,2,none⟩=some (.bool sl):=aAa HM4.out
 have xf2:w4.frozen? ⟨n1,2,none⟩=false:=aAb HM4.out
 have HBE4:=hide (HBE.out w4)
 go_wp2_with fail
 refine HBE4.out.mono ?_
 rintro e w5 ⟨rfl,hb5⟩
 have hb6:=aAc w5 (.cells #[.int .i64 ((tl:Int)+1),.int .i64 (tr:Int),.bool sl] 83)
 have HD7:=hide ((HD4.out.later hb5).later hb6)
 have HM5:=(hb5.block n1 (lt HM4.out)).trans HM4.out
 have HN5:=(hb5.block n0 (lt HN4.out)).trans HN4.out
 have HM7:=hide ((hb6.block n1 (lt HM5)).trans HM5)
 have HN7:=hide ((hb6.block n0 (lt HN5)).trans HN5)
 have HP7:Hid ((w5.alloc (.cells #[.int .i64 ((tl:Int)+1),.int .i64 (tr:Int),.bool sl] 83)).heap[w5.heap.size]?=some (.cells #[.int .i64 ((tl:Int)+1),.int .i64 (tr:Int),.bool sl] 83 (0,0))):=heap_alloc_new w5 _
 have HB7:Hid (Below n0 w (w5.alloc (.cells #[.int .i64 ((tl:Int)+1),.int .i64 (tr:Int),.bool sl] 83))):=(HB4.out.trans (hb5.mono (by have:=HB4.out.size;omega))).trans (hb6.mono (by have:=HB4.out.size;have:=hb5.size;omega))
 have HNN7:Hid (n0<w5.heap.size∧n1<w5.heap.size):=⟨lt HN5,lt HM5⟩
 have HBN7:Hid (B≤w5.heap.size):=(HD4.out.later hb5).bw
 clear hb5 hb6 HM5 HN5 HBE4 x0 x1 x2 xf0 xf1 xf2 y0 y1 y2 y3 yf0 yf1 yf2 yf3
 go_upto_region 8 with fail
 generalize (w5.alloc (.cells #[.int .i64 ((tl:Int)+1),.int .i64 (tr:Int),.bool sl] 83))=w7 at *
 generalize w5.heap.size=n5 at *
 have z0:w7.cell? ⟨n5,0,none⟩=some (.int .i64 ((tl:Int)+1)):=aAa HP7.out
 have zf0:w7.frozen? ⟨n5,0,none⟩=false:=aAb HP7.out
 have z1:w7.cell? ⟨n5,1,none⟩=some (.int .i64 (tr:Int)):=aAa HP7.out
 have zf1:w7.frozen? ⟨n5,1,none⟩=false:=aAb HP7.out
 have z2:w7.cell? ⟨n5,2,none⟩=some (.bool sl):=aAa HP7.out
 have zf2:w7.frozen? ⟨n5,2,none⟩=false:=aAb HP7.out
 have x0:w7.cell? ⟨n1,0,none⟩=some (.int .i64 (tl:Int)):=aAa HM7.out
 have xf0:w7.frozen? ⟨n1,0,none⟩=false:=aAb HM7.out
 have x1:w7.cell? ⟨n1,1,none⟩=some (.int .i64 (tr:Int)):=aAa HM7.out
 have xf1:w7.frozen? ⟨n1,1,none⟩=false:=aAb HM7.out
 have x2:w7.cell? ⟨n1,2,none⟩=some (.bool sl):=aAa HM7.out
 have xf2:w7.frozen? ⟨n1,2,none⟩=false:=aAb HM7.out
 go_upto_region 10 with fail
 have hd:Below w7.heap.size w7 w7.drew:=(Below.refl _ _).drew
 have HD8:=hide (HD7.out.later hd)
 have HN8:Hid (w7.drew.heap[n0]?=some (.cells #[.int .i64 k,.int .i64 (lg:Int),.int .i64 (at_:Int),.slice va n cp] 34 (0,0))):=HN7.out
 have HM8:Hid (w7.drew.heap[n1]?=some (.cells #[.int .i64 (tl:Int),.int .i64 (tr:Int),.bool sl] 83 (0,0))):=HM7.out
 have HP8:Hid (w7.drew.heap[n5]?=some (.cells #[.int .i64 ((tl:Int)+1),.int .i64 (tr:Int),.bool sl] 83 (0,0))):=HP7.out
 have HB8:Hid (Below n0 w w7.drew):=HB7.out.drew
 have HCH:Hid (Calls Tryz.prog 58 #[.int .i64 (lg:Int),.agg #[.int .i64 (tl:Int),.int .i64 (tr:Int),.bool sl],.agg #[.int .i64 ((tl:Int)+1),.int .i64 (tr:Int),.bool sl],.slice va n cp] w7.drew fun e w'=>∃ v,e=.returned v∧CHV0 B w' v [([lg,tl],val)]∧Below w7.drew.heap.size w7.drew w'):=by
  have hb:=HVB.out.later (by rw [hn0];exact HB8.out) (by rw [hn0];exact HBW.out)
  rw [←HHN.out] at hb ⊢
  exact changes_w hb HD8.out.bw (by have:=HLG.out;omega) HTL.out
 have HX8:Hid ((fun wx=>wx.cell? ⟨nd,0,none⟩=some (.pointer (some ⟨ls,0,none⟩))∧wx.cell? ⟨n0,1,none⟩=some (.int .i64 (lg:Int))∧wx.cell? ⟨n0,3,none⟩=some (.slice va n cp)∧wx.cell? ⟨n1,0,none⟩=some (.int .i64 (tl:Int))∧wx.cell? ⟨n1,1,none⟩=some (.int .i64 (tr:Int))∧wx.cell? ⟨n1,2,none⟩=some (.bool sl)∧wx.cell? ⟨n5,0,none⟩=some (.int .i64 ((tl:Int)+1))∧wx.cell? ⟨n5,1,none⟩=some (.int .i64 (tr:Int))∧wx.cell? ⟨n5,2,none⟩=some (.bool sl)) w7.drew):=⟨HD8.out.cell0,aAa HN8.out,aAa HN8.out,aAa HM8.out,aAa HM8.out,aAa HM8.out,aAa HP8.out,aAa HP8.out,aAa HP8.out⟩
 clear hd z0 z1 z2 zf0 zf1 zf2 x0 x1 x2 xf0 xf1 xf2
 refine wp_region_noPanic ?_
 refine wp_region_held_drew (S:=fun wx=>wx.cell? ⟨nd,0,none⟩=some (.pointer (some ⟨ls,0,none⟩))∧wx.cell? ⟨n0,1,none⟩=some (.int .i64 (lg:Int))∧wx.cell? ⟨n0,3,none⟩=some (.slice va n cp)∧wx.cell? ⟨n1,0,none⟩=some (.int .i64 (tl:Int))∧wx.cell? ⟨n1,1,none⟩=some (.int .i64 (tr:Int))∧wx.cell? ⟨n1,2,none⟩=some (.bool sl)∧wx.cell? ⟨n5,0,none⟩=some (.int .i64 ((tl:Int)+1))∧wx.cell? ⟨n5,1,none⟩=some (.int .i64 (tr:Int))∧wx.cell? ⟨n5,2,none⟩=some (.bool sl)) (by kernel_rfl) HX8.out (fun hHeld=>?_)
 refine wpAnyH_tk 0 43 ?_
 refine wpAnyH_tk 1 44 ?_
 refine wpAnyH_tk 2 45 ?_
 refine wpAnyH_tk 3 46 ?_
 refine wpAnyH_tk 4 47 ?_
 refine wpAnyH_tk 5 48 ?_
 refine wpAnyH_tk 6 49 ?_
 refine wpAnyH_tk 7 50 ?_
 refine wpAnyH_tk 9 52 ?_
 refine wpAnyH_tk 10 53 ?_
 refine wpAnyH_tk 11 54 ?_
 refine wpAnyH_tk 12 55 ?_
 refine wpAnyH_tk 13 56 ?_
 refine wpAnyH_tk 14 57 ?_
 refine wpAnyH_cm 8 ?_;intro K hK
 go_simp
 refine HD8.out.s.pos.mono ?_
 rintro e w8' ⟨rfl,rfl⟩
 clear hHeld
 refine hK.out _ _ HX8.out (fun hHeld=>?_)
 clear hK K
 try simp only [Act.put,siT,scZ,scS]
 refine wpAnyH_cm 15 ?_;intro K hK
 go_simp
 refine HCH.out.mono ?_
 rintro e w9 ⟨cv,rfl,hc9,hb9⟩
 have HD9:=hide (HD8.out.later hb9)
 have HN9:=hide ((hb9.block n0 (lt HN8.out)).trans HN8.out)
 have HM9:=hide ((hb9.block n1 (lt HM8.out)).trans HM8.out)
 have HP9:=hide ((hb9.block n5 (lt HP8.out)).trans HP8.out)
 have HB9:Hid (Below n0 w w9):=HB8.out.trans (hb9.mono (by have:=HB8.out.size;omega))
 have HAP:=hide (HD9.out.s.Apply0 hg0 HAR.out.1 HAR.out.2.1 HAR.out.2.2.1 HAR.out.2.2.2.1 HAR.out.2.2.2.2.1 hc9 HAR.out.2.2.2.2.2)
 have HX9:Hid ((fun wx=>wx.cell? ⟨nd,0,none⟩=some (.pointer (some ⟨ls,0,none⟩))∧wx.cell? ⟨n0,1,none⟩=some (.int .i64 (lg:Int))∧wx.cell? ⟨n0,3,none⟩=some (.slice va n cp)∧wx.cell? ⟨n1,0,none⟩=some (.int .i64 (tl:Int))∧wx.cell? ⟨n1,1,none⟩=some (.int .i64 (tr:Int))∧wx.cell? ⟨n1,2,none⟩=some (.bool sl)∧wx.cell? ⟨n5,0,none⟩=some (.int .i64 ((tl:Int)+1))∧wx.cell? ⟨n5,1,none⟩=some (.int .i64 (tr:Int))∧wx.cell? ⟨n5,2,none⟩=some (.bool sl)) w9):=⟨HD9.out.cell0,aAa HN9.out,aAa HN9.out,aAa HM9.out,aAa HM9.out,aAa HM9.out,aAa HP9.out,aAa HP9.out,aAa HP9.out⟩
 clear hc9 hb9 hHeld HCH
 refine hK.out _ _ HX9.out (fun hHeld=>?_)
 clear hK K
 try simp only [Act.put,siT,scZ,scS]
 refine wpAnyH_cm 16 ?_;intro K hK
 go_simp
 refine HAP.out.mono ?_
 rintro e w10 ⟨rfl,hly,hls⟩
 obtain ⟨cg,hcg⟩:=HD9.out.s.kx.blk
 obtain ⟨cl9,k9,_⟩:=HD9.out.s.lv
 obtain ⟨cn9,v9,v9'⟩:=HD9.out.v
 have HNA:=hide (hly.2 _ _ _ _ HN9.out (by decide) (aA0 HN9.out hcg (by decide)) (aA0 HN9.out k9 (by decide)))
 have HMA:=hide (hly.2 _ _ _ _ HM9.out (by decide) (aA0 HM9.out hcg (by decide)) (aA0 HM9.out k9 (by decide)))
 have HPA:=hide (hly.2 _ _ _ _ HP9.out (by decide) (aA0 HP9.out hcg (by decide)) (aA0 HP9.out k9 (by decide)))
 have HDA:Hid (NDM B p q g ls rg nd N (c+1) (apL0 l [([lg,tl],val)]).length (apL0 l [([lg,tl],val)]) L W w10):=⟨hls,HD9.out.b,cn9,hly.2 _ _ _ _ v9 (by decide) (aA0 v9 hcg (by decide)) (aA0 v9 k9 (by decide)),v9'⟩
 have HFA:Hid (RgF B g ls nd w w10):=(RgF.of (by rw [hn0];exact HB9.out) (by rw [hn0];exact HBW.out)).trans (RgF.ly hly)
 have HXA:Hid ((fun wx=>wx.cell? ⟨nd,0,none⟩=some (.pointer (some ⟨ls,0,none⟩))∧wx.cell? ⟨n0,1,none⟩=some (.int .i64 (lg:Int))∧wx.cell? ⟨n0,3,none⟩=some (.slice va n cp)∧wx.cell? ⟨n1,0,none⟩=some (.int .i64 (tl:Int))∧wx.cell? ⟨n1,1,none⟩=some (.int .i64 (tr:Int))∧wx.cell? ⟨n1,2,none⟩=some (.bool sl)∧wx.cell? ⟨n5,0,none⟩=some (.int .i64 ((tl:Int)+1))∧wx.cell? ⟨n5,1,none⟩=some (.int .i64 (tr:Int))∧wx.cell? ⟨n5,2,none⟩=some (.bool sl)) w10):=⟨HDA.out.cell0,aAa HNA.out,aAa HNA.out,aAa HMA.out,aAa HMA.out,aAa HMA.out,aAa HPA.out,aAa HPA.out,aAa HPA.out⟩
 clear hly hls hcg k9 v9 v9' hHeld HAP
 refine hK.out _ _ HXA.out (fun hHeld=>?_)
 clear hK K
 try simp only [Act.put,siT,scZ,scS]
 refine wpAnyH_tk 17 9 ?_
 refine wpAnyH_done (by kernel_rfl) ?_ _
 refine NoPanic.normal ?_
 clear hHeld
 have HDB:=hide (HDA.out.later (show Below w10.heap.size w10 w10.drew from (Below.refl _ _).drew))
 have HNB:Hid (w10.drew.heap[n0]?=some (.cells #[.int .i64 k,.int .i64 (lg:Int),.int .i64 (at_:Int),.slice va n cp] 34 (0,0))):=HNA.out
 have HPB:Hid (w10.drew.heap[n5]?=some (.cells #[.int .i64 ((tl:Int)+1),.int .i64 (tr:Int),.bool sl] 83 (0,0))):=HPA.out
 have HFB:Hid (RgF B g ls nd w w10.drew):=HFA.out.trans (RgF.of (Below.refl _ _).drew HDA.out.bw)
 have HXB:Hid ((fun wx=>wx.cell? ⟨n0,1,none⟩=some (.int .i64 (lg:Int))∧wx.cell? ⟨n5,0,none⟩=some (.int .i64 ((tl:Int)+1))∧wx.cell? ⟨n5,1,none⟩=some (.int .i64 (tr:Int))∧wx.cell? ⟨n5,2,none⟩=some (.bool sl)) w10.drew):=⟨aAa HNB.out,aAa HPB.out,aAa HPB.out,aAa HPB.out⟩
 have hcl:=HDA.out.lg HLG.out
 have u0:=hcl.1
 have u1:=hcl.2.1
 have u2:=hcl.2.2
 have f0:=HDA.out.lgf (2+lg*3)
 have f1:=HDA.out.lgf (2+lg*3+1)
 have f2:=HDA.out.lgf (2+lg*3+2)
 clear hcl
 go_upto_region 12 with fail
 refine wp_region_noPanic ?_
 refine wp_region_held_drew (S:=fun wx=>wx.cell? ⟨n0,1,none⟩=some (.int .i64 (lg:Int))∧wx.cell? ⟨n5,0,none⟩=some (.int .i64 ((tl:Int)+1))∧wx.cell? ⟨n5,1,none⟩=some (.int .i64 (tr:Int))∧wx.cell? ⟨n5,2,none⟩=some (.bool sl)) (by kernel_rfl) HXB.out (fun hHeld=>?_)
 refine wpAnyH_tk 0 62 ?_
 refine wpAnyH_tk 1 63 ?_
 refine wpAnyH_tk 2 64 ?_
 refine wpAnyH_tk 3 65 ?_
 refine wpAnyH_tk 4 66 ?_
 refine wpAnyH_tk 5 67 ?_
 refine wpAnyH_tk 6 68 ?_
 refine wpAnyH_cm 7 ?_;intro K hK
 go_simp
 have HDC:Hid (NDM B p q g ls rg nd N (c+1) (apL0 l [([lg,tl],val)]).length (apL0 l [([lg,tl],val)]) (upL L lg (tl+1,tr,sl)) W (((w10.setCell ⟨nd,2+lg*3,none⟩ (.int .i64 ((tl:Int)+1))).setCell ⟨nd,2+lg*3+1,none⟩ (.int .i64 (tr:Int))).setCell ⟨nd,2+lg*3+2,none⟩ (.bool sl)).drew):=(HDA.out.set HLG.out (tl+1,tr,sl)).later (Below.refl _ _).drew
 obtain ⟨cn9,v9,v9'⟩:=HDA.out.v
 have hne0:=aA0 HNA.out v9 (by decide)
 have hne5:=aA0 HPA.out v9 (by decide)
 have HNC:(((w10.setCell ⟨nd,2+lg*3,none⟩ (.int .i64 ((tl:Int)+1))).setCell ⟨nd,2+lg*3+1,none⟩ (.int .i64 (tr:Int))).setCell ⟨nd,2+lg*3+2,none⟩ (.bool sl)).drew.heap[n0]?=some (.cells #[.int .i64 k,.int .i64 (lg:Int),.int .i64 (at_:Int),.slice va n cp] 34 (0,0)):=by show (((w10.setCell ⟨nd,2+lg*3,none⟩ (.int .i64 ((tl:Int)+1))).setCell ⟨nd,2+lg*3+1,none⟩ (.int .i64 (tr:Int))).setCell ⟨nd,2+lg*3+2,none⟩ (.bool sl)).heap[n0]?=_;rw [heap_setCell_other _ _ _ _ hne0,heap_setCell_other _ _ _ _ hne0,heap_setCell_other _ _ _ _ hne0];exact HNA.out
 have HPC:(((w10.setCell ⟨nd,2+lg*3,none⟩ (.int .i64 ((tl:Int)+1))).setCell ⟨nd,2+lg*3+1,none⟩ (.int .i64 (tr:Int))).setCell ⟨nd,2+lg*3+2,none⟩ (.bool sl)).drew.heap[n5]?=some (.cells #[.int .i64 ((tl:Int)+1),.int .i64 (tr:Int),.bool sl] 83 (0,0)):=by show (((w10.setCell ⟨nd,2+lg*3,none⟩ (.int .i64 ((tl:Int)+1))).setCell ⟨nd,2+lg*3+1,none⟩ (.int .i64 (tr:Int))).setCell ⟨nd,2+lg*3+2,none⟩ (.bool sl)).heap[n5]?=_;rw [heap_setCell_other _ _ _ _ hne5,heap_setCell_other _ _ _ _ hne5,heap_setCell_other _ _ _ _ hne5];exact HPA.out
 have HXC:Hid ((fun wx=>wx.cell? ⟨n0,1,none⟩=some (.int .i64 (lg:Int))∧wx.cell? ⟨n5,0,none⟩=some (.int .i64 ((tl:Int)+1))∧wx.cell? ⟨n5,1,none⟩=some (.int .i64 (tr:Int))∧wx.cell? ⟨n5,2,none⟩=some (.bool sl)) (((w10.setCell ⟨nd,2+lg*3,none⟩ (.int .i64 ((tl:Int)+1))).setCell ⟨nd,2+lg*3+1,none⟩ (.int .i64 (tr:Int))).setCell ⟨nd,2+lg*3+2,none⟩ (.bool sl)).drew):=⟨aAa HNC,aAa HPC,aAa HPC,aAa HPC⟩
 have HFC:Hid (RgF B g ls nd w (((w10.setCell ⟨nd,2+lg*3,none⟩ (.int .i64 ((tl:Int)+1))).setCell ⟨nd,2+lg*3+1,none⟩ (.int .i64 (tr:Int))).setCell ⟨nd,2+lg*3+2,none⟩ (.bool sl)).drew):=(((HFA.out.trans (RgF.set HDA.out.b v9 (by unfold DTy;decide))).trans (RgF.set HDA.out.b (heap_setCell_same _ _ _ _ _ _ v9) (by unfold DTy;decide))).trans (RgF.set HDA.out.b (heap_setCell_same _ _ _ _ _ _ (heap_setCell_same _ _ _ _ _ _ v9)) (by unfold DTy;decide))).trans (RgF.of (Below.refl _ _).drew (HDA.out.set HLG.out (tl+1,tr,sl)).bw)
 clear hHeld v9 v9' hne0 hne5 HNC HPC
 refine hK.out _ _ HXC.out (fun hHeld=>?_)
 clear hK K
 try simp only [Act.put,siT,scZ,scS]
 refine wpAnyH_done (by kernel_rfl) ?_ _
 refine NoPanic.normal ?_
 clear hHeld u0 u1 u2 f0 f1 f2
 go_wp2
 go_ret2
 exact ⟨rfl,HDC.out,HFC.out⟩
theorem RgF.an1 [Gd] {B g ls rg n0 o:Nat} {w0 w:World} {x:Value} (h:RgF B g ls rg w0 w) (hn:w0.heap.size≤n0) (hB:B≤n0):RgF B g ls rg w0 (w.setCell ⟨n0,o,none⟩ x):=⟨h.1.trans (Ex.set hB).1,fun k cs t fz e h1 h2 h3 h4=>by
 have hk:=h.2 k cs t fz e h1 h2 h3 h4
 rw [(Ex.set (w:=w) (o:=o) (u:=x) hB).2 k (lO hk) (by have:=(lO e);simp;omega),hk],fun k hk hf=>by
  have hne:k≠n0:=by
   have:=hf.lt
   omega
  rw [heap_setCell_other _ _ _ _ hne]
  exact h.gd k hk hf⟩
theorem RgF.an3 [Gd] {B g ls rg n0:Nat} {w0 w:World} {b0 b1 b2:Value} (h:RgF B g ls rg w0 w) (hn:w0.heap.size≤n0) (hB:B≤n0):RgF B g ls rg w0 (((w.setCell ⟨n0,0,none⟩ b0).setCell ⟨n0,1,none⟩ b1).setCell ⟨n0,2,none⟩ b2):=((h.an1 hn hB).an1 hn hB).an1 hn hB
section
variable [Gd] {B p q g ls rg nd N c u n0:Nat} {l:List It} {L:Nat→Lg} {W w w':World}
theorem NDM.aset (h:NDM B p q g ls rg nd N c u l L W w) {cf:Array Value} {o:Nat} {x:Value} (hf:w.heap[n0]?=some (.cells cf 30 (0,0))) (hB:B≤n0):NDM B p q g ls rg nd N c u l L W (w.setCell ⟨n0,o,none⟩ x):=by
 obtain ⟨cs,h1,h2⟩:=h.s.lv
 obtain ⟨cn,h3,h4⟩:=h.v
 have keep:∀ (k:Nat) (cs:Array Value) (t:TypeId) (fz:Nat×Nat),w.heap[k]?=some (Obj.cells cs t fz)→t≠30→(w.setCell ⟨n0,o,none⟩ x).heap[k]?=some (Obj.cells cs t fz):=fun k cs t fz e ht=>by
  rw [(Ex.set (w:=w) (o:=o) (u:=x) hB).2 k (lO e) (by simpa using aA0 e hf ht),e]
 refine ⟨⟨h.s.kx.same (Ex.set hB).1 (fun k cs t fz e ht=>keep k cs t fz e ?_),h.s.bl,cs,keep _ _ _ _ h1 (by decide),h2⟩,h.b,cn,keep _ _ _ _ h3 (by decide),h4⟩
 rcases ht with rfl | rfl | ht
 ·decide
 ·decide
 ·intro q9
  rw [q9] at ht
  exact ht (by decide)
theorem NDM.an6 (h:NDM B p q g ls rg nd N c u l L W w) {a0 a1 a2 a3 a4 a5 b0 b1 b2 b3 b4 b5:Value} (hn:w.heap[n0]?=some (.cells #[a0,a1,a2,a3,a4,a5] 30 (0,0))) (hB:B≤n0):NDM B p q g ls rg nd N c u l L W ((((((w.setCell ⟨n0,0,none⟩ b0).setCell ⟨n0,1,none⟩ b1).setCell ⟨n0,2,none⟩ b2).setCell ⟨n0,3,none⟩ b3).setCell ⟨n0,4,none⟩ b4).setCell ⟨n0,5,none⟩ b5):=by
 have k1:=heap_setCell_same w n0 0 _ _ b0 hn
 have k2:=heap_setCell_same _ n0 1 _ _ b1 k1
 have k3:=heap_setCell_same _ n0 2 _ _ b2 k2
 have k4:=heap_setCell_same _ n0 3 _ _ b3 k3
 have k5:=heap_setCell_same _ n0 4 _ _ b4 k4
 exact (((((h.aset hn hB).aset k1 hB).aset k2 hB).aset k3 hB).aset k4 hB).aset k5 hB
theorem NDM.keep {t:TypeId} {k:Nat} {cs:Array Value} {fz:Nat×Nat} (h:NDM B p q g ls rg nd N c u l L W w) (f:RgF B g ls nd w w') (e:w.heap[k]?=some (.cells cs t fz)) (hn:NT t) (h1:t≠155) (h2:t≠104) (h3:t≠89):w'.heap[k]?=some (.cells cs t fz):=by
 obtain ⟨cg,hg⟩:=h.s.kx.blk
 obtain ⟨cl,k1,_⟩:=h.s.lv
 obtain ⟨cr,k2,_⟩:=h.v
 exact f.2 _ _ _ _ e hn (aA0 e hg h1) (aA0 e k1 h2) (aA0 e k2 h3)
end
theorem do_ok [Gd] {B p q g ls rg nd N c u c' u' lg at_ n cp tl tr:Nat} {sl:Bool} {l l':List It} {L L':Nat→Lg} {W w:World} {k e0:Int} {va:Option Addr} {val:List Nat} (h:NDM B p q g ls rg nd N c u l L W w) (hk1:1≤k) (hk2:k≤6) (hlg:lg≤16) (hn:n≤1800) (he:¬ e0=20) (HL:Hid (L' lg=(tl,tr,sl)))
  (hs:∀ ww,NDM B p q g ls rg nd N c u l L W ww→Below w.heap.size w ww→Calls Tryz.prog 38 #[.pointer (some ⟨nd,0,none⟩),.agg #[.int .i64 k,.int .i64 (lg:Int),.int .i64 (at_:Int),.slice va n cp]] ww fun e w'=>∃ sa sc,e=.returned (.tuple #[.slice sa val.length sc,.int .i64 e0])∧BK B w' sa val.length sc val∧NDM B p q g ls rg nd N c' u' l' L' W w'∧RgF B g ls nd ww w') :
  Calls Tryz.prog 27 #[.pointer (some ⟨nd,0,none⟩),.agg #[.int .i64 k,.int .i64 (lg:Int),.int .i64 (at_:Int),.slice va n cp]] w fun e w'=>∃ sa sc,e=.returned (.agg #[.int .i64 e0,.int .i64 (tl:Int),.bool sl,.int .i64 (tr:Int),.int .i64 0,.slice sa val.length sc])∧BK B w' sa val.length sc val∧NDM B p q g ls rg nd N c' u' l' L' W w'∧RgF B g ls nd w w':=by
 have lt:∀ {k:Nat} {o:Obj} {ww:World},ww.heap[k]?=some o→k<ww.heap.size:=fun e=>(lO e)
 have j1:(0:Int)≤(lg:Int):=by omega
 have j2:(lg:Int)<17:=by omega
 have e7:¬ k=7:=by omega
 have e8:¬ k=8:=by omega
 have HBX:=hide (aAr w (.cells #[.int .i64 k,.int .i64 (lg:Int),.int .i64 (at_:Int),.slice va n cp] 34) (.cells #[.int .i64 0,.int .i64 0,.bool false,.int .i64 0,.int .i64 0,.slice none 0 0] 30))
 have HN1:Hid (((w.alloc (.cells #[.int .i64 k,.int .i64 (lg:Int),.int .i64 (at_:Int),.slice va n cp] 34)).alloc (.cells #[.int .i64 0,.int .i64 0,.bool false,.int .i64 0,.int .i64 0,.slice none 0 0] 30)).heap[w.heap.size]?=some (.cells #[.int .i64 k,.int .i64 (lg:Int),.int .i64 (at_:Int),.slice va n cp] 34 (0,0))):=aAd [Obj.cells #[.int .i64 k,.int .i64 (lg:Int),.int .i64 (at_:Int),.slice va n cp] 34,Obj.cells #[.int .i64 0,.int .i64 0,.bool false,.int .i64 0,.int .i64 0,.slice none 0 0] 30] w 0 _ rfl
 have HA1:Hid (((w.alloc (.cells #[.int .i64 k,.int .i64 (lg:Int),.int .i64 (at_:Int),.slice va n cp] 34)).alloc (.cells #[.int .i64 0,.int .i64 0,.bool false,.int .i64 0,.int .i64 0,.slice none 0 0] 30)).heap[w.heap.size+1]?=some (.cells #[.int .i64 0,.int .i64 0,.bool false,.int .i64 0,.int .i64 0,.slice none 0 0] 30 (0,0))):=aAd [Obj.cells #[.int .i64 k,.int .i64 (lg:Int),.int .i64 (at_:Int),.slice va n cp] 34,Obj.cells #[.int .i64 0,.int .i64 0,.bool false,.int .i64 0,.int .i64 0,.slice none 0 0] 30] w 1 _ rfl
 have H1:=hide (h.later HBX.out)
 have HLG:=hide hlg
 have HSV:=hide hs
 have HBW:=hide h.bw
 have HRF:=hide (nref_ok (at_:=at_) (va:=va) (cp:=cp) H1.out hk1 (by omega) hlg hn)
 clear h hlg hs hn hk1 hk2
 go_enter Tryz.func27,Tryz.ntmps27
 go_upto_region 1 with fail
 generalize ((w.alloc (.cells #[.int .i64 k,.int .i64 (lg:Int),.int .i64 (at_:Int),.slice va n cp] 34)).alloc (.cells #[.int .i64 0,.int .i64 0,.bool false,.int .i64 0,.int .i64 0,.slice none 0 0] 30))=w1 at *
 generalize hn0:w.heap.size=n0 at *
 generalize hn1:n0+1=n1 at *
 have y0:w1.cell? ⟨n0,0,none⟩=some (.int .i64 k):=aAa HN1.out
 have yf0:w1.frozen? ⟨n0,0,none⟩=false:=aAb HN1.out
 have y1:w1.cell? ⟨n0,1,none⟩=some (.int .i64 (lg:Int)):=aAa HN1.out
 have yf1:w1.frozen? ⟨n0,1,none⟩=false:=aAb HN1.out
 have y2:w1.cell? ⟨n0,2,none⟩=some (.int .i64 (at_:Int)):=aAa HN1.out
 have yf2:w1.frozen? ⟨n0,2,none⟩=false:=aAb HN1.out
 have y3:w1.cell? ⟨n0,3,none⟩=some (.slice va n cp):=aAa HN1.out
 have yf3:w1.frozen? ⟨n0,3,none⟩=false:=aAb HN1.out
 go_wp2_with fail
 refine HRF.out.mono ?_
 rintro e w2 ⟨rfl,hb2⟩
 have H2:=hide (H1.out.later hb2)
 have HN2:=hide ((hb2.block n0 (lt HN1.out)).trans HN1.out)
 have HA2:=hide ((hb2.block n1 (lt HA1.out)).trans HA1.out)
 have HB2:Hid (Below n0 w w2):=HBX.out.trans (hb2.mono (by have:=HBX.out.size;omega))
 have HSV2:=hide (HSV.out w2 H2.out HB2.out)
 clear hb2 HRF HSV HN1 HA1 HBX H1 y0 y1 y2 y3 yf0 yf1 yf2 yf3
 have y0:w2.cell? ⟨n0,0,none⟩=some (.int .i64 k):=aAa HN2.out
 have yf0:w2.frozen? ⟨n0,0,none⟩=false:=aAb HN2.out
 have y1:w2.cell? ⟨n0,1,none⟩=some (.int .i64 (lg:Int)):=aAa HN2.out
 have yf1:w2.frozen? ⟨n0,1,none⟩=false:=aAb HN2.out
 have y2:w2.cell? ⟨n0,2,none⟩=some (.int .i64 (at_:Int)):=aAa HN2.out
 have yf2:w2.frozen? ⟨n0,2,none⟩=false:=aAb HN2.out
 have y3:w2.cell? ⟨n0,3,none⟩=some (.slice va n cp):=aAa HN2.out
 have yf3:w2.frozen? ⟨n0,3,none⟩=false:=aAb HN2.out
 generalize hvl:val.length=vn at *
 go_wp2_with fail
 refine HSV2.out.mono ?_
 rintro e w3 ⟨sa,sc,rfl,hk3,h3,hf3⟩
 have HN3:=hide (H2.out.keep hf3 HN2.out (by decide) (by decide) (by decide) (by decide))
 have HA3:=hide (H2.out.keep hf3 HA2.out (by decide) (by decide) (by decide) (by decide))
 have HBA:Hid (B≤n1):=by show B≤n1;have:=HBW.out;omega
 have HNA:Hid (n0≤n1):=by show n0≤n1;omega
 have HF3:Hid (RgF B g ls nd w w3):=(RgF.of (by rw [hn0];exact HB2.out) (by rw [hn0];exact HBW.out)).trans hf3
 have H3:=hide h3
 have HK3:=hide hk3
 clear h3 hk3 hf3 HSV2 y0 y1 y2 y3 yf0 yf1 yf2 yf3 HN2 HA2 H2 hn1
 have hcl:=H3.out.lg HLG.out
 rw [HL.out] at hcl
 have HX3:Hid ((fun wx=>wx.cell? ⟨n0,1,none⟩=some (.int .i64 (lg:Int))∧wx.cell? ⟨nd,2+lg*3,none⟩=some (.int .i64 (tl:Int))∧wx.cell? ⟨nd,2+lg*3+1,none⟩=some (.int .i64 (tr:Int))∧wx.cell? ⟨nd,2+lg*3+2,none⟩=some (.bool sl)) w3.drew):=⟨aAa HN3.out,hcl.1,hcl.2.1,hcl.2.2⟩
 clear hcl
 go_upto_region 12 with fail
 refine wp_region_noPanic ?_
 refine wp_region_held_drew (S:=fun wx=>wx.cell? ⟨n0,1,none⟩=some (.int .i64 (lg:Int))∧wx.cell? ⟨nd,2+lg*3,none⟩=some (.int .i64 (tl:Int))∧wx.cell? ⟨nd,2+lg*3+1,none⟩=some (.int .i64 (tr:Int))∧wx.cell? ⟨nd,2+lg*3+2,none⟩=some (.bool sl)) (by kernel_rfl) HX3.out (fun hHeld=>?_)
 refine wpAnyH_tk 0 52 ?_
 refine wpAnyH_tk 1 53 ?_
 refine wpAnyH_tk 2 54 ?_
 refine wpAnyH_tk 3 55 ?_
 refine wpAnyH_tk 4 56 ?_
 refine wpAnyH_tk 5 57 ?_
 refine wpAnyH_tk 6 58 ?_
 refine wpAnyH_cm 7 ?_;intro K hK
 go_simp
 have hb4:Below w3.heap.size w3 (w3.alloc (.cells #[.int .i64 0,.int .i64 0,.bool false] 83)).drew:=(aAc w3 (.cells #[.int .i64 0,.int .i64 0,.bool false] 83)).drew
 have HD4:=hide (H3.out.later hb4)
 have HN4:Hid ((w3.alloc (.cells #[.int .i64 0,.int .i64 0,.bool false] 83)).drew.heap[n0]?=some (.cells #[.int .i64 k,.int .i64 (lg:Int),.int .i64 (at_:Int),.slice va n cp] 34 (0,0))):=(hb4.block n0 (lt HN3.out)).trans HN3.out
 have HA4:Hid ((w3.alloc (.cells #[.int .i64 0,.int .i64 0,.bool false] 83)).drew.heap[n1]?=some (.cells #[.int .i64 0,.int .i64 0,.bool false,.int .i64 0,.int .i64 0,.slice none 0 0] 30 (0,0))):=(hb4.block n1 (lt HA3.out)).trans HA3.out
 have HM4:Hid ((w3.alloc (.cells #[.int .i64 0,.int .i64 0,.bool false] 83)).drew.heap[w3.heap.size]?=some (.cells #[.int .i64 0,.int .i64 0,.bool false] 83 (0,0))):=heap_alloc_new w3 _
 have HF4:Hid (RgF B g ls nd w (w3.alloc (.cells #[.int .i64 0,.int .i64 0,.bool false] 83)).drew):=HF3.out.trans (RgF.of hb4 H3.out.bw)
 have HK4:=hide (HK3.out.later hb4 H3.out.bw)
 have HNN:Hid (n0<w3.heap.size∧n1<w3.heap.size):=⟨lt HN3.out,lt HA3.out⟩
 have HBN:Hid (B≤w3.heap.size):=H3.out.bw
 have hcl:=HD4.out.lg HLG.out
 rw [HL.out] at hcl
 have HX4:Hid ((fun wx=>wx.cell? ⟨n0,1,none⟩=some (.int .i64 (lg:Int))∧wx.cell? ⟨nd,2+lg*3,none⟩=some (.int .i64 (tl:Int))∧wx.cell? ⟨nd,2+lg*3+1,none⟩=some (.int .i64 (tr:Int))∧wx.cell? ⟨nd,2+lg*3+2,none⟩=some (.bool sl)) (w3.alloc (.cells #[.int .i64 0,.int .i64 0,.bool false] 83)).drew):=⟨aAa HN4.out,hcl.1,hcl.2.1,hcl.2.2⟩
 clear hcl hb4 hHeld H3 HN3 HA3 HF3 HK3
 generalize (w3.alloc (.cells #[.int .i64 0,.int .i64 0,.bool false] 83)).drew=w4 at *
 generalize w3.heap.size=n4 at *
 refine hK.out _ _ HX4.out (fun hHeld=>?_)
 clear hK K
 try simp only [Act.put,siT,scZ,scS]
 have m0:w4.cell? ⟨n4,0,none⟩=some (.int .i64 0):=aAa HM4.out
 have mf0:w4.frozen? ⟨n4,0,none⟩=false:=aAb HM4.out
 have m1:w4.cell? ⟨n4,1,none⟩=some (.int .i64 0):=aAa HM4.out
 have mf1:w4.frozen? ⟨n4,1,none⟩=false:=aAb HM4.out
 have m2:w4.cell? ⟨n4,2,none⟩=some (.bool false):=aAa HM4.out
 have mf2:w4.frozen? ⟨n4,2,none⟩=false:=aAb HM4.out
 refine wpAnyH_cm 8 ?_;intro K hK
 go_simp
 have hm1:=heap_setCell_same w4 n4 0 _ _ (.int .i64 (tl:Int)) HM4.out
 have hm2:=heap_setCell_same _ n4 1 _ _ (.int .i64 (tr:Int)) hm1
 have HD5:=hide (((HD4.out.bset (o:=0) (x:=.int .i64 (tl:Int)) HM4.out HBN.out).bset (o:=1) (x:=.int .i64 (tr:Int)) hm1 HBN.out).bset (o:=2) (x:=.bool sl) hm2 HBN.out)
 have HM5:Hid ((((w4.setCell ⟨n4,0,none⟩ (.int .i64 (tl:Int))).setCell ⟨n4,1,none⟩ (.int .i64 (tr:Int))).setCell ⟨n4,2,none⟩ (.bool sl)).heap[n4]?=some (.cells #[.int .i64 (tl:Int),.int .i64 (tr:Int),.bool sl] 83 (0,0))):=set3 HM4.out
 have HN5:Hid ((((w4.setCell ⟨n4,0,none⟩ (.int .i64 (tl:Int))).setCell ⟨n4,1,none⟩ (.int .i64 (tr:Int))).setCell ⟨n4,2,none⟩ (.bool sl)).heap[n0]?=some (.cells #[.int .i64 k,.int .i64 (lg:Int),.int .i64 (at_:Int),.slice va n cp] 34 (0,0))):=by
  have hne:n0≠n4:=Nat.ne_of_lt HNN.out.1
  show _=_
  rw [heap_setCell_other _ _ _ _ hne,heap_setCell_other _ _ _ _ hne,heap_setCell_other _ _ _ _ hne]
  exact HN4.out
 have HA5:Hid ((((w4.setCell ⟨n4,0,none⟩ (.int .i64 (tl:Int))).setCell ⟨n4,1,none⟩ (.int .i64 (tr:Int))).setCell ⟨n4,2,none⟩ (.bool sl)).heap[n1]?=some (.cells #[.int .i64 0,.int .i64 0,.bool false,.int .i64 0,.int .i64 0,.slice none 0 0] 30 (0,0))):=by
  have hne:n1≠n4:=Nat.ne_of_lt HNN.out.2
  show _=_
  rw [heap_setCell_other _ _ _ _ hne,heap_setCell_other _ _ _ _ hne,heap_setCell_other _ _ _ _ hne]
  exact HA4.out
 have HK5:=hide (((HK4.out.ft (ft1 (B:=B) (o:=0) (b0:=.int .i64 (tl:Int)) HM4.out (by decide) HBN.out)).ft (ft1 (B:=B) (o:=1) (b0:=.int .i64 (tr:Int)) hm1 (by decide) HBN.out)).ft (ft1 (B:=B) (o:=2) (b0:=.bool sl) hm2 (by decide) HBN.out))
 have HF5:Hid (RgF B g ls nd w (((w4.setCell ⟨n4,0,none⟩ (.int .i64 (tl:Int))).setCell ⟨n4,1,none⟩ (.int .i64 (tr:Int))).setCell ⟨n4,2,none⟩ (.bool sl))):=HF4.out.an3 (by rw [hn0];exact Nat.le_of_lt HNN.out.1) HBN.out
 have hcl:=HD5.out.lg HLG.out
 rw [HL.out] at hcl
 have HX5:Hid ((fun wx=>wx.cell? ⟨n0,1,none⟩=some (.int .i64 (lg:Int))∧wx.cell? ⟨nd,2+lg*3,none⟩=some (.int .i64 (tl:Int))∧wx.cell? ⟨nd,2+lg*3+1,none⟩=some (.int .i64 (tr:Int))∧wx.cell? ⟨nd,2+lg*3+2,none⟩=some (.bool sl)) (((w4.setCell ⟨n4,0,none⟩ (.int .i64 (tl:Int))).setCell ⟨n4,1,none⟩ (.int .i64 (tr:Int))).setCell ⟨n4,2,none⟩ (.bool sl))):=⟨aAa HN5.out,hcl.1,hcl.2.1,hcl.2.2⟩
 clear hcl hHeld m0 m1 m2 mf0 mf1 mf2 hm1 hm2 HD4 HN4 HA4 HM4 HF4 HK4
 generalize (((w4.setCell ⟨n4,0,none⟩ (.int .i64 (tl:Int))).setCell ⟨n4,1,none⟩ (.int .i64 (tr:Int))).setCell ⟨n4,2,none⟩ (.bool sl))=w5 at *
 refine hK.out _ _ HX5.out (fun hHeld=>?_)
 clear hK K
 try simp only [Act.put,siT,scZ,scS]
 refine wpAnyH_done (by kernel_rfl) ?_ _
 refine NoPanic.normal ?_
 clear hHeld
 have z0:w5.cell? ⟨n1,0,none⟩=some (.int .i64 0):=aAa HA5.out
 have zf0:w5.frozen? ⟨n1,0,none⟩=false:=aAb HA5.out
 have z1:w5.cell? ⟨n1,1,none⟩=some (.int .i64 0):=aAa HA5.out
 have zf1:w5.frozen? ⟨n1,1,none⟩=false:=aAb HA5.out
 have z2:w5.cell? ⟨n1,2,none⟩=some (.bool false):=aAa HA5.out
 have zf2:w5.frozen? ⟨n1,2,none⟩=false:=aAb HA5.out
 have z3:w5.cell? ⟨n1,3,none⟩=some (.int .i64 0):=aAa HA5.out
 have zf3:w5.frozen? ⟨n1,3,none⟩=false:=aAb HA5.out
 have z4:w5.cell? ⟨n1,4,none⟩=some (.int .i64 0):=aAa HA5.out
 have zf4:w5.frozen? ⟨n1,4,none⟩=false:=aAb HA5.out
 have z5:w5.cell? ⟨n1,5,none⟩=some (.slice none 0 0):=aAa HA5.out
 have zf5:w5.frozen? ⟨n1,5,none⟩=false:=aAb HA5.out
 have x0:w5.cell? ⟨n4,0,none⟩=some (.int .i64 (tl:Int)):=aAa HM5.out
 have xf0:w5.frozen? ⟨n4,0,none⟩=false:=aAb HM5.out
 have x1:w5.cell? ⟨n4,1,none⟩=some (.int .i64 (tr:Int)):=aAa HM5.out
 have xf1:w5.frozen? ⟨n4,1,none⟩=false:=aAb HM5.out
 have x2:w5.cell? ⟨n4,2,none⟩=some (.bool sl):=aAa HM5.out
 have xf2:w5.frozen? ⟨n4,2,none⟩=false:=aAb HM5.out
 generalize hvl:val.length=vn at *
 go_wp2
 (try simp only [Exit.inBlock,Exit.then])
 refine bodyPost_ret (results_cell_row Tryz.results27 _ _ n1 _ _ _ _ rfl (set6 HA5.out) Tryz.underlying30 rfl aE6) rfl ?_
 exact ⟨sa,sc,rfl,HK5.out.ft (ft6 HA5.out (by decide) HBA.out),HD5.out.an6 HA5.out HBA.out,HF5.out.an6 (by rw [hn0];exact HNA.out) HBA.out⟩
def NX [Gd] (B p q g ls rg nd N m:Nat) (l:List It) (L:Nat→Lg) (W w:World):Prop:=∃ c u,NDM B p q g ls rg nd N c u l L W w∧c≤m∧u≤m∧l.length≤m
section
variable [Gd] {B p q g ls rg nd N m:Nat} {l:List It} {L:Nat→Lg} {W w w':World}
theorem NX.keep {t:TypeId} {k:Nat} {cs:Array Value} {fz:Nat×Nat} (h:NX B p q g ls rg nd N m l L W w) (f:RgF B g ls nd w w') (e:w.heap[k]?=some (.cells cs t fz)) (hn:NT t) (h1:t≠155) (h2:t≠104) (h3:t≠89):w'.heap[k]?=some (.cells cs t fz):=by
 obtain ⟨c,u,k1,k2⟩:=h
 exact k1.keep f e hn h1 h2 h3
end
theorem up_self (L:Nat→Lg) (j:Nat) (x:Lg):upL L j x j=x:=if_pos rfl
theorem NX.w [Gd] {B p q g ls rg nd N m lg n cp tl tr:Nat} {sl:Bool} {l:List It} {L:Nat→Lg} {W w:World} {va:Option Addr} {k:Int} {val:List Nat} (h:NX B p q g ls rg nd N m l L W w) (hlg:lg≤16) (hg0:True) (HL:L lg=(tl,tr,sl)) (hk:k=if sl=true then 2 else 1) (htl:tl<256) (hm:m+21≤N) (hm2:m≤80) (hv:BK B w va n cp val) (hn:n≤1800) :
  Calls Tryz.prog 27 #[.pointer (some ⟨nd,0,none⟩),.agg #[.int .i64 k,.int .i64 (lg:Int),.int .i64 (tl:Int),.slice va n cp]] w fun e w'=>∃ sa sc,e=.returned (.agg #[.int .i64 0,.int .i64 ((tl:Int)+1),.bool sl,.int .i64 (tr:Int),.int .i64 0,.slice sa ([]:List Nat).length sc])∧BK B w' sa ([]:List Nat).length sc ([]:List Nat)∧NX B p q g ls rg nd N (m+1) (putL l ([0,lg,tl],val)) (upL L lg (tl+1,tr,sl)) W w'∧RgF B g ls nd w w':=by
 obtain ⟨c,u,h1,h2,h3,h4⟩:=h
 have har:∀ x∈[(([lg,tl],val):It)],0<x.1.length∧x.1.length≤60∧x.2.length≤1800∧(∀ n∈x.1,n<256)∧∀ n∈x.2,n<256:=by
  intro x hx
  simp only [List.mem_singleton] at hx
  subst hx
  refine ⟨by show 0<2;decide,by show 2≤60;decide,by show val.length≤1800;have:=hv.1.hlen;omega,fun y hy=>?_,hv.1.hbyte⟩
  have hy:y=lg∨y=tl:=by simpa using hy
  omega
 cases sl with
 | false =>
  have hk:k=1:=by simpa using hk
  subst hk
  refine (do_ok (c':=c+1) (u':=(apL0 l [([lg,tl],val)]).length) (l':=apL0 l [([lg,tl],val)]) (L':=upL L lg (tl+1,tr,false)) (val:=[]) (e0:=0) h1 (by decide) (by decide) hlg hn (by decide) (tl:=tl+1) (tr:=tr) (sl:=false) (up_self L lg _) (fun ww hww hbw=>?_)).mono ?_
  ·refine (serve_w (k:=1) (val:=val) hww hlg HL (by decide) hg0 hv.1.hlen (hv.later hbw h1.bw) htl ⟨by omega,by omega,by show u+9*1+11≤N;omega,by omega,by show l.length+1<90;omega,har⟩ (fun w9=>lgr_w (sl:=false) w9 htl) (fun w9=>lgb_w w9 rfl (by omega))).mono ?_
   rintro e w' ⟨rfl,q1,q2⟩
   exact ⟨none,0,rfl,BK.nil _ _,q1,q2⟩
  ·rintro e w' ⟨sa,sc,rfl,q0,q1,q2⟩
   have hl9:=aG0 l [([lg,tl],val)]
   have hl8:[(([lg,tl],val):It)].length=1:=rfl
   rw [hl8] at hl9
   exact ⟨sa,sc,rfl,q0,⟨_,_,q1,by omega,by omega,by show (apL0 l [([lg,tl],val)]).length≤m+1;omega⟩,q2⟩
 | true =>
  have hk:k=2:=by simpa using hk
  subst hk
  refine (do_ok (c':=c+1) (u':=(apL0 l [([lg,tl],val)]).length) (l':=apL0 l [([lg,tl],val)]) (L':=upL L lg (tl+1,tr,true)) (val:=[]) (e0:=0) h1 (by decide) (by decide) hlg hn (by decide) (tl:=tl+1) (tr:=tr) (sl:=true) (up_self L lg _) (fun ww hww hbw=>?_)).mono ?_
  ·refine (serve_w (k:=2) (val:=val) hww hlg HL (by decide) hg0 hv.1.hlen (hv.later hbw h1.bw) htl ⟨by omega,by omega,by show u+9*1+11≤N;omega,by omega,by show l.length+1<90;omega,har⟩ (fun w9=>lgr_f (sl:=true) w9 htl) (fun w9=>lgb_f w9 rfl (by omega))).mono ?_
   rintro e w' ⟨rfl,q1,q2⟩
   exact ⟨none,0,rfl,BK.nil _ _,q1,q2⟩
  ·rintro e w' ⟨sa,sc,rfl,q0,q1,q2⟩
   have hl9:=aG0 l [([lg,tl],val)]
   have hl8:[(([lg,tl],val):It)].length=1:=rfl
   rw [hl8] at hl9
   exact ⟨sa,sc,rfl,q0,⟨_,_,q1,by omega,by omega,by show (apL0 l [([lg,tl],val)]).length≤m+1;omega⟩,q2⟩
theorem NX.same [Gd] {B p q g ls rg nd N m lg at_ n cp tl tr:Nat} {sl:Bool} {l:List It} {L:Nat→Lg} {W w:World} {va:Option Addr} {k:Int} (h:NX B p q g ls rg nd N m l L W w) (hlg:lg≤16) (HL:L lg=(tl,tr,sl)) (hk:k=if sl=true then 2 else 1) (hat:at_<256) (hne:at_≠tl) (hn:n≤1800) :
  Calls Tryz.prog 27 #[.pointer (some ⟨nd,0,none⟩),.agg #[.int .i64 k,.int .i64 (lg:Int),.int .i64 (at_:Int),.slice va n cp]] w fun e w'=>∃ sa sc,e=.returned (.agg #[.int .i64 0,.int .i64 (tl:Int),.bool sl,.int .i64 (tr:Int),.int .i64 0,.slice sa ([]:List Nat).length sc])∧BK B w' sa ([]:List Nat).length sc ([]:List Nat)∧NX B p q g ls rg nd N m l L W w'∧RgF B g ls nd w w':=by
 obtain ⟨c,u,h1,h2,h3,h4⟩:=h
 cases sl with
 | false =>
  have hk:k=1:=by simpa using hk
  subst hk
  refine (do_ok (c':=c) (u':=u) (l':=l) (L':=L) (val:=[]) (e0:=0) h1 (by decide) (by decide) hlg hn (by decide) HL (fun ww hww hbw=>?_)).mono ?_
  ·refine (aDu (k:=1) hww hlg HL (by decide) (fun w9=>lgr_w (sl:=false) w9 hat) (fun w9=>lgb_wn w9 hne)).mono ?_
   rintro e w' ⟨rfl,q1⟩
   exact ⟨none,0,rfl,BK.nil _ _,hww.later q1,RgF.of q1 hww.bw⟩
  ·rintro e w' ⟨sa,sc,rfl,q0,q1,q2⟩
   exact ⟨sa,sc,rfl,q0,⟨c,u,q1,h2,h3,h4⟩,q2⟩
 | true =>
  have hk:k=2:=by simpa using hk
  subst hk
  refine (do_ok (c':=c) (u':=u) (l':=l) (L':=L) (val:=[]) (e0:=0) h1 (by decide) (by decide) hlg hn (by decide) HL (fun ww hww hbw=>?_)).mono ?_
  ·refine (aDu (k:=2) hww hlg HL (by decide) (fun w9=>lgr_f (sl:=true) w9 hat) (fun w9=>lgb_fn w9 hne)).mono ?_
   rintro e w' ⟨rfl,q1⟩
   exact ⟨none,0,rfl,BK.nil _ _,hww.later q1,RgF.of q1 hww.bw⟩
  ·rintro e w' ⟨sa,sc,rfl,q0,q1,q2⟩
   exact ⟨sa,sc,rfl,q0,⟨c,u,q1,h2,h3,h4⟩,q2⟩
theorem NX.r [Gd] {B p q g ls rg nd N m lg at_ n cp tl tr:Nat} {sl:Bool} {l:List It} {L:Nat→Lg} {W w:World} {va:Option Addr} {val:List Nat} (h:NX B p q g ls rg nd N m l L W w) (hlg:lg≤16) (HL:L lg=(tl,tr,sl)) (hat:tr≤at_) (hat2:at_<tl) (hat3:at_<256) (hval:valL l [0,lg,at_]=some val) (hn:n≤1800) :
  Calls Tryz.prog 27 #[.pointer (some ⟨nd,0,none⟩),.agg #[.int .i64 5,.int .i64 (lg:Int),.int .i64 (at_:Int),.slice va n cp]] w fun e w'=>∃ sa sc,e=.returned (.agg #[.int .i64 0,.int .i64 (tl:Int),.bool sl,.int .i64 (tr:Int),.int .i64 0,.slice sa val.length sc])∧BK B w' sa val.length sc val∧NX B p q g ls rg nd N m l L W w'∧RgF B g ls nd w w':=by
 obtain ⟨c,u,h1,h2,h3,h4⟩:=h
 refine (do_ok (c':=c) (u':=u) (l':=l) (L':=L) (val:=val) (e0:=0) h1 (by decide) (by decide) hlg hn (by decide) HL (fun ww hww hbw=>?_)).mono ?_
 ·refine (serve_read (k:=5) hww hlg HL rfl hat3 hval (fun w9=>lgr_r w9 hat hat2)).mono ?_
  rintro e w' ⟨sa,sc,rfl,q0,q1⟩
  exact ⟨sa,sc,rfl,q0,hww.later q1,RgF.of q1 hww.bw⟩
 ·rintro e w' ⟨sa,sc,rfl,q0,q1,q2⟩
  exact ⟨sa,sc,rfl,q0,⟨c,u,q1,h2,h3,h4⟩,q2⟩
structure NdP where
 p:Nat
 q:Nat
 g:Nat
 ls:Nat
 rg:Nat
 nd:Nat
def RGB (B:Nat) (P:NdP) (w:World):Prop:=B≤P.rg∧∃ cs,w.heap[P.rg]?=some (.cells cs 109 (0,0))∧cs.size=18∧cs[0]?=some (.pointer (some ⟨P.ls,0,none⟩))
theorem RGB.same {B:Nat} {P:NdP} {w w':World} (h:RGB B P w) (e:w'.heap[P.rg]?=w.heap[P.rg]?):RGB B P w':=by
 obtain ⟨h1,cs,h2,h3⟩:=h
 exact ⟨h1,cs,e.trans h2,h3⟩
def NXc (B:Nat) (P:NdP) (N m:Nat) (l:List It) (L:Nat→Lg) (W:World) (F:Nat→Prop) (w:World):Prop :=
 ((∀ k,F k→FBk w k)∧(∃ cs,w.heap[P.g]?=some (.cells cs 155 (0,0)))∧(∃ cs,w.heap[P.ls]?=some (.cells cs 104 (0,0)))∧∃ cs,w.heap[P.nd]?=some (.cells cs 89 (0,0)))∧RGB B P w ∧
 ∀ (w':World) (S':Nat→Prop),(∀ k,F k→w'.heap[k]?=w.heap[k]?)→ByK w w'→w'.heap[P.g]?=w.heap[P.g]?→w'.heap[P.ls]?=w.heap[P.ls]?→w'.heap[P.nd]?=w.heap[P.nd]?→Below B w w'→(∀ k,S' k→FBk w' k∧¬ F k)→@NX ⟨S'⟩ B P.p P.q P.g P.ls P.rg P.nd N m l L W w'
section
variable {B:Nat} {P:NdP} {N m:Nat} {l:List It} {L:Nat→Lg} {W w w':World} {F:Nat→Prop}
theorem NXc.keep (h:NXc B P N m l L W F w) (hF:∀ k,F k→w'.heap[k]?=w.heap[k]?) (hB:ByK w w') (hg:w'.heap[P.g]?=w.heap[P.g]?) (hl:w'.heap[P.ls]?=w.heap[P.ls]?) (hn:w'.heap[P.nd]?=w.heap[P.nd]?) (hb:Below B w w') (hr:w'.heap[P.rg]?=w.heap[P.rg]?):NXc B P N m l L W F w':=by
 obtain ⟨⟨h1,⟨c1,h2⟩,⟨c2,h3⟩,⟨c3,h4⟩⟩,h6,h5⟩:=h
 refine ⟨⟨fun k hk=>(h1 k hk).same (hF k hk),⟨c1,hg.trans h2⟩,⟨c2,hl.trans h3⟩,⟨c3,hn.trans h4⟩⟩,h6.same hr,fun w2 S' a1 a2 a3 a4 a5 a6 a7=>?_⟩
 exact h5 w2 S' (fun k hk=>(a1 k hk).trans (hF k hk)) (fun k cs fz e=>a2 k cs fz (hB k cs fz e)) (a3.trans hg) (a4.trans hl) (a5.trans hn) (hb.trans a6) a7
theorem NXc.nx (h:NXc B P N m l L W F w) (S':Nat→Prop) (hS:∀ k,S' k→FBk w k∧¬ F k):@NX ⟨S'⟩ B P.p P.q P.g P.ls P.rg P.nd N m l L W w :=
 h.2.2 w S' (fun _ _=>rfl) (fun _ _ _ e=>e) rfl rfl rfl (Below.refl _ _) hS
theorem NX.c [Gd] (h:NX B P.p P.q P.g P.ls P.rg P.nd N m l L W w) (hr:RGB B P w):∃ F:Nat→Prop,NXc B P N m l L W F w∧∀ k,Gd.s k→¬ F k:=by
 obtain ⟨c,u,h1,h2⟩:=h
 obtain ⟨F,k1,k2,k3⟩:=h1.fp
 obtain ⟨cg,hg⟩:=h1.s.kx.blk
 obtain ⟨cl,hl,_⟩:=h1.s.lv
 obtain ⟨cn,hn,_⟩:=h1.v
 exact ⟨F,⟨⟨k1,⟨cg,hg⟩,⟨cl,hl⟩,⟨cn,hn⟩⟩,hr,fun w' S' a1 a2 a3 a4 a5 a6 a7=>⟨c,u,k3 w' S' a1 a2 a3 a4 a5 a6 a7,h2⟩⟩,k2⟩
end
structure RgN [Gd] (B:Nat) (P:NdP) (w w':World):Prop where
 bel:Below B w w'
 stay:∀ (k:Nat) (cs:Array Value) (t:TypeId) (fz:Nat×Nat),w.heap[k]?=some (Obj.cells cs t fz)→NT t→k≠P.g→k≠P.ls→k≠P.nd→k≠P.rg→w'.heap[k]?=some (Obj.cells cs t fz)
 gd:GdK w w'
def NdK (w w':World):Prop:=∀ (k:Nat) (cs:Array Value) (t:TypeId) (fz:Nat×Nat),w.heap[k]?=some (Obj.cells cs t fz)→NT t→t≠155→t≠104→t≠89∧t≠109→w'.heap[k]?=some (Obj.cells cs t fz)
theorem NdK.of {w w':World} (h:Below w.heap.size w w'):NdK w w':=fun k cs t fz e _ _ _ _=>(h.block k (lO e)).trans e
theorem NdK.trans {a b c:World} (h:NdK a b) (k:NdK b c):NdK a c:=fun i cs t fz e n1 n2 n3 n4=>k i cs t fz (h i cs t fz e n1 n2 n3 n4) n1 n2 n3 n4
structure NdS where
 m:Nat
 l:List It
 L:Nat→Lg
def upS {α:Type} (f:Nat→α) (i:Nat) (x:α):Nat→α:=fun j=>if j=i then x else f j
theorem aBp {α:Type} (f:Nat→α) (i:Nat) (x:α):upS f i x i=x:=if_pos rfl
theorem aBd {α:Type} (f:Nat→α) {i j:Nat} (x:α) (h:j≠i):upS f i x j=f j:=if_neg h
def MND (B N M:Nat) (P:Nat→NdP) (A:Nat→NdS) (E:Nat→Prop) (W w:World):Prop:=∃ F:Nat→Nat→Prop,((∀ i,i<M→NXc B (P i) N (A i).m (A i).l (A i).L W (F i) w)∧∀ k,E k→FBk w k∧∀ i,i<M→¬ F i k)∧(∀ i j,i<M→j<M→i≠j→(∀ k,F i k→¬ F j k)∧(P i).g≠(P j).g∧(P i).ls≠(P j).ls∧(P i).nd≠(P j).nd∧(P i).rg≠(P j).rg)
section
variable {B N M:Nat} {P:Nat→NdP} {A:Nat→NdS} {E:Nat→Prop} {W w w':World}
theorem MND.later (h:MND B N M P A E W w) (hb:Below w.heap.size w w') (hB:B≤w.heap.size):MND B N M P A E W w':=by
 obtain ⟨F,⟨h1,hE⟩,h2⟩:=h
 refine ⟨F,⟨fun i hi=>?_,fun k hk=>⟨(hE k hk).1.same (hb.block k (hE k hk).1.lt),(hE k hk).2⟩⟩,h2⟩
 obtain ⟨⟨k1,⟨c1,k2⟩,⟨c2,k3⟩,⟨c3,k4⟩⟩,⟨_,c5,k5,_⟩,_⟩:=h1 i hi
 have blk:∀ {k:Nat} {o:Obj},w.heap[k]?=some o→w'.heap[k]?=w.heap[k]?:=fun e=>hb.block _ (lO e)
 exact (h1 i hi).keep (fun k hk=>hb.block k (k1 k hk).lt) (fun k cs fz e=>(blk e).trans e) (blk k2) (blk k3) (blk k4) (hb.mono hB) (blk k5)
theorem MND.callr (h:MND B N M P A E W w) {i:Nat} (hi:i<M) {K:Nat} {args:Array Value} {Q:Ending→World→Prop} {x:NdS}
  (hc:∀ S:Nat→Prop,@NX ⟨S⟩ B (P i).p (P i).q (P i).g (P i).ls (P i).rg (P i).nd N (A i).m (A i).l (A i).L W w→RGB B (P i) w→Calls Tryz.prog K args w fun e w'=>Q e w'∧@NX ⟨S⟩ B (P i).p (P i).q (P i).g (P i).ls (P i).rg (P i).nd N x.m x.l x.L W w'∧RGB B (P i) w'∧@RgN ⟨S⟩ B (P i) w w') :
  Calls Tryz.prog K args w fun e w'=>Q e w'∧MND B N M P (upS A i x) E W w'∧NdK w w'∧Below B w w'∧∀ k,E k→w'.heap[k]?=w.heap[k]?:=by
 obtain ⟨F,⟨h1,hE⟩,h2⟩:=h
 have hS:∀ k,(E k∨∃ j,j<M∧j≠i∧F j k)→FBk w k∧¬ F i k:=by
  rintro k (hk | ⟨j,hj,hne,hk⟩)
  ·exact ⟨(hE k hk).1,(hE k hk).2 i hi⟩
  ·exact ⟨(h1 j hj).1.1 k hk,(h2 j i hj hi hne).1 k hk⟩
 refine (hc _ ((h1 i hi).nx (fun k=>E k∨∃ j,j<M∧j≠i∧F j k) hS) (h1 i hi).2.1).mono ?_
 rintro e w' ⟨hq,hx,hr,hf⟩
 letI:Gd:=⟨fun k=>E k∨∃ j,j<M∧j≠i∧F j k⟩
 obtain ⟨F',k1,k2⟩:=hx.c hr
 obtain ⟨⟨b1,⟨c1,b2⟩,⟨c2,b3⟩,⟨c3,b4⟩⟩,⟨_,c5,b5,_⟩,_⟩:=h1 i hi
 have ne:∀ {a b:Nat} {ca cb:Array Value} {ta tb:TypeId} {fa fb:Nat×Nat},w.heap[a]?=some (Obj.cells ca ta fa)→w.heap[b]?=some (Obj.cells cb tb fb)→ta≠tb→a≠b:=by
  intro a b ca cb ta tb fa fb e1 e2 ht e3
  subst e3
  rw [e1] at e2
  simp only [oI,cI] at e2
  exact ht e2.2.1
 have hK:NdK w w':=fun k cs t fz e n1 n2 n3 n4=>hf.2 k cs t fz e n1 (ne e b2 n2) (ne e b3 n3) (ne e b4 n4.1) (ne e b5 n4.2)
 have gE:∀ k,E k→w'.heap[k]?=w.heap[k]?:=fun k hk=>hf.gd k (Or.inl hk) (hE k hk).1
 refine ⟨hq,⟨upS F i F',⟨fun j hj=>?_,fun k hk=>⟨(hE k hk).1.same (gE k hk),fun j hj=>?_⟩⟩,fun j j' hj hj' hne=>?_⟩,hK,hf.1,gE⟩
 ·by_cases hji:j=i
  ·subst hji
   rw [aBp,aBp]
   exact k1
  ·rw [aBd _ _ hji,aBd _ _ hji]
   obtain ⟨⟨d1,⟨e1,d2⟩,⟨e2,d3⟩,⟨e3,d4⟩⟩,⟨_,e5,d5,_⟩,_⟩:=h1 j hj
   obtain ⟨_,o1,o2,o3,o4⟩:=h2 j i hj hi hji
   refine (h1 j hj).keep (fun k hk=>hf.gd k (Or.inr ⟨j,hj,hji,hk⟩) (d1 k hk)) (fun k cs fz e=>hK k cs _ _ e (by decide) (by decide) (by decide) (by decide)) ?_ ?_ ?_ hf.1 ?_
   ·rw [d2];exact hf.2 _ _ _ _ d2 (by decide) o1 (ne d2 b3 (by decide)) (ne d2 b4 (by decide)) (ne d2 b5 (by decide))
   ·rw [d3];exact hf.2 _ _ _ _ d3 (by decide) (ne d3 b2 (by decide)) o2 (ne d3 b4 (by decide)) (ne d3 b5 (by decide))
   ·rw [d4];exact hf.2 _ _ _ _ d4 (by decide) (ne d4 b2 (by decide)) (ne d4 b3 (by decide)) o3 (ne d4 b5 (by decide))
   ·rw [d5];exact hf.2 _ _ _ _ d5 (by decide) (ne d5 b2 (by decide)) (ne d5 b3 (by decide)) (ne d5 b4 (by decide)) o4
 ·by_cases hji:j=i
  ·subst hji
   rw [aBp]
   exact k2 k (Or.inl hk)
  ·rw [aBd _ _ hji]
   exact (hE k hk).2 j hj
 ·refine ⟨fun k hk=>?_,(h2 j j' hj hj' hne).2⟩
  by_cases hji:j=i
  ·subst hji
   rw [aBp] at hk
   rw [aBd _ _ (Ne.symm hne)]
   intro hk'
   exact k2 k (Or.inr ⟨j',hj',Ne.symm hne,hk'⟩) hk
  ·rw [aBd _ _ hji] at hk
   by_cases hji':j'=i
   ·subst hji'
    rw [aBp]
    exact k2 k (Or.inr ⟨j,hj,hji,hk⟩)
   ·rw [aBd _ _ hji']
    exact (h2 j j' hj hj' hne).1 k hk
theorem MND.less {E':Nat→Prop} (h:MND B N M P A E W w) (hE:∀ k,E' k→E k):MND B N M P A E' W w:=by
 obtain ⟨F,⟨h1,h3⟩,h2⟩:=h
 exact ⟨F,⟨h1,fun k hk=>h3 k (hE k hk)⟩,h2⟩
theorem MND.wrE (h:MND B N M P A E W w) {g o:Nat} {u:Value} (hg:E g) (hB:B≤g):MND B N M P A E W (w.setCell ⟨g,o,none⟩ u):=by
 obtain ⟨F,⟨h1,hE⟩,h2⟩:=h
 obtain ⟨c0,t0,e0,ht0⟩:=(hE g hg).1
 have oth:∀ k,k≠g→(w.setCell ⟨g,o,none⟩ u).heap[k]?=w.heap[k]?:=fun k hk=>heap_setCell_other _ _ _ _ hk
 have ne:∀ {k:Nat} {cs:Array Value} {t:TypeId} {fz:Nat×Nat},w.heap[k]?=some (Obj.cells cs t fz)→¬ DTy t→k≠g:=by
  intro k cs t fz e ht e3
  subst e3
  rw [e0] at e
  simp only [oI,cI] at e
  exact ht (e.2.1 ▸ ht0)
 refine ⟨F,⟨fun i hi=>?_,fun k hk=>?_⟩,h2⟩
 ·obtain ⟨⟨d1,⟨c1,d2⟩,⟨c2,d3⟩,⟨c3,d4⟩⟩,⟨_,c5,d5,_⟩,_⟩:=h1 i hi
  exact (h1 i hi).keep (fun k hk=>oth k (fun e=>(hE g hg).2 i hi (e ▸ hk))) (fun k cs fz e=>(oth k (ne e (by unfold DTy;decide))).trans e) (oth _ (ne d2 (by unfold DTy;decide))) (oth _ (ne d3 (by unfold DTy;decide))) (oth _ (ne d4 (by unfold DTy;decide))) ((Below.refl _ _).setCell (p:=⟨g,o,none⟩) hB u) (oth _ (ne d5 (by unfold DTy;decide)))
 ·refine ⟨?_,(hE k hk).2⟩
  by_cases e:k=g
  ·subst e
   exact ⟨_,t0,heap_setCell_same _ _ _ _ _ _ e0,ht0⟩
  ·exact (hE k hk).1.same (oth k e)
end
def MNE (B N M:Nat) (P:Nat→NdP) (A:Nat→NdS) (E:Nat→Prop) (W:World) (p:Nat) (s:DS) (w:World):Prop:=∃ F:Nat→Nat→Prop,(((∀ i,i<M→NXc B (P i) N (A i).m (A i).l (A i).L W (F i) w)∧∀ k,E k→FBk w k∧∀ i,i<M→¬ F i k)∧(∀ i j,i<M→j<M→i≠j→(∀ k,F i k→¬ F j k)∧(P i).g≠(P j).g∧(P i).ls≠(P j).ls∧(P i).nd≠(P j).nd∧(P i).rg≠(P j).rg))∧@DI ⟨fun k=>E k∨∃ j,j<M∧F j k⟩ B p s w
theorem MND.nil (B N:Nat) (P:Nat→NdP) (A:Nat→NdS) (W w:World):MND B N 0 P A (fun _=>False) W w:=⟨fun _ _=>False,⟨fun i hi=>absurd hi (by omega),fun k hk=>False.elim hk⟩,fun i j hi=>absurd hi (by omega)⟩
section
variable {B N M:Nat} {P:Nat→NdP} {A:Nat→NdS} {E:Nat→Prop} {W w w':World}
theorem aDw {F:Nat→Nat→Prop} (h:∀ i,i<M→NXc B (P i) N (A i).m (A i).l (A i).L W (F i) w) (hs:∀ (k:Nat) (cs:Array Value) (t:TypeId) (fz:Nat×Nat),w.heap[k]?=some (Obj.cells cs t fz)→NT t→w'.heap[k]?=some (Obj.cells cs t fz)) (hg:@GdK ⟨fun k=>E k∨∃ j,j<M∧F j k⟩ w w') (hb:Below B w w'):∀ i,i<M→NXc B (P i) N (A i).m (A i).l (A i).L W (F i) w':=by
 intro i hi
 obtain ⟨⟨d1,⟨e1,d2⟩,⟨e2,d3⟩,⟨e3,d4⟩⟩,⟨_,e5,d5,_⟩,_⟩:=h i hi
 exact (h i hi).keep (fun k hk=>hg k (Or.inr ⟨i,hi,hk⟩) (d1 k hk)) (fun k cs fz e=>hs k cs _ _ e (by decide)) (by rw [d2];exact hs _ _ _ _ d2 (by decide)) (by rw [d3];exact hs _ _ _ _ d3 (by decide)) (by rw [d4];exact hs _ _ _ _ d4 (by decide)) hb (by rw [d5];exact hs _ _ _ _ d5 (by decide))
theorem MND.disk (h:MND B N M P A E W w) (hB:B≤w.heap.size) {n:Nat} (h1:1≤n) (h2:n≤4096) :
  Calls Tryz.prog 12 #[.int .i64 (n:Int)] w fun e w'=>∃ p,e=.returned (.tuple #[.pointer (some ⟨p,0,none⟩),.int .i64 0])∧MNE B N M P A E W p (DS.new n) w'∧Below w.heap.size w w':=by
 obtain ⟨F,⟨k1,hE⟩,k2⟩:=h
 letI:Gd:=⟨fun k=>E k∨∃ j,j<M∧F j k⟩
 refine (new_any B n w h1 h2 hB (fun k hk=>by
  rcases hk with hk | ⟨j,hj,hk⟩
  ·exact (hE k hk).1
  ·exact (k1 j hj).1.1 k hk)).mono ?_
 rintro e w' ⟨p,rfl,hD,hb⟩
 exact ⟨p,rfl,⟨F,⟨⟨aDw (E:=E) k1 (fun k cs t fz e _=>(hb.block k (lO e)).trans e) (GdK.of hb) (hb.mono hB),fun k hk=>⟨(hE k hk).1.same (hb.block k (hE k hk).1.lt),(hE k hk).2⟩⟩,k2⟩,hD⟩,hb⟩
theorem MNE.call {p:Nat} {s s':DS} (h:MNE B N M P A E W p s w) {K:Nat} {args:Array Value} {Q:Ending→World→Prop}
  (hc:∀ S:Nat→Prop,@DI ⟨S⟩ B p s w→Calls Tryz.prog K args w fun e w'=>Q e w'∧@DI ⟨S⟩ B p s' w'∧@Fr ⟨S⟩ B w w') :
  Calls Tryz.prog K args w fun e w'=>Q e w'∧MNE B N M P A E W p s' w'∧Below B w w'∧∀ (k:Nat) (cs:Array Value) (t:TypeId) (fz:Nat×Nat),w.heap[k]?=some (Obj.cells cs t fz)→NT t→w'.heap[k]?=some (Obj.cells cs t fz):=by
 obtain ⟨F,⟨⟨h1,hE⟩,h2⟩,h3⟩:=h
 refine (hc _ h3).mono ?_
 rintro e w' ⟨hq,hd,hf⟩
 have hst:∀ (k:Nat) (cs:Array Value) (t:TypeId) (fz:Nat×Nat),w.heap[k]?=some (Obj.cells cs t fz)→NT t→w'.heap[k]?=some (Obj.cells cs t fz):=fun k cs t fz e ht=>by
  refine @Fr.stay ⟨_⟩ _ _ _ hf k cs t fz e ?_ ?_ ?_ ?_<;>(intro q9;rw [q9] at ht;exact ht (by decide))
 have hgd:=@Fr.gd ⟨_⟩ _ _ _ hf
 exact ⟨hq,⟨F,⟨⟨aDw (E:=E) h1 hst hgd (@Fr.bel ⟨_⟩ _ _ _ hf),fun k hk=>⟨(hE k hk).1.same (hgd k (Or.inl hk) (hE k hk).1),(hE k hk).2⟩⟩,h2⟩,hd⟩,@Fr.bel ⟨_⟩ _ _ _ hf,hst⟩
theorem MNE.open {p n:Nat} (h:MNE B n M P A E W p (DS.new n) w) (hB:B≤w.heap.size) (hW:Below B W w) (h3:3≤n) (h4:n≤4096) :
  Calls Tryz.prog 24 #[.pointer (some ⟨p,0,none⟩)] w fun e w'=>∃ x:NdP,e=.returned (.tuple #[.pointer (some ⟨x.nd,0,none⟩),.int .i64 0])∧x.p=p∧MND B n (M+1) (upS P M x) (upS A M ⟨0,[],fun _=>(0,0,false)⟩) E W w'∧Below B w w'∧∀ (k:Nat) (cs:Array Value) (t:TypeId) (fz:Nat×Nat),w.heap[k]?=some (Obj.cells cs t fz)→NT t→w'.heap[k]?=some (Obj.cells cs t fz):=by
 obtain ⟨F,⟨⟨h1,hE⟩,h2⟩,hD⟩:=h
 letI:Gd:=⟨fun k=>E k∨∃ j,j<M∧F j k⟩
 refine (nopen_new (W:=W) rfl hD hB hW h3 h4).mono ?_
 rintro e w' ⟨q,g,ls,rg,nd,rfl,hN,⟨a1,a2,a3⟩,y,hy,hf,hrg,a5,hRG⟩
 obtain ⟨x,hx⟩:∃ x:NdP,x=⟨p,q,g,ls,rg,nd⟩:=⟨_,rfl⟩
 have hX:NX B x.p x.q x.g x.ls x.rg x.nd n 0 [] (fun _=>(0,0,false)) W w':=by rw [hx];exact ⟨0,0,hN,nR _,nR _,nR _⟩
 have b1:w.heap.size≤x.g∧w.heap.size≤x.ls∧w.heap.size≤x.nd∧w.heap.size≤x.rg:=by rw [hx];exact ⟨a1,a2,a3,hrg⟩
 have hR:RGB B x w':=by rw [hx];exact ⟨a5,hRG⟩
 obtain ⟨F',k1,k2⟩:=hX.c hR
 have hst:∀ (k:Nat) (cs:Array Value) (t:TypeId) (fz:Nat×Nat),w.heap[k]?=some (Obj.cells cs t fz)→NT t→w'.heap[k]?=some (Obj.cells cs t fz):=fun k cs t fz e ht=>by
  have:=(lO e)
  exact hf.2 k cs t fz e ht (by omega) (by omega) (by omega)
 have hnk:=aDw (E:=E) h1 hst hf.gd hf.1
 have old:∀ j,j<M→(P j).g<w.heap.size∧(P j).ls<w.heap.size∧(P j).nd<w.heap.size∧(P j).rg<w.heap.size:=fun j hj=>by
  obtain ⟨⟨_,⟨_,d2⟩,⟨_,d3⟩,⟨_,d4⟩⟩,⟨_,_,d5,_⟩,_⟩:=h1 j hj
  exact ⟨(lO d2),(lO d3),(lO d4),(lO d5)⟩
 refine ⟨x,by rw [hx],by rw [hx],⟨upS F M F',⟨fun j hj=>?_,fun k hk=>⟨(hE k hk).1.same (hf.gd k (Or.inl hk) (hE k hk).1),fun j hj=>?_⟩⟩,fun j j' hj hj' hne=>?_⟩,hf.1,hst⟩
 ·by_cases e:j=M
  ·subst e
   rw [aBp,aBp,aBp]
   exact k1
  ·rw [aBd _ _ e,aBd _ _ e,aBd _ _ e]
   exact hnk j (by omega)
 ·by_cases e:j=M
  ·subst e
   rw [aBp]
   exact k2 k (Or.inl hk)
  ·rw [aBd _ _ e]
   exact (hE k hk).2 j (by omega)
 ·by_cases e:j=M
  ·subst e
   have e':j'≠j:=Ne.symm hne
   have o:=old j' (by omega)
   rw [aBp,aBp,aBd _ _ e',aBd _ _ e']
   exact ⟨fun k hk hk'=>k2 k (Or.inr ⟨j',by omega,hk'⟩) hk,by omega,by omega,by omega,by omega⟩
  ·by_cases e':j'=M
   ·subst e'
    have o:=old j (by omega)
    rw [aBp,aBp,aBd _ _ e,aBd _ _ e]
    exact ⟨fun k hk=>k2 k (Or.inr ⟨j,by omega,hk⟩),by omega,by omega,by omega,by omega⟩
   ·rw [aBd _ _ e,aBd _ _ e,aBd _ _ e',aBd _ _ e']
    exact h2 j j' (by omega) (by omega) hne
end
theorem and7 (z:Int):∃ v:Nat,v≤7∧bits BinOp.and IntKind.i64 z 7=(v:Int)∧(v:Int)=z % 8:=⟨(z % 8).toNat,by omega,by rw [aEi z 3 (by omega) 7 (by decide)];omega,by omega⟩
def fat (v:Nat):Int:=if v=4 then 1 else if v=5 then 2 else if v=6 then 3 else if v=7 then 4 else 0
theorem fateOf_any {z:Int} {v:Nat} (hv:v≤7) (hb:bits BinOp.and IntKind.i64 z 7=(v:Int)) (w:World):Calls Tryz.prog 25 #[.int .i64 z] w fun e w'=>e=.returned (.int .i64 (fat v))∧w'=w:=by
 have h:v=0∨v=1∨v=2∨v=3∨v=4∨v=5∨v=6∨v=7:=by omega
 go_enter Tryz.func25,Tryz.ntmps25
 rcases h with rfl | rfl | rfl | rfl | rfl | rfl | rfl | rfl<;>(go_wp2;go_ret;exact ⟨rfl,rfl⟩)
def NTM (w:World) (nt gh M:Nat) (wv lv:Value):Prop:=w.heap[nt]?=some (.cells #[.slice (some ⟨gh,0,none⟩) M M,wv,lv] 46 (0,0))
theorem NTM.later {w w':World} {nt gh M:Nat} {wv lv:Value} (h:NTM w nt gh M wv lv) (hb:Below w.heap.size w w'):NTM w' nt gh M wv lv:=(hb.block nt (lO h)).trans h
theorem aCv {w:World} {nt gh M i:Nat} {wv lv:Value} (h:NTM w nt gh M wv lv) (hi:i<M):Calls Tryz.prog 14 #[.pointer (some ⟨nt,0,none⟩),.int .i64 (i:Int)] w fun e w'=>e=.returned (.bool true)∧w'=w:=by
 have c0:w.cell? ⟨nt,0,none⟩=some (.slice (some ⟨gh,0,none⟩) M M):=aAa h
 have i0:(0:Int)≤(i:Int):=by omega
 have i1:(i:Int)<(M:Int):=by omega
 go_enter Tryz.func14,Tryz.ntmps14
 go_wp2
 go_ret
 exact ⟨rfl,rfl⟩
theorem ahead_any {w:World} {nt gh M n c:Nat} {a:Option Addr} {lv:Value} (h:NTM w nt gh M (.slice a n c) lv):Calls Tryz.prog 9 #[.pointer (some ⟨nt,0,none⟩)] w fun e w'=>e=.returned (.int .i64 (n:Int))∧w'=w:=by
 have c1:w.cell? ⟨nt,1,none⟩=some (.slice a n c):=aAa h
 go_enter Tryz.func9,Tryz.ntmps9
 go_wp2
 go_ret
 exact ⟨rfl,rfl⟩
theorem fate_none {w:World} {nt gh M c:Nat} {a:Option Addr} {lv:Value} (h:NTM w nt gh M (.slice a 0 c) lv):Calls Tryz.prog 15 #[.pointer (some ⟨nt,0,none⟩)] w fun e w'=>e=.returned (.int .i64 0)∧w'=w:=by
 have c1:w.cell? ⟨nt,1,none⟩=some (.slice a 0 c):=aAa h
 go_enter Tryz.func15,Tryz.ntmps15
 go_wp2
 go_ret
 exact ⟨rfl,rfl⟩
def tl1 (g o c:Nat):Value:=.slice (some ⟨g,if c=1 then o else o+1,none⟩) 0 (c-1)
theorem cell_oth {w:World} {g o n i:Nat} {u v:Value} (hne:n≠g) (h:w.cell? ⟨n,i,none⟩=some v):(w.setCell ⟨g,o,none⟩ u).cell? ⟨n,i,none⟩=some v:=by
 rw [←h]
 exact World.cell?_of_block (heap_setCell_other _ _ _ _ hne)
theorem frz_oth {w:World} {g o n i:Nat} {u:Value} (hne:n≠g) (h:w.frozen? ⟨n,i,none⟩=false):(w.setCell ⟨g,o,none⟩ u).frozen? ⟨n,i,none⟩=false:=by
 rw [←h]
 exact World.frozen?_of_block (heap_setCell_other _ _ _ _ hne)
theorem weather_room {w:World} {nt gh M g o c ga:Nat} {z:Int} {lv x:Value} (h:NTM w nt gh M (.slice (some ⟨g,o,none⟩) 0 c) lv) (hne:nt≠g) (hc:1≤c) (hx:w.cell? ⟨g,o,none⟩=some x) (hf:w.frozen? ⟨g,o,none⟩=false) (hz:w.cell? ⟨ga,0,none⟩=some (.int .i64 z)) :
  Calls Tryz.prog 5 #[.pointer (some ⟨nt,0,none⟩),.slice (some ⟨ga,0,none⟩) 1 1] w fun e w'=>e=.returned (.tuple #[])∧w'=(w.setCell ⟨g,o,none⟩ (.int .i64 z)).setCell ⟨nt,1,none⟩ (.slice (some ⟨g,o,none⟩) 1 c):=by
 have c1:w.cell? ⟨nt,1,none⟩=some (.slice (some ⟨g,o,none⟩) 0 c):=aAa h
 have f1:w.frozen? ⟨nt,1,none⟩=false:=aAb h
 have c2:=cell_oth (o:=o) (u:=.int .i64 z) hne c1
 have f2:=frz_oth (o:=o) (u:=.int .i64 z) hne f1
 have i1:(1:Int)≤(c:Int):=by omega
 have i2:¬ c<1:=by omega
 have i3:0+1≤c:=by omega
 clear h
 go_enter Tryz.func5,Tryz.ntmps5
 go_wp2
 (try simp only [Exit.inBlock,Exit.then])
 exact bodyPost_end (results_none rfl _ _ _) rfl ⟨rfl,rfl⟩
end Go.Proofs.YthimmblpmijnlaaGreat
