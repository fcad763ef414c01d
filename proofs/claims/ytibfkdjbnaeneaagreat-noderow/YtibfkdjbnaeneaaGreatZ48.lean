import Derived.Test.YtibfkdjbnaeneaaGreatZ47
import Derived.Laws.StructEq
set_option maxRecDepth 100000
set_option maxHeartbeats 16000000
set_option linter.unusedVariables false
namespace Go.Proofs.YtibfkdjbnaeneaaGreat
open Go.RowKit
section
variable [Gd] {B p q g ls rg nd N c u b:Nat} {l:List It} {L:Nat→Lg} {W w w':World}
theorem NDM.bset (h:NDM B p q g ls rg nd N c u l L W w) {cf:Array Value} {o:Nat} {x:Value} (hf:w.heap[b]?=some (.cells cf 58 (0,0))) (hB:B≤b):NDM B p q g ls rg nd N c u l L W (w.setCell ⟨b,o,none⟩ x):=by
 obtain ⟨cs,h1,h2⟩:=h.s.lv
 obtain ⟨cn,h3,h4⟩:=h.v
 have keep:∀ (k:Nat) (cs:Array Value) (t:TypeId) (fz:Nat×Nat),w.heap[k]?=some (Obj.cells cs t fz)→t≠58→(w.setCell ⟨b,o,none⟩ x).heap[k]?=some (Obj.cells cs t fz):=fun k cs t fz e ht=>by
  rw [(Ex.set (w:=w) (o:=o) (u:=x) hB).2 k (lO e) (by simpa using aAk e hf ht),e]
 refine ⟨⟨h.s.kx.same (Ex.set hB).1 (fun k cs t fz e ht=>keep k cs t fz e ?_),h.s.bl,cs,keep _ _ _ _ h1 (by decide),h2⟩,h.b,cn,keep _ _ _ _ h3 (by decide),h4⟩
 rcases ht with rfl | rfl | ht
 ·decide
 ·decide
 ·intro q9
  rw [q9] at ht
  exact ht (by decide)
end
theorem aEo [Gd] {B p q g ls rg nd N c u lg at_ n cp tl tr:Nat} {sl:Bool} {l:List It} {L:Nat→Lg} {W w:World} {k e0:Int} {va:Option Addr} (h:NDM B p q g ls rg nd N c u l L W w) (hlg:lg≤16) (HL:Hid (L lg=(tl,tr,sl))) (he:¬ e0=0)
  (hre:∀ ww,Calls Tryz.prog 34 #[.agg #[.int .i64 (tl:Int),.int .i64 (tr:Int),.bool sl],.agg #[.int .i64 k,.int .i64 (lg:Int),.int .i64 (at_:Int),.slice va n cp]] ww fun e w'=>e=.returned (.int .i64 e0)∧Below ww.heap.size ww w') :
  Calls Tryz.prog 17 #[.pointer (some ⟨nd,0,none⟩),.agg #[.int .i64 k,.int .i64 (lg:Int),.int .i64 (at_:Int),.slice va n cp]] w fun e w'=>e=.returned (.tuple #[.slice none 0 0,.int .i64 e0])∧Below w.heap.size w w':=by
 have lt:∀ {k:Nat} {o:Obj} {ww:World},ww.heap[k]?=some o→k<ww.heap.size:=fun e=>(lO e)
 have j1:(0:Int)≤(lg:Int):=by omega
 have j2:(lg:Int)<17:=by omega
 have HNW:Hid ((w.alloc (.cells #[.int .i64 k,.int .i64 (lg:Int),.int .i64 (at_:Int),.slice va n cp] 35)).heap[w.heap.size]?=some (.cells #[.int .i64 k,.int .i64 (lg:Int),.int .i64 (at_:Int),.slice va n cp] 35 (0,0))):=heap_alloc_new w _
 have HBX:=hide (aAc w (.cells #[.int .i64 k,.int .i64 (lg:Int),.int .i64 (at_:Int),.slice va n cp] 35))
 have H1:=hide (h.later HBX.out)
 have HLG:=hide hlg
 have HRE:=hide hre
 clear h hlg hre
 go_enter Tryz.func17,Tryz.ntmps17
 go_upto_region 1 with fail
 generalize w.alloc (.cells #[.int .i64 k,.int .i64 (lg:Int),.int .i64 (at_:Int),.slice va n cp] 35)=w1 at *
 generalize hn0:w.heap.size=n0 at *
 have HD1:=hide (H1.out.later (show Below w1.heap.size w1 w1.drew from (Below.refl _ _).drew))
 have HND:Hid (w1.drew.heap[n0]?=some (.cells #[.int .i64 k,.int .i64 (lg:Int),.int .i64 (at_:Int),.slice va n cp] 35 (0,0))):=HNW.out
 have HBD:Hid (Below n0 w w1.drew):=HBX.out.drew
 have hcl:=HD1.out.lg HLG.out
 rw [HL.out] at hcl
 have HX0:Hid ((fun wx=>wx.cell? ⟨n0,1,none⟩=some (.int .i64 (lg:Int))∧wx.cell? ⟨nd,2+lg*3,none⟩=some (.int .i64 (tl:Int))∧wx.cell? ⟨nd,2+lg*3+1,none⟩=some (.int .i64 (tr:Int))∧wx.cell? ⟨nd,2+lg*3+2,none⟩=some (.bool sl)) w1.drew):=⟨aAa HND.out,hcl.1,hcl.2.1,hcl.2.2⟩
 clear hcl
 refine wp_region_noPanic ?_
 refine wp_region_held_drew (S:=fun wx=>wx.cell? ⟨n0,1,none⟩=some (.int .i64 (lg:Int))∧wx.cell? ⟨nd,2+lg*3,none⟩=some (.int .i64 (tl:Int))∧wx.cell? ⟨nd,2+lg*3+1,none⟩=some (.int .i64 (tr:Int))∧wx.cell? ⟨nd,2+lg*3+2,none⟩=some (.bool sl)) (by kernel_rfl) HX0.out (fun hHeld=>?_)
 refine wpAnyH_tk 0 10 ?_
 refine wpAnyH_tk 1 11 ?_
 refine wpAnyH_tk 2 12 ?_
 refine wpAnyH_tk 3 13 ?_
 refine wpAnyH_tk 4 14 ?_
 refine wpAnyH_tk 5 15 ?_
 refine wpAnyH_tk 6 16 ?_
 refine wpAnyH_cm 7 ?_;intro K hK
 go_simp
 have hb2:Below w1.heap.size w1 (w1.alloc (.cells #[.int .i64 0,.int .i64 0,.bool false] 58)).drew:=(aAc w1 (.cells #[.int .i64 0,.int .i64 0,.bool false] 58)).drew
 have HD2:=hide (H1.out.later hb2)
 have HN2:Hid ((w1.alloc (.cells #[.int .i64 0,.int .i64 0,.bool false] 58)).drew.heap[n0]?=some (.cells #[.int .i64 k,.int .i64 (lg:Int),.int .i64 (at_:Int),.slice va n cp] 35 (0,0))):=(hb2.block n0 (lt HNW.out)).trans HNW.out
 have HM2:Hid ((w1.alloc (.cells #[.int .i64 0,.int .i64 0,.bool false] 58)).drew.heap[w1.heap.size]?=some (.cells #[.int .i64 0,.int .i64 0,.bool false] 58 (0,0))):=heap_alloc_new w1 _
 have HB2:Hid (Below n0 w (w1.alloc (.cells #[.int .i64 0,.int .i64 0,.bool false] 58)).drew):=HBX.out.trans (hb2.mono (by have:=HBX.out.size;omega))
 have HNN:Hid (n0<w1.heap.size):=lt HNW.out
 have HBN:Hid (B≤w1.heap.size):=H1.out.bw
 have hcl:=HD2.out.lg HLG.out
 rw [HL.out] at hcl
 have HX2:Hid ((fun wx=>wx.cell? ⟨n0,1,none⟩=some (.int .i64 (lg:Int))∧wx.cell? ⟨nd,2+lg*3,none⟩=some (.int .i64 (tl:Int))∧wx.cell? ⟨nd,2+lg*3+1,none⟩=some (.int .i64 (tr:Int))∧wx.cell? ⟨nd,2+lg*3+2,none⟩=some (.bool sl)) (w1.alloc (.cells #[.int .i64 0,.int .i64 0,.bool false] 58)).drew):=⟨aAa HN2.out,hcl.1,hcl.2.1,hcl.2.2⟩
 clear hcl hb2 hHeld H1 HNW HBX
 generalize (w1.alloc (.cells #[.int .i64 0,.int .i64 0,.bool false] 58)).drew=w2 at *
 generalize w1.heap.size=n1 at *
 refine hK.out _ _ HX2.out (fun hHeld=>?_)
 clear hK K
 try simp only [Act.put,siT,scZ,scS]
 have m0:w2.cell? ⟨n1,0,none⟩=some (.int .i64 0):=aAa HM2.out
 have mf0:w2.frozen? ⟨n1,0,none⟩=false:=aAb HM2.out
 have m1:w2.cell? ⟨n1,1,none⟩=some (.int .i64 0):=aAa HM2.out
 have mf1:w2.frozen? ⟨n1,1,none⟩=false:=aAb HM2.out
 have m2:w2.cell? ⟨n1,2,none⟩=some (.bool false):=aAa HM2.out
 have mf2:w2.frozen? ⟨n1,2,none⟩=false:=aAb HM2.out
 refine wpAnyH_cm 8 ?_;intro K hK
 go_simp
 have HD3:=hide (((HD2.out.bset (o:=0) (x:=.int .i64 (tl:Int)) HM2.out HBN.out).bset (o:=1) (x:=.int .i64 (tr:Int)) (heap_setCell_same _ _ _ _ _ _ HM2.out) HBN.out).bset (o:=2) (x:=.bool sl) (heap_setCell_same _ _ _ _ _ _ (heap_setCell_same _ _ _ _ _ _ HM2.out)) HBN.out)
 have HM3:Hid ((((w2.setCell ⟨n1,0,none⟩ (.int .i64 (tl:Int))).setCell ⟨n1,1,none⟩ (.int .i64 (tr:Int))).setCell ⟨n1,2,none⟩ (.bool sl)).heap[n1]?=some (.cells #[.int .i64 (tl:Int),.int .i64 (tr:Int),.bool sl] 58 (0,0))):=set3 HM2.out
 have HN3:Hid ((((w2.setCell ⟨n1,0,none⟩ (.int .i64 (tl:Int))).setCell ⟨n1,1,none⟩ (.int .i64 (tr:Int))).setCell ⟨n1,2,none⟩ (.bool sl)).heap[n0]?=some (.cells #[.int .i64 k,.int .i64 (lg:Int),.int .i64 (at_:Int),.slice va n cp] 35 (0,0))):=by
  have hne:n0≠n1:=Nat.ne_of_lt HNN.out
  show _=_
  rw [heap_setCell_other _ _ _ _ hne,heap_setCell_other _ _ _ _ hne,heap_setCell_other _ _ _ _ hne]
  exact HN2.out
 have HB3:Hid (Below n0 w (((w2.setCell ⟨n1,0,none⟩ (.int .i64 (tl:Int))).setCell ⟨n1,1,none⟩ (.int .i64 (tr:Int))).setCell ⟨n1,2,none⟩ (.bool sl))):=bel3 HB2.out (Nat.le_of_lt HNN.out)
 have hcl:=HD3.out.lg HLG.out
 rw [HL.out] at hcl
 have HX3:Hid ((fun wx=>wx.cell? ⟨n0,1,none⟩=some (.int .i64 (lg:Int))∧wx.cell? ⟨nd,2+lg*3,none⟩=some (.int .i64 (tl:Int))∧wx.cell? ⟨nd,2+lg*3+1,none⟩=some (.int .i64 (tr:Int))∧wx.cell? ⟨nd,2+lg*3+2,none⟩=some (.bool sl)) (((w2.setCell ⟨n1,0,none⟩ (.int .i64 (tl:Int))).setCell ⟨n1,1,none⟩ (.int .i64 (tr:Int))).setCell ⟨n1,2,none⟩ (.bool sl))):=⟨aAa HN3.out,hcl.1,hcl.2.1,hcl.2.2⟩
 clear hcl hHeld m0 m1 m2 mf0 mf1 mf2
 generalize (((w2.setCell ⟨n1,0,none⟩ (.int .i64 (tl:Int))).setCell ⟨n1,1,none⟩ (.int .i64 (tr:Int))).setCell ⟨n1,2,none⟩ (.bool sl))=w3 at *
 refine hK.out _ _ HX3.out (fun hHeld=>?_)
 clear hK K
 try simp only [Act.put,siT,scZ,scS]
 refine wpAnyH_done (by kernel_rfl) ?_ _
 refine NoPanic.normal ?_
 clear hHeld
 have y0:w3.cell? ⟨n0,0,none⟩=some (.int .i64 k):=aAa HN3.out
 have yf0:w3.frozen? ⟨n0,0,none⟩=false:=aAb HN3.out
 have y1:w3.cell? ⟨n0,1,none⟩=some (.int .i64 (lg:Int)):=aAa HN3.out
 have yf1:w3.frozen? ⟨n0,1,none⟩=false:=aAb HN3.out
 have y2:w3.cell? ⟨n0,2,none⟩=some (.int .i64 (at_:Int)):=aAa HN3.out
 have yf2:w3.frozen? ⟨n0,2,none⟩=false:=aAb HN3.out
 have y3:w3.cell? ⟨n0,3,none⟩=some (.slice va n cp):=aAa HN3.out
 have yf3:w3.frozen? ⟨n0,3,none⟩=false:=aAb HN3.out
 have x0:w3.cell? ⟨n1,0,none⟩=some (.int .i64 (tl:Int)):=aAa HM3.out
 have xf0:w3.frozen? ⟨n1,0,none⟩=false:=aAb HM3.out
 have x1:w3.cell? ⟨n1,1,none⟩=some (.int .i64 (tr:Int)):=aAa HM3.out
 have xf1:w3.frozen? ⟨n1,1,none⟩=false:=aAb HM3.out
 have x2:w3.cell? ⟨n1,2,none⟩=some (.bool sl):=aAa HM3.out
 have xf2:w3.frozen? ⟨n1,2,none⟩=false:=aAb HM3.out
 have HR3:=hide (HRE.out w3)
 go_wp2_with fail
 refine HR3.out.mono ?_
 rintro e w4 ⟨rfl,hb4⟩
 have HD4:=hide (HD3.out.later hb4)
 have HM4:=hide ((hb4.block n1 (lt HM3.out)).trans HM3.out)
 have HN4:=hide ((hb4.block n0 (lt HN3.out)).trans HN3.out)
 have HB4:Hid (Below n0 w w4):=HB3.out.trans (hb4.mono (by have:=HB3.out.size;omega))
 clear hb4 HR3 x0 x1 x2 xf0 xf1 xf2 y0 y1 y2 y3 yf0 yf1 yf2 yf3
 go_wp2
 go_ret2
 exact ⟨rfl,by rw [hn0];exact HB4.out⟩
theorem aFo [Gd] {B p q g ls rg nd N c u lg at_ n cp tl tr:Nat} {sl:Bool} {l:List It} {L:Nat→Lg} {W w:World} {k:Int} {va:Option Addr} (h:NDM B p q g ls rg nd N c u l L W w) (hlg:lg≤16) (HL:Hid (L lg=(tl,tr,sl))) (hk5:¬ k=5) (hre:∀ ww,Calls Tryz.prog 34 #[.agg #[.int .i64 (tl:Int),.int .i64 (tr:Int),.bool sl],.agg #[.int .i64 k,.int .i64 (lg:Int),.int .i64 (at_:Int),.slice va n cp]] ww fun e w'=>e=.returned (.int .i64 0)∧Below ww.heap.size ww w')
  (hbe:∀ ww,Calls Tryz.prog 36 #[.agg #[.int .i64 (tl:Int),.int .i64 (tr:Int),.bool sl],.agg #[.int .i64 k,.int .i64 (lg:Int),.int .i64 (at_:Int),.slice va n cp]] ww fun e w'=>e=.returned (.agg #[.int .i64 (tl:Int),.int .i64 (tr:Int),.bool sl])∧Below ww.heap.size ww w') :
  Calls Tryz.prog 17 #[.pointer (some ⟨nd,0,none⟩),.agg #[.int .i64 k,.int .i64 (lg:Int),.int .i64 (at_:Int),.slice va n cp]] w fun e w'=>e=.returned (.tuple #[.slice none 0 0,.int .i64 0])∧Below w.heap.size w w':=by
 have HBE:=hide hbe
 clear hbe
 have lt:∀ {k:Nat} {o:Obj} {ww:World},ww.heap[k]?=some o→k<ww.heap.size:=fun e=>(lO e)
 have j1:(0:Int)≤(lg:Int):=by omega
 have j2:(lg:Int)<17:=by omega
 have HNW:Hid ((w.alloc (.cells #[.int .i64 k,.int .i64 (lg:Int),.int .i64 (at_:Int),.slice va n cp] 35)).heap[w.heap.size]?=some (.cells #[.int .i64 k,.int .i64 (lg:Int),.int .i64 (at_:Int),.slice va n cp] 35 (0,0))):=heap_alloc_new w _
 have HBX:=hide (aAc w (.cells #[.int .i64 k,.int .i64 (lg:Int),.int .i64 (at_:Int),.slice va n cp] 35))
 have H1:=hide (h.later HBX.out)
 have HLG:=hide hlg
 have HRE:=hide hre
 clear h hlg hre
 go_enter Tryz.func17,Tryz.ntmps17
 go_upto_region 1 with fail
 generalize w.alloc (.cells #[.int .i64 k,.int .i64 (lg:Int),.int .i64 (at_:Int),.slice va n cp] 35)=w1 at *
 generalize hn0:w.heap.size=n0 at *
 have HD1:=hide (H1.out.later (show Below w1.heap.size w1 w1.drew from (Below.refl _ _).drew))
 have HND:Hid (w1.drew.heap[n0]?=some (.cells #[.int .i64 k,.int .i64 (lg:Int),.int .i64 (at_:Int),.slice va n cp] 35 (0,0))):=HNW.out
 have HBD:Hid (Below n0 w w1.drew):=HBX.out.drew
 have hcl:=HD1.out.lg HLG.out
 rw [HL.out] at hcl
 have HX0:Hid ((fun wx=>wx.cell? ⟨n0,1,none⟩=some (.int .i64 (lg:Int))∧wx.cell? ⟨nd,2+lg*3,none⟩=some (.int .i64 (tl:Int))∧wx.cell? ⟨nd,2+lg*3+1,none⟩=some (.int .i64 (tr:Int))∧wx.cell? ⟨nd,2+lg*3+2,none⟩=some (.bool sl)) w1.drew):=⟨aAa HND.out,hcl.1,hcl.2.1,hcl.2.2⟩
 clear hcl
 refine wp_region_noPanic ?_
 refine wp_region_held_drew (S:=fun wx=>wx.cell? ⟨n0,1,none⟩=some (.int .i64 (lg:Int))∧wx.cell? ⟨nd,2+lg*3,none⟩=some (.int .i64 (tl:Int))∧wx.cell? ⟨nd,2+lg*3+1,none⟩=some (.int .i64 (tr:Int))∧wx.cell? ⟨nd,2+lg*3+2,none⟩=some (.bool sl)) (by kernel_rfl) HX0.out (fun hHeld=>?_)
 refine wpAnyH_tk 0 10 ?_
 refine wpAnyH_tk 1 11 ?_
 refine wpAnyH_tk 2 12 ?_
 refine wpAnyH_tk 3 13 ?_
 refine wpAnyH_tk 4 14 ?_
 refine wpAnyH_tk 5 15 ?_
 refine wpAnyH_tk 6 16 ?_
 refine wpAnyH_cm 7 ?_;intro K hK
 go_simp
 have hb2:Below w1.heap.size w1 (w1.alloc (.cells #[.int .i64 0,.int .i64 0,.bool false] 58)).drew:=(aAc w1 (.cells #[.int .i64 0,.int .i64 0,.bool false] 58)).drew
 have HD2:=hide (H1.out.later hb2)
 have HN2:Hid ((w1.alloc (.cells #[.int .i64 0,.int .i64 0,.bool false] 58)).drew.heap[n0]?=some (.cells #[.int .i64 k,.int .i64 (lg:Int),.int .i64 (at_:Int),.slice va n cp] 35 (0,0))):=(hb2.block n0 (lt HNW.out)).trans HNW.out
 have HM2:Hid ((w1.alloc (.cells #[.int .i64 0,.int .i64 0,.bool false] 58)).drew.heap[w1.heap.size]?=some (.cells #[.int .i64 0,.int .i64 0,.bool false] 58 (0,0))):=heap_alloc_new w1 _
 have HB2:Hid (Below n0 w (w1.alloc (.cells #[.int .i64 0,.int .i64 0,.bool false] 58)).drew):=HBX.out.trans (hb2.mono (by have:=HBX.out.size;omega))
 have HNN:Hid (n0<w1.heap.size):=lt HNW.out
 have HBN:Hid (B≤w1.heap.size):=H1.out.bw
 have hcl:=HD2.out.lg HLG.out
 rw [HL.out] at hcl
 have HX2:Hid ((fun wx=>wx.cell? ⟨n0,1,none⟩=some (.int .i64 (lg:Int))∧wx.cell? ⟨nd,2+lg*3,none⟩=some (.int .i64 (tl:Int))∧wx.cell? ⟨nd,2+lg*3+1,none⟩=some (.int .i64 (tr:Int))∧wx.cell? ⟨nd,2+lg*3+2,none⟩=some (.bool sl)) (w1.alloc (.cells #[.int .i64 0,.int .i64 0,.bool false] 58)).drew):=⟨aAa HN2.out,hcl.1,hcl.2.1,hcl.2.2⟩
 clear hcl hb2 hHeld H1 HNW HBX
 generalize (w1.alloc (.cells #[.int .i64 0,.int .i64 0,.bool false] 58)).drew=w2 at *
 generalize w1.heap.size=n1 at *
 refine hK.out _ _ HX2.out (fun hHeld=>?_)
 clear hK K
 try simp only [Act.put,siT,scZ,scS]
 have m0:w2.cell? ⟨n1,0,none⟩=some (.int .i64 0):=aAa HM2.out
 have mf0:w2.frozen? ⟨n1,0,none⟩=false:=aAb HM2.out
 have m1:w2.cell? ⟨n1,1,none⟩=some (.int .i64 0):=aAa HM2.out
 have mf1:w2.frozen? ⟨n1,1,none⟩=false:=aAb HM2.out
 have m2:w2.cell? ⟨n1,2,none⟩=some (.bool false):=aAa HM2.out
 have mf2:w2.frozen? ⟨n1,2,none⟩=false:=aAb HM2.out
 refine wpAnyH_cm 8 ?_;intro K hK
 go_simp
 have HD3:=hide (((HD2.out.bset (o:=0) (x:=.int .i64 (tl:Int)) HM2.out HBN.out).bset (o:=1) (x:=.int .i64 (tr:Int)) (heap_setCell_same _ _ _ _ _ _ HM2.out) HBN.out).bset (o:=2) (x:=.bool sl) (heap_setCell_same _ _ _ _ _ _ (heap_setCell_same _ _ _ _ _ _ HM2.out)) HBN.out)
 have HM3:Hid ((((w2.setCell ⟨n1,0,none⟩ (.int .i64 (tl:Int))).setCell ⟨n1,1,none⟩ (.int .i64 (tr:Int))).setCell ⟨n1,2,none⟩ (.bool sl)).heap[n1]?=some (.cells #[.int .i64 (tl:Int),.int .i64 (tr:Int),.bool sl] 58 (0,0))):=set3 HM2.out
 have HN3:Hid ((((w2.setCell ⟨n1,0,none⟩ (.int .i64 (tl:Int))).setCell ⟨n1,1,none⟩ (.int .i64 (tr:Int))).setCell ⟨n1,2,none⟩ (.bool sl)).heap[n0]?=some (.cells #[.int .i64 k,.int .i64 (lg:Int),.int .i64 (at_:Int),.slice va n cp] 35 (0,0))):=by
  have hne:n0≠n1:=Nat.ne_of_lt HNN.out
  show _=_
  rw [heap_setCell_other _ _ _ _ hne,heap_setCell_other _ _ _ _ hne,heap_setCell_other _ _ _ _ hne]
  exact HN2.out
 have HB3:Hid (Below n0 w (((w2.setCell ⟨n1,0,none⟩ (.int .i64 (tl:Int))).setCell ⟨n1,1,none⟩ (.int .i64 (tr:Int))).setCell ⟨n1,2,none⟩ (.bool sl))):=bel3 HB2.out (Nat.le_of_lt HNN.out)
 have hcl:=HD3.out.lg HLG.out
 rw [HL.out] at hcl
 have HX3:Hid ((fun wx=>wx.cell? ⟨n0,1,none⟩=some (.int .i64 (lg:Int))∧wx.cell? ⟨nd,2+lg*3,none⟩=some (.int .i64 (tl:Int))∧wx.cell? ⟨nd,2+lg*3+1,none⟩=some (.int .i64 (tr:Int))∧wx.cell? ⟨nd,2+lg*3+2,none⟩=some (.bool sl)) (((w2.setCell ⟨n1,0,none⟩ (.int .i64 (tl:Int))).setCell ⟨n1,1,none⟩ (.int .i64 (tr:Int))).setCell ⟨n1,2,none⟩ (.bool sl))):=⟨aAa HN3.out,hcl.1,hcl.2.1,hcl.2.2⟩
 clear hcl hHeld m0 m1 m2 mf0 mf1 mf2
 generalize (((w2.setCell ⟨n1,0,none⟩ (.int .i64 (tl:Int))).setCell ⟨n1,1,none⟩ (.int .i64 (tr:Int))).setCell ⟨n1,2,none⟩ (.bool sl))=w3 at *
 refine hK.out _ _ HX3.out (fun hHeld=>?_)
 clear hK K
 try simp only [Act.put,siT,scZ,scS]
 refine wpAnyH_done (by kernel_rfl) ?_ _
 refine NoPanic.normal ?_
 clear hHeld
 have y0:w3.cell? ⟨n0,0,none⟩=some (.int .i64 k):=aAa HN3.out
 have yf0:w3.frozen? ⟨n0,0,none⟩=false:=aAb HN3.out
 have y1:w3.cell? ⟨n0,1,none⟩=some (.int .i64 (lg:Int)):=aAa HN3.out
 have yf1:w3.frozen? ⟨n0,1,none⟩=false:=aAb HN3.out
 have y2:w3.cell? ⟨n0,2,none⟩=some (.int .i64 (at_:Int)):=aAa HN3.out
 have yf2:w3.frozen? ⟨n0,2,none⟩=false:=aAb HN3.out
 have y3:w3.cell? ⟨n0,3,none⟩=some (.slice va n cp):=aAa HN3.out
 have yf3:w3.frozen? ⟨n0,3,none⟩=false:=aAb HN3.out
 have x0:w3.cell? ⟨n1,0,none⟩=some (.int .i64 (tl:Int)):=aAa HM3.out
 have xf0:w3.frozen? ⟨n1,0,none⟩=false:=aAb HM3.out
 have x1:w3.cell? ⟨n1,1,none⟩=some (.int .i64 (tr:Int)):=aAa HM3.out
 have xf1:w3.frozen? ⟨n1,1,none⟩=false:=aAb HM3.out
 have x2:w3.cell? ⟨n1,2,none⟩=some (.bool sl):=aAa HM3.out
 have xf2:w3.frozen? ⟨n1,2,none⟩=false:=aAb HM3.out
 have HR3:=hide (HRE.out w3)
 go_wp2_with fail
 refine HR3.out.mono ?_
 rintro e w4 ⟨rfl,hb4⟩
 have HD4:=hide (HD3.out.later hb4)
 have HM4:=hide ((hb4.block n1 (lt HM3.out)).trans HM3.out)
 have HN4:=hide ((hb4.block n0 (lt HN3.out)).trans HN3.out)
 have HB4:Hid (Below n0 w w4):=HB3.out.trans (hb4.mono (by have:=HB3.out.size;omega))
 clear hb4 HR3 x0 x1 x2 xf0 xf1 xf2 y0 y1 y2 y3 yf0 yf1 yf2 yf3
 have y0:w4.cell? ⟨n0,0,none⟩=some (.int .i64 k):=aAa HN4.out
 have yf0:w4.frozen? ⟨n0,0,none⟩=false:=aAb HN4.out
 have y1:w4.cell? ⟨n0,1,none⟩=some (.int .i64 (lg:Int)):=aAa HN4.out
 have yf1:w4.frozen? ⟨n0,1,none⟩=false:=aAb HN4.out
 have y2:w4.cell? ⟨n0,2,none⟩=some (.int .i64 (at_:Int)):=aAa HN4.out
 have yf2:w4.frozen? ⟨n0,2,none⟩=false:=aAb HN4.out
 have y3:w4.cell? ⟨n0,3,none⟩=some (.slice va n cp):=aAa HN4.out
 have yf3:w4.frozen? ⟨n0,3,none⟩=false:=aAb HN4.out
 have x0:w4.cell? ⟨n1,0,none⟩=some (.int .i64 (tl:Int)):=aAa HM4.out
 have xf0:w4.frozen? ⟨n1,0,none⟩=false:=aAb HM4.out
 have x1:w4.cell? ⟨n1,1,none⟩=some (.int .i64 (tr:Int)):=aAa HM4.out
 have xf1:w4.frozen? ⟨n1,1,none⟩=false:=aAb HM4.out
 have x2:w4.cell? ⟨n1,2,none⟩=some (.bool sl):=aAa HM4.out
 have xf2:w4.frozen? ⟨n1,2,none⟩=false:=aAb HM4.out
 have HBE4:=hide (HBE.out w4)
 go_wp2_with fail
 refine HBE4.out.mono ?_
 rintro e w5 ⟨rfl,hb5⟩
 have hb6:=aAc w5 (.cells #[.int .i64 (tl:Int),.int .i64 (tr:Int),.bool sl] 58)
 have HD7:=hide ((HD4.out.later hb5).later hb6)
 have HM5:=(hb5.block n1 (lt HM4.out)).trans HM4.out
 have HN5:=(hb5.block n0 (lt HN4.out)).trans HN4.out
 have HM7:=hide ((hb6.block n1 (lt HM5)).trans HM5)
 have HN7:=hide ((hb6.block n0 (lt HN5)).trans HN5)
 have HP7:Hid ((w5.alloc (.cells #[.int .i64 (tl:Int),.int .i64 (tr:Int),.bool sl] 58)).heap[w5.heap.size]?=some (.cells #[.int .i64 (tl:Int),.int .i64 (tr:Int),.bool sl] 58 (0,0))):=heap_alloc_new w5 _
 have HB7:Hid (Below n0 w (w5.alloc (.cells #[.int .i64 (tl:Int),.int .i64 (tr:Int),.bool sl] 58))):=(HB4.out.trans (hb5.mono (by have:=HB4.out.size;omega))).trans (hb6.mono (by have:=HB4.out.size;have:=hb5.size;omega))
 have HNN7:Hid (n0<w5.heap.size∧n1<w5.heap.size):=⟨lt HN5,lt HM5⟩
 have HBN7:Hid (B≤w5.heap.size):=(HD4.out.later hb5).bw
 clear hb5 hb6 HM5 HN5 HBE4 x0 x1 x2 xf0 xf1 xf2 y0 y1 y2 y3 yf0 yf1 yf2 yf3
 go_upto_region 8 with fail
 generalize (w5.alloc (.cells #[.int .i64 (tl:Int),.int .i64 (tr:Int),.bool sl] 58))=w7 at *
 generalize w5.heap.size=n5 at *
 have z0:w7.cell? ⟨n5,0,none⟩=some (.int .i64 (tl:Int)):=aAa HP7.out
 have zf0:w7.frozen? ⟨n5,0,none⟩=false:=aAb HP7.out
 have z1:w7.cell? ⟨n5,1,none⟩=some (.int .i64 (tr:Int)):=aAa HP7.out
 have zf1:w7.frozen? ⟨n5,1,none⟩=false:=aAb HP7.out
 have z2:w7.cell? ⟨n5,2,none⟩=some (.bool sl):=aAa HP7.out
 have zf2:w7.frozen? ⟨n5,2,none⟩=false:=aAb HP7.out
 have x0:w7.cell? ⟨n1,0,none⟩=some (.int .i64 (tl:Int)):=aAa HM7.out
 have xf0:w7.frozen? ⟨n1,0,none⟩=false:=aAb HM7.out
 have x1:w7.cell? ⟨n1,1,none⟩=some (.int .i64 (tr:Int)):=aAa HM7.out
 have xf1:w7.frozen? ⟨n1,1,none⟩=false:=aAb HM7.out
 have x2:w7.cell? ⟨n1,2,none⟩=some (.bool sl):=aAa HM7.out
 have xf2:w7.frozen? ⟨n1,2,none⟩=false:=aAb HM7.out
 go_wp2
 go_ret2
 exact ⟨rfl,by rw [hn0];exact HB7.out⟩
theorem serve_read [Gd] {B p q g ls rg nd N c u lg at_ n cp tl tr:Nat} {sl:Bool} {l:List It} {L:Nat→Lg} {W w:World} {k:Int} {va:Option Addr} (h:NDM B p q g ls rg nd N c u l L W w) (hlg:lg≤16) (HL:Hid (L lg=(tl,tr,sl))) {val:List Nat} (hk5:k=5) (hat:at_<256) (hval:valL l [0,lg,at_]=some val) (hre:∀ ww,Calls Tryz.prog 34 #[.agg #[.int .i64 (tl:Int),.int .i64 (tr:Int),.bool sl],.agg #[.int .i64 k,.int .i64 (lg:Int),.int .i64 (at_:Int),.slice va n cp]] ww fun e w'=>e=.returned (.int .i64 0)∧Below ww.heap.size ww w') :
  Calls Tryz.prog 17 #[.pointer (some ⟨nd,0,none⟩),.agg #[.int .i64 k,.int .i64 (lg:Int),.int .i64 (at_:Int),.slice va n cp]] w fun e w'=>∃ sa sc,e=.returned (.tuple #[.slice sa val.length sc,.int .i64 0])∧BK B w' sa val.length sc val∧Below w.heap.size w w':=by
 have d5:decide (k=5)=true:=by rw [decide_eq_true_eq];exact hk5
 have d6:(k == 5)=true:=by rw [beq_iff_eq];exact hk5
 clear hk5
 have HVAL:=hide hval
 have HAT:=hide hat
 clear hval hat
 have lt:∀ {k:Nat} {o:Obj} {ww:World},ww.heap[k]?=some o→k<ww.heap.size:=fun e=>(lO e)
 have j1:(0:Int)≤(lg:Int):=by omega
 have j2:(lg:Int)<17:=by omega
 have HNW:Hid ((w.alloc (.cells #[.int .i64 k,.int .i64 (lg:Int),.int .i64 (at_:Int),.slice va n cp] 35)).heap[w.heap.size]?=some (.cells #[.int .i64 k,.int .i64 (lg:Int),.int .i64 (at_:Int),.slice va n cp] 35 (0,0))):=heap_alloc_new w _
 have HBX:=hide (aAc w (.cells #[.int .i64 k,.int .i64 (lg:Int),.int .i64 (at_:Int),.slice va n cp] 35))
 have H1:=hide (h.later HBX.out)
 have HLG:=hide hlg
 have HRE:=hide hre
 clear h hlg hre
 go_enter Tryz.func17,Tryz.ntmps17
 go_upto_region 1 with fail
 generalize w.alloc (.cells #[.int .i64 k,.int .i64 (lg:Int),.int .i64 (at_:Int),.slice va n cp] 35)=w1 at *
 generalize hn0:w.heap.size=n0 at *
 have HD1:=hide (H1.out.later (show Below w1.heap.size w1 w1.drew from (Below.refl _ _).drew))
 have HND:Hid (w1.drew.heap[n0]?=some (.cells #[.int .i64 k,.int .i64 (lg:Int),.int .i64 (at_:Int),.slice va n cp] 35 (0,0))):=HNW.out
 have HBD:Hid (Below n0 w w1.drew):=HBX.out.drew
 have hcl:=HD1.out.lg HLG.out
 rw [HL.out] at hcl
 have HX0:Hid ((fun wx=>wx.cell? ⟨n0,1,none⟩=some (.int .i64 (lg:Int))∧wx.cell? ⟨nd,2+lg*3,none⟩=some (.int .i64 (tl:Int))∧wx.cell? ⟨nd,2+lg*3+1,none⟩=some (.int .i64 (tr:Int))∧wx.cell? ⟨nd,2+lg*3+2,none⟩=some (.bool sl)) w1.drew):=⟨aAa HND.out,hcl.1,hcl.2.1,hcl.2.2⟩
 clear hcl
 refine wp_region_noPanic ?_
 refine wp_region_held_drew (S:=fun wx=>wx.cell? ⟨n0,1,none⟩=some (.int .i64 (lg:Int))∧wx.cell? ⟨nd,2+lg*3,none⟩=some (.int .i64 (tl:Int))∧wx.cell? ⟨nd,2+lg*3+1,none⟩=some (.int .i64 (tr:Int))∧wx.cell? ⟨nd,2+lg*3+2,none⟩=some (.bool sl)) (by kernel_rfl) HX0.out (fun hHeld=>?_)
 refine wpAnyH_tk 0 10 ?_
 refine wpAnyH_tk 1 11 ?_
 refine wpAnyH_tk 2 12 ?_
 refine wpAnyH_tk 3 13 ?_
 refine wpAnyH_tk 4 14 ?_
 refine wpAnyH_tk 5 15 ?_
 refine wpAnyH_tk 6 16 ?_
 refine wpAnyH_cm 7 ?_;intro K hK
 go_simp
 have hb2:Below w1.heap.size w1 (w1.alloc (.cells #[.int .i64 0,.int .i64 0,.bool false] 58)).drew:=(aAc w1 (.cells #[.int .i64 0,.int .i64 0,.bool false] 58)).drew
 have HD2:=hide (H1.out.later hb2)
 have HN2:Hid ((w1.alloc (.cells #[.int .i64 0,.int .i64 0,.bool false] 58)).drew.heap[n0]?=some (.cells #[.int .i64 k,.int .i64 (lg:Int),.int .i64 (at_:Int),.slice va n cp] 35 (0,0))):=(hb2.block n0 (lt HNW.out)).trans HNW.out
 have HM2:Hid ((w1.alloc (.cells #[.int .i64 0,.int .i64 0,.bool false] 58)).drew.heap[w1.heap.size]?=some (.cells #[.int .i64 0,.int .i64 0,.bool false] 58 (0,0))):=heap_alloc_new w1 _
 have HB2:Hid (Below n0 w (w1.alloc (.cells #[.int .i64 0,.int .i64 0,.bool false] 58)).drew):=HBX.out.trans (hb2.mono (by have:=HBX.out.size;omega))
 have HNN:Hid (n0<w1.heap.size):=lt HNW.out
 have HBN:Hid (B≤w1.heap.size):=H1.out.bw
 have hcl:=HD2.out.lg HLG.out
 rw [HL.out] at hcl
 have HX2:Hid ((fun wx=>wx.cell? ⟨n0,1,none⟩=some (.int .i64 (lg:Int))∧wx.cell? ⟨nd,2+lg*3,none⟩=some (.int .i64 (tl:Int))∧wx.cell? ⟨nd,2+lg*3+1,none⟩=some (.int .i64 (tr:Int))∧wx.cell? ⟨nd,2+lg*3+2,none⟩=some (.bool sl)) (w1.alloc (.cells #[.int .i64 0,.int .i64 0,.bool false] 58)).drew):=⟨aAa HN2.out,hcl.1,hcl.2.1,hcl.2.2⟩
 clear hcl hb2 hHeld H1 HNW HBX
 generalize (w1.alloc (.cells #[.int .i64 0,.int .i64 0,.bool false] 58)).drew=w2 at *
 generalize w1.heap.size=n1 at *
 refine hK.out _ _ HX2.out (fun hHeld=>?_)
 clear hK K
 try simp only [Act.put,siT,scZ,scS]
 have m0:w2.cell? ⟨n1,0,none⟩=some (.int .i64 0):=aAa HM2.out
 have mf0:w2.frozen? ⟨n1,0,none⟩=false:=aAb HM2.out
 have m1:w2.cell? ⟨n1,1,none⟩=some (.int .i64 0):=aAa HM2.out
 have mf1:w2.frozen? ⟨n1,1,none⟩=false:=aAb HM2.out
 have m2:w2.cell? ⟨n1,2,none⟩=some (.bool false):=aAa HM2.out
 have mf2:w2.frozen? ⟨n1,2,none⟩=false:=aAb HM2.out
 refine wpAnyH_cm 8 ?_;intro K hK
 go_simp
 have HD3:=hide (((HD2.out.bset (o:=0) (x:=.int .i64 (tl:Int)) HM2.out HBN.out).bset (o:=1) (x:=.int .i64 (tr:Int)) (heap_setCell_same _ _ _ _ _ _ HM2.out) HBN.out).bset (o:=2) (x:=.bool sl) (heap_setCell_same _ _ _ _ _ _ (heap_setCell_same _ _ _ _ _ _ HM2.out)) HBN.out)
 have HM3:Hid ((((w2.setCell ⟨n1,0,none⟩ (.int .i64 (tl:Int))).setCell ⟨n1,1,none⟩ (.int .i64 (tr:Int))).setCell ⟨n1,2,none⟩ (.bool sl)).heap[n1]?=some (.cells #[.int .i64 (tl:Int),.int .i64 (tr:Int),.bool sl] 58 (0,0))):=set3 HM2.out
 have HN3:Hid ((((w2.setCell ⟨n1,0,none⟩ (.int .i64 (tl:Int))).setCell ⟨n1,1,none⟩ (.int .i64 (tr:Int))).setCell ⟨n1,2,none⟩ (.bool sl)).heap[n0]?=some (.cells #[.int .i64 k,.int .i64 (lg:Int),.int .i64 (at_:Int),.slice va n cp] 35 (0,0))):=by
  have hne:n0≠n1:=Nat.ne_of_lt HNN.out
  show _=_
  rw [heap_setCell_other _ _ _ _ hne,heap_setCell_other _ _ _ _ hne,heap_setCell_other _ _ _ _ hne]
  exact HN2.out
 have HB3:Hid (Below n0 w (((w2.setCell ⟨n1,0,none⟩ (.int .i64 (tl:Int))).setCell ⟨n1,1,none⟩ (.int .i64 (tr:Int))).setCell ⟨n1,2,none⟩ (.bool sl))):=bel3 HB2.out (Nat.le_of_lt HNN.out)
 have hcl:=HD3.out.lg HLG.out
 rw [HL.out] at hcl
 have HX3:Hid ((fun wx=>wx.cell? ⟨n0,1,none⟩=some (.int .i64 (lg:Int))∧wx.cell? ⟨nd,2+lg*3,none⟩=some (.int .i64 (tl:Int))∧wx.cell? ⟨nd,2+lg*3+1,none⟩=some (.int .i64 (tr:Int))∧wx.cell? ⟨nd,2+lg*3+2,none⟩=some (.bool sl)) (((w2.setCell ⟨n1,0,none⟩ (.int .i64 (tl:Int))).setCell ⟨n1,1,none⟩ (.int .i64 (tr:Int))).setCell ⟨n1,2,none⟩ (.bool sl))):=⟨aAa HN3.out,hcl.1,hcl.2.1,hcl.2.2⟩
 clear hcl hHeld m0 m1 m2 mf0 mf1 mf2
 generalize (((w2.setCell ⟨n1,0,none⟩ (.int .i64 (tl:Int))).setCell ⟨n1,1,none⟩ (.int .i64 (tr:Int))).setCell ⟨n1,2,none⟩ (.bool sl))=w3 at *
 refine hK.out _ _ HX3.out (fun hHeld=>?_)
 clear hK K
 try simp only [Act.put,siT,scZ,scS]
 refine wpAnyH_done (by kernel_rfl) ?_ _
 refine NoPanic.normal ?_
 clear hHeld
 have y0:w3.cell? ⟨n0,0,none⟩=some (.int .i64 k):=aAa HN3.out
 have yf0:w3.frozen? ⟨n0,0,none⟩=false:=aAb HN3.out
 have y1:w3.cell? ⟨n0,1,none⟩=some (.int .i64 (lg:Int)):=aAa HN3.out
 have yf1:w3.frozen? ⟨n0,1,none⟩=false:=aAb HN3.out
 have y2:w3.cell? ⟨n0,2,none⟩=some (.int .i64 (at_:Int)):=aAa HN3.out
 have yf2:w3.frozen? ⟨n0,2,none⟩=false:=aAb HN3.out
 have y3:w3.cell? ⟨n0,3,none⟩=some (.slice va n cp):=aAa HN3.out
 have yf3:w3.frozen? ⟨n0,3,none⟩=false:=aAb HN3.out
 have x0:w3.cell? ⟨n1,0,none⟩=some (.int .i64 (tl:Int)):=aAa HM3.out
 have xf0:w3.frozen? ⟨n1,0,none⟩=false:=aAb HM3.out
 have x1:w3.cell? ⟨n1,1,none⟩=some (.int .i64 (tr:Int)):=aAa HM3.out
 have xf1:w3.frozen? ⟨n1,1,none⟩=false:=aAb HM3.out
 have x2:w3.cell? ⟨n1,2,none⟩=some (.bool sl):=aAa HM3.out
 have xf2:w3.frozen? ⟨n1,2,none⟩=false:=aAb HM3.out
 have HR3:=hide (HRE.out w3)
 go_wp2_with fail
 refine HR3.out.mono ?_
 rintro e w4 ⟨rfl,hb4⟩
 have HD4:=hide (HD3.out.later hb4)
 have HM4:=hide ((hb4.block n1 (lt HM3.out)).trans HM3.out)
 have HN4:=hide ((hb4.block n0 (lt HN3.out)).trans HN3.out)
 have HB4:Hid (Below n0 w w4):=HB3.out.trans (hb4.mono (by have:=HB3.out.size;omega))
 clear hb4 HR3 x0 x1 x2 xf0 xf1 xf2 y0 y1 y2 y3 yf0 yf1 yf2 yf3
 have y0:w4.cell? ⟨n0,0,none⟩=some (.int .i64 k):=aAa HN4.out
 have yf0:w4.frozen? ⟨n0,0,none⟩=false:=aAb HN4.out
 have y1:w4.cell? ⟨n0,1,none⟩=some (.int .i64 (lg:Int)):=aAa HN4.out
 have yf1:w4.frozen? ⟨n0,1,none⟩=false:=aAb HN4.out
 have y2:w4.cell? ⟨n0,2,none⟩=some (.int .i64 (at_:Int)):=aAa HN4.out
 have yf2:w4.frozen? ⟨n0,2,none⟩=false:=aAb HN4.out
 have y3:w4.cell? ⟨n0,3,none⟩=some (.slice va n cp):=aAa HN4.out
 have yf3:w4.frozen? ⟨n0,3,none⟩=false:=aAb HN4.out
 have HDR:Hid (Below w4.heap.size w4 w4.drew):=(Below.refl _ _).drew
 have HND4:Hid (w4.drew.heap[n0]?=some (.cells #[.int .i64 k,.int .i64 (lg:Int),.int .i64 (at_:Int),.slice va n cp] 35 (0,0))):=HN4.out
 have HRS:=hide ((HD4.out.later HDR.out).s.readSlot (lg:=lg) (at_:=at_) (by have:=HLG.out;omega) HAT.out HVAL.out)
 have HX5:Hid ((fun wx=>wx.cell? ⟨nd,0,none⟩=some (.pointer (some ⟨ls,0,none⟩))∧wx.cell? ⟨n0,1,none⟩=some (.int .i64 (lg:Int))∧wx.cell? ⟨n0,2,none⟩=some (.int .i64 (at_:Int))) w4.drew):=⟨(HD4.out.later HDR.out).cell0,aAa HN4.out,aAa HN4.out⟩
 go_upto_region 6 with fail
 refine wp_region_noPanic ?_
 refine wp_region_held_drew (S:=fun wx=>wx.cell? ⟨nd,0,none⟩=some (.pointer (some ⟨ls,0,none⟩))∧wx.cell? ⟨n0,1,none⟩=some (.int .i64 (lg:Int))∧wx.cell? ⟨n0,2,none⟩=some (.int .i64 (at_:Int))) (by kernel_rfl) HX5.out (fun hHeld=>?_)
 refine wpAnyH_tk 0 26 ?_
 refine wpAnyH_tk 1 27 ?_
 refine wpAnyH_tk 2 28 ?_
 refine wpAnyH_tk 3 29 ?_
 refine wpAnyH_tk 4 30 ?_
 refine wpAnyH_tk 5 31 ?_
 refine wpAnyH_tk 6 32 ?_
 refine wpAnyH_tk 7 33 ?_
 refine wpAnyH_cm 8 ?_;intro K hK
 go_simp
 refine HRS.out.mono ?_
 rintro e w5 ⟨sa,sc,rfl,hk5',hb5⟩
 have HD5:=hide ((HD4.out.later HDR.out).later hb5)
 have HN5:=hide ((hb5.block n0 (lt HND4.out)).trans HND4.out)
 have HB5:Hid (Below n0 w w5):=HB4.out.drew.trans (hb5.mono (by have:=HB4.out.drew.size;omega))
 have HK5:=hide hk5'
 have HX6:Hid ((fun wx=>wx.cell? ⟨nd,0,none⟩=some (.pointer (some ⟨ls,0,none⟩))∧wx.cell? ⟨n0,1,none⟩=some (.int .i64 (lg:Int))∧wx.cell? ⟨n0,2,none⟩=some (.int .i64 (at_:Int))) w5):=⟨HD5.out.cell0,aAa HN5.out,aAa HN5.out⟩
 clear hk5' hb5 hHeld HRS
 refine hK.out _ _ HX6.out (fun hHeld=>?_)
 clear hK K
 try simp only [Act.put,siT,scZ,scS]
 refine wpAnyH_tk 9 35 ?_
 refine wpAnyH_tk 10 36 ?_
 refine wpAnyH_tk 11 4 ?_
 refine wpAnyH_tk 12 5 ?_
 refine wpAnyH_done (by kernel_rfl) ?_ _
 refine NoPanic.normal ?_
 clear hHeld
 go_wp2
 go_ret2
 exact ⟨sa,sc,rfl,HK5.out,by first | exact HB5.out | (rw [hn0];exact HB5.out)⟩
theorem serve_w [Gd] {B p q g ls rg nd N c u lg at_ n cp tl tr:Nat} {sl:Bool} {l:List It} {L:Nat→Lg} {W w:World} {k:Int} {va:Option Addr} (h:NDM B p q g ls rg nd N c u l L W w) (hlg:lg≤16) (HL:Hid (L lg=(tl,tr,sl))) {val:List Nat} (hk5:¬ k=5) (hg0:Gd.g=none) (hn:val.length=n) (hvb:BK B w va n cp val) (htl:tl<256)
  (har:3≤N∧c<900∧u+9*[(([lg,tl],val):It)].length+11≤N∧u≤2000∧l.length+[(([lg,tl],val):It)].length<90∧∀ x∈[(([lg,tl],val):It)],0<x.1.length∧x.1.length≤60∧x.2.length≤1800∧(∀ n∈x.1,n<256)∧∀ n∈x.2,n<256) (hre:∀ ww,Calls Tryz.prog 34 #[.agg #[.int .i64 (tl:Int),.int .i64 (tr:Int),.bool sl],.agg #[.int .i64 k,.int .i64 (lg:Int),.int .i64 (at_:Int),.slice va n cp]] ww fun e w'=>e=.returned (.int .i64 0)∧Below ww.heap.size ww w')
  (hbe:∀ ww,Calls Tryz.prog 36 #[.agg #[.int .i64 (tl:Int),.int .i64 (tr:Int),.bool sl],.agg #[.int .i64 k,.int .i64 (lg:Int),.int .i64 (at_:Int),.slice va n cp]] ww fun e w'=>e=.returned (.agg #[.int .i64 ((tl:Int)+1),.int .i64 (tr:Int),.bool sl])∧Below ww.heap.size ww w') :
  Calls Tryz.prog 17 #[.pointer (some ⟨nd,0,none⟩),.agg #[.int .i64 k,.int .i64 (lg:Int),.int .i64 (at_:Int),.slice va n cp]] w fun e w'=>e=.returned (.tuple #[.slice none 0 0,.int .i64 0])∧NDM B p q g ls rg nd N (c+1) (apL0 l [([lg,tl],val)]).length (apL0 l [([lg,tl],val)]) (upL L lg (tl+1,tr,sl)) W w'∧RgF B g ls nd w w':=by
 have e8:(((tl:Int)+1) == (tl:Int))=false:=by rw [beq_eq_false_iff_ne];omega
 have HBE:=hide hbe
 have HAR:=hide har
 have HVB:=hide hvb
 have HTL:=hide htl
 have HHN:=hide hn
 have HBW:=hide h.bw
 clear hbe har hvb htl hn
 have lt:∀ {k:Nat} {o:Obj} {ww:World},ww.heap[k]?=some o→k<ww.heap.size:=fun e=>(lO e)
 have j1:(0:Int)≤(lg:Int):=by omega
 have j2:(lg:Int)<17:=by omega
 have HNW:Hid ((w.alloc (.cells #[.int .i64 k,.int .i64 (lg:Int),.int .i64 (at_:Int),.slice va n cp] 35)).heap[w.heap.size]?=some (.cells #[.int .i64 k,.int .i64 (lg:Int),.int .i64 (at_:Int),.slice va n cp] 35 (0,0))):=heap_alloc_new w _
 have HBX:=hide (aAc w (.cells #[.int .i64 k,.int .i64 (lg:Int),.int .i64 (at_:Int),.slice va n cp] 35))
 have H1:=hide (h.later HBX.out)
 have HLG:=hide hlg
 have HRE:=hide hre
 clear h hlg hre
 go_enter Tryz.func17,Tryz.ntmps17
 go_upto_region 1 with fail
 generalize w.alloc (.cells #[.int .i64 k,.int .i64 (lg:Int),.int .i64 (at_:Int),.slice va n cp] 35)=w1 at *
 generalize hn0:w.heap.size=n0 at *
 have HD1:=hide (H1.out.later (show Below w1.heap.size w1 w1.drew from (Below.refl _ _).drew))
 have HND:Hid (w1.drew.heap[n0]?=some (.cells #[.int .i64 k,.int .i64 (lg:Int),.int .i64 (at_:Int),.slice va n cp] 35 (0,0))):=HNW.out
 have HBD:Hid (Below n0 w w1.drew):=HBX.out.drew
 have hcl:=HD1.out.lg HLG.out
 rw [HL.out] at hcl
 have HX0:Hid ((fun wx=>wx.cell? ⟨n0,1,none⟩=some (.int .i64 (lg:Int))∧wx.cell? ⟨nd,2+lg*3,none⟩=some (.int .i64 (tl:Int))∧wx.cell? ⟨nd,2+lg*3+1,none⟩=some (.int .i64 (tr:Int))∧wx.cell? ⟨nd,2+lg*3+2,none⟩=some (.bool sl)) w1.drew):=⟨aAa HND.out,hcl.1,hcl.2.1,hcl.2.2⟩
 clear hcl
 refine wp_region_noPanic ?_
 refine wp_region_held_drew (S:=fun wx=>wx.cell? ⟨n0,1,none⟩=some (.int .i64 (lg:Int))∧wx.cell? ⟨nd,2+lg*3,none⟩=some (.int .i64 (tl:Int))∧wx.cell? ⟨nd,2+lg*3+1,none⟩=some (.int .i64 (tr:Int))∧wx.cell? ⟨nd,2+lg*3+2,none⟩=some (.bool sl)) (by kernel_rfl) HX0.out (fun hHeld=>?_)
 refine wpAnyH_tk 0 10 ?_
 refine wpAnyH_tk 1 11 ?_
 refine wpAnyH_tk 2 12 ?_
 refine wpAnyH_tk 3 13 ?_
 refine wpAnyH_tk 4 14 ?_
 refine wpAnyH_tk 5 15 ?_
 refine wpAnyH_tk 6 16 ?_
 refine wpAnyH_cm 7 ?_;intro K hK
 go_simp
 have hb2:Below w1.heap.size w1 (w1.alloc (.cells #[.int .i64 0,.int .i64 0,.bool false] 58)).drew:=(aAc w1 (.cells #[.int .i64 0,.int .i64 0,.bool false] 58)).drew
 have HD2:=hide (H1.out.later hb2)
 have HN2:Hid ((w1.alloc (.cells #[.int .i64 0,.int .i64 0,.bool false] 58)).drew.heap[n0]?=some (.cells #[.int .i64 k,.int .i64 (lg:Int),.int .i64 (at_:Int),.slice va n cp] 35 (0,0))):=(hb2.block n0 (lt HNW.out)).trans HNW.out
 have HM2:Hid ((w1.alloc (.cells #[.int .i64 0,.int .i64 0,.bool false] 58)).drew.heap[w1.heap.size]?=some (.cells #[.int .i64 0,.int .i64 0,.bool false] 58 (0,0))):=heap_alloc_new w1 _
 have HB2:Hid (Below n0 w (w1.alloc (.cells #[.int .i64 0,.int .i64 0,.bool false] 58)).drew):=HBX.out.trans (hb2.mono (by have:=HBX.out.size;omega))
 have HNN:Hid (n0<w1.heap.size):=lt HNW.out
 have HBN:Hid (B≤w1.heap.size):=H1.out.bw
 have hcl:=HD2.out.lg HLG.out
 rw [HL.out] at hcl
 have HX2:Hid ((fun wx=>wx.cell? ⟨n0,1,none⟩=some (.int .i64 (lg:Int))∧wx.cell? ⟨nd,2+lg*3,none⟩=some (.int .i64 (tl:Int))∧wx.cell? ⟨nd,2+lg*3+1,none⟩=some (.int .i64 (tr:Int))∧wx.cell? ⟨nd,2+lg*3+2,none⟩=some (.bool sl)) (w1.alloc (.cells #[.int .i64 0,.int .i64 0,.bool false] 58)).drew):=⟨aAa HN2.out,hcl.1,hcl.2.1,hcl.2.2⟩
 clear hcl hb2 hHeld H1 HNW HBX
 generalize (w1.alloc (.cells #[.int .i64 0,.int .i64 0,.bool false] 58)).drew=w2 at *
 generalize w1.heap.size=n1 at *
 refine hK.out _ _ HX2.out (fun hHeld=>?_)
 clear hK K
 try simp only [Act.put,siT,scZ,scS]
 have m0:w2.cell? ⟨n1,0,none⟩=some (.int .i64 0):=aAa HM2.out
 have mf0:w2.frozen? ⟨n1,0,none⟩=false:=aAb HM2.out
 have m1:w2.cell? ⟨n1,1,none⟩=some (.int .i64 0):=aAa HM2.out
 have mf1:w2.frozen? ⟨n1,1,none⟩=false:=aAb HM2.out
 have m2:w2.cell? ⟨n1,2,none⟩=some (.bool false):=aAa HM2.out
 have mf2:w2.frozen? ⟨n1,2,none⟩=false:=aAb HM2.out
 refine wpAnyH_cm 8 ?_;intro K hK
 go_simp
 have HD3:=hide (((HD2.out.bset (o:=0) (x:=.int .i64 (tl:Int)) HM2.out HBN.out).bset (o:=1) (x:=.int .i64 (tr:Int)) (heap_setCell_same _ _ _ _ _ _ HM2.out) HBN.out).bset (o:=2) (x:=.bool sl) (heap_setCell_same _ _ _ _ _ _ (heap_setCell_same _ _ _ _ _ _ HM2.out)) HBN.out)
 have HM3:Hid ((((w2.setCell ⟨n1,0,none⟩ (.int .i64 (tl:Int))).setCell ⟨n1,1,none⟩ (.int .i64 (tr:Int))).setCell ⟨n1,2,none⟩ (.bool sl)).heap[n1]?=some (.cells #[.int .i64 (tl:Int),.int .i64 (tr:Int),.bool sl] 58 (0,0))):=set3 HM2.out
 have HN3:Hid ((((w2.setCell ⟨n1,0,none⟩ (.int .i64 (tl:Int))).setCell ⟨n1,1,none⟩ (.int .i64 (tr:Int))).setCell ⟨n1,2,none⟩ (.bool sl)).heap[n0]?=some (.cells #[.int .i64 k,.int .i64 (lg:Int),.int .i64 (at_:Int),.slice va n cp] 35 (0,0))):=by
  have hne:n0≠n1:=Nat.ne_of_lt HNN.out
  show _=_
  rw [heap_setCell_other _ _ _ _ hne,heap_setCell_other _ _ _ _ hne,heap_setCell_other _ _ _ _ hne]
  exact HN2.out
 have HB3:Hid (Below n0 w (((w2.setCell ⟨n1,0,none⟩ (.int .i64 (tl:Int))).setCell ⟨n1,1,none⟩ (.int .i64 (tr:Int))).setCell ⟨n1,2,none⟩ (.bool sl))):=bel3 HB2.out (Nat.le_of_lt HNN.out)
 have hcl:=HD3.out.lg HLG.out
 rw [HL.out] at hcl
 have HX3:Hid ((fun wx=>wx.cell? ⟨n0,1,none⟩=some (.int .i64 (lg:Int))∧wx.cell? ⟨nd,2+lg*3,none⟩=some (.int .i64 (tl:Int))∧wx.cell? ⟨nd,2+lg*3+1,none⟩=some (.int .i64 (tr:Int))∧wx.cell? ⟨nd,2+lg*3+2,none⟩=some (.bool sl)) (((w2.setCell ⟨n1,0,none⟩ (.int .i64 (tl:Int))).setCell ⟨n1,1,none⟩ (.int .i64 (tr:Int))).setCell ⟨n1,2,none⟩ (.bool sl))):=⟨aAa HN3.out,hcl.1,hcl.2.1,hcl.2.2⟩
 clear hcl hHeld m0 m1 m2 mf0 mf1 mf2
 generalize (((w2.setCell ⟨n1,0,none⟩ (.int .i64 (tl:Int))).setCell ⟨n1,1,none⟩ (.int .i64 (tr:Int))).setCell ⟨n1,2,none⟩ (.bool sl))=w3 at *
 refine hK.out _ _ HX3.out (fun hHeld=>?_)
 clear hK K
 try simp only [Act.put,siT,scZ,scS]
 refine wpAnyH_done (by kernel_rfl) ?_ _
 refine NoPanic.normal ?_
 clear hHeld
 have y0:w3.cell? ⟨n0,0,none⟩=some (.int .i64 k):=aAa HN3.out
 have yf0:w3.frozen? ⟨n0,0,none⟩=false:=aAb HN3.out
 have y1:w3.cell? ⟨n0,1,none⟩=some (.int .i64 (lg:Int)):=aAa HN3.out
 have yf1:w3.frozen? ⟨n0,1,none⟩=false:=aAb HN3.out
 have y2:w3.cell? ⟨n0,2,none⟩=some (.int .i64 (at_:Int)):=aAa HN3.out
 have yf2:w3.frozen? ⟨n0,2,none⟩=false:=aAb HN3.out
 have y3:w3.cell? ⟨n0,3,none⟩=some (.slice va n cp):=aAa HN3.out
 have yf3:w3.frozen? ⟨n0,3,none⟩=false:=aAb HN3.out
 have x0:w3.cell? ⟨n1,0,none⟩=some (.int .i64 (tl:Int)):=aAa HM3.out
 have xf0:w3.frozen? ⟨n1,0,none⟩=false:=aAb HM3.out
 have x1:w3.cell? ⟨n1,1,none⟩=some (.int .i64 (tr:Int)):=aAa HM3.out
 have xf1:w3.frozen? ⟨n1,1,none⟩=false:=aAb HM3.out
 have x2:w3.cell? ⟨n1,2,none⟩=some (.bool sl):=aAa HM3.out
 have xf2:w3.frozen? ⟨n1,2,none⟩=false:=aAb HM3.out
 have HR3:=hide (HRE.out w3)
 go_wp2_with fail
 refine HR3.out.mono ?_
 rintro e w4 ⟨rfl,hb4⟩
 have HD4:=hide (HD3.out.later hb4)
 have HM4:=hide ((hb4.block n1 (lt HM3.out)).trans HM3.out)
 have HN4:=hide ((hb4.block n0 (lt HN3.out)).trans HN3.out)
 have HB4:Hid (Below n0 w w4):=HB3.out.trans (hb4.mono (by have:=HB3.out.size;omega))
 clear hb4 HR3 x0 x1 x2 xf0 xf1 xf2 y0 y1 y2 y3 yf0 yf1 yf2 yf3
 have y0:w4.cell? ⟨n0,0,none⟩=some (.int .i64 k):=aAa HN4.out
 have yf0:w4.frozen? ⟨n0,0,none⟩=false:=aAb HN4.out
 have y1:w4.cell? ⟨n0,1,none⟩=some (.int .i64 (lg:Int)):=aAa HN4.out
 have yf1:w4.frozen? ⟨n0,1,none⟩=false:=aAb HN4.out
 have y2:w4.cell? ⟨n0,2,none⟩=some (.int .i64 (at_:Int)):=aAa HN4.out
 have yf2:w4.frozen? ⟨n0,2,none⟩=false:=aAb HN4.out
 have y3:w4.cell? ⟨n0,3,none⟩=some (.slice va n cp):=aAa HN4.out
 have yf3:w4.frozen? ⟨n0,3,none⟩=false:=aAb HN4.out
 have x0:w4.cell? ⟨n1,0,none⟩=some (.int .i64 (tl:Int)):=aAa HM4.out
 have xf0:w4.frozen? ⟨n1,0,none⟩=false:=aAb HM4.out
 have x1:w4.cell? ⟨n1,1,none⟩=some (.int .i64 (tr:Int)):=aAa HM4.out
 have xf1:w4.frozen? ⟨n1,1,none⟩=false:=aAb HM4.out
 have x2:w4.cell? ⟨n1,2,none⟩=some (.bool sl):=aAa HM4.out
 have xf2:w4.frozen? ⟨n1,2,none⟩=false:=aAb HM4.out
 have HBE4:=hide (HBE.out w4)
 go_wp2_with fail
 refine HBE4.out.mono ?_
 rintro e w5 ⟨rfl,hb5⟩
 have hb6:=aAc w5 (.cells #[.int .i64 ((tl:Int)+1),.int .i64 (tr:Int),.bool sl] 58)
 have HD7:=hide ((HD4.out.later hb5).later hb6)
 have HM5:=(hb5.block n1 (lt HM4.out)).trans HM4.out
 have HN5:=(hb5.block n0 (lt HN4.out)).trans HN4.out
 have HM7:=hide ((hb6.block n1 (lt HM5)).trans HM5)
 have HN7:=hide ((hb6.block n0 (lt HN5)).trans HN5)
 have HP7:Hid ((w5.alloc (.cells #[.int .i64 ((tl:Int)+1),.int .i64 (tr:Int),.bool sl] 58)).heap[w5.heap.size]?=some (.cells #[.int .i64 ((tl:Int)+1),.int .i64 (tr:Int),.bool sl] 58 (0,0))):=heap_alloc_new w5 _
 have HB7:Hid (Below n0 w (w5.alloc (.cells #[.int .i64 ((tl:Int)+1),.int .i64 (tr:Int),.bool sl] 58))):=(HB4.out.trans (hb5.mono (by have:=HB4.out.size;omega))).trans (hb6.mono (by have:=HB4.out.size;have:=hb5.size;omega))
 have HNN7:Hid (n0<w5.heap.size∧n1<w5.heap.size):=⟨lt HN5,lt HM5⟩
 have HBN7:Hid (B≤w5.heap.size):=(HD4.out.later hb5).bw
 clear hb5 hb6 HM5 HN5 HBE4 x0 x1 x2 xf0 xf1 xf2 y0 y1 y2 y3 yf0 yf1 yf2 yf3
 go_upto_region 8 with fail
 generalize (w5.alloc (.cells #[.int .i64 ((tl:Int)+1),.int .i64 (tr:Int),.bool sl] 58))=w7 at *
 generalize w5.heap.size=n5 at *
 have z0:w7.cell? ⟨n5,0,none⟩=some (.int .i64 ((tl:Int)+1)):=aAa HP7.out
 have zf0:w7.frozen? ⟨n5,0,none⟩=false:=aAb HP7.out
 have z1:w7.cell? ⟨n5,1,none⟩=some (.int .i64 (tr:Int)):=aAa HP7.out
 have zf1:w7.frozen? ⟨n5,1,none⟩=false:=aAb HP7.out
 have z2:w7.cell? ⟨n5,2,none⟩=some (.bool sl):=aAa HP7.out
 have zf2:w7.frozen? ⟨n5,2,none⟩=false:=aAb HP7.out
 have x0:w7.cell? ⟨n1,0,none⟩=some (.int .i64 (tl:Int)):=aAa HM7.out
 have xf0:w7.frozen? ⟨n1,0,none⟩=false:=aAb HM7.out
 have x1:w7.cell? ⟨n1,1,none⟩=some (.int .i64 (tr:Int)):=aAa HM7.out
 have xf1:w7.frozen? ⟨n1,1,none⟩=false:=aAb HM7.out
 have x2:w7.cell? ⟨n1,2,none⟩=some (.bool sl):=aAa HM7.out
 have xf2:w7.frozen? ⟨n1,2,none⟩=false:=aAb HM7.out
 go_upto_region 10 with fail
 have hd:Below w7.heap.size w7 w7.drew:=(Below.refl _ _).drew
 have HD8:=hide (HD7.out.later hd)
 have HN8:Hid (w7.drew.heap[n0]?=some (.cells #[.int .i64 k,.int .i64 (lg:Int),.int .i64 (at_:Int),.slice va n cp] 35 (0,0))):=HN7.out
 have HM8:Hid (w7.drew.heap[n1]?=some (.cells #[.int .i64 (tl:Int),.int .i64 (tr:Int),.bool sl] 58 (0,0))):=HM7.out
 have HP8:Hid (w7.drew.heap[n5]?=some (.cells #[.int .i64 ((tl:Int)+1),.int .i64 (tr:Int),.bool sl] 58 (0,0))):=HP7.out
 have HB8:Hid (Below n0 w w7.drew):=HB7.out.drew
 have HCH:Hid (Calls Tryz.prog 39 #[.int .i64 (lg:Int),.agg #[.int .i64 (tl:Int),.int .i64 (tr:Int),.bool sl],.agg #[.int .i64 ((tl:Int)+1),.int .i64 (tr:Int),.bool sl],.slice va n cp] w7.drew fun e w'=>∃ v,e=.returned v∧CHV0 B w' v [([lg,tl],val)]∧Below w7.drew.heap.size w7.drew w'):=by
  have hb:=HVB.out.later (by rw [hn0];exact HB8.out) (by rw [hn0];exact HBW.out)
  rw [←HHN.out] at hb ⊢
  exact changes_w hb HD8.out.bw (by have:=HLG.out;omega) HTL.out
 have HX8:Hid ((fun wx=>wx.cell? ⟨nd,0,none⟩=some (.pointer (some ⟨ls,0,none⟩))∧wx.cell? ⟨n0,1,none⟩=some (.int .i64 (lg:Int))∧wx.cell? ⟨n0,3,none⟩=some (.slice va n cp)∧wx.cell? ⟨n1,0,none⟩=some (.int .i64 (tl:Int))∧wx.cell? ⟨n1,1,none⟩=some (.int .i64 (tr:Int))∧wx.cell? ⟨n1,2,none⟩=some (.bool sl)∧wx.cell? ⟨n5,0,none⟩=some (.int .i64 ((tl:Int)+1))∧wx.cell? ⟨n5,1,none⟩=some (.int .i64 (tr:Int))∧wx.cell? ⟨n5,2,none⟩=some (.bool sl)) w7.drew):=⟨HD8.out.cell0,aAa HN8.out,aAa HN8.out,aAa HM8.out,aAa HM8.out,aAa HM8.out,aAa HP8.out,aAa HP8.out,aAa HP8.out⟩
 clear hd z0 z1 z2 zf0 zf1 zf2 x0 x1 x2 xf0 xf1 xf2
 refine wp_region_noPanic ?_
 refine wp_region_held_drew (S:=fun wx=>wx.cell? ⟨nd,0,none⟩=some (.pointer (some ⟨ls,0,none⟩))∧wx.cell? ⟨n0,1,none⟩=some (.int .i64 (lg:Int))∧wx.cell? ⟨n0,3,none⟩=some (.slice va n cp)∧wx.cell? ⟨n1,0,none⟩=some (.int .i64 (tl:Int))∧wx.cell? ⟨n1,1,none⟩=some (.int .i64 (tr:Int))∧wx.cell? ⟨n1,2,none⟩=some (.bool sl)∧wx.cell? ⟨n5,0,none⟩=some (.int .i64 ((tl:Int)+1))∧wx.cell? ⟨n5,1,none⟩=some (.int .i64 (tr:Int))∧wx.cell? ⟨n5,2,none⟩=some (.bool sl)) (by kernel_rfl) HX8.out (fun hHeld=>?_)
 refine wpAnyH_tk 0 43 ?_
 refine wpAnyH_tk 1 44 ?_
 refine wpAnyH_tk 2 45 ?_
 refine wpAnyH_tk 3 46 ?_
 refine wpAnyH_tk 4 47 ?_
 refine wpAnyH_tk 5 48 ?_
 refine wpAnyH_tk 6 49 ?_
 refine wpAnyH_tk 7 50 ?_
 refine wpAnyH_tk 9 52 ?_
 refine wpAnyH_tk 10 53 ?_
 refine wpAnyH_tk 11 54 ?_
 refine wpAnyH_tk 12 55 ?_
 refine wpAnyH_tk 13 56 ?_
 refine wpAnyH_tk 14 57 ?_
 refine wpAnyH_cm 8 ?_;intro K hK
 go_simp
 refine HD8.out.s.pos.mono ?_
 rintro e w8' ⟨rfl,rfl⟩
 clear hHeld
 refine hK.out _ _ HX8.out (fun hHeld=>?_)
 clear hK K
 try simp only [Act.put,siT,scZ,scS]
 refine wpAnyH_cm 15 ?_;intro K hK
 go_simp
 refine HCH.out.mono ?_
 rintro e w9 ⟨cv,rfl,hc9,hb9⟩
 have HD9:=hide (HD8.out.later hb9)
 have HN9:=hide ((hb9.block n0 (lt HN8.out)).trans HN8.out)
 have HM9:=hide ((hb9.block n1 (lt HM8.out)).trans HM8.out)
 have HP9:=hide ((hb9.block n5 (lt HP8.out)).trans HP8.out)
 have HB9:Hid (Below n0 w w9):=HB8.out.trans (hb9.mono (by have:=HB8.out.size;omega))
 have HAP:=hide (HD9.out.s.Apply0 hg0 HAR.out.1 HAR.out.2.1 HAR.out.2.2.1 HAR.out.2.2.2.1 HAR.out.2.2.2.2.1 hc9 HAR.out.2.2.2.2.2)
 have HX9:Hid ((fun wx=>wx.cell? ⟨nd,0,none⟩=some (.pointer (some ⟨ls,0,none⟩))∧wx.cell? ⟨n0,1,none⟩=some (.int .i64 (lg:Int))∧wx.cell? ⟨n0,3,none⟩=some (.slice va n cp)∧wx.cell? ⟨n1,0,none⟩=some (.int .i64 (tl:Int))∧wx.cell? ⟨n1,1,none⟩=some (.int .i64 (tr:Int))∧wx.cell? ⟨n1,2,none⟩=some (.bool sl)∧wx.cell? ⟨n5,0,none⟩=some (.int .i64 ((tl:Int)+1))∧wx.cell? ⟨n5,1,none⟩=some (.int .i64 (tr:Int))∧wx.cell? ⟨n5,2,none⟩=some (.bool sl)) w9):=⟨HD9.out.cell0,aAa HN9.out,aAa HN9.out,aAa HM9.out,aAa HM9.out,aAa HM9.out,aAa HP9.out,aAa HP9.out,aAa HP9.out⟩
 clear hc9 hb9 hHeld HCH
 refine hK.out _ _ HX9.out (fun hHeld=>?_)
 clear hK K
 try simp only [Act.put,siT,scZ,scS]
 refine wpAnyH_cm 16 ?_;intro K hK
 go_simp
 refine HAP.out.mono ?_
 rintro e w10 ⟨rfl,hly,hls⟩
 obtain ⟨cg,hcg⟩:=HD9.out.s.kx.blk
 obtain ⟨cl9,k9,_⟩:=HD9.out.s.lv
 obtain ⟨cn9,v9,v9'⟩:=HD9.out.v
 have HNA:=hide (hly.2 _ _ _ _ HN9.out (by decide) (aAk HN9.out hcg (by decide)) (aAk HN9.out k9 (by decide)))
 have HMA:=hide (hly.2 _ _ _ _ HM9.out (by decide) (aAk HM9.out hcg (by decide)) (aAk HM9.out k9 (by decide)))
 have HPA:=hide (hly.2 _ _ _ _ HP9.out (by decide) (aAk HP9.out hcg (by decide)) (aAk HP9.out k9 (by decide)))
 have HDA:Hid (NDM B p q g ls rg nd N (c+1) (apL0 l [([lg,tl],val)]).length (apL0 l [([lg,tl],val)]) L W w10):=⟨hls,HD9.out.b,cn9,hly.2 _ _ _ _ v9 (by decide) (aAk v9 hcg (by decide)) (aAk v9 k9 (by decide)),v9'⟩
 have HFA:Hid (RgF B g ls nd w w10):=(RgF.of (by rw [hn0];exact HB9.out) (by rw [hn0];exact HBW.out)).trans (RgF.ly hly)
 have HXA:Hid ((fun wx=>wx.cell? ⟨nd,0,none⟩=some (.pointer (some ⟨ls,0,none⟩))∧wx.cell? ⟨n0,1,none⟩=some (.int .i64 (lg:Int))∧wx.cell? ⟨n0,3,none⟩=some (.slice va n cp)∧wx.cell? ⟨n1,0,none⟩=some (.int .i64 (tl:Int))∧wx.cell? ⟨n1,1,none⟩=some (.int .i64 (tr:Int))∧wx.cell? ⟨n1,2,none⟩=some (.bool sl)∧wx.cell? ⟨n5,0,none⟩=some (.int .i64 ((tl:Int)+1))∧wx.cell? ⟨n5,1,none⟩=some (.int .i64 (tr:Int))∧wx.cell? ⟨n5,2,none⟩=some (.bool sl)) w10):=⟨HDA.out.cell0,aAa HNA.out,aAa HNA.out,aAa HMA.out,aAa HMA.out,aAa HMA.out,aAa HPA.out,aAa HPA.out,aAa HPA.out⟩
 clear hly hls hcg k9 v9 v9' hHeld HAP
 refine hK.out _ _ HXA.out (fun hHeld=>?_)
 clear hK K
 try simp only [Act.put,siT,scZ,scS]
 refine wpAnyH_tk 17 9 ?_
 refine wpAnyH_done (by kernel_rfl) ?_ _
 refine NoPanic.normal ?_
 clear hHeld
 have HDB:=hide (HDA.out.later (show Below w10.heap.size w10 w10.drew from (Below.refl _ _).drew))
 have HNB:Hid (w10.drew.heap[n0]?=some (.cells #[.int .i64 k,.int .i64 (lg:Int),.int .i64 (at_:Int),.slice va n cp] 35 (0,0))):=HNA.out
 have HPB:Hid (w10.drew.heap[n5]?=some (.cells #[.int .i64 ((tl:Int)+1),.int .i64 (tr:Int),.bool sl] 58 (0,0))):=HPA.out
 have HFB:Hid (RgF B g ls nd w w10.drew):=HFA.out.trans (RgF.of (Below.refl _ _).drew HDA.out.bw)
 have HXB:Hid ((fun wx=>wx.cell? ⟨n0,1,none⟩=some (.int .i64 (lg:Int))∧wx.cell? ⟨n5,0,none⟩=some (.int .i64 ((tl:Int)+1))∧wx.cell? ⟨n5,1,none⟩=some (.int .i64 (tr:Int))∧wx.cell? ⟨n5,2,none⟩=some (.bool sl)) w10.drew):=⟨aAa HNB.out,aAa HPB.out,aAa HPB.out,aAa HPB.out⟩
 have hcl:=HDA.out.lg HLG.out
 have u0:=hcl.1
 have u1:=hcl.2.1
 have u2:=hcl.2.2
 have f0:=HDA.out.lgf (2+lg*3)
 have f1:=HDA.out.lgf (2+lg*3+1)
 have f2:=HDA.out.lgf (2+lg*3+2)
 clear hcl
 go_upto_region 12 with fail
 refine wp_region_noPanic ?_
 refine wp_region_held_drew (S:=fun wx=>wx.cell? ⟨n0,1,none⟩=some (.int .i64 (lg:Int))∧wx.cell? ⟨n5,0,none⟩=some (.int .i64 ((tl:Int)+1))∧wx.cell? ⟨n5,1,none⟩=some (.int .i64 (tr:Int))∧wx.cell? ⟨n5,2,none⟩=some (.bool sl)) (by kernel_rfl) HXB.out (fun hHeld=>?_)
 refine wpAnyH_tk 0 62 ?_
 refine wpAnyH_tk 1 63 ?_
 refine wpAnyH_tk 2 64 ?_
 refine wpAnyH_tk 3 65 ?_
 refine wpAnyH_tk 4 66 ?_
 refine wpAnyH_tk 5 67 ?_
 refine wpAnyH_tk 6 68 ?_
 refine wpAnyH_cm 7 ?_;intro K hK
 go_simp
 have HDC:Hid (NDM B p q g ls rg nd N (c+1) (apL0 l [([lg,tl],val)]).length (apL0 l [([lg,tl],val)]) (upL L lg (tl+1,tr,sl)) W (((w10.setCell ⟨nd,2+lg*3,none⟩ (.int .i64 ((tl:Int)+1))).setCell ⟨nd,2+lg*3+1,none⟩ (.int .i64 (tr:Int))).setCell ⟨nd,2+lg*3+2,none⟩ (.bool sl)).drew):=(HDA.out.set HLG.out (tl+1,tr,sl)).later (Below.refl _ _).drew
 obtain ⟨cn9,v9,v9'⟩:=HDA.out.v
 have hne0:=aAk HNA.out v9 (by decide)
 have hne5:=aAk HPA.out v9 (by decide)
 have HNC:(((w10.setCell ⟨nd,2+lg*3,none⟩ (.int .i64 ((tl:Int)+1))).setCell ⟨nd,2+lg*3+1,none⟩ (.int .i64 (tr:Int))).setCell ⟨nd,2+lg*3+2,none⟩ (.bool sl)).drew.heap[n0]?=some (.cells #[.int .i64 k,.int .i64 (lg:Int),.int .i64 (at_:Int),.slice va n cp] 35 (0,0)):=by show (((w10.setCell ⟨nd,2+lg*3,none⟩ (.int .i64 ((tl:Int)+1))).setCell ⟨nd,2+lg*3+1,none⟩ (.int .i64 (tr:Int))).setCell ⟨nd,2+lg*3+2,none⟩ (.bool sl)).heap[n0]?=_;rw [heap_setCell_other _ _ _ _ hne0,heap_setCell_other _ _ _ _ hne0,heap_setCell_other _ _ _ _ hne0];exact HNA.out
 have HPC:(((w10.setCell ⟨nd,2+lg*3,none⟩ (.int .i64 ((tl:Int)+1))).setCell ⟨nd,2+lg*3+1,none⟩ (.int .i64 (tr:Int))).setCell ⟨nd,2+lg*3+2,none⟩ (.bool sl)).drew.heap[n5]?=some (.cells #[.int .i64 ((tl:Int)+1),.int .i64 (tr:Int),.bool sl] 58 (0,0)):=by show (((w10.setCell ⟨nd,2+lg*3,none⟩ (.int .i64 ((tl:Int)+1))).setCell ⟨nd,2+lg*3+1,none⟩ (.int .i64 (tr:Int))).setCell ⟨nd,2+lg*3+2,none⟩ (.bool sl)).heap[n5]?=_;rw [heap_setCell_other _ _ _ _ hne5,heap_setCell_other _ _ _ _ hne5,heap_setCell_other _ _ _ _ hne5];exact HPA.out
 have HXC:Hid ((fun wx=>wx.cell? ⟨n0,1,none⟩=some (.int .i64 (lg:Int))∧wx.cell? ⟨n5,0,none⟩=some (.int .i64 ((tl:Int)+1))∧wx.cell? ⟨n5,1,none⟩=some (.int .i64 (tr:Int))∧wx.cell? ⟨n5,2,none⟩=some (.bool sl)) (((w10.setCell ⟨nd,2+lg*3,none⟩ (.int .i64 ((tl:Int)+1))).setCell ⟨nd,2+lg*3+1,none⟩ (.int .i64 (tr:Int))).setCell ⟨nd,2+lg*3+2,none⟩ (.bool sl)).drew):=⟨aAa HNC,aAa HPC,aAa HPC,aAa HPC⟩
 have HFC:Hid (RgF B g ls nd w (((w10.setCell ⟨nd,2+lg*3,none⟩ (.int .i64 ((tl:Int)+1))).setCell ⟨nd,2+lg*3+1,none⟩ (.int .i64 (tr:Int))).setCell ⟨nd,2+lg*3+2,none⟩ (.bool sl)).drew):=(((HFA.out.trans (RgF.set HDA.out.b)).trans (RgF.set HDA.out.b)).trans (RgF.set HDA.out.b)).trans (RgF.of (Below.refl _ _).drew (HDA.out.set HLG.out (tl+1,tr,sl)).bw)
 clear hHeld v9 v9' hne0 hne5 HNC HPC
 refine hK.out _ _ HXC.out (fun hHeld=>?_)
 clear hK K
 try simp only [Act.put,siT,scZ,scS]
 refine wpAnyH_done (by kernel_rfl) ?_ _
 refine NoPanic.normal ?_
 clear hHeld u0 u1 u2 f0 f1 f2
 go_wp2
 go_ret2
 exact ⟨rfl,HDC.out,HFC.out⟩
theorem serve_s [Gd] {B p q g ls rg nd N c u lg at_ n cp tl tr:Nat} {l:List It} {L:Nat→Lg} {W w:World} {k:Int} {va:Option Addr} (h:NDM B p q g ls rg nd N c u l L W w) (hlg:lg≤16) (HL:Hid (L lg=(tl,tr,false))) {val:List Nat} (hk5:¬ k=5) (hg0:Gd.g=none)
  (har:3≤N∧c<900∧u+9*[(([lg],val):It)].length+11≤N∧u≤2000∧l.length+[(([lg],val):It)].length<90∧∀ x∈[(([lg],val):It)],0<x.1.length∧x.1.length≤60∧x.2.length≤1800∧(∀ n∈x.1,n<256)∧∀ n∈x.2,n<256) (hre:∀ ww,Calls Tryz.prog 34 #[.agg #[.int .i64 (tl:Int),.int .i64 (tr:Int),.bool false],.agg #[.int .i64 k,.int .i64 (lg:Int),.int .i64 (at_:Int),.slice va n cp]] ww fun e w'=>e=.returned (.int .i64 0)∧Below ww.heap.size ww w')
  (hbe:∀ ww,Calls Tryz.prog 36 #[.agg #[.int .i64 (tl:Int),.int .i64 (tr:Int),.bool false],.agg #[.int .i64 k,.int .i64 (lg:Int),.int .i64 (at_:Int),.slice va n cp]] ww fun e w'=>e=.returned (.agg #[.int .i64 (tl:Int),.int .i64 (tr:Int),.bool true])∧Below ww.heap.size ww w')
  (hch:∀ ww,B≤ww.heap.size→Calls Tryz.prog 39 #[.int .i64 (lg:Int),.agg #[.int .i64 (tl:Int),.int .i64 (tr:Int),.bool false],.agg #[.int .i64 (tl:Int),.int .i64 (tr:Int),.bool true],.slice va n cp] ww fun e w'=>∃ v,e=.returned v∧CHV0 B w' v [([lg],val)]∧Below ww.heap.size ww w') :
  Calls Tryz.prog 17 #[.pointer (some ⟨nd,0,none⟩),.agg #[.int .i64 k,.int .i64 (lg:Int),.int .i64 (at_:Int),.slice va n cp]] w fun e w'=>e=.returned (.tuple #[.slice none 0 0,.int .i64 0])∧NDM B p q g ls rg nd N (c+1) (apL0 l [([lg],val)]).length (apL0 l [([lg],val)]) (upL L lg (tl,tr,true)) W w'∧RgF B g ls nd w w':=by
 have HBE:=hide hbe
 have HAR:=hide har
 have HHC:=hide hch
 have HBW:=hide h.bw
 clear hbe har hch
 have lt:∀ {k:Nat} {o:Obj} {ww:World},ww.heap[k]?=some o→k<ww.heap.size:=fun e=>(lO e)
 have j1:(0:Int)≤(lg:Int):=by omega
 have j2:(lg:Int)<17:=by omega
 have HNW:Hid ((w.alloc (.cells #[.int .i64 k,.int .i64 (lg:Int),.int .i64 (at_:Int),.slice va n cp] 35)).heap[w.heap.size]?=some (.cells #[.int .i64 k,.int .i64 (lg:Int),.int .i64 (at_:Int),.slice va n cp] 35 (0,0))):=heap_alloc_new w _
 have HBX:=hide (aAc w (.cells #[.int .i64 k,.int .i64 (lg:Int),.int .i64 (at_:Int),.slice va n cp] 35))
 have H1:=hide (h.later HBX.out)
 have HLG:=hide hlg
 have HRE:=hide hre
 clear h hlg hre
 go_enter Tryz.func17,Tryz.ntmps17
 go_upto_region 1 with fail
 generalize w.alloc (.cells #[.int .i64 k,.int .i64 (lg:Int),.int .i64 (at_:Int),.slice va n cp] 35)=w1 at *
 generalize hn0:w.heap.size=n0 at *
 have HD1:=hide (H1.out.later (show Below w1.heap.size w1 w1.drew from (Below.refl _ _).drew))
 have HND:Hid (w1.drew.heap[n0]?=some (.cells #[.int .i64 k,.int .i64 (lg:Int),.int .i64 (at_:Int),.slice va n cp] 35 (0,0))):=HNW.out
 have HBD:Hid (Below n0 w w1.drew):=HBX.out.drew
 have hcl:=HD1.out.lg HLG.out
 rw [HL.out] at hcl
 have HX0:Hid ((fun wx=>wx.cell? ⟨n0,1,none⟩=some (.int .i64 (lg:Int))∧wx.cell? ⟨nd,2+lg*3,none⟩=some (.int .i64 (tl:Int))∧wx.cell? ⟨nd,2+lg*3+1,none⟩=some (.int .i64 (tr:Int))∧wx.cell? ⟨nd,2+lg*3+2,none⟩=some (.bool false)) w1.drew):=⟨aAa HND.out,hcl.1,hcl.2.1,hcl.2.2⟩
 clear hcl
 refine wp_region_noPanic ?_
 refine wp_region_held_drew (S:=fun wx=>wx.cell? ⟨n0,1,none⟩=some (.int .i64 (lg:Int))∧wx.cell? ⟨nd,2+lg*3,none⟩=some (.int .i64 (tl:Int))∧wx.cell? ⟨nd,2+lg*3+1,none⟩=some (.int .i64 (tr:Int))∧wx.cell? ⟨nd,2+lg*3+2,none⟩=some (.bool false)) (by kernel_rfl) HX0.out (fun hHeld=>?_)
 refine wpAnyH_tk 0 10 ?_
 refine wpAnyH_tk 1 11 ?_
 refine wpAnyH_tk 2 12 ?_
 refine wpAnyH_tk 3 13 ?_
 refine wpAnyH_tk 4 14 ?_
 refine wpAnyH_tk 5 15 ?_
 refine wpAnyH_tk 6 16 ?_
 refine wpAnyH_cm 7 ?_;intro K hK
 go_simp
 have hb2:Below w1.heap.size w1 (w1.alloc (.cells #[.int .i64 0,.int .i64 0,.bool false] 58)).drew:=(aAc w1 (.cells #[.int .i64 0,.int .i64 0,.bool false] 58)).drew
 have HD2:=hide (H1.out.later hb2)
 have HN2:Hid ((w1.alloc (.cells #[.int .i64 0,.int .i64 0,.bool false] 58)).drew.heap[n0]?=some (.cells #[.int .i64 k,.int .i64 (lg:Int),.int .i64 (at_:Int),.slice va n cp] 35 (0,0))):=(hb2.block n0 (lt HNW.out)).trans HNW.out
 have HM2:Hid ((w1.alloc (.cells #[.int .i64 0,.int .i64 0,.bool false] 58)).drew.heap[w1.heap.size]?=some (.cells #[.int .i64 0,.int .i64 0,.bool false] 58 (0,0))):=heap_alloc_new w1 _
 have HB2:Hid (Below n0 w (w1.alloc (.cells #[.int .i64 0,.int .i64 0,.bool false] 58)).drew):=HBX.out.trans (hb2.mono (by have:=HBX.out.size;omega))
 have HNN:Hid (n0<w1.heap.size):=lt HNW.out
 have HBN:Hid (B≤w1.heap.size):=H1.out.bw
 have hcl:=HD2.out.lg HLG.out
 rw [HL.out] at hcl
 have HX2:Hid ((fun wx=>wx.cell? ⟨n0,1,none⟩=some (.int .i64 (lg:Int))∧wx.cell? ⟨nd,2+lg*3,none⟩=some (.int .i64 (tl:Int))∧wx.cell? ⟨nd,2+lg*3+1,none⟩=some (.int .i64 (tr:Int))∧wx.cell? ⟨nd,2+lg*3+2,none⟩=some (.bool false)) (w1.alloc (.cells #[.int .i64 0,.int .i64 0,.bool false] 58)).drew):=⟨aAa HN2.out,hcl.1,hcl.2.1,hcl.2.2⟩
 clear hcl hb2 hHeld H1 HNW HBX
 generalize (w1.alloc (.cells #[.int .i64 0,.int .i64 0,.bool false] 58)).drew=w2 at *
 generalize w1.heap.size=n1 at *
 refine hK.out _ _ HX2.out (fun hHeld=>?_)
 clear hK K
 try simp only [Act.put,siT,scZ,scS]
 have m0:w2.cell? ⟨n1,0,none⟩=some (.int .i64 0):=aAa HM2.out
 have mf0:w2.frozen? ⟨n1,0,none⟩=false:=aAb HM2.out
 have m1:w2.cell? ⟨n1,1,none⟩=some (.int .i64 0):=aAa HM2.out
 have mf1:w2.frozen? ⟨n1,1,none⟩=false:=aAb HM2.out
 have m2:w2.cell? ⟨n1,2,none⟩=some (.bool false):=aAa HM2.out
 have mf2:w2.frozen? ⟨n1,2,none⟩=false:=aAb HM2.out
 refine wpAnyH_cm 8 ?_;intro K hK
 go_simp
 have HD3:=hide (((HD2.out.bset (o:=0) (x:=.int .i64 (tl:Int)) HM2.out HBN.out).bset (o:=1) (x:=.int .i64 (tr:Int)) (heap_setCell_same _ _ _ _ _ _ HM2.out) HBN.out).bset (o:=2) (x:=.bool false) (heap_setCell_same _ _ _ _ _ _ (heap_setCell_same _ _ _ _ _ _ HM2.out)) HBN.out)
 have HM3:Hid ((((w2.setCell ⟨n1,0,none⟩ (.int .i64 (tl:Int))).setCell ⟨n1,1,none⟩ (.int .i64 (tr:Int))).setCell ⟨n1,2,none⟩ (.bool false)).heap[n1]?=some (.cells #[.int .i64 (tl:Int),.int .i64 (tr:Int),.bool false] 58 (0,0))):=set3 HM2.out
 have HN3:Hid ((((w2.setCell ⟨n1,0,none⟩ (.int .i64 (tl:Int))).setCell ⟨n1,1,none⟩ (.int .i64 (tr:Int))).setCell ⟨n1,2,none⟩ (.bool false)).heap[n0]?=some (.cells #[.int .i64 k,.int .i64 (lg:Int),.int .i64 (at_:Int),.slice va n cp] 35 (0,0))):=by
  have hne:n0≠n1:=Nat.ne_of_lt HNN.out
  show _=_
  rw [heap_setCell_other _ _ _ _ hne,heap_setCell_other _ _ _ _ hne,heap_setCell_other _ _ _ _ hne]
  exact HN2.out
 have HB3:Hid (Below n0 w (((w2.setCell ⟨n1,0,none⟩ (.int .i64 (tl:Int))).setCell ⟨n1,1,none⟩ (.int .i64 (tr:Int))).setCell ⟨n1,2,none⟩ (.bool false))):=bel3 HB2.out (Nat.le_of_lt HNN.out)
 have hcl:=HD3.out.lg HLG.out
 rw [HL.out] at hcl
 have HX3:Hid ((fun wx=>wx.cell? ⟨n0,1,none⟩=some (.int .i64 (lg:Int))∧wx.cell? ⟨nd,2+lg*3,none⟩=some (.int .i64 (tl:Int))∧wx.cell? ⟨nd,2+lg*3+1,none⟩=some (.int .i64 (tr:Int))∧wx.cell? ⟨nd,2+lg*3+2,none⟩=some (.bool false)) (((w2.setCell ⟨n1,0,none⟩ (.int .i64 (tl:Int))).setCell ⟨n1,1,none⟩ (.int .i64 (tr:Int))).setCell ⟨n1,2,none⟩ (.bool false))):=⟨aAa HN3.out,hcl.1,hcl.2.1,hcl.2.2⟩
 clear hcl hHeld m0 m1 m2 mf0 mf1 mf2
 generalize (((w2.setCell ⟨n1,0,none⟩ (.int .i64 (tl:Int))).setCell ⟨n1,1,none⟩ (.int .i64 (tr:Int))).setCell ⟨n1,2,none⟩ (.bool false))=w3 at *
 refine hK.out _ _ HX3.out (fun hHeld=>?_)
 clear hK K
 try simp only [Act.put,siT,scZ,scS]
 refine wpAnyH_done (by kernel_rfl) ?_ _
 refine NoPanic.normal ?_
 clear hHeld
 have y0:w3.cell? ⟨n0,0,none⟩=some (.int .i64 k):=aAa HN3.out
 have yf0:w3.frozen? ⟨n0,0,none⟩=false:=aAb HN3.out
 have y1:w3.cell? ⟨n0,1,none⟩=some (.int .i64 (lg:Int)):=aAa HN3.out
 have yf1:w3.frozen? ⟨n0,1,none⟩=false:=aAb HN3.out
 have y2:w3.cell? ⟨n0,2,none⟩=some (.int .i64 (at_:Int)):=aAa HN3.out
 have yf2:w3.frozen? ⟨n0,2,none⟩=false:=aAb HN3.out
 have y3:w3.cell? ⟨n0,3,none⟩=some (.slice va n cp):=aAa HN3.out
 have yf3:w3.frozen? ⟨n0,3,none⟩=false:=aAb HN3.out
 have x0:w3.cell? ⟨n1,0,none⟩=some (.int .i64 (tl:Int)):=aAa HM3.out
 have xf0:w3.frozen? ⟨n1,0,none⟩=false:=aAb HM3.out
 have x1:w3.cell? ⟨n1,1,none⟩=some (.int .i64 (tr:Int)):=aAa HM3.out
 have xf1:w3.frozen? ⟨n1,1,none⟩=false:=aAb HM3.out
 have x2:w3.cell? ⟨n1,2,none⟩=some (.bool false):=aAa HM3.out
 have xf2:w3.frozen? ⟨n1,2,none⟩=false:=aAb HM3.out
 have HR3:=hide (HRE.out w3)
 go_wp2_with fail
 refine HR3.out.mono ?_
 rintro e w4 ⟨rfl,hb4⟩
 have HD4:=hide (HD3.out.later hb4)
 have HM4:=hide ((hb4.block n1 (lt HM3.out)).trans HM3.out)
 have HN4:=hide ((hb4.block n0 (lt HN3.out)).trans HN3.out)
 have HB4:Hid (Below n0 w w4):=HB3.out.trans (hb4.mono (by have:=HB3.out.size;omega))
 clear hb4 HR3 x0 x1 x2 xf0 xf1 xf2 y0 y1 y2 y3 yf0 yf1 yf2 yf3
 have y0:w4.cell? ⟨n0,0,none⟩=some (.int .i64 k):=aAa HN4.out
 have yf0:w4.frozen? ⟨n0,0,none⟩=false:=aAb HN4.out
 have y1:w4.cell? ⟨n0,1,none⟩=some (.int .i64 (lg:Int)):=aAa HN4.out
 have yf1:w4.frozen? ⟨n0,1,none⟩=false:=aAb HN4.out
 have y2:w4.cell? ⟨n0,2,none⟩=some (.int .i64 (at_:Int)):=aAa HN4.out
 have yf2:w4.frozen? ⟨n0,2,none⟩=false:=aAb HN4.out
 have y3:w4.cell? ⟨n0,3,none⟩=some (.slice va n cp):=aAa HN4.out
 have yf3:w4.frozen? ⟨n0,3,none⟩=false:=aAb HN4.out
 have x0:w4.cell? ⟨n1,0,none⟩=some (.int .i64 (tl:Int)):=aAa HM4.out
 have xf0:w4.frozen? ⟨n1,0,none⟩=false:=aAb HM4.out
 have x1:w4.cell? ⟨n1,1,none⟩=some (.int .i64 (tr:Int)):=aAa HM4.out
 have xf1:w4.frozen? ⟨n1,1,none⟩=false:=aAb HM4.out
 have x2:w4.cell? ⟨n1,2,none⟩=some (.bool false):=aAa HM4.out
 have xf2:w4.frozen? ⟨n1,2,none⟩=false:=aAb HM4.out
 have HBE4:=hide (HBE.out w4)
 go_wp2_with fail
 refine HBE4.out.mono ?_
 rintro e w5 ⟨rfl,hb5⟩
 have hb6:=aAc w5 (.cells #[.int .i64 (tl:Int),.int .i64 (tr:Int),.bool true] 58)
 have HD7:=hide ((HD4.out.later hb5).later hb6)
 have HM5:=(hb5.block n1 (lt HM4.out)).trans HM4.out
 have HN5:=(hb5.block n0 (lt HN4.out)).trans HN4.out
 have HM7:=hide ((hb6.block n1 (lt HM5)).trans HM5)
 have HN7:=hide ((hb6.block n0 (lt HN5)).trans HN5)
 have HP7:Hid ((w5.alloc (.cells #[.int .i64 (tl:Int),.int .i64 (tr:Int),.bool true] 58)).heap[w5.heap.size]?=some (.cells #[.int .i64 (tl:Int),.int .i64 (tr:Int),.bool true] 58 (0,0))):=heap_alloc_new w5 _
 have HB7:Hid (Below n0 w (w5.alloc (.cells #[.int .i64 (tl:Int),.int .i64 (tr:Int),.bool true] 58))):=(HB4.out.trans (hb5.mono (by have:=HB4.out.size;omega))).trans (hb6.mono (by have:=HB4.out.size;have:=hb5.size;omega))
 have HNN7:Hid (n0<w5.heap.size∧n1<w5.heap.size):=⟨lt HN5,lt HM5⟩
 have HBN7:Hid (B≤w5.heap.size):=(HD4.out.later hb5).bw
 clear hb5 hb6 HM5 HN5 HBE4 x0 x1 x2 xf0 xf1 xf2 y0 y1 y2 y3 yf0 yf1 yf2 yf3
 go_upto_region 8 with fail
 generalize (w5.alloc (.cells #[.int .i64 (tl:Int),.int .i64 (tr:Int),.bool true] 58))=w7 at *
 generalize w5.heap.size=n5 at *
 have z0:w7.cell? ⟨n5,0,none⟩=some (.int .i64 (tl:Int)):=aAa HP7.out
 have zf0:w7.frozen? ⟨n5,0,none⟩=false:=aAb HP7.out
 have z1:w7.cell? ⟨n5,1,none⟩=some (.int .i64 (tr:Int)):=aAa HP7.out
 have zf1:w7.frozen? ⟨n5,1,none⟩=false:=aAb HP7.out
 have z2:w7.cell? ⟨n5,2,none⟩=some (.bool true):=aAa HP7.out
 have zf2:w7.frozen? ⟨n5,2,none⟩=false:=aAb HP7.out
 have x0:w7.cell? ⟨n1,0,none⟩=some (.int .i64 (tl:Int)):=aAa HM7.out
 have xf0:w7.frozen? ⟨n1,0,none⟩=false:=aAb HM7.out
 have x1:w7.cell? ⟨n1,1,none⟩=some (.int .i64 (tr:Int)):=aAa HM7.out
 have xf1:w7.frozen? ⟨n1,1,none⟩=false:=aAb HM7.out
 have x2:w7.cell? ⟨n1,2,none⟩=some (.bool false):=aAa HM7.out
 have xf2:w7.frozen? ⟨n1,2,none⟩=false:=aAb HM7.out
 go_upto_region 10 with fail
 have hd:Below w7.heap.size w7 w7.drew:=(Below.refl _ _).drew
 have HD8:=hide (HD7.out.later hd)
 have HN8:Hid (w7.drew.heap[n0]?=some (.cells #[.int .i64 k,.int .i64 (lg:Int),.int .i64 (at_:Int),.slice va n cp] 35 (0,0))):=HN7.out
 have HM8:Hid (w7.drew.heap[n1]?=some (.cells #[.int .i64 (tl:Int),.int .i64 (tr:Int),.bool false] 58 (0,0))):=HM7.out
 have HP8:Hid (w7.drew.heap[n5]?=some (.cells #[.int .i64 (tl:Int),.int .i64 (tr:Int),.bool true] 58 (0,0))):=HP7.out
 have HB8:Hid (Below n0 w w7.drew):=HB7.out.drew
 have HCH:=hide (HHC.out w7.drew HD8.out.bw)
 have HX8:Hid ((fun wx=>wx.cell? ⟨nd,0,none⟩=some (.pointer (some ⟨ls,0,none⟩))∧wx.cell? ⟨n0,1,none⟩=some (.int .i64 (lg:Int))∧wx.cell? ⟨n0,3,none⟩=some (.slice va n cp)∧wx.cell? ⟨n1,0,none⟩=some (.int .i64 (tl:Int))∧wx.cell? ⟨n1,1,none⟩=some (.int .i64 (tr:Int))∧wx.cell? ⟨n1,2,none⟩=some (.bool false)∧wx.cell? ⟨n5,0,none⟩=some (.int .i64 (tl:Int))∧wx.cell? ⟨n5,1,none⟩=some (.int .i64 (tr:Int))∧wx.cell? ⟨n5,2,none⟩=some (.bool true)) w7.drew):=⟨HD8.out.cell0,aAa HN8.out,aAa HN8.out,aAa HM8.out,aAa HM8.out,aAa HM8.out,aAa HP8.out,aAa HP8.out,aAa HP8.out⟩
 clear hd z0 z1 z2 zf0 zf1 zf2 x0 x1 x2 xf0 xf1 xf2
 refine wp_region_noPanic ?_
 refine wp_region_held_drew (S:=fun wx=>wx.cell? ⟨nd,0,none⟩=some (.pointer (some ⟨ls,0,none⟩))∧wx.cell? ⟨n0,1,none⟩=some (.int .i64 (lg:Int))∧wx.cell? ⟨n0,3,none⟩=some (.slice va n cp)∧wx.cell? ⟨n1,0,none⟩=some (.int .i64 (tl:Int))∧wx.cell? ⟨n1,1,none⟩=some (.int .i64 (tr:Int))∧wx.cell? ⟨n1,2,none⟩=some (.bool false)∧wx.cell? ⟨n5,0,none⟩=some (.int .i64 (tl:Int))∧wx.cell? ⟨n5,1,none⟩=some (.int .i64 (tr:Int))∧wx.cell? ⟨n5,2,none⟩=some (.bool true)) (by kernel_rfl) HX8.out (fun hHeld=>?_)
 refine wpAnyH_tk 0 43 ?_
 refine wpAnyH_tk 1 44 ?_
 refine wpAnyH_tk 2 45 ?_
 refine wpAnyH_tk 3 46 ?_
 refine wpAnyH_tk 4 47 ?_
 refine wpAnyH_tk 5 48 ?_
 refine wpAnyH_tk 6 49 ?_
 refine wpAnyH_tk 7 50 ?_
 refine wpAnyH_tk 9 52 ?_
 refine wpAnyH_tk 10 53 ?_
 refine wpAnyH_tk 11 54 ?_
 refine wpAnyH_tk 12 55 ?_
 refine wpAnyH_tk 13 56 ?_
 refine wpAnyH_tk 14 57 ?_
 refine wpAnyH_cm 8 ?_;intro K hK
 go_simp
 refine HD8.out.s.pos.mono ?_
 rintro e w8' ⟨rfl,rfl⟩
 clear hHeld
 refine hK.out _ _ HX8.out (fun hHeld=>?_)
 clear hK K
 try simp only [Act.put,siT,scZ,scS]
 refine wpAnyH_cm 15 ?_;intro K hK
 go_simp
 refine HCH.out.mono ?_
 rintro e w9 ⟨cv,rfl,hc9,hb9⟩
 have HD9:=hide (HD8.out.later hb9)
 have HN9:=hide ((hb9.block n0 (lt HN8.out)).trans HN8.out)
 have HM9:=hide ((hb9.block n1 (lt HM8.out)).trans HM8.out)
 have HP9:=hide ((hb9.block n5 (lt HP8.out)).trans HP8.out)
 have HB9:Hid (Below n0 w w9):=HB8.out.trans (hb9.mono (by have:=HB8.out.size;omega))
 have HAP:=hide (HD9.out.s.Apply0 hg0 HAR.out.1 HAR.out.2.1 HAR.out.2.2.1 HAR.out.2.2.2.1 HAR.out.2.2.2.2.1 hc9 HAR.out.2.2.2.2.2)
 have HX9:Hid ((fun wx=>wx.cell? ⟨nd,0,none⟩=some (.pointer (some ⟨ls,0,none⟩))∧wx.cell? ⟨n0,1,none⟩=some (.int .i64 (lg:Int))∧wx.cell? ⟨n0,3,none⟩=some (.slice va n cp)∧wx.cell? ⟨n1,0,none⟩=some (.int .i64 (tl:Int))∧wx.cell? ⟨n1,1,none⟩=some (.int .i64 (tr:Int))∧wx.cell? ⟨n1,2,none⟩=some (.bool false)∧wx.cell? ⟨n5,0,none⟩=some (.int .i64 (tl:Int))∧wx.cell? ⟨n5,1,none⟩=some (.int .i64 (tr:Int))∧wx.cell? ⟨n5,2,none⟩=some (.bool true)) w9):=⟨HD9.out.cell0,aAa HN9.out,aAa HN9.out,aAa HM9.out,aAa HM9.out,aAa HM9.out,aAa HP9.out,aAa HP9.out,aAa HP9.out⟩
 clear hc9 hb9 hHeld HCH
 refine hK.out _ _ HX9.out (fun hHeld=>?_)
 clear hK K
 try simp only [Act.put,siT,scZ,scS]
 refine wpAnyH_cm 16 ?_;intro K hK
 go_simp
 refine HAP.out.mono ?_
 rintro e w10 ⟨rfl,hly,hls⟩
 obtain ⟨cg,hcg⟩:=HD9.out.s.kx.blk
 obtain ⟨cl9,k9,_⟩:=HD9.out.s.lv
 obtain ⟨cn9,v9,v9'⟩:=HD9.out.v
 have HNA:=hide (hly.2 _ _ _ _ HN9.out (by decide) (aAk HN9.out hcg (by decide)) (aAk HN9.out k9 (by decide)))
 have HMA:=hide (hly.2 _ _ _ _ HM9.out (by decide) (aAk HM9.out hcg (by decide)) (aAk HM9.out k9 (by decide)))
 have HPA:=hide (hly.2 _ _ _ _ HP9.out (by decide) (aAk HP9.out hcg (by decide)) (aAk HP9.out k9 (by decide)))
 have HDA:Hid (NDM B p q g ls rg nd N (c+1) (apL0 l [([lg],val)]).length (apL0 l [([lg],val)]) L W w10):=⟨hls,HD9.out.b,cn9,hly.2 _ _ _ _ v9 (by decide) (aAk v9 hcg (by decide)) (aAk v9 k9 (by decide)),v9'⟩
 have HFA:Hid (RgF B g ls nd w w10):=(RgF.of (by rw [hn0];exact HB9.out) (by rw [hn0];exact HBW.out)).trans (RgF.ly hly)
 have HXA:Hid ((fun wx=>wx.cell? ⟨nd,0,none⟩=some (.pointer (some ⟨ls,0,none⟩))∧wx.cell? ⟨n0,1,none⟩=some (.int .i64 (lg:Int))∧wx.cell? ⟨n0,3,none⟩=some (.slice va n cp)∧wx.cell? ⟨n1,0,none⟩=some (.int .i64 (tl:Int))∧wx.cell? ⟨n1,1,none⟩=some (.int .i64 (tr:Int))∧wx.cell? ⟨n1,2,none⟩=some (.bool false)∧wx.cell? ⟨n5,0,none⟩=some (.int .i64 (tl:Int))∧wx.cell? ⟨n5,1,none⟩=some (.int .i64 (tr:Int))∧wx.cell? ⟨n5,2,none⟩=some (.bool true)) w10):=⟨HDA.out.cell0,aAa HNA.out,aAa HNA.out,aAa HMA.out,aAa HMA.out,aAa HMA.out,aAa HPA.out,aAa HPA.out,aAa HPA.out⟩
 clear hly hls hcg k9 v9 v9' hHeld HAP
 refine hK.out _ _ HXA.out (fun hHeld=>?_)
 clear hK K
 try simp only [Act.put,siT,scZ,scS]
 refine wpAnyH_tk 17 9 ?_
 refine wpAnyH_done (by kernel_rfl) ?_ _
 refine NoPanic.normal ?_
 clear hHeld
 have HDB:=hide (HDA.out.later (show Below w10.heap.size w10 w10.drew from (Below.refl _ _).drew))
 have HNB:Hid (w10.drew.heap[n0]?=some (.cells #[.int .i64 k,.int .i64 (lg:Int),.int .i64 (at_:Int),.slice va n cp] 35 (0,0))):=HNA.out
 have HPB:Hid (w10.drew.heap[n5]?=some (.cells #[.int .i64 (tl:Int),.int .i64 (tr:Int),.bool true] 58 (0,0))):=HPA.out
 have HFB:Hid (RgF B g ls nd w w10.drew):=HFA.out.trans (RgF.of (Below.refl _ _).drew HDA.out.bw)
 have HXB:Hid ((fun wx=>wx.cell? ⟨n0,1,none⟩=some (.int .i64 (lg:Int))∧wx.cell? ⟨n5,0,none⟩=some (.int .i64 (tl:Int))∧wx.cell? ⟨n5,1,none⟩=some (.int .i64 (tr:Int))∧wx.cell? ⟨n5,2,none⟩=some (.bool true)) w10.drew):=⟨aAa HNB.out,aAa HPB.out,aAa HPB.out,aAa HPB.out⟩
 have hcl:=HDA.out.lg HLG.out
 have u0:=hcl.1
 have u1:=hcl.2.1
 have u2:=hcl.2.2
 have f0:=HDA.out.lgf (2+lg*3)
 have f1:=HDA.out.lgf (2+lg*3+1)
 have f2:=HDA.out.lgf (2+lg*3+2)
 clear hcl
 go_upto_region 12 with fail
 refine wp_region_noPanic ?_
 refine wp_region_held_drew (S:=fun wx=>wx.cell? ⟨n0,1,none⟩=some (.int .i64 (lg:Int))∧wx.cell? ⟨n5,0,none⟩=some (.int .i64 (tl:Int))∧wx.cell? ⟨n5,1,none⟩=some (.int .i64 (tr:Int))∧wx.cell? ⟨n5,2,none⟩=some (.bool true)) (by kernel_rfl) HXB.out (fun hHeld=>?_)
 refine wpAnyH_tk 0 62 ?_
 refine wpAnyH_tk 1 63 ?_
 refine wpAnyH_tk 2 64 ?_
 refine wpAnyH_tk 3 65 ?_
 refine wpAnyH_tk 4 66 ?_
 refine wpAnyH_tk 5 67 ?_
 refine wpAnyH_tk 6 68 ?_
 refine wpAnyH_cm 7 ?_;intro K hK
 go_simp
 have HDC:Hid (NDM B p q g ls rg nd N (c+1) (apL0 l [([lg],val)]).length (apL0 l [([lg],val)]) (upL L lg (tl,tr,true)) W (((w10.setCell ⟨nd,2+lg*3,none⟩ (.int .i64 (tl:Int))).setCell ⟨nd,2+lg*3+1,none⟩ (.int .i64 (tr:Int))).setCell ⟨nd,2+lg*3+2,none⟩ (.bool true)).drew):=(HDA.out.set HLG.out (tl,tr,true)).later (Below.refl _ _).drew
 obtain ⟨cn9,v9,v9'⟩:=HDA.out.v
 have hne0:=aAk HNA.out v9 (by decide)
 have hne5:=aAk HPA.out v9 (by decide)
 have HNC:(((w10.setCell ⟨nd,2+lg*3,none⟩ (.int .i64 (tl:Int))).setCell ⟨nd,2+lg*3+1,none⟩ (.int .i64 (tr:Int))).setCell ⟨nd,2+lg*3+2,none⟩ (.bool true)).drew.heap[n0]?=some (.cells #[.int .i64 k,.int .i64 (lg:Int),.int .i64 (at_:Int),.slice va n cp] 35 (0,0)):=by show (((w10.setCell ⟨nd,2+lg*3,none⟩ (.int .i64 (tl:Int))).setCell ⟨nd,2+lg*3+1,none⟩ (.int .i64 (tr:Int))).setCell ⟨nd,2+lg*3+2,none⟩ (.bool true)).heap[n0]?=_;rw [heap_setCell_other _ _ _ _ hne0,heap_setCell_other _ _ _ _ hne0,heap_setCell_other _ _ _ _ hne0];exact HNA.out
 have HPC:(((w10.setCell ⟨nd,2+lg*3,none⟩ (.int .i64 (tl:Int))).setCell ⟨nd,2+lg*3+1,none⟩ (.int .i64 (tr:Int))).setCell ⟨nd,2+lg*3+2,none⟩ (.bool true)).drew.heap[n5]?=some (.cells #[.int .i64 (tl:Int),.int .i64 (tr:Int),.bool true] 58 (0,0)):=by show (((w10.setCell ⟨nd,2+lg*3,none⟩ (.int .i64 (tl:Int))).setCell ⟨nd,2+lg*3+1,none⟩ (.int .i64 (tr:Int))).setCell ⟨nd,2+lg*3+2,none⟩ (.bool true)).heap[n5]?=_;rw [heap_setCell_other _ _ _ _ hne5,heap_setCell_other _ _ _ _ hne5,heap_setCell_other _ _ _ _ hne5];exact HPA.out
 have HXC:Hid ((fun wx=>wx.cell? ⟨n0,1,none⟩=some (.int .i64 (lg:Int))∧wx.cell? ⟨n5,0,none⟩=some (.int .i64 (tl:Int))∧wx.cell? ⟨n5,1,none⟩=some (.int .i64 (tr:Int))∧wx.cell? ⟨n5,2,none⟩=some (.bool true)) (((w10.setCell ⟨nd,2+lg*3,none⟩ (.int .i64 (tl:Int))).setCell ⟨nd,2+lg*3+1,none⟩ (.int .i64 (tr:Int))).setCell ⟨nd,2+lg*3+2,none⟩ (.bool true)).drew):=⟨aAa HNC,aAa HPC,aAa HPC,aAa HPC⟩
 have HFC:Hid (RgF B g ls nd w (((w10.setCell ⟨nd,2+lg*3,none⟩ (.int .i64 (tl:Int))).setCell ⟨nd,2+lg*3+1,none⟩ (.int .i64 (tr:Int))).setCell ⟨nd,2+lg*3+2,none⟩ (.bool true)).drew):=(((HFA.out.trans (RgF.set HDA.out.b)).trans (RgF.set HDA.out.b)).trans (RgF.set HDA.out.b)).trans (RgF.of (Below.refl _ _).drew (HDA.out.set HLG.out (tl,tr,true)).bw)
 clear hHeld v9 v9' hne0 hne5 HNC HPC
 refine hK.out _ _ HXC.out (fun hHeld=>?_)
 clear hK K
 try simp only [Act.put,siT,scZ,scS]
 refine wpAnyH_done (by kernel_rfl) ?_ _
 refine NoPanic.normal ?_
 clear hHeld u0 u1 u2 f0 f1 f2
 go_wp2
 go_ret2
 exact ⟨rfl,HDC.out,HFC.out⟩
end Go.Proofs.YtibfkdjbnaeneaaGreat
