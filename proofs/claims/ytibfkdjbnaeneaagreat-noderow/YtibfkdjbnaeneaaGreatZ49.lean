import Derived.Test.YtibfkdjbnaeneaaGreatZ48
set_option maxRecDepth 100000
set_option maxHeartbeats 16000000
set_option linter.unusedVariables false
namespace Go.Proofs.YtibfkdjbnaeneaaGreat
open Go.RowKit
theorem RgF.an1 {B g ls rg n0 o:Nat} {w0 w:World} {x:Value} (h:RgF B g ls rg w0 w) (hn:w0.heap.size≤n0) (hB:B≤n0):RgF B g ls rg w0 (w.setCell ⟨n0,o,none⟩ x):=⟨h.1.trans (Ex.set hB).1,fun k cs t fz e h1 h2 h3 h4=>by
 have hk:=h.2 k cs t fz e h1 h2 h3 h4
 rw [(Ex.set (w:=w) (o:=o) (u:=x) hB).2 k (lO hk) (by have:=(lO e);simp;omega),hk]⟩
theorem RgF.an3 {B g ls rg n0:Nat} {w0 w:World} {b0 b1 b2:Value} (h:RgF B g ls rg w0 w) (hn:w0.heap.size≤n0) (hB:B≤n0):RgF B g ls rg w0 (((w.setCell ⟨n0,0,none⟩ b0).setCell ⟨n0,1,none⟩ b1).setCell ⟨n0,2,none⟩ b2):=((h.an1 hn hB).an1 hn hB).an1 hn hB
section
variable [Gd] {B p q g ls rg nd N c u n0:Nat} {l:List It} {L:Nat→Lg} {W w w':World}
theorem NDM.aset (h:NDM B p q g ls rg nd N c u l L W w) {cf:Array Value} {o:Nat} {x:Value} (hf:w.heap[n0]?=some (.cells cf 32 (0,0))) (hB:B≤n0):NDM B p q g ls rg nd N c u l L W (w.setCell ⟨n0,o,none⟩ x):=by
 obtain ⟨cs,h1,h2⟩:=h.s.lv
 obtain ⟨cn,h3,h4⟩:=h.v
 have keep:∀ (k:Nat) (cs:Array Value) (t:TypeId) (fz:Nat×Nat),w.heap[k]?=some (Obj.cells cs t fz)→t≠32→(w.setCell ⟨n0,o,none⟩ x).heap[k]?=some (Obj.cells cs t fz):=fun k cs t fz e ht=>by
  rw [(Ex.set (w:=w) (o:=o) (u:=x) hB).2 k (lO e) (by simpa using aAk e hf ht),e]
 refine ⟨⟨h.s.kx.same (Ex.set hB).1 (fun k cs t fz e ht=>keep k cs t fz e ?_),h.s.bl,cs,keep _ _ _ _ h1 (by decide),h2⟩,h.b,cn,keep _ _ _ _ h3 (by decide),h4⟩
 rcases ht with rfl | rfl | ht
 ·decide
 ·decide
 ·intro q9
  rw [q9] at ht
  exact ht (by decide)
theorem NDM.an6 (h:NDM B p q g ls rg nd N c u l L W w) {a0 a1 a2 a3 a4 a5 b0 b1 b2 b3 b4 b5:Value} (hn:w.heap[n0]?=some (.cells #[a0,a1,a2,a3,a4,a5] 32 (0,0))) (hB:B≤n0):NDM B p q g ls rg nd N c u l L W ((((((w.setCell ⟨n0,0,none⟩ b0).setCell ⟨n0,1,none⟩ b1).setCell ⟨n0,2,none⟩ b2).setCell ⟨n0,3,none⟩ b3).setCell ⟨n0,4,none⟩ b4).setCell ⟨n0,5,none⟩ b5):=by
 have k1:=heap_setCell_same w n0 0 _ _ b0 hn
 have k2:=heap_setCell_same _ n0 1 _ _ b1 k1
 have k3:=heap_setCell_same _ n0 2 _ _ b2 k2
 have k4:=heap_setCell_same _ n0 3 _ _ b3 k3
 have k5:=heap_setCell_same _ n0 4 _ _ b4 k4
 exact (((((h.aset hn hB).aset k1 hB).aset k2 hB).aset k3 hB).aset k4 hB).aset k5 hB
theorem NDM.keep {t:TypeId} {k:Nat} {cs:Array Value} {fz:Nat×Nat} (h:NDM B p q g ls rg nd N c u l L W w) (f:RgF B g ls nd w w') (e:w.heap[k]?=some (.cells cs t fz)) (hn:NT t) (h1:t≠127) (h2:t≠81) (h3:t≠64):w'.heap[k]?=some (.cells cs t fz):=by
 obtain ⟨cg,hg⟩:=h.s.kx.blk
 obtain ⟨cl,k1,_⟩:=h.s.lv
 obtain ⟨cr,k2,_⟩:=h.v
 exact f.2 _ _ _ _ e hn (aAk e hg h1) (aAk e k1 h2) (aAk e k2 h3)
end
theorem aGq [Gd] {B p q g ls rg nd N c u c' u' lg at_ n cp tl tr:Nat} {sl:Bool} {l l':List It} {L L':Nat→Lg} {W w:World} {k e0:Int} {va:Option Addr} {val:List Nat} (h:NDM B p q g ls rg nd N c u l L W w) (hk1:1≤k) (hk2:k≤6) (hlg:lg≤16) (hn:n≤1800) (he:¬ e0=20) (HL:Hid (L' lg=(tl,tr,sl)))
  (hs:∀ ww,NDM B p q g ls rg nd N c u l L W ww→Below w.heap.size w ww→Calls Tryz.prog 17 #[.pointer (some ⟨nd,0,none⟩),.agg #[.int .i64 k,.int .i64 (lg:Int),.int .i64 (at_:Int),.slice va n cp]] ww fun e w'=>∃ sa sc,e=.returned (.tuple #[.slice sa val.length sc,.int .i64 e0])∧BK B w' sa val.length sc val∧NDM B p q g ls rg nd N c' u' l' L' W w'∧RgF B g ls nd ww w') :
  Calls Tryz.prog 7 #[.pointer (some ⟨nd,0,none⟩),.agg #[.int .i64 k,.int .i64 (lg:Int),.int .i64 (at_:Int),.slice va n cp]] w fun e w'=>∃ sa sc,e=.returned (.agg #[.int .i64 e0,.int .i64 (tl:Int),.bool sl,.int .i64 (tr:Int),.int .i64 0,.slice sa val.length sc])∧BK B w' sa val.length sc val∧NDM B p q g ls rg nd N c' u' l' L' W w'∧RgF B g ls nd w w':=by
 have lt:∀ {k:Nat} {o:Obj} {ww:World},ww.heap[k]?=some o→k<ww.heap.size:=fun e=>(lO e)
 have j1:(0:Int)≤(lg:Int):=by omega
 have j2:(lg:Int)<17:=by omega
 have e7:¬ k=7:=by omega
 have e8:¬ k=8:=by omega
 have HBX:=hide (aAz w (.cells #[.int .i64 k,.int .i64 (lg:Int),.int .i64 (at_:Int),.slice va n cp] 35) (.cells #[.int .i64 0,.int .i64 0,.bool false,.int .i64 0,.int .i64 0,.slice none 0 0] 32))
 have HN1:Hid (((w.alloc (.cells #[.int .i64 k,.int .i64 (lg:Int),.int .i64 (at_:Int),.slice va n cp] 35)).alloc (.cells #[.int .i64 0,.int .i64 0,.bool false,.int .i64 0,.int .i64 0,.slice none 0 0] 32)).heap[w.heap.size]?=some (.cells #[.int .i64 k,.int .i64 (lg:Int),.int .i64 (at_:Int),.slice va n cp] 35 (0,0))):=aAf [Obj.cells #[.int .i64 k,.int .i64 (lg:Int),.int .i64 (at_:Int),.slice va n cp] 35,Obj.cells #[.int .i64 0,.int .i64 0,.bool false,.int .i64 0,.int .i64 0,.slice none 0 0] 32] w 0 _ rfl
 have HA1:Hid (((w.alloc (.cells #[.int .i64 k,.int .i64 (lg:Int),.int .i64 (at_:Int),.slice va n cp] 35)).alloc (.cells #[.int .i64 0,.int .i64 0,.bool false,.int .i64 0,.int .i64 0,.slice none 0 0] 32)).heap[w.heap.size+1]?=some (.cells #[.int .i64 0,.int .i64 0,.bool false,.int .i64 0,.int .i64 0,.slice none 0 0] 32 (0,0))):=aAf [Obj.cells #[.int .i64 k,.int .i64 (lg:Int),.int .i64 (at_:Int),.slice va n cp] 35,Obj.cells #[.int .i64 0,.int .i64 0,.bool false,.int .i64 0,.int .i64 0,.slice none 0 0] 32] w 1 _ rfl
 have H1:=hide (h.later HBX.out)
 have HLG:=hide hlg
 have HSV:=hide hs
 have HBW:=hide h.bw
 have HRF:=hide (nref_ok (at_:=at_) (va:=va) (cp:=cp) H1.out hk1 (by omega) hlg hn)
 clear h hlg hs hn hk1 hk2
 go_enter Tryz.func7,Tryz.ntmps7
 go_upto_region 1 with fail
 generalize ((w.alloc (.cells #[.int .i64 k,.int .i64 (lg:Int),.int .i64 (at_:Int),.slice va n cp] 35)).alloc (.cells #[.int .i64 0,.int .i64 0,.bool false,.int .i64 0,.int .i64 0,.slice none 0 0] 32))=w1 at *
 generalize hn0:w.heap.size=n0 at *
 generalize hn1:n0+1=n1 at *
 have y0:w1.cell? ⟨n0,0,none⟩=some (.int .i64 k):=aAa HN1.out
 have yf0:w1.frozen? ⟨n0,0,none⟩=false:=aAb HN1.out
 have y1:w1.cell? ⟨n0,1,none⟩=some (.int .i64 (lg:Int)):=aAa HN1.out
 have yf1:w1.frozen? ⟨n0,1,none⟩=false:=aAb HN1.out
 have y2:w1.cell? ⟨n0,2,none⟩=some (.int .i64 (at_:Int)):=aAa HN1.out
 have yf2:w1.frozen? ⟨n0,2,none⟩=false:=aAb HN1.out
 have y3:w1.cell? ⟨n0,3,none⟩=some (.slice va n cp):=aAa HN1.out
 have yf3:w1.frozen? ⟨n0,3,none⟩=false:=aAb HN1.out
 go_wp2_with fail
 refine HRF.out.mono ?_
 rintro e w2 ⟨rfl,hb2⟩
 have H2:=hide (H1.out.later hb2)
 have HN2:=hide ((hb2.block n0 (lt HN1.out)).trans HN1.out)
 have HA2:=hide ((hb2.block n1 (lt HA1.out)).trans HA1.out)
 have HB2:Hid (Below n0 w w2):=HBX.out.trans (hb2.mono (by have:=HBX.out.size;omega))
 have HSV2:=hide (HSV.out w2 H2.out HB2.out)
 clear hb2 HRF HSV HN1 HA1 HBX H1 y0 y1 y2 y3 yf0 yf1 yf2 yf3
 have y0:w2.cell? ⟨n0,0,none⟩=some (.int .i64 k):=aAa HN2.out
 have yf0:w2.frozen? ⟨n0,0,none⟩=false:=aAb HN2.out
 have y1:w2.cell? ⟨n0,1,none⟩=some (.int .i64 (lg:Int)):=aAa HN2.out
 have yf1:w2.frozen? ⟨n0,1,none⟩=false:=aAb HN2.out
 have y2:w2.cell? ⟨n0,2,none⟩=some (.int .i64 (at_:Int)):=aAa HN2.out
 have yf2:w2.frozen? ⟨n0,2,none⟩=false:=aAb HN2.out
 have y3:w2.cell? ⟨n0,3,none⟩=some (.slice va n cp):=aAa HN2.out
 have yf3:w2.frozen? ⟨n0,3,none⟩=false:=aAb HN2.out
 generalize hvl:val.length=vn at *
 go_wp2_with fail
 refine HSV2.out.mono ?_
 rintro e w3 ⟨sa,sc,rfl,hk3,h3,hf3⟩
 have HN3:=hide (H2.out.keep hf3 HN2.out (by decide) (by decide) (by decide) (by decide))
 have HA3:=hide (H2.out.keep hf3 HA2.out (by decide) (by decide) (by decide) (by decide))
 have HBA:Hid (B≤n1):=by show B≤n1;have:=HBW.out;omega
 have HNA:Hid (n0≤n1):=by show n0≤n1;omega
 have HF3:Hid (RgF B g ls nd w w3):=(RgF.of (by rw [hn0];exact HB2.out) (by rw [hn0];exact HBW.out)).trans hf3
 have H3:=hide h3
 have HK3:=hide hk3
 clear h3 hk3 hf3 HSV2 y0 y1 y2 y3 yf0 yf1 yf2 yf3 HN2 HA2 H2 hn1
 have hcl:=H3.out.lg HLG.out
 rw [HL.out] at hcl
 have HX3:Hid ((fun wx=>wx.cell? ⟨n0,1,none⟩=some (.int .i64 (lg:Int))∧wx.cell? ⟨nd,2+lg*3,none⟩=some (.int .i64 (tl:Int))∧wx.cell? ⟨nd,2+lg*3+1,none⟩=some (.int .i64 (tr:Int))∧wx.cell? ⟨nd,2+lg*3+2,none⟩=some (.bool sl)) w3.drew):=⟨aAa HN3.out,hcl.1,hcl.2.1,hcl.2.2⟩
 clear hcl
 go_upto_region 12 with fail
 refine wp_region_noPanic ?_
 refine wp_region_held_drew (S:=fun wx=>wx.cell? ⟨n0,1,none⟩=some (.int .i64 (lg:Int))∧wx.cell? ⟨nd,2+lg*3,none⟩=some (.int .i64 (tl:Int))∧wx.cell? ⟨nd,2+lg*3+1,none⟩=some (.int .i64 (tr:Int))∧wx.cell? ⟨nd,2+lg*3+2,none⟩=some (.bool sl)) (by kernel_rfl) HX3.out (fun hHeld=>?_)
 refine wpAnyH_tk 0 52 ?_
 refine wpAnyH_tk 1 53 ?_
 refine wpAnyH_tk 2 54 ?_
 refine wpAnyH_tk 3 55 ?_
 refine wpAnyH_tk 4 56 ?_
 refine wpAnyH_tk 5 57 ?_
 refine wpAnyH_tk 6 58 ?_
 refine wpAnyH_cm 7 ?_;intro K hK
 go_simp
 have hb4:Below w3.heap.size w3 (w3.alloc (.cells #[.int .i64 0,.int .i64 0,.bool false] 58)).drew:=(aAc w3 (.cells #[.int .i64 0,.int .i64 0,.bool false] 58)).drew
 have HD4:=hide (H3.out.later hb4)
 have HN4:Hid ((w3.alloc (.cells #[.int .i64 0,.int .i64 0,.bool false] 58)).drew.heap[n0]?=some (.cells #[.int .i64 k,.int .i64 (lg:Int),.int .i64 (at_:Int),.slice va n cp] 35 (0,0))):=(hb4.block n0 (lt HN3.out)).trans HN3.out
 have HA4:Hid ((w3.alloc (.cells #[.int .i64 0,.int .i64 0,.bool false] 58)).drew.heap[n1]?=some (.cells #[.int .i64 0,.int .i64 0,.bool false,.int .i64 0,.int .i64 0,.slice none 0 0] 32 (0,0))):=(hb4.block n1 (lt HA3.out)).trans HA3.out
 have HM4:Hid ((w3.alloc (.cells #[.int .i64 0,.int .i64 0,.bool false] 58)).drew.heap[w3.heap.size]?=some (.cells #[.int .i64 0,.int .i64 0,.bool false] 58 (0,0))):=heap_alloc_new w3 _
 have HF4:Hid (RgF B g ls nd w (w3.alloc (.cells #[.int .i64 0,.int .i64 0,.bool false] 58)).drew):=HF3.out.trans (RgF.of hb4 H3.out.bw)
 have HK4:=hide (HK3.out.later hb4 H3.out.bw)
 have HNN:Hid (n0<w3.heap.size∧n1<w3.heap.size):=⟨lt HN3.out,lt HA3.out⟩
 have HBN:Hid (B≤w3.heap.size):=H3.out.bw
 have hcl:=HD4.out.lg HLG.out
 rw [HL.out] at hcl
 have HX4:Hid ((fun wx=>wx.cell? ⟨n0,1,none⟩=some (.int .i64 (lg:Int))∧wx.cell? ⟨nd,2+lg*3,none⟩=some (.int .i64 (tl:Int))∧wx.cell? ⟨nd,2+lg*3+1,none⟩=some (.int .i64 (tr:Int))∧wx.cell? ⟨nd,2+lg*3+2,none⟩=some (.bool sl)) (w3.alloc (.cells #[.int .i64 0,.int .i64 0,.bool false] 58)).drew):=⟨aAa HN4.out,hcl.1,hcl.2.1,hcl.2.2⟩
 clear hcl hb4 hHeld H3 HN3 HA3 HF3 HK3
 generalize (w3.alloc (.cells #[.int .i64 0,.int .i64 0,.bool false] 58)).drew=w4 at *
 generalize w3.heap.size=n4 at *
 refine hK.out _ _ HX4.out (fun hHeld=>?_)
 clear hK K
 try simp only [Act.put,siT,scZ,scS]
 have m0:w4.cell? ⟨n4,0,none⟩=some (.int .i64 0):=aAa HM4.out
 have mf0:w4.frozen? ⟨n4,0,none⟩=false:=aAb HM4.out
 have m1:w4.cell? ⟨n4,1,none⟩=some (.int .i64 0):=aAa HM4.out
 have mf1:w4.frozen? ⟨n4,1,none⟩=false:=aAb HM4.out
 have m2:w4.cell? ⟨n4,2,none⟩=some (.bool false):=aAa HM4.out
 have mf2:w4.frozen? ⟨n4,2,none⟩=false:=aAb HM4.out
 refine wpAnyH_cm 8 ?_;intro K hK
 go_simp
 have hm1:=heap_setCell_same w4 n4 0 _ _ (.int .i64 (tl:Int)) HM4.out
 have hm2:=heap_setCell_same _ n4 1 _ _ (.int .i64 (tr:Int)) hm1
 have HD5:=hide (((HD4.out.bset (o:=0) (x:=.int .i64 (tl:Int)) HM4.out HBN.out).bset (o:=1) (x:=.int .i64 (tr:Int)) hm1 HBN.out).bset (o:=2) (x:=.bool sl) hm2 HBN.out)
 have HM5:Hid ((((w4.setCell ⟨n4,0,none⟩ (.int .i64 (tl:Int))).setCell ⟨n4,1,none⟩ (.int .i64 (tr:Int))).setCell ⟨n4,2,none⟩ (.bool sl)).heap[n4]?=some (.cells #[.int .i64 (tl:Int),.int .i64 (tr:Int),.bool sl] 58 (0,0))):=set3 HM4.out
 have HN5:Hid ((((w4.setCell ⟨n4,0,none⟩ (.int .i64 (tl:Int))).setCell ⟨n4,1,none⟩ (.int .i64 (tr:Int))).setCell ⟨n4,2,none⟩ (.bool sl)).heap[n0]?=some (.cells #[.int .i64 k,.int .i64 (lg:Int),.int .i64 (at_:Int),.slice va n cp] 35 (0,0))):=by
  have hne:n0≠n4:=Nat.ne_of_lt HNN.out.1
  show _=_
  rw [heap_setCell_other _ _ _ _ hne,heap_setCell_other _ _ _ _ hne,heap_setCell_other _ _ _ _ hne]
  exact HN4.out
 have HA5:Hid ((((w4.setCell ⟨n4,0,none⟩ (.int .i64 (tl:Int))).setCell ⟨n4,1,none⟩ (.int .i64 (tr:Int))).setCell ⟨n4,2,none⟩ (.bool sl)).heap[n1]?=some (.cells #[.int .i64 0,.int .i64 0,.bool false,.int .i64 0,.int .i64 0,.slice none 0 0] 32 (0,0))):=by
  have hne:n1≠n4:=Nat.ne_of_lt HNN.out.2
  show _=_
  rw [heap_setCell_other _ _ _ _ hne,heap_setCell_other _ _ _ _ hne,heap_setCell_other _ _ _ _ hne]
  exact HA4.out
 have HK5:=hide (((HK4.out.ft (ft1 (B:=B) (o:=0) (b0:=.int .i64 (tl:Int)) HM4.out (by decide) HBN.out)).ft (ft1 (B:=B) (o:=1) (b0:=.int .i64 (tr:Int)) hm1 (by decide) HBN.out)).ft (ft1 (B:=B) (o:=2) (b0:=.bool sl) hm2 (by decide) HBN.out))
 have HF5:Hid (RgF B g ls nd w (((w4.setCell ⟨n4,0,none⟩ (.int .i64 (tl:Int))).setCell ⟨n4,1,none⟩ (.int .i64 (tr:Int))).setCell ⟨n4,2,none⟩ (.bool sl))):=HF4.out.an3 (by rw [hn0];exact Nat.le_of_lt HNN.out.1) HBN.out
 have hcl:=HD5.out.lg HLG.out
 rw [HL.out] at hcl
 have HX5:Hid ((fun wx=>wx.cell? ⟨n0,1,none⟩=some (.int .i64 (lg:Int))∧wx.cell? ⟨nd,2+lg*3,none⟩=some (.int .i64 (tl:Int))∧wx.cell? ⟨nd,2+lg*3+1,none⟩=some (.int .i64 (tr:Int))∧wx.cell? ⟨nd,2+lg*3+2,none⟩=some (.bool sl)) (((w4.setCell ⟨n4,0,none⟩ (.int .i64 (tl:Int))).setCell ⟨n4,1,none⟩ (.int .i64 (tr:Int))).setCell ⟨n4,2,none⟩ (.bool sl))):=⟨aAa HN5.out,hcl.1,hcl.2.1,hcl.2.2⟩
 clear hcl hHeld m0 m1 m2 mf0 mf1 mf2 hm1 hm2 HD4 HN4 HA4 HM4 HF4 HK4
 generalize (((w4.setCell ⟨n4,0,none⟩ (.int .i64 (tl:Int))).setCell ⟨n4,1,none⟩ (.int .i64 (tr:Int))).setCell ⟨n4,2,none⟩ (.bool sl))=w5 at *
 refine hK.out _ _ HX5.out (fun hHeld=>?_)
 clear hK K
 try simp only [Act.put,siT,scZ,scS]
 refine wpAnyH_done (by kernel_rfl) ?_ _
 refine NoPanic.normal ?_
 clear hHeld
 have z0:w5.cell? ⟨n1,0,none⟩=some (.int .i64 0):=aAa HA5.out
 have zf0:w5.frozen? ⟨n1,0,none⟩=false:=aAb HA5.out
 have z1:w5.cell? ⟨n1,1,none⟩=some (.int .i64 0):=aAa HA5.out
 have zf1:w5.frozen? ⟨n1,1,none⟩=false:=aAb HA5.out
 have z2:w5.cell? ⟨n1,2,none⟩=some (.bool false):=aAa HA5.out
 have zf2:w5.frozen? ⟨n1,2,none⟩=false:=aAb HA5.out
 have z3:w5.cell? ⟨n1,3,none⟩=some (.int .i64 0):=aAa HA5.out
 have zf3:w5.frozen? ⟨n1,3,none⟩=false:=aAb HA5.out
 have z4:w5.cell? ⟨n1,4,none⟩=some (.int .i64 0):=aAa HA5.out
 have zf4:w5.frozen? ⟨n1,4,none⟩=false:=aAb HA5.out
 have z5:w5.cell? ⟨n1,5,none⟩=some (.slice none 0 0):=aAa HA5.out
 have zf5:w5.frozen? ⟨n1,5,none⟩=false:=aAb HA5.out
 have x0:w5.cell? ⟨n4,0,none⟩=some (.int .i64 (tl:Int)):=aAa HM5.out
 have xf0:w5.frozen? ⟨n4,0,none⟩=false:=aAb HM5.out
 have x1:w5.cell? ⟨n4,1,none⟩=some (.int .i64 (tr:Int)):=aAa HM5.out
 have xf1:w5.frozen? ⟨n4,1,none⟩=false:=aAb HM5.out
 have x2:w5.cell? ⟨n4,2,none⟩=some (.bool sl):=aAa HM5.out
 have xf2:w5.frozen? ⟨n4,2,none⟩=false:=aAb HM5.out
 generalize hvl:val.length=vn at *
 go_wp2
 (try simp only [Exit.inBlock,Exit.then])
 refine bodyPost_ret (results_cell_row Tryz.results7 _ _ n1 _ _ _ _ rfl (set6 HA5.out) Tryz.underlying32 rfl aE2) rfl ?_
 exact ⟨sa,sc,rfl,HK5.out.ft (ft6 HA5.out (by decide) HBA.out),HD5.out.an6 HA5.out HBA.out,HF5.out.an6 (by rw [hn0];exact HNA.out) HBA.out⟩
theorem do_arg [Gd] {B p q g ls rg nd N c u n cp:Nat} {l:List It} {L:Nat→Lg} {W w:World} {k lg at_:Int} {va:Option Addr} (h:NDM B p q g ls rg nd N c u l L W w) (hk1:k<1) :
  Calls Tryz.prog 7 #[.pointer (some ⟨nd,0,none⟩),.agg #[.int .i64 k,.int .i64 lg,.int .i64 at_,.slice va n cp]] w fun e w'=>e=.returned (.agg #[.int .i64 1,.int .i64 0,.bool false,.int .i64 0,.int .i64 0,.slice none 0 0])∧Below w.heap.size w w':=by
 have lt:∀ {k:Nat} {o:Obj} {ww:World},ww.heap[k]?=some o→k<ww.heap.size:=fun e=>(lO e)
 have HBX:=hide (aAz w (.cells #[.int .i64 k,.int .i64 lg,.int .i64 at_,.slice va n cp] 35) (.cells #[.int .i64 0,.int .i64 0,.bool false,.int .i64 0,.int .i64 0,.slice none 0 0] 32))
 have HN1:Hid (((w.alloc (.cells #[.int .i64 k,.int .i64 lg,.int .i64 at_,.slice va n cp] 35)).alloc (.cells #[.int .i64 0,.int .i64 0,.bool false,.int .i64 0,.int .i64 0,.slice none 0 0] 32)).heap[w.heap.size]?=some (.cells #[.int .i64 k,.int .i64 lg,.int .i64 at_,.slice va n cp] 35 (0,0))):=aAf [Obj.cells #[.int .i64 k,.int .i64 lg,.int .i64 at_,.slice va n cp] 35,Obj.cells #[.int .i64 0,.int .i64 0,.bool false,.int .i64 0,.int .i64 0,.slice none 0 0] 32] w 0 _ rfl
 have HA1:Hid (((w.alloc (.cells #[.int .i64 k,.int .i64 lg,.int .i64 at_,.slice va n cp] 35)).alloc (.cells #[.int .i64 0,.int .i64 0,.bool false,.int .i64 0,.int .i64 0,.slice none 0 0] 32)).heap[w.heap.size+1]?=some (.cells #[.int .i64 0,.int .i64 0,.bool false,.int .i64 0,.int .i64 0,.slice none 0 0] 32 (0,0))):=aAf [Obj.cells #[.int .i64 k,.int .i64 lg,.int .i64 at_,.slice va n cp] 35,Obj.cells #[.int .i64 0,.int .i64 0,.bool false,.int .i64 0,.int .i64 0,.slice none 0 0] 32] w 1 _ rfl
 have HRF:=hide (nref_arg (lg:=lg) (at_:=at_) (va:=va) (n:=n) (cp:=cp) (h.later HBX.out) hk1)
 clear h hk1
 go_enter Tryz.func7,Tryz.ntmps7
 go_upto_region 1 with fail
 generalize ((w.alloc (.cells #[.int .i64 k,.int .i64 lg,.int .i64 at_,.slice va n cp] 35)).alloc (.cells #[.int .i64 0,.int .i64 0,.bool false,.int .i64 0,.int .i64 0,.slice none 0 0] 32))=w1 at *
 generalize hn0:w.heap.size=n0 at *
 generalize hn1:n0+1=n1 at *
 have y0:w1.cell? ⟨n0,0,none⟩=some (.int .i64 k):=aAa HN1.out
 have yf0:w1.frozen? ⟨n0,0,none⟩=false:=aAb HN1.out
 have y1:w1.cell? ⟨n0,1,none⟩=some (.int .i64 lg):=aAa HN1.out
 have yf1:w1.frozen? ⟨n0,1,none⟩=false:=aAb HN1.out
 have y2:w1.cell? ⟨n0,2,none⟩=some (.int .i64 at_):=aAa HN1.out
 have yf2:w1.frozen? ⟨n0,2,none⟩=false:=aAb HN1.out
 have y3:w1.cell? ⟨n0,3,none⟩=some (.slice va n cp):=aAa HN1.out
 have yf3:w1.frozen? ⟨n0,3,none⟩=false:=aAb HN1.out
 go_wp2_with fail
 refine HRF.out.mono ?_
 rintro e w2 ⟨rfl,hb2⟩
 have HA2:=hide ((hb2.block n1 (lt HA1.out)).trans HA1.out)
 have HB2:Hid (Below n0 w w2):=HBX.out.trans (hb2.mono (by have:=HBX.out.size;omega))
 clear hb2 HRF HN1 HA1 HBX y0 y1 y2 y3 yf0 yf1 yf2 yf3
 have z0:w2.cell? ⟨n1,0,none⟩=some (.int .i64 0):=aAa HA2.out
 have zf0:w2.frozen? ⟨n1,0,none⟩=false:=aAb HA2.out
 have z1:w2.cell? ⟨n1,1,none⟩=some (.int .i64 0):=aAa HA2.out
 have zf1:w2.frozen? ⟨n1,1,none⟩=false:=aAb HA2.out
 have z2:w2.cell? ⟨n1,2,none⟩=some (.bool false):=aAa HA2.out
 have zf2:w2.frozen? ⟨n1,2,none⟩=false:=aAb HA2.out
 have z3:w2.cell? ⟨n1,3,none⟩=some (.int .i64 0):=aAa HA2.out
 have zf3:w2.frozen? ⟨n1,3,none⟩=false:=aAb HA2.out
 have z4:w2.cell? ⟨n1,4,none⟩=some (.int .i64 0):=aAa HA2.out
 have zf4:w2.frozen? ⟨n1,4,none⟩=false:=aAb HA2.out
 have z5:w2.cell? ⟨n1,5,none⟩=some (.slice none 0 0):=aAa HA2.out
 have zf5:w2.frozen? ⟨n1,5,none⟩=false:=aAb HA2.out
 go_wp2
 (try simp only [Exit.inBlock,Exit.then])
 refine bodyPost_ret (results_cell_row Tryz.results7 _ _ n1 _ _ _ _ rfl (set6 HA2.out) Tryz.underlying32 rfl aE2) rfl ?_
 exact ⟨rfl,by rw [hn0];exact bel6 HB2.out (by omega)⟩
def t51:Array Value:=([Value.int .i64 2,Value.int .i64 0,Value.bool true]++(List.replicate 16 [Value.int .i64 0,Value.int .i64 0,Value.bool false]).flatten).toArray
theorem t51_sz:t51.size=51:=rfl
theorem t51_ix0:∀ ww,(Instr.index 60 (.agg t51) (.int .i64 0)).run Tryz.prog ww=.ok (.agg #[.int .i64 2,.int .i64 0,.bool true]) ww:=fun ww=>by kernel_rfl
theorem t51_ix {j:Nat} (h1:1≤j) (h2:j≤16):∀ ww,(Instr.index 60 (.agg t51) (.int .i64 (j:Int))).run Tryz.prog ww=.ok (.agg #[.int .i64 0,.int .i64 0,.bool false]) ww:=by
 have h:j=1∨j=2∨j=3∨j=4∨j=5∨j=6∨j=7∨j=8∨j=9∨j=10∨j=11∨j=12∨j=13∨j=14∨j=15∨j=16:=by omega
 intro ww
 rcases h with rfl | rfl | rfl | rfl | rfl | rfl | rfl | rfl | rfl | rfl | rfl | rfl | rfl | rfl | rfl | rfl<;>kernel_rfl
theorem t51_cell {nd ls rg:Nat} {w:World} {cs:Array Value} {L:Nat→Lg} (h1:w.heap[nd]?=some (.cells cs 64 (0,0))) (h2:NDV cs ls rg L) (h0:L 0=(2,0,true)) (hz:∀ j,1≤j→j≤16→L j=(0,0,false)):∀ (j:Nat) v,t51[j]?=some v→w.cell? ⟨nd,2+j,none⟩=some v:=by
 intro j v hv
 have hj:j<51:=(lO hv)
 rw [aAa h1]
 obtain ⟨a,r,ha,hr,rfl⟩:∃ a r,a≤16∧r<3∧j=a*3+r:=⟨j / 3,j % 3,by omega,by omega,by omega⟩
 have hc:=h2.cl a ha
 by_cases h:a=0
 ·subst h
  rw [h0] at hc
  have hr:r=0∨r=1∨r=2:=by omega
  rcases hr with rfl | rfl | rfl
  ·have:v=.int .i64 2:=by have h9:t51[0*3+0]?=some (.int .i64 2):=rfl;rw [h9] at hv;cases hv;rfl
   subst this;exact hc.1
  ·have:v=.int .i64 0:=by have h9:t51[0*3+1]?=some (.int .i64 0):=rfl;rw [h9] at hv;cases hv;rfl
   subst this;exact hc.2.1
  ·have:v=.bool true:=by have h9:t51[0*3+2]?=some (.bool true):=rfl;rw [h9] at hv;cases hv;rfl
   subst this;exact hc.2.2
 ·rw [hz a (by omega) ha] at hc
  have ht:t51[a*3]?=some (.int .i64 0)∧t51[a*3+1]?=some (.int .i64 0)∧t51[a*3+2]?=some (.bool false):=by
   have h:a=1∨a=2∨a=3∨a=4∨a=5∨a=6∨a=7∨a=8∨a=9∨a=10∨a=11∨a=12∨a=13∨a=14∨a=15∨a=16:=by omega
   rcases h with rfl | rfl | rfl | rfl | rfl | rfl | rfl | rfl | rfl | rfl | rfl | rfl | rfl | rfl | rfl | rfl<;>exact ⟨rfl,rfl,rfl⟩
  have hr:r=0∨r=1∨r=2:=by omega
  rcases hr with rfl | rfl | rfl
  ·have:=ht.1.symm.trans hv;cases this;exact hc.1
  ·have:=ht.2.1.symm.trans hv;cases this;exact hc.2.1
  ·have:=ht.2.2.symm.trans hv;cases this;exact hc.2.2
theorem logs_one [Gd] {B p q g ls rg nd N c u:Nat} {l:List It} {L:Nat→Lg} {W w:World} (h:NDM B p q g ls rg nd N c u l L W w) (h0:L 0=(2,0,true)) (hz:∀ j,1≤j→j≤16→L j=(0,0,false)) :
  Calls Tryz.prog 18 #[.pointer (some ⟨nd,0,none⟩)] w fun e w'=>(∃ a c,e=.returned (.slice a 1 c))∧Below w.heap.size w w':=by
 obtain ⟨i0,hi,hz0,hz1,hz2⟩:=info_parts aGh
 obtain ⟨cs,h1,h2⟩:=h.v
 have HLD:=hide (aDh (w:=w) (g:=nd) (o:=2) (ty:=60) (cs:=t51) (t51_cell h1 h2 h0 hz) Tryz.underlying60 rfl (by rw [t51_sz];exact aEd))
 have hx0:=t51_ix0
 have HXJ:=hide (fun (j:Nat) (h1:1≤j) (h2:j≤16)=>t51_ix h1 h2)
 generalize t51=tA at *
 clear h h1 h2 h0 hz
 go_enter Tryz.func18,Tryz.ntmps18
 go_wp2_with (refine wpList_load_row rfl (.tmp 8) 60 rfl rfl HLD.out ?_)
 go_loopw [3,10] (fun v i wx=>∃ j:Nat,j≤17∧i=.int .i64 j∧(j=0→v=.slice none 0 0)∧(1≤j→∃ a c,v=.slice a 1 c)∧Below w.heap.size w wx) (fun _ i _=>17-(intOf i).toNat)
 case atStart=>exact ⟨0,by omega,rfl,fun _=>rfl,fun h=>absurd h (by omega),Below.refl _ _⟩
 case round =>
  obtain ⟨j,hj,rfl,hv0,hv1,hb⟩:=hrel
  have HB:=hide hb
  clear hb
  by_cases hjn:j<17
  ·have i1:(j:Int)<17:=by omega
   by_cases hj0:j=0
   ·subst hj0
    have hv:=hv0 rfl
    subst hv
    clear hv0 hv1
    have hx1:∀ ww,(Instr.index 60 (.agg tA) (.int .i64 ((0:Nat):Int))).run Tryz.prog ww=.ok (.agg #[.int .i64 2,.int .i64 0,.bool true]) ww:=hx0
    have HB9:Hid (Below w.heap.size w ((wr.alloc (.cells #[.int .i64 2,.int .i64 0,.bool true] 58)).alloc (.cells #[.int .i64 0] 3))):=HB.out.trans ((aAz wr _ _).mono HB.out.size)
    have HN9:Hid (((wr.alloc (.cells #[.int .i64 2,.int .i64 0,.bool true] 58)).alloc (.cells #[.int .i64 0] 3)).heap[wr.heap.size+1]?=some (.cells #[.int .i64 0] 3 (0,0))):=aAf [Obj.cells #[.int .i64 2,.int .i64 0,.bool true] 58,Obj.cells #[.int .i64 0] 3] wr 1 _ rfl
    go_wp2_with fail
    refine ⟨⟨1,by omega,rfl,fun h=>absurd h (by omega),fun _=>⟨_,_,rfl⟩,(HB9.out.trans ((aAc _ _).mono HB9.out.size)).drew⟩,by decide⟩
   ·obtain ⟨a,c,rfl⟩:=hv1 (by omega)
    have hxj:=HXJ.out j (by omega) (by omega)
    clear hv0 hv1
    have hb9:=hide (HB.out.trans ((aAc wr (.cells #[.int .i64 0,.int .i64 0,.bool false] 58)).mono HB.out.size))
    go_wp2_with fail
    go_roundw
    case rel=>exact ⟨j+1,by omega,by go_num,fun h=>absurd h (by omega),fun _=>⟨a,c,rfl⟩,hb9.out⟩
    case measure=>simp [intOf];omega
  ·have i1:¬ (j:Int)<17:=by omega
   obtain ⟨a,c,rfl⟩:=hv1 (by omega)
   go_wp2
   go_ret
   exact ⟨⟨a,c,rfl⟩,HB.out⟩
def NX [Gd] (B p q g ls rg nd N m:Nat) (l:List It) (L:Nat→Lg) (W w:World):Prop:=∃ c u,NDM B p q g ls rg nd N c u l L W w∧c≤m∧u≤m∧l.length≤m
section
variable [Gd] {B p q g ls rg nd N m:Nat} {l:List It} {L:Nat→Lg} {W w w':World}
theorem NX.later (h:NX B p q g ls rg nd N m l L W w) (hb:Below w.heap.size w w'):NX B p q g ls rg nd N m l L W w':=by
 obtain ⟨c,u,h1,h2⟩:=h
 exact ⟨c,u,h1.later hb,h2⟩
theorem NX.be (h:NX B p q g ls rg nd N m l L W w):Below B W w:=by
 obtain ⟨c,u,h1,h2⟩:=h
 exact h1.s.kx.be
theorem NX.bw (h:NX B p q g ls rg nd N m l L W w):B≤w.heap.size:=by
 obtain ⟨c,u,h1,h2⟩:=h
 exact h1.bw
theorem NX.srt (h:NX B p q g ls rg nd N m l L W w):Srt l:=by
 obtain ⟨c,u,h1,h2⟩:=h
 exact h1.s.kx.srt
theorem NX.ft (h:NX B p q g ls rg nd N m l L W w) (f:RgF B g ls nd w w'):FT B w w':=by
 obtain ⟨c,u,h1,h2⟩:=h
 exact h1.ft f
theorem NX.keep {t:TypeId} {k:Nat} {cs:Array Value} {fz:Nat×Nat} (h:NX B p q g ls rg nd N m l L W w) (f:RgF B g ls nd w w') (e:w.heap[k]?=some (.cells cs t fz)) (hn:NT t) (h1:t≠127) (h2:t≠81) (h3:t≠64):w'.heap[k]?=some (.cells cs t fz):=by
 obtain ⟨c,u,k1,k2⟩:=h
 exact k1.keep f e hn h1 h2 h3
end
theorem aEj (L:Nat→Lg) (j:Nat) (x:Lg):upL L j x j=x:=if_pos rfl
theorem up_ne (L:Nat→Lg) {i j:Nat} (x:Lg) (h:i≠j):upL L j x i=L i:=if_neg h
theorem NX.w [Gd] {B p q g ls rg nd N m lg n cp tl tr:Nat} {sl:Bool} {l:List It} {L:Nat→Lg} {W w:World} {va:Option Addr} {k:Int} {val:List Nat} (h:NX B p q g ls rg nd N m l L W w) (hlg:lg≤16) (hg0:Gd.g=none) (HL:L lg=(tl,tr,sl)) (hk:k=if sl=true then 2 else 1) (htl:tl<256) (hm:m+21≤N) (hm2:m≤80) (hv:BK B w va n cp val) (hn:n≤1800) :
  Calls Tryz.prog 7 #[.pointer (some ⟨nd,0,none⟩),.agg #[.int .i64 k,.int .i64 (lg:Int),.int .i64 (tl:Int),.slice va n cp]] w fun e w'=>∃ sa sc,e=.returned (.agg #[.int .i64 0,.int .i64 ((tl:Int)+1),.bool sl,.int .i64 (tr:Int),.int .i64 0,.slice sa ([]:List Nat).length sc])∧BK B w' sa ([]:List Nat).length sc ([]:List Nat)∧NX B p q g ls rg nd N (m+1) (putL l ([0,lg,tl],val)) (upL L lg (tl+1,tr,sl)) W w'∧RgF B g ls nd w w':=by
 obtain ⟨c,u,h1,h2,h3,h4⟩:=h
 have har:∀ x∈[(([lg,tl],val):It)],0<x.1.length∧x.1.length≤60∧x.2.length≤1800∧(∀ n∈x.1,n<256)∧∀ n∈x.2,n<256:=by
  intro x hx
  simp only [List.mem_singleton] at hx
  subst hx
  refine ⟨by show 0<2;decide,by show 2≤60;decide,by show val.length≤1800;have:=hv.1.hlen;omega,fun y hy=>?_,hv.1.hbyte⟩
  have hy:y=lg∨y=tl:=by simpa using hy
  omega
 cases sl with
 | false =>
  have hk:k=1:=by simpa using hk
  subst hk
  refine (aGq (c':=c+1) (u':=(apL0 l [([lg,tl],val)]).length) (l':=apL0 l [([lg,tl],val)]) (L':=upL L lg (tl+1,tr,false)) (val:=[]) (e0:=0) h1 (by decide) (by decide) hlg hn (by decide) (tl:=tl+1) (tr:=tr) (sl:=false) (aEj L lg _) (fun ww hww hbw=>?_)).mono ?_
  ·refine (serve_w (k:=1) (val:=val) hww hlg HL (by decide) hg0 hv.1.hlen (hv.later hbw h1.bw) htl ⟨by omega,by omega,by show u+9*1+11≤N;omega,by omega,by show l.length+1<90;omega,har⟩ (fun w9=>lgr_w (sl:=false) w9 htl) (fun w9=>lgb_w w9 rfl (by omega))).mono ?_
   rintro e w' ⟨rfl,q1,q2⟩
   exact ⟨none,0,rfl,BK.nil _ _,q1,q2⟩
  ·rintro e w' ⟨sa,sc,rfl,q0,q1,q2⟩
   have hl9:=aEf l [([lg,tl],val)]
   have hl8:[(([lg,tl],val):It)].length=1:=rfl
   rw [hl8] at hl9
   exact ⟨sa,sc,rfl,q0,⟨_,_,q1,by omega,by omega,by show (apL0 l [([lg,tl],val)]).length≤m+1;omega⟩,q2⟩
 | true =>
  have hk:k=2:=by simpa using hk
  subst hk
  refine (aGq (c':=c+1) (u':=(apL0 l [([lg,tl],val)]).length) (l':=apL0 l [([lg,tl],val)]) (L':=upL L lg (tl+1,tr,true)) (val:=[]) (e0:=0) h1 (by decide) (by decide) hlg hn (by decide) (tl:=tl+1) (tr:=tr) (sl:=true) (aEj L lg _) (fun ww hww hbw=>?_)).mono ?_
  ·refine (serve_w (k:=2) (val:=val) hww hlg HL (by decide) hg0 hv.1.hlen (hv.later hbw h1.bw) htl ⟨by omega,by omega,by show u+9*1+11≤N;omega,by omega,by show l.length+1<90;omega,har⟩ (fun w9=>lgr_f (sl:=true) w9 htl) (fun w9=>lgb_f w9 rfl (by omega))).mono ?_
   rintro e w' ⟨rfl,q1,q2⟩
   exact ⟨none,0,rfl,BK.nil _ _,q1,q2⟩
  ·rintro e w' ⟨sa,sc,rfl,q0,q1,q2⟩
   have hl9:=aEf l [([lg,tl],val)]
   have hl8:[(([lg,tl],val):It)].length=1:=rfl
   rw [hl8] at hl9
   exact ⟨sa,sc,rfl,q0,⟨_,_,q1,by omega,by omega,by show (apL0 l [([lg,tl],val)]).length≤m+1;omega⟩,q2⟩
theorem NX.same [Gd] {B p q g ls rg nd N m lg at_ n cp tl tr:Nat} {sl:Bool} {l:List It} {L:Nat→Lg} {W w:World} {va:Option Addr} {k:Int} (h:NX B p q g ls rg nd N m l L W w) (hlg:lg≤16) (HL:L lg=(tl,tr,sl)) (hk:k=if sl=true then 2 else 1) (hat:at_<256) (hne:at_≠tl) (hn:n≤1800) :
  Calls Tryz.prog 7 #[.pointer (some ⟨nd,0,none⟩),.agg #[.int .i64 k,.int .i64 (lg:Int),.int .i64 (at_:Int),.slice va n cp]] w fun e w'=>∃ sa sc,e=.returned (.agg #[.int .i64 0,.int .i64 (tl:Int),.bool sl,.int .i64 (tr:Int),.int .i64 0,.slice sa ([]:List Nat).length sc])∧BK B w' sa ([]:List Nat).length sc ([]:List Nat)∧NX B p q g ls rg nd N m l L W w'∧RgF B g ls nd w w':=by
 obtain ⟨c,u,h1,h2,h3,h4⟩:=h
 cases sl with
 | false =>
  have hk:k=1:=by simpa using hk
  subst hk
  refine (aGq (c':=c) (u':=u) (l':=l) (L':=L) (val:=[]) (e0:=0) h1 (by decide) (by decide) hlg hn (by decide) HL (fun ww hww hbw=>?_)).mono ?_
  ·refine (aFo (k:=1) hww hlg HL (by decide) (fun w9=>lgr_w (sl:=false) w9 hat) (fun w9=>lgb_wn w9 hne)).mono ?_
   rintro e w' ⟨rfl,q1⟩
   exact ⟨none,0,rfl,BK.nil _ _,hww.later q1,RgF.of q1 hww.bw⟩
  ·rintro e w' ⟨sa,sc,rfl,q0,q1,q2⟩
   exact ⟨sa,sc,rfl,q0,⟨c,u,q1,h2,h3,h4⟩,q2⟩
 | true =>
  have hk:k=2:=by simpa using hk
  subst hk
  refine (aGq (c':=c) (u':=u) (l':=l) (L':=L) (val:=[]) (e0:=0) h1 (by decide) (by decide) hlg hn (by decide) HL (fun ww hww hbw=>?_)).mono ?_
  ·refine (aFo (k:=2) hww hlg HL (by decide) (fun w9=>lgr_f (sl:=true) w9 hat) (fun w9=>lgb_fn w9 hne)).mono ?_
   rintro e w' ⟨rfl,q1⟩
   exact ⟨none,0,rfl,BK.nil _ _,hww.later q1,RgF.of q1 hww.bw⟩
  ·rintro e w' ⟨sa,sc,rfl,q0,q1,q2⟩
   exact ⟨sa,sc,rfl,q0,⟨c,u,q1,h2,h3,h4⟩,q2⟩
theorem NX.wsealed [Gd] {B p q g ls rg nd N m lg at_ n cp tl tr:Nat} {l:List It} {L:Nat→Lg} {W w:World} {va:Option Addr} (h:NX B p q g ls rg nd N m l L W w) (hlg:lg≤16) (HL:L lg=(tl,tr,true)) (hn:n≤1800) :
  Calls Tryz.prog 7 #[.pointer (some ⟨nd,0,none⟩),.agg #[.int .i64 1,.int .i64 (lg:Int),.int .i64 (at_:Int),.slice va n cp]] w fun e w'=>∃ sa sc,e=.returned (.agg #[.int .i64 30,.int .i64 (tl:Int),.bool true,.int .i64 (tr:Int),.int .i64 0,.slice sa ([]:List Nat).length sc])∧BK B w' sa ([]:List Nat).length sc ([]:List Nat)∧NX B p q g ls rg nd N m l L W w'∧RgF B g ls nd w w':=by
 obtain ⟨c,u,h1,h2,h3,h4⟩:=h
 refine (aGq (c':=c) (u':=u) (l':=l) (L':=L) (val:=[]) (e0:=30) h1 (by decide) (by decide) hlg hn (by decide) HL (fun ww hww hbw=>?_)).mono ?_
 ·refine (aEo (k:=1) (e0:=30) hww hlg HL (by decide) (fun w9=>lgr_ws (sl:=true) w9)).mono ?_
  rintro e w' ⟨rfl,q1⟩
  exact ⟨none,0,rfl,BK.nil _ _,hww.later q1,RgF.of q1 hww.bw⟩
 ·rintro e w' ⟨sa,sc,rfl,q0,q1,q2⟩
  exact ⟨sa,sc,rfl,q0,⟨c,u,q1,h2,h3,h4⟩,q2⟩
theorem NX.wmany [Gd] {B p q g ls rg nd N m lg at_ n cp tl tr:Nat} {l:List It} {L:Nat→Lg} {W w:World} {va:Option Addr} (h:NX B p q g ls rg nd N m l L W w) (hlg:lg≤16) (HL:L lg=(tl,tr,false)) (hat:256≤at_) (hn:n≤1800) :
  Calls Tryz.prog 7 #[.pointer (some ⟨nd,0,none⟩),.agg #[.int .i64 1,.int .i64 (lg:Int),.int .i64 (at_:Int),.slice va n cp]] w fun e w'=>∃ sa sc,e=.returned (.agg #[.int .i64 2,.int .i64 (tl:Int),.bool false,.int .i64 (tr:Int),.int .i64 0,.slice sa ([]:List Nat).length sc])∧BK B w' sa ([]:List Nat).length sc ([]:List Nat)∧NX B p q g ls rg nd N m l L W w'∧RgF B g ls nd w w':=by
 obtain ⟨c,u,h1,h2,h3,h4⟩:=h
 refine (aGq (c':=c) (u':=u) (l':=l) (L':=L) (val:=[]) (e0:=2) h1 (by decide) (by decide) hlg hn (by decide) HL (fun ww hww hbw=>?_)).mono ?_
 ·refine (aEo (k:=1) (e0:=2) hww hlg HL (by decide) (fun w9=>lgr_wm (sl:=false) w9 hat)).mono ?_
  rintro e w' ⟨rfl,q1⟩
  exact ⟨none,0,rfl,BK.nil _ _,hww.later q1,RgF.of q1 hww.bw⟩
 ·rintro e w' ⟨sa,sc,rfl,q0,q1,q2⟩
  exact ⟨sa,sc,rfl,q0,⟨c,u,q1,h2,h3,h4⟩,q2⟩
theorem NX.rnone [Gd] {B p q g ls rg nd N m lg at_ n cp tl tr:Nat} {sl:Bool} {l:List It} {L:Nat→Lg} {W w:World} {va:Option Addr} (h:NX B p q g ls rg nd N m l L W w) (hlg:lg≤16) (HL:L lg=(tl,tr,sl)) (hat:tr≤at_) (hat2:at_=tl) (hn:n≤1800) :
  Calls Tryz.prog 7 #[.pointer (some ⟨nd,0,none⟩),.agg #[.int .i64 5,.int .i64 (lg:Int),.int .i64 (at_:Int),.slice va n cp]] w fun e w'=>∃ sa sc,e=.returned (.agg #[.int .i64 4,.int .i64 (tl:Int),.bool sl,.int .i64 (tr:Int),.int .i64 0,.slice sa ([]:List Nat).length sc])∧BK B w' sa ([]:List Nat).length sc ([]:List Nat)∧NX B p q g ls rg nd N m l L W w'∧RgF B g ls nd w w':=by
 obtain ⟨c,u,h1,h2,h3,h4⟩:=h
 refine (aGq (c':=c) (u':=u) (l':=l) (L':=L) (val:=[]) (e0:=4) h1 (by decide) (by decide) hlg hn (by decide) HL (fun ww hww hbw=>?_)).mono ?_
 ·refine (aEo (k:=5) (e0:=4) hww hlg HL (by decide) (fun w9=>lgr_rn w9 hat hat2)).mono ?_
  rintro e w' ⟨rfl,q1⟩
  exact ⟨none,0,rfl,BK.nil _ _,hww.later q1,RgF.of q1 hww.bw⟩
 ·rintro e w' ⟨sa,sc,rfl,q0,q1,q2⟩
  exact ⟨sa,sc,rfl,q0,⟨c,u,q1,h2,h3,h4⟩,q2⟩
theorem NX.r [Gd] {B p q g ls rg nd N m lg at_ n cp tl tr:Nat} {sl:Bool} {l:List It} {L:Nat→Lg} {W w:World} {va:Option Addr} {val:List Nat} (h:NX B p q g ls rg nd N m l L W w) (hlg:lg≤16) (HL:L lg=(tl,tr,sl)) (hat:tr≤at_) (hat2:at_<tl) (hat3:at_<256) (hval:valL l [0,lg,at_]=some val) (hn:n≤1800) :
  Calls Tryz.prog 7 #[.pointer (some ⟨nd,0,none⟩),.agg #[.int .i64 5,.int .i64 (lg:Int),.int .i64 (at_:Int),.slice va n cp]] w fun e w'=>∃ sa sc,e=.returned (.agg #[.int .i64 0,.int .i64 (tl:Int),.bool sl,.int .i64 (tr:Int),.int .i64 0,.slice sa val.length sc])∧BK B w' sa val.length sc val∧NX B p q g ls rg nd N m l L W w'∧RgF B g ls nd w w':=by
 obtain ⟨c,u,h1,h2,h3,h4⟩:=h
 refine (aGq (c':=c) (u':=u) (l':=l) (L':=L) (val:=val) (e0:=0) h1 (by decide) (by decide) hlg hn (by decide) HL (fun ww hww hbw=>?_)).mono ?_
 ·refine (serve_read (k:=5) hww hlg HL rfl hat3 hval (fun w9=>lgr_r w9 hat hat2)).mono ?_
  rintro e w' ⟨sa,sc,rfl,q0,q1⟩
  exact ⟨sa,sc,rfl,q0,hww.later q1,RgF.of q1 hww.bw⟩
 ·rintro e w' ⟨sa,sc,rfl,q0,q1,q2⟩
  exact ⟨sa,sc,rfl,q0,⟨c,u,q1,h2,h3,h4⟩,q2⟩
theorem NX.s [Gd] {B p q g ls rg nd N m lg at_ n cp tl:Nat} {l:List It} {L:Nat→Lg} {W w:World} {va:Option Addr} (h:NX B p q g ls rg nd N m l L W w) (hlg:lg≤16) (hg0:Gd.g=none) (HL:L lg=(tl,0,false)) (hm:m+21≤N) (hm2:m≤80) (hn:n≤1800) :
  Calls Tryz.prog 7 #[.pointer (some ⟨nd,0,none⟩),.agg #[.int .i64 3,.int .i64 (lg:Int),.int .i64 (at_:Int),.slice va n cp]] w fun e w'=>∃ sa sc,e=.returned (.agg #[.int .i64 0,.int .i64 (tl:Int),.bool true,.int .i64 0,.int .i64 0,.slice sa ([]:List Nat).length sc])∧BK B w' sa ([]:List Nat).length sc ([]:List Nat)∧NX B p q g ls rg nd N (m+1) (putL l ([0,lg],[1])) (upL L lg (tl,0,true)) W w'∧RgF B g ls nd w w':=by
 obtain ⟨c,u,h1,h2,h3,h4⟩:=h
 have har:∀ x∈[(([lg],[1]):It)],0<x.1.length∧x.1.length≤60∧x.2.length≤1800∧(∀ n∈x.1,n<256)∧∀ n∈x.2,n<256:=by
  intro x hx
  simp only [List.mem_singleton] at hx
  subst hx
  refine ⟨by show 0<1;decide,by show 1≤60;decide,by show 1≤1800;decide,fun y hy=>?_,fun y hy=>?_⟩
  ·have hy:y=lg:=by simpa using hy
   omega
  ·have hy:y=1:=by simpa using hy
   omega
 refine (aGq (c':=c+1) (u':=(apL0 l [([lg],[1])]).length) (l':=apL0 l [([lg],[1])]) (L':=upL L lg (tl,0,true)) (val:=[]) (e0:=0) h1 (by decide) (by decide) hlg hn (by decide) (tl:=tl) (tr:=0) (sl:=true) (aEj L lg _) (fun ww hww hbw=>?_)).mono ?_
 ·refine (serve_s (k:=3) (val:=[1]) hww hlg HL (by decide) hg0 ⟨by omega,by omega,by show u+9*1+11≤N;omega,by omega,by show l.length+1<90;omega,har⟩ (fun w9=>lgr_s w9) (fun w9=>lgb_s w9) (fun w9 hB=>changes_s hB (by omega))).mono ?_
  rintro e w' ⟨rfl,q1,q2⟩
  exact ⟨none,0,rfl,BK.nil _ _,q1,q2⟩
 ·rintro e w' ⟨sa,sc,rfl,q0,q1,q2⟩
  have hl9:=aEf l [([lg],[1])]
  have hl8:[(([lg],[1]):It)].length=1:=rfl
  rw [hl8] at hl9
  exact ⟨sa,sc,rfl,q0,⟨_,_,q1,by omega,by omega,by show (apL0 l [([lg],[1])]).length≤m+1;omega⟩,q2⟩
abbrev L0:Nat→Lg:=fun _=>(0,0,false)
theorem told8 (w:World):Calls Tryz.prog 8 #[] w fun e w'=>e=.returned (.bool true)∧Below w.heap.size w w':=by
 letI:Gd:=⟨none⟩
 have hg0:Gd.g=none:=rfl
 have lt:∀ {k:Nat} {o:Obj} {ww:World},ww.heap[k]?=some o→k<ww.heap.size:=fun e=>(lO e)
 obtain ⟨s0,hs0⟩:∃ s,s=DS.new 60:=⟨_,rfl⟩
 have HS0:=hide hs0
 have HNW:=hide (new_any w.heap.size 60 w (by omega) (by omega) (nR _) hg0)
 rw [←hs0] at HNW
 clear hs0
 generalize hB:w.heap.size=B at *
 go_enter Tryz.func8,Tryz.ntmps8
 go_wp2_with fail
 refine HNW.out.mono ?_
 rintro e w1 ⟨p,rfl,hD,hb1⟩
 have HOP:=hide (nopen_new (W:=w) (n:=60) HS0.out hD (by have:=hb1.size;omega) hb1 (by decide) (by decide))
 clear hD hb1 HNW
 go_wp2_with fail
 refine HOP.out.mono ?_
 rintro e x0 ⟨q,g,ls,rg,nd,rfl,h2⟩
 have HX0:Hid (NX B p q g ls rg nd 60 0 [] L0 w x0):=⟨0,0,h2,by decide,by decide,by decide⟩
 clear h2 HOP
 have HBY:=hide (aAc x0 (.cells #[.int .u8 7] 5))
 have HXY:=hide (HX0.out.later HBY.out)
 obtain ⟨oa,oc,ov,ok⟩:=BK.owned (B:=B) (xs:=[7]) (aGc x0 7) (by simp) (by intro n hn;simp at hn;omega)
 simp only [Value.slice.injEq] at ov
 obtain ⟨rfl,ho,rfl⟩:=ov
 clear ho
 have HD:Hid (Calls Tryz.prog 7 #[.pointer (some ⟨nd,0,none⟩),.agg #[.int .i64 1,.int .i64 0,.int .i64 0,.slice (some ⟨x0.heap.size,0,none⟩) 1 1]] (x0.alloc (.cells #[.int .u8 7] 5)) fun e w'=>∃ sa sc,e=.returned (.agg #[.int .i64 0,.int .i64 1,.bool false,.int .i64 0,.int .i64 0,.slice sa 0 sc])∧BK B w' sa 0 sc ([]:List Nat)∧NX B p q g ls rg nd 60 1 (putL [] ([0,0,0],[7])) (upL L0 0 (1,0,false)) w w'∧RgF B g ls nd (x0.alloc (.cells #[.int .u8 7] 5)) w'):=NX.w (lg:=0) (tl:=0) (tr:=0) (sl:=false) (val:=[7]) HXY.out (by decide) hg0 rfl rfl (by decide) (by decide) (by decide) ok (by decide)
 clear ok
 go_wp2_with fail
 refine HD.out.mono ?_
 rintro e w1 ⟨s1,c1,rfl,hk1,hx1,hf1⟩
 have HBA:=hide (aAc w1 (.cells #[.int .i64 0,.int .i64 1,.bool false,.int .i64 0,.int .i64 0,.slice s1 0 c1] 32))
 have HX1:=hide (hx1.later HBA.out)
 have HA1:Hid ((w1.alloc (.cells #[.int .i64 0,.int .i64 1,.bool false,.int .i64 0,.int .i64 0,.slice s1 0 c1] 32)).heap[w1.heap.size]?=some (.cells #[.int .i64 0,.int .i64 1,.bool false,.int .i64 0,.int .i64 0,.slice s1 0 c1] 32 (0,0))):=heap_alloc_new w1 _
 clear hk1 hx1 hf1 HD HBA HXY HX0 HBY
 go_upto_region 8 with fail
 generalize w1.alloc (.cells #[.int .i64 0,.int .i64 1,.bool false,.int .i64 0,.int .i64 0,.slice s1 0 c1] 32)=x1 at *
 generalize w1.heap.size=n1 at *
 have HBY:=hide (aAc x1 (.cells #[.int .u8 8] 5))
 have HXY:=hide (HX1.out.later HBY.out)
 have HD:Hid (Calls Tryz.prog 7 #[.pointer (some ⟨nd,0,none⟩),.agg #[.int .i64 1,.int .i64 0,.int .i64 2,.slice (some ⟨x1.heap.size,0,none⟩) 1 1]] (x1.alloc (.cells #[.int .u8 8] 5)) fun e w'=>∃ sa sc,e=.returned (.agg #[.int .i64 0,.int .i64 1,.bool false,.int .i64 0,.int .i64 0,.slice sa 0 sc])∧BK B w' sa 0 sc ([]:List Nat)∧NX B p q g ls rg nd 60 1 (putL [] ([0,0,0],[7])) (upL L0 0 (1,0,false)) w w'∧RgF B g ls nd (x1.alloc (.cells #[.int .u8 8] 5)) w'):=NX.same (lg:=0) (at_:=2) (tl:=1) (tr:=0) (sl:=false) HXY.out (by decide) rfl rfl (by decide) (by decide) (by decide)
 go_wp2_with fail
 refine HD.out.mono ?_
 rintro e w2 ⟨s2,c2,rfl,hk2,hx2,hf2⟩
 have HA1w:=hide (HXY.out.keep hf2 ((HBY.out.block _ (lt HA1.out)).trans HA1.out) (by decide) (by decide) (by decide) (by decide))
 have HBA:=hide (aAc w2 (.cells #[.int .i64 0,.int .i64 1,.bool false,.int .i64 0,.int .i64 0,.slice s2 0 c2] 32))
 have HX2:=hide (hx2.later HBA.out)
 have HA2:Hid ((w2.alloc (.cells #[.int .i64 0,.int .i64 1,.bool false,.int .i64 0,.int .i64 0,.slice s2 0 c2] 32)).heap[w2.heap.size]?=some (.cells #[.int .i64 0,.int .i64 1,.bool false,.int .i64 0,.int .i64 0,.slice s2 0 c2] 32 (0,0))):=heap_alloc_new w2 _
 have HA1:=hide ((HBA.out.block _ (lt HA1w.out)).trans HA1w.out)
 clear hk2 hx2 hf2 HD HBA HXY HX1 HBY HA1w
 go_upto_region 9 with fail
 generalize w2.alloc (.cells #[.int .i64 0,.int .i64 1,.bool false,.int .i64 0,.int .i64 0,.slice s2 0 c2] 32)=x2 at *
 generalize w2.heap.size=n2 at *
 have HXY:=hide HX2.out
 have HD:Hid (Calls Tryz.prog 7 #[.pointer (some ⟨nd,0,none⟩),.agg #[.int .i64 5,.int .i64 0,.int .i64 0,.slice none 0 0]] x2 fun e w'=>∃ sa sc,e=.returned (.agg #[.int .i64 0,.int .i64 1,.bool false,.int .i64 0,.int .i64 0,.slice sa 1 sc])∧BK B w' sa 1 sc [7]∧NX B p q g ls rg nd 60 1 (putL [] ([0,0,0],[7])) (upL L0 0 (1,0,false)) w w'∧RgF B g ls nd x2 w'):=NX.r (lg:=0) (at_:=0) (tl:=1) (tr:=0) (sl:=false) (val:=[7]) HXY.out (by decide) rfl (by decide) (by decide) (by decide) rfl (by decide)
 go_wp2_with fail
 refine HD.out.mono ?_
 rintro e w3 ⟨s3,c3,rfl,hk3,hx3,hf3⟩
 have HA1w:=hide (HXY.out.keep hf3 HA1.out (by decide) (by decide) (by decide) (by decide))
 have HA2w:=hide (HXY.out.keep hf3 HA2.out (by decide) (by decide) (by decide) (by decide))
 have HBA:=hide (aAc w3 (.cells #[.int .i64 0,.int .i64 1,.bool false,.int .i64 0,.int .i64 0,.slice s3 1 c3] 32))
 have HX3:=hide (hx3.later HBA.out)
 have HA3:Hid ((w3.alloc (.cells #[.int .i64 0,.int .i64 1,.bool false,.int .i64 0,.int .i64 0,.slice s3 1 c3] 32)).heap[w3.heap.size]?=some (.cells #[.int .i64 0,.int .i64 1,.bool false,.int .i64 0,.int .i64 0,.slice s3 1 c3] 32 (0,0))):=heap_alloc_new w3 _
 have HA1:=hide ((HBA.out.block _ (lt HA1w.out)).trans HA1w.out)
 have HA2:=hide ((HBA.out.block _ (lt HA2w.out)).trans HA2w.out)
 have HK:=hide (hk3.later HBA.out hx3.bw)
 clear hk3 hx3 hf3 HD HBA HXY HX2 HA1w HA2w
 go_upto_region 10 with fail
 generalize w3.alloc (.cells #[.int .i64 0,.int .i64 1,.bool false,.int .i64 0,.int .i64 0,.slice s3 1 c3] 32)=x3 at *
 generalize w3.heap.size=n3 at *
 have HXY:=hide HX3.out
 have HD:Hid (Calls Tryz.prog 7 #[.pointer (some ⟨nd,0,none⟩),.agg #[.int .i64 3,.int .i64 0,.int .i64 0,.slice none 0 0]] x3 fun e w'=>∃ sa sc,e=.returned (.agg #[.int .i64 0,.int .i64 1,.bool true,.int .i64 0,.int .i64 0,.slice sa 0 sc])∧BK B w' sa 0 sc ([]:List Nat)∧NX B p q g ls rg nd 60 2 (putL (putL [] ([0,0,0],[7])) ([0,0],[1])) (upL (upL L0 0 (1,0,false)) 0 (1,0,true)) w w'∧RgF B g ls nd x3 w'):=NX.s (lg:=0) (at_:=0) (tl:=1) HXY.out (by decide) hg0 rfl (by decide) (by decide) (by decide)
 go_wp2_with fail
 refine HD.out.mono ?_
 rintro e w4 ⟨s4,c4,rfl,hk4,hx4,hf4⟩
 have HA1w:=hide (HXY.out.keep hf4 HA1.out (by decide) (by decide) (by decide) (by decide))
 have HA2w:=hide (HXY.out.keep hf4 HA2.out (by decide) (by decide) (by decide) (by decide))
 have HA3w:=hide (HXY.out.keep hf4 HA3.out (by decide) (by decide) (by decide) (by decide))
 have HKw:=hide (HK.out.ft (HXY.out.ft hf4))
 have HX4:Hid (NX B p q g ls rg nd 60 2 (putL (putL [] ([0,0,0],[7])) ([0,0],[1])) (upL (upL L0 0 (1,0,false)) 0 (1,0,true)) w w4):=hx4
 have HA1:=hide HA1w.out
 have HA2:=hide HA2w.out
 have HA3:=hide HA3w.out
 have HK:=hide HKw.out
 clear hk4 hx4 hf4 HD HXY HX3 HA1w HA2w HA3w HKw
 have HXY:=hide HX4.out
 have HD:Hid (Calls Tryz.prog 7 #[.pointer (some ⟨nd,0,none⟩),.agg #[.int .i64 1,.int .i64 0,.int .i64 1,.slice none 0 0]] w4 fun e w'=>∃ sa sc,e=.returned (.agg #[.int .i64 30,.int .i64 1,.bool true,.int .i64 0,.int .i64 0,.slice sa 0 sc])∧BK B w' sa 0 sc ([]:List Nat)∧NX B p q g ls rg nd 60 2 (putL (putL [] ([0,0,0],[7])) ([0,0],[1])) (upL (upL L0 0 (1,0,false)) 0 (1,0,true)) w w'∧RgF B g ls nd w4 w'):=NX.wsealed (lg:=0) (at_:=1) (tl:=1) (tr:=0) HXY.out (by decide) rfl (by decide)
 go_wp2_with fail
 refine HD.out.mono ?_
 rintro e w5 ⟨s5,c5,rfl,hk5,hx5,hf5⟩
 have HA1w:=hide (HXY.out.keep hf5 HA1.out (by decide) (by decide) (by decide) (by decide))
 have HA2w:=hide (HXY.out.keep hf5 HA2.out (by decide) (by decide) (by decide) (by decide))
 have HA3w:=hide (HXY.out.keep hf5 HA3.out (by decide) (by decide) (by decide) (by decide))
 have HKw:=hide (HK.out.ft (HXY.out.ft hf5))
 have HBA:=hide (aAc w5 (.cells #[.int .i64 30,.int .i64 1,.bool true,.int .i64 0,.int .i64 0,.slice s5 0 c5] 32))
 have HX5:=hide (hx5.later HBA.out)
 have HA5:Hid ((w5.alloc (.cells #[.int .i64 30,.int .i64 1,.bool true,.int .i64 0,.int .i64 0,.slice s5 0 c5] 32)).heap[w5.heap.size]?=some (.cells #[.int .i64 30,.int .i64 1,.bool true,.int .i64 0,.int .i64 0,.slice s5 0 c5] 32 (0,0))):=heap_alloc_new w5 _
 have HA1:=hide ((HBA.out.block _ (lt HA1w.out)).trans HA1w.out)
 have HA2:=hide ((HBA.out.block _ (lt HA2w.out)).trans HA2w.out)
 have HA3:=hide ((HBA.out.block _ (lt HA3w.out)).trans HA3w.out)
 have HK:=hide (HKw.out.later HBA.out hx5.bw)
 clear hk5 hx5 hf5 HD HBA HXY HX4 HA1w HA2w HA3w HKw
 go_upto_region 12 with fail
 generalize w5.alloc (.cells #[.int .i64 30,.int .i64 1,.bool true,.int .i64 0,.int .i64 0,.slice s5 0 c5] 32)=x5 at *
 generalize w5.heap.size=n5 at *
 have HXY:=hide HX5.out
 have HD:Hid (Calls Tryz.prog 7 #[.pointer (some ⟨nd,0,none⟩),.agg #[.int .i64 2,.int .i64 0,.int .i64 1,.slice none 0 0]] x5 fun e w'=>∃ sa sc,e=.returned (.agg #[.int .i64 0,.int .i64 2,.bool true,.int .i64 0,.int .i64 0,.slice sa 0 sc])∧BK B w' sa 0 sc ([]:List Nat)∧NX B p q g ls rg nd 60 3 (putL (putL (putL [] ([0,0,0],[7])) ([0,0],[1])) ([0,0,1],[])) (upL (upL (upL L0 0 (1,0,false)) 0 (1,0,true)) 0 (2,0,true)) w w'∧RgF B g ls nd x5 w'):=NX.w (lg:=0) (tl:=1) (tr:=0) (sl:=true) (val:=[]) HXY.out (by decide) hg0 rfl rfl (by decide) (by decide) (by decide) (BK.nil _ _) (by decide)
 go_wp2_with fail
 refine HD.out.mono ?_
 rintro e w6 ⟨s6,c6,rfl,hk6,hx6,hf6⟩
 have HA1w:=hide (HXY.out.keep hf6 HA1.out (by decide) (by decide) (by decide) (by decide))
 have HA2w:=hide (HXY.out.keep hf6 HA2.out (by decide) (by decide) (by decide) (by decide))
 have HA3w:=hide (HXY.out.keep hf6 HA3.out (by decide) (by decide) (by decide) (by decide))
 have HA5w:=hide (HXY.out.keep hf6 HA5.out (by decide) (by decide) (by decide) (by decide))
 have HKw:=hide (HK.out.ft (HXY.out.ft hf6))
 have HBA:=hide (aAc w6 (.cells #[.int .i64 0,.int .i64 2,.bool true,.int .i64 0,.int .i64 0,.slice s6 0 c6] 32))
 have HX6:=hide (hx6.later HBA.out)
 have HA6:Hid ((w6.alloc (.cells #[.int .i64 0,.int .i64 2,.bool true,.int .i64 0,.int .i64 0,.slice s6 0 c6] 32)).heap[w6.heap.size]?=some (.cells #[.int .i64 0,.int .i64 2,.bool true,.int .i64 0,.int .i64 0,.slice s6 0 c6] 32 (0,0))):=heap_alloc_new w6 _
 have HA1:=hide ((HBA.out.block _ (lt HA1w.out)).trans HA1w.out)
 have HA2:=hide ((HBA.out.block _ (lt HA2w.out)).trans HA2w.out)
 have HA3:=hide ((HBA.out.block _ (lt HA3w.out)).trans HA3w.out)
 have HA5:=hide ((HBA.out.block _ (lt HA5w.out)).trans HA5w.out)
 have HK:=hide (HKw.out.later HBA.out hx6.bw)
 clear hk6 hx6 hf6 HD HBA HXY HX5 HA1w HA2w HA3w HA5w HKw
 go_upto_region 13 with fail
 generalize w6.alloc (.cells #[.int .i64 0,.int .i64 2,.bool true,.int .i64 0,.int .i64 0,.slice s6 0 c6] 32)=x6 at *
 generalize w6.heap.size=n6 at *
 have HD:Hid (Calls Tryz.prog 7 #[.pointer (some ⟨nd,0,none⟩),.agg #[.int .i64 0,.int .i64 0,.int .i64 0,.slice none 0 0]] x6 fun e w'=>e=.returned (.agg #[.int .i64 1,.int .i64 0,.bool false,.int .i64 0,.int .i64 0,.slice none 0 0])∧Below x6.heap.size x6 w'):=by
  obtain ⟨c9,u9,k9,_⟩:=HX6.out
  exact do_arg k9 (by decide)
 go_wp2_with fail
 refine HD.out.mono ?_
 rintro e w7 ⟨rfl,hb7⟩
 have HB7:Hid (Below x6.heap.size x6 (w7.alloc (.cells #[.int .i64 1,.int .i64 0,.bool false,.int .i64 0,.int .i64 0,.slice none 0 0] 32))):=hb7.trans ((aAc w7 _).mono hb7.size)
 have HA7:Hid ((w7.alloc (.cells #[.int .i64 1,.int .i64 0,.bool false,.int .i64 0,.int .i64 0,.slice none 0 0] 32)).heap[w7.heap.size]?=some (.cells #[.int .i64 1,.int .i64 0,.bool false,.int .i64 0,.int .i64 0,.slice none 0 0] 32 (0,0))):=heap_alloc_new w7 _
 have HX7:=hide (HX6.out.later HB7.out)
 have HA1w:=hide ((HB7.out.block _ (lt HA1.out)).trans HA1.out)
 have HA2w:=hide ((HB7.out.block _ (lt HA2.out)).trans HA2.out)
 have HA3w:=hide ((HB7.out.block _ (lt HA3.out)).trans HA3.out)
 have HA5w:=hide ((HB7.out.block _ (lt HA5.out)).trans HA5.out)
 have HA6w:=hide ((HB7.out.block _ (lt HA6.out)).trans HA6.out)
 have HKw:=hide (HK.out.later HB7.out HX6.out.bw)
 clear hb7 HD HB7 HX6 HA1 HA2 HA3 HA5 HA6 HK
 go_upto_region 14 with fail
 generalize w7.alloc (.cells #[.int .i64 1,.int .i64 0,.bool false,.int .i64 0,.int .i64 0,.slice none 0 0] 32)=x7 at *
 generalize w7.heap.size=n7 at *
 have z0:x7.cell? ⟨n1,1,none⟩=some (.int .i64 1):=aAa HA1w.out
 have z1:x7.cell? ⟨n2,1,none⟩=some (.int .i64 1):=aAa HA2w.out
 have z2:x7.cell? ⟨n2,0,none⟩=some (.int .i64 0):=aAa HA2w.out
 have z3:x7.cell? ⟨n3,5,none⟩=some (.slice s3 1 c3):=aAa HA3w.out
 have z4:x7.cell? ⟨n5,0,none⟩=some (.int .i64 30):=aAa HA5w.out
 have z5:x7.cell? ⟨n5,2,none⟩=some (.bool true):=aAa HA5w.out
 have z6:x7.cell? ⟨n6,1,none⟩=some (.int .i64 2):=aAa HA6w.out
 have z7:x7.cell? ⟨n7,0,none⟩=some (.int .i64 1):=aAa HA7.out
 have tx:(convert 30 9 (.slice s3 1 c3)).run Tryz.prog x7=.ok (.string ⟨#[7]⟩) x7:=run_text HKw.out.1
 have HLO:Hid (Calls Tryz.prog 18 #[.pointer (some ⟨nd,0,none⟩)] x7 fun e w'=>(∃ a c,e=.returned (.slice a 1 c))∧Below x7.heap.size x7 w'):=by
  obtain ⟨c9,u9,k9,_⟩:=HX7.out
  refine logs_one k9 rfl (fun j h1 h2=>?_)
  have hj:j≠0:=by omega
  rw [up_ne _ _ hj,up_ne _ _ hj,up_ne _ _ hj]
 have HBE:=hide HX7.out.be
 have HBW:=hide HX7.out.bw
 go_wp2_with fail
 refine HLO.out.mono ?_
 rintro e w8 ⟨⟨la,lc,rfl⟩,hb8⟩
 have HB8:=hide (HBE.out.trans (hb8.mono HBW.out))
 clear hb8 HLO
 go_wp2
 go_ret
 refine ⟨?_,HB8.out⟩
 simp
theorem arg_bk0 {B m cc:Nat} {W wx:World} {aa:Option Addr} {ys:List Nat} (hB:W.heap.size=B) (h:BS W aa m cc ys) (hb:Below B W wx):BK B wx aa m cc ys:=by
 have hbs:=h.later hb (by rw [hB];exact nR B)
 refine ⟨hbs,fun x hx=>Or.inl ?_⟩
 subst hx
 by_cases hm:m=0
 ·exact Or.inl hm
 ·obtain ⟨bb,ob,e1,e2,e3⟩:=h.place (by omega)
  simp only [oI] at e1
  subst e1
  rw [←hB]
  exact Or.inr (block_lt_of_cell (e3 0 (by omega)))
theorem and31 (z:Int):∃ v:Nat,v≤31∧bits BinOp.and IntKind.i64 z 31=(v:Int):=⟨(z % 32).toNat,by omega,by rw [i64_mask z 5 (by omega) 31 (by decide)];omega⟩
def AnK (w w':World):Prop:=∀ (n:Nat) (ca:Array Value),w.heap[n]?=some (.cells ca 32 (0,0))→w'.heap[n]?=some (.cells ca 32 (0,0))
def NRS [Gd] (B p q g ls rg nd m j:Nat) (sl:Bool) (tf:Nat→List Nat) (W w:World):Prop:=∃ l L,NX B p q g ls rg nd 300 m l L W w∧L 5=(j,0,sl)∧∀ i,i<j→valL l [0,5,i]=some (tf i)
section
variable [Gd] {B p q g ls rg nd m j:Nat} {sl:Bool} {tf:Nat→List Nat} {W w w':World}
theorem NRS.later (h:NRS B p q g ls rg nd m j sl tf W w) (hb:Below w.heap.size w w'):NRS B p q g ls rg nd m j sl tf W w':=by
 obtain ⟨l,L,h1,h2⟩:=h
 exact ⟨l,L,h1.later hb,h2⟩
theorem NRS.be (h:NRS B p q g ls rg nd m j sl tf W w):Below B W w:=by
 obtain ⟨l,L,h1,h2⟩:=h
 exact h1.be
theorem NRS.bw (h:NRS B p q g ls rg nd m j sl tf W w):B≤w.heap.size:=by
 obtain ⟨l,L,h1,h2⟩:=h
 exact h1.bw
theorem NRS.mono {m':Nat} (h:NRS B p q g ls rg nd m j sl tf W w) (hm:m≤m'):NRS B p q g ls rg nd m' j sl tf W w:=by
 obtain ⟨l,L,⟨c,u,k1,k2,k3,k4⟩,h2⟩:=h
 exact ⟨l,L,⟨c,u,k1,by omega,by omega,by omega⟩,h2⟩
theorem NX.ank {l:List It} {L:Nat→Lg} {N:Nat} (h:NX B p q g ls rg nd N m l L W w) (f:RgF B g ls nd w w'):AnK w w':=fun n ca e=>h.keep f e (by decide) (by decide) (by decide) (by decide)
end
theorem NRS.seal [Gd] {B p q g ls rg nd m j:Nat} {tf:Nat→List Nat} {W w:World} (h:NRS B p q g ls rg nd m j false tf W w) (hg0:Gd.g=none) (hm:m≤80) :
  Calls Tryz.prog 7 #[.pointer (some ⟨nd,0,none⟩),.agg #[.int .i64 3,.int .i64 5,.int .i64 0,.slice none 0 0]] w fun e w'=>∃ sa sc,e=.returned (.agg #[.int .i64 0,.int .i64 (j:Int),.bool true,.int .i64 0,.int .i64 0,.slice sa 0 sc])∧NRS B p q g ls rg nd (m+1) j true tf W w'∧AnK w w':=by
 obtain ⟨l,L,h1,h2,h3⟩:=h
 refine (h1.s (lg:=5) (at_:=0) (tl:=j) (by decide) hg0 h2 (by omega) hm (by decide)).mono ?_
 rintro e w' ⟨sa,sc,rfl,_,k1,k2⟩
 refine ⟨sa,sc,rfl,⟨_,_,k1,aEj _ _ _,fun i hi=>?_⟩,h1.ank k2⟩
 rw [valL_put h1.srt,if_neg (by intro q9;simp at q9)]
 exact h3 i hi
theorem NRS.w [Gd] {B p q g ls rg nd m j:Nat} {n cp:Nat} {sl:Bool} {va:Option Addr} {k:Int} {tf:Nat→List Nat} {W w:World} (h:NRS B p q g ls rg nd m j sl tf W w) (hg0:Gd.g=none) (hm:m≤80) (hk:k=if sl=true then 2 else 1) (hj:j<256) (hv:BK B w va n cp (tf j)) (hn:n≤1800) :
  Calls Tryz.prog 7 #[.pointer (some ⟨nd,0,none⟩),.agg #[.int .i64 k,.int .i64 5,.int .i64 (j:Int),.slice va n cp]] w fun e w'=>∃ sa sc,e=.returned (.agg #[.int .i64 0,.int .i64 ((j:Int)+1),.bool sl,.int .i64 0,.int .i64 0,.slice sa 0 sc])∧NRS B p q g ls rg nd (m+1) (j+1) sl tf W w'∧AnK w w':=by
 obtain ⟨l,L,h1,h2,h3⟩:=h
 refine (h1.w (lg:=5) (tl:=j) (tr:=0) (val:=tf j) (by decide) hg0 h2 hk hj (by omega) hm hv hn).mono ?_
 rintro e w' ⟨sa,sc,rfl,_,k1,k2⟩
 refine ⟨sa,sc,rfl,⟨_,_,k1,aEj _ _ _,fun i hi=>?_⟩,h1.ank k2⟩
 rw [valL_put h1.srt]
 by_cases q:i=j
 ·subst q
  rw [if_pos rfl]
 ·rw [if_neg (by intro q9;simp at q9;exact q q9.symm)]
  exact h3 i (by omega)
theorem NRS.same [Gd] {B p q g ls rg nd m j:Nat} {n cp at_:Nat} {sl:Bool} {va:Option Addr} {k:Int} {tf:Nat→List Nat} {W w:World} (h:NRS B p q g ls rg nd m j sl tf W w) (hk:k=if sl=true then 2 else 1) (hat:at_<256) (hne:at_≠j) (hn:n≤1800) :
  Calls Tryz.prog 7 #[.pointer (some ⟨nd,0,none⟩),.agg #[.int .i64 k,.int .i64 5,.int .i64 (at_:Int),.slice va n cp]] w fun e w'=>∃ sa sc,e=.returned (.agg #[.int .i64 0,.int .i64 (j:Int),.bool sl,.int .i64 0,.int .i64 0,.slice sa 0 sc])∧NRS B p q g ls rg nd m j sl tf W w'∧AnK w w':=by
 obtain ⟨l,L,h1,h2,h3⟩:=h
 refine (h1.same (lg:=5) (tl:=j) (tr:=0) (by decide) h2 hk hat hne hn).mono ?_
 rintro e w' ⟨sa,sc,rfl,_,k1,k2⟩
 exact ⟨sa,sc,rfl,⟨_,_,k1,h2,h3⟩,h1.ank k2⟩
theorem NRS.r [Gd] {B p q g ls rg nd m j:Nat} {at_:Nat} {sl:Bool} {tf:Nat→List Nat} {W w:World} (h:NRS B p q g ls rg nd m j sl tf W w) (hat:at_<j) (hat2:at_<256) :
  Calls Tryz.prog 7 #[.pointer (some ⟨nd,0,none⟩),.agg #[.int .i64 5,.int .i64 5,.int .i64 (at_:Int),.slice none 0 0]] w fun e w'=>∃ sa sc,e=.returned (.agg #[.int .i64 0,.int .i64 (j:Int),.bool sl,.int .i64 0,.int .i64 0,.slice sa (tf at_).length sc])∧BK B w' sa (tf at_).length sc (tf at_)∧NRS B p q g ls rg nd m j sl tf W w'∧AnK w w':=by
 obtain ⟨l,L,h1,h2,h3⟩:=h
 refine (h1.r (lg:=5) (tl:=j) (tr:=0) (val:=tf at_) (by decide) h2 (by omega) hat hat2 (h3 at_ hat) (by decide)).mono ?_
 rintro e w' ⟨sa,sc,rfl,k0,k1,k2⟩
 exact ⟨sa,sc,rfl,k0,⟨_,_,k1,h2,h3⟩,h1.ank k2⟩
theorem NRS.rnone [Gd] {B p q g ls rg nd m j:Nat} {sl:Bool} {tf:Nat→List Nat} {W w:World} (h:NRS B p q g ls rg nd m j sl tf W w) :
  Calls Tryz.prog 7 #[.pointer (some ⟨nd,0,none⟩),.agg #[.int .i64 5,.int .i64 5,.int .i64 (j:Int),.slice none 0 0]] w fun e w'=>∃ sa sc,e=.returned (.agg #[.int .i64 4,.int .i64 (j:Int),.bool sl,.int .i64 0,.int .i64 0,.slice sa 0 sc])∧NRS B p q g ls rg nd m j sl tf W w'∧AnK w w':=by
 obtain ⟨l,L,h1,h2,h3⟩:=h
 refine (h1.rnone (lg:=5) (tl:=j) (tr:=0) (by decide) h2 (by omega) rfl (by decide)).mono ?_
 rintro e w' ⟨sa,sc,rfl,_,k1,k2⟩
 exact ⟨sa,sc,rfl,⟨_,_,k1,h2,h3⟩,h1.ank k2⟩
theorem NRS.w256 [Gd] {B p q g ls rg nd m j:Nat} {sl:Bool} {tf:Nat→List Nat} {W w:World} (h:NRS B p q g ls rg nd m j sl tf W w) :
  Calls Tryz.prog 7 #[.pointer (some ⟨nd,0,none⟩),.agg #[.int .i64 1,.int .i64 5,.int .i64 256,.slice none 0 0]] w fun e w'=>∃ sa sc,e=.returned (.agg #[.int .i64 (if sl=true then 30 else 2),.int .i64 (j:Int),.bool sl,.int .i64 0,.int .i64 0,.slice sa 0 sc])∧NRS B p q g ls rg nd m j sl tf W w'∧AnK w w':=by
 obtain ⟨l,L,h1,h2,h3⟩:=h
 cases sl with
 | false =>
  refine (h1.wmany (lg:=5) (at_:=256) (tl:=j) (tr:=0) (by decide) h2 (by decide) (by decide)).mono ?_
  rintro e w' ⟨sa,sc,rfl,_,k1,k2⟩
  exact ⟨sa,sc,rfl,⟨_,_,k1,h2,h3⟩,h1.ank k2⟩
 | true =>
  refine (h1.wsealed (lg:=5) (at_:=256) (tl:=j) (tr:=0) (by decide) h2 (by decide)).mono ?_
  rintro e w' ⟨sa,sc,rfl,_,k1,k2⟩
  exact ⟨sa,sc,rfl,⟨_,_,k1,h2,h3⟩,h1.ank k2⟩
end Go.Proofs.YtibfkdjbnaeneaaGreat
