import Derived.Test.YtibfkdjbnaeneaaGreatZ46
set_option maxRecDepth 100000
set_option maxHeartbeats 16000000
set_option linter.unusedVariables false
namespace Go.Proofs.YtibfkdjbnaeneaaGreat
open Go.RowKit
theorem grp_one:grp 1=1:=grp_of 1 0 (by omega) (by decide) (fun h=>absurd h (by omega))
theorem enc_one:enc 1=[1]:=by unfold enc;rw [grp_one];rfl
theorem mark_sealed {B tl:Nat} (w:World):Calls Tryz.prog 68 #[.agg #[.int .i64 (tl:Int),.int .i64 0,.bool true]] w fun e w'=>∃ a c,e=.returned (.slice a 1 c)∧BK B w' a 1 c [1]∧Below w.heap.size w w':=by
 have HBX:=hide (aAc w (.cells #[.int .i64 (tl:Int),.int .i64 0,.bool true] 58))
 have HU:Hid (Calls Tryz.prog 59 #[.int .i64 1] (w.alloc (.cells #[.int .i64 (tl:Int),.int .i64 0,.bool true] 58)) fun e w'=>∃ g,e=.returned (.slice (some ⟨g,0,none⟩) (grp 1) (grp 1))∧Row (w.alloc (.cells #[.int .i64 (tl:Int),.int .i64 0,.bool true] 58)) w' g (enc 1)):=uint_any 1 _ (by decide)
 rw [grp_one,enc_one] at HU
 go_enter Tryz.func68,Tryz.ntmps68
 go_wp2_with fail
 refine HU.out.mono ?_
 rintro e w2 ⟨g,rfl,hR⟩
 obtain ⟨a,c,e1,hk⟩:=BK.owned (B:=B) (xs:=[1]) (hR.owns 1 rfl (by unfold maxLen;omega)) (by simp) (by intro n hn;simp at hn;omega)
 simp only [Value.slice.injEq] at e1
 obtain ⟨rfl,hz,rfl⟩:=e1
 clear hz
 have HK:=hide hk
 have HB2:=hide (HBX.out.trans (hR.below.mono HBX.out.size))
 clear hk hR HU
 go_wp2
 go_ret
 exact ⟨_,_,rfl,HK.out,HB2.out⟩
theorem changes_w {B lg tl tr vc:Nat} {sl:Bool} {va:Option Addr} {val:List Nat} {w:World} (hv:BK B w va val.length vc val) (hB:B≤w.heap.size) (h1:lg<256) (h2:tl<256) :
  Calls Tryz.prog 39 #[.int .i64 (lg:Int),.agg #[.int .i64 (tl:Int),.int .i64 (tr:Int),.bool sl],.agg #[.int .i64 ((tl:Int)+1),.int .i64 (tr:Int),.bool sl],.slice va val.length vc] w fun e w'=>∃ v,e=.returned v∧CHV0 B w' v [([lg,tl],val)]∧Below w.heap.size w w':=by
 have i1:(tl:Int)<(tl:Int)+1:=by omega
 have HBX:=hide (aAz w (.cells #[.int .i64 (tl:Int),.int .i64 (tr:Int),.bool sl] 58) (.cells #[.int .i64 ((tl:Int)+1),.int .i64 (tr:Int),.bool sl] 58))
 have HV1:=hide (hv.later HBX.out hB)
 have HS1:Hid (B≤((w.alloc (.cells #[.int .i64 (tl:Int),.int .i64 (tr:Int),.bool sl] 58)).alloc (.cells #[.int .i64 ((tl:Int)+1),.int .i64 (tr:Int),.bool sl] 58)).heap.size):=nT hB HBX.out.size
 have HSK:=hide (aEm (B:=B) h1 h2 ((w.alloc (.cells #[.int .i64 (tl:Int),.int .i64 (tr:Int),.bool sl] 58)).alloc (.cells #[.int .i64 ((tl:Int)+1),.int .i64 (tr:Int),.bool sl] 58)))
 clear hv
 go_enter Tryz.func39,Tryz.ntmps39
 go_wp2_with fail
 refine HSK.out.mono ?_
 rintro e w2 ⟨ka,kc,rfl,hk2,hb2⟩
 have HK2:=hide hk2
 have HV2:=hide (HV1.out.later hb2 HS1.out)
 have HB2:=hide (HBX.out.trans (hb2.mono HBX.out.size))
 have HS2:Hid (B≤w2.heap.size):=nT HS1.out hb2.size
 have HLA:=hide (nlaid_any (ka:=ka) (va:=va) (kn:=2) (kc:=kc) (vn:=val.length) (vc:=vc) w2)
 clear hk2 hb2 HSK
 go_wp2_with fail
 refine HLA.out.mono ?_
 rintro e w3 ⟨rfl,hb3⟩
 have HK3:=hide (HK2.out.later hb3 HS2.out)
 have HV3:=hide (HV2.out.later hb3 HS2.out)
 have HB3:=hide (HB2.out.trans (hb3.mono HB2.out.size))
 have HS3:Hid (B≤w3.heap.size):=nT HS2.out hb3.size
 clear hb3 HLA
 go_wp2
 go_ret
 have hb4:=aAc w3 (.cells #[.int .i64 0,.slice ka 2 kc,.slice va val.length vc,.bool false] 103)
 exact ⟨_,rfl,CHV0.one (heap_alloc_new w3 _) ⟨ka,kc,rfl,HK3.out.later hb4 HS3.out⟩ ⟨va,vc,rfl,HV3.out.later hb4 HS3.out⟩,HB3.out.trans (hb4.mono HB3.out.size)⟩
theorem changes_s {B lg tl vn vc:Nat} {sl:Bool} {va:Option Addr} {w:World} (hB:B≤w.heap.size) (h1:lg<256) :
  Calls Tryz.prog 39 #[.int .i64 (lg:Int),.agg #[.int .i64 (tl:Int),.int .i64 0,.bool sl],.agg #[.int .i64 (tl:Int),.int .i64 0,.bool true],.slice va vn vc] w fun e w'=>∃ v,e=.returned v∧CHV0 B w' v [([lg],[1])]∧Below w.heap.size w w':=by
 have lt:∀ {k:Nat} {o:Obj} {ww:World},ww.heap[k]?=some o→k<ww.heap.size:=fun e=>(lO e)
 have i1:¬ (tl:Int)<(tl:Int):=by omega
 have HBX:=hide (aAz w (.cells #[.int .i64 (tl:Int),.int .i64 0,.bool sl] 58) (.cells #[.int .i64 (tl:Int),.int .i64 0,.bool true] 58))
 have HQ0:Hid (((w.alloc (.cells #[.int .i64 (tl:Int),.int .i64 0,.bool sl] 58)).alloc (.cells #[.int .i64 (tl:Int),.int .i64 0,.bool true] 58)).heap[w.heap.size]?=some (.cells #[.int .i64 (tl:Int),.int .i64 0,.bool sl] 58 (0,0))):=aAf [Obj.cells #[.int .i64 (tl:Int),.int .i64 0,.bool sl] 58,Obj.cells #[.int .i64 (tl:Int),.int .i64 0,.bool true] 58] w 0 _ rfl
 have HQ1:Hid (((w.alloc (.cells #[.int .i64 (tl:Int),.int .i64 0,.bool sl] 58)).alloc (.cells #[.int .i64 (tl:Int),.int .i64 0,.bool true] 58)).heap[w.heap.size+1]?=some (.cells #[.int .i64 (tl:Int),.int .i64 0,.bool true] 58 (0,0))):=aAf [Obj.cells #[.int .i64 (tl:Int),.int .i64 0,.bool sl] 58,Obj.cells #[.int .i64 (tl:Int),.int .i64 0,.bool true] 58] w 1 _ rfl
 have HS1:Hid (B≤((w.alloc (.cells #[.int .i64 (tl:Int),.int .i64 0,.bool sl] 58)).alloc (.cells #[.int .i64 (tl:Int),.int .i64 0,.bool true] 58)).heap.size):=nT hB HBX.out.size
 go_enter Tryz.func39,Tryz.ntmps39
 go_upto_region 3 with fail
 generalize ((w.alloc (.cells #[.int .i64 (tl:Int),.int .i64 0,.bool sl] 58)).alloc (.cells #[.int .i64 (tl:Int),.int .i64 0,.bool true] 58))=w1 at *
 generalize hn0:w.heap.size=n0 at *
 generalize hn1:n0+1=n1 at *
 have hd:Below w1.heap.size w1 w1.drew:=(Below.refl _ _).drew
 have HD0:Hid (w1.drew.heap[n0]?=some (.cells #[.int .i64 (tl:Int),.int .i64 0,.bool sl] 58 (0,0))):=HQ0.out
 have HD1:Hid (w1.drew.heap[n1]?=some (.cells #[.int .i64 (tl:Int),.int .i64 0,.bool true] 58 (0,0))):=HQ1.out
 have HBD:Hid (Below n0 w w1.drew):=HBX.out.drew
 have HSD:Hid (B≤w1.drew.heap.size):=nT HS1.out hd.size
 have HX0:Hid ((fun wx=>wx.cell? ⟨n1,0,none⟩=some (.int .i64 (tl:Int))∧wx.cell? ⟨n1,1,none⟩=some (.int .i64 0)∧wx.cell? ⟨n1,2,none⟩=some (.bool true)) w1.drew):=⟨aAa HQ1.out,aAa HQ1.out,aAa HQ1.out⟩
 have HMK:=hide (markKey_any (B:=B) h1 w1.drew)
 clear hd HQ0 HQ1
 refine wp_region_noPanic ?_
 refine wp_region_held_drew (S:=fun wx=>wx.cell? ⟨n1,0,none⟩=some (.int .i64 (tl:Int))∧wx.cell? ⟨n1,1,none⟩=some (.int .i64 0)∧wx.cell? ⟨n1,2,none⟩=some (.bool true)) (by kernel_rfl) HX0.out (fun hHeld=>?_)
 refine wpAnyH_tk 0 24 ?_
 refine wpAnyH_tk 2 26 ?_
 refine wpAnyH_cm 1 ?_;intro K hK
 go_simp
 refine HMK.out.mono ?_
 rintro e w2 ⟨ka,kc,rfl,hk2,hb2⟩
 have HE0:=hide ((hb2.block n0 (lt HD0.out)).trans HD0.out)
 have HE1:=hide ((hb2.block n1 (lt HD1.out)).trans HD1.out)
 have HB2:Hid (Below n0 w w2):=HBD.out.trans (hb2.mono (by have:=HBD.out.size;omega))
 have HS2:Hid (B≤w2.heap.size):=nT HSD.out hb2.size
 have HK2:=hide hk2
 have HX2:Hid ((fun wx=>wx.cell? ⟨n1,0,none⟩=some (.int .i64 (tl:Int))∧wx.cell? ⟨n1,1,none⟩=some (.int .i64 0)∧wx.cell? ⟨n1,2,none⟩=some (.bool true)) w2):=⟨aAa HE1.out,aAa HE1.out,aAa HE1.out⟩
 clear hk2 hb2 hHeld HMK
 refine hK.out _ _ HX2.out (fun hHeld=>?_)
 clear hK K
 try simp only [Act.put,siT,scZ,scS]
 refine wpAnyH_cm 3 ?_;intro K hK
 go_simp
 have HMA:=hide (mark_sealed (B:=B) (tl:=tl) w2)
 refine HMA.out.mono ?_
 rintro e w3 ⟨ma,mc,rfl,hm3,hb3⟩
 have HF0:=hide ((hb3.block n0 (lt HE0.out)).trans HE0.out)
 have HF1:=hide ((hb3.block n1 (lt HE1.out)).trans HE1.out)
 have HB3:Hid (Below n0 w w3):=HB2.out.trans (hb3.mono (by have:=HB2.out.size;omega))
 have HS3:Hid (B≤w3.heap.size):=nT HS2.out hb3.size
 have HK3:=hide (HK2.out.later hb3 HS2.out)
 have HM3:=hide hm3
 have HX3:Hid ((fun wx=>wx.cell? ⟨n1,0,none⟩=some (.int .i64 (tl:Int))∧wx.cell? ⟨n1,1,none⟩=some (.int .i64 0)∧wx.cell? ⟨n1,2,none⟩=some (.bool true)) w3):=⟨aAa HF1.out,aAa HF1.out,aAa HF1.out⟩
 clear hm3 hb3 hHeld HMA
 refine hK.out _ _ HX3.out (fun hHeld=>?_)
 clear hK K
 try simp only [Act.put,siT,scZ,scS]
 refine wpAnyH_cm 4 ?_;intro K hK
 go_simp
 have HLA:=hide (nlaid_any (ka:=ka) (va:=ma) (kn:=1) (kc:=kc) (vn:=1) (vc:=mc) w3)
 refine HLA.out.mono ?_
 rintro e w4 ⟨rfl,hb4⟩
 have HG0:=hide ((hb4.block n0 (lt HF0.out)).trans HF0.out)
 have HG1:=hide ((hb4.block n1 (lt HF1.out)).trans HF1.out)
 have HB4:Hid (Below n0 w w4):=HB3.out.trans (hb4.mono (by have:=HB3.out.size;omega))
 have HS4:Hid (B≤w4.heap.size):=nT HS3.out hb4.size
 have HK4:=hide (HK3.out.later hb4 HS3.out)
 have HM4:=hide (HM3.out.later hb4 HS3.out)
 have HX4:Hid ((fun wx=>wx.cell? ⟨n1,0,none⟩=some (.int .i64 (tl:Int))∧wx.cell? ⟨n1,1,none⟩=some (.int .i64 0)∧wx.cell? ⟨n1,2,none⟩=some (.bool true)) w4):=⟨aAa HG1.out,aAa HG1.out,aAa HG1.out⟩
 clear hb4 hHeld HLA
 refine hK.out _ _ HX4.out (fun hHeld=>?_)
 clear hK K
 try simp only [Act.put,siT,scZ,scS]
 refine wpAnyH_cm 5 ?_;intro K hK
 go_simp
 have hb5:=aAc w4 (.cells #[.int .i64 0,.slice ka 1 kc,.slice ma 1 mc,.bool false] 103)
 have HH0:=hide ((hb5.block n0 (lt HG0.out)).trans HG0.out)
 have HH1:=hide ((hb5.block n1 (lt HG1.out)).trans HG1.out)
 have HB5:Hid (Below n0 w (w4.alloc (.cells #[.int .i64 0,.slice ka 1 kc,.slice ma 1 mc,.bool false] 103))):=HB4.out.trans (hb5.mono (by have:=HB4.out.size;omega))
 have HC5:Hid (CHV0 B (w4.alloc (.cells #[.int .i64 0,.slice ka 1 kc,.slice ma 1 mc,.bool false] 103)) (.slice (some ⟨w4.heap.size,0,none⟩) 1 1) [([lg],[1])]):=CHV0.one (heap_alloc_new w4 _) ⟨ka,kc,rfl,HK4.out.later hb5 HS4.out⟩ ⟨ma,mc,rfl,HM4.out.later hb5 HS4.out⟩
 have HX5:Hid ((fun wx=>wx.cell? ⟨n1,0,none⟩=some (.int .i64 (tl:Int))∧wx.cell? ⟨n1,1,none⟩=some (.int .i64 0)∧wx.cell? ⟨n1,2,none⟩=some (.bool true)) (w4.alloc (.cells #[.int .i64 0,.slice ka 1 kc,.slice ma 1 mc,.bool false] 103))):=⟨aAa HH1.out,aAa HH1.out,aAa HH1.out⟩
 clear hb5 hHeld
 refine hK.out _ _ HX5.out (fun hHeld=>?_)
 clear hK K
 try simp only [Act.put,siT,scZ,scS]
 refine wpAnyH_tk 6 9 ?_
 refine wpAnyH_done (by kernel_rfl) ?_ _
 refine NoPanic.normal ?_
 clear hHeld
 generalize w4.alloc (.cells #[.int .i64 0,.slice ka 1 kc,.slice ma 1 mc,.bool false] 103)=w5 at *
 generalize w4.heap.size=n5 at *
 have x1:w5.cell? ⟨n0,1,none⟩=some (.int .i64 0):=aAa HH0.out
 have x2:w5.cell? ⟨n1,1,none⟩=some (.int .i64 0):=aAa HH1.out
 go_wp2_with fail
 go_loopw [9,10] (fun lv i wx=>lv=.slice (some ⟨n5,0,none⟩) 1 1∧i=.int .i64 0∧wx=w5) (fun _ _ _=>0)
 case atStart=>exact ⟨rfl,rfl,rfl⟩
 case round =>
  obtain ⟨rfl,rfl,rfl⟩:=hrel
  go_wp2
  go_ret
  exact ⟨_,rfl,HC5.out,by rw [hn0];exact HB5.out⟩
theorem LS.readSlot [Gd] {B p q g ls N c u lg at_:Nat} {l:List It} {W w:World} {val:List Nat} (h:LS B p q g ls N c u l W w) (h1:lg<256) (h2:at_<256) (hval:valL l [0,lg,at_]=some val) :
  Calls Tryz.prog 35 #[.pointer (some ⟨ls,0,none⟩),.int .i64 (lg:Int),.int .i64 (at_:Int)] w fun e w'=>∃ va vc,e=.returned (.tuple #[.slice va val.length vc,.int .i64 0])∧BK B w' va val.length vc val∧Below w.heap.size w w':=by
 have HSK:=hide (aEm (B:=B) h1 h2 w)
 have HL:=hide h
 have HVV:=hide hval
 clear h hval
 go_enter Tryz.func35,Tryz.ntmps35
 go_wp2_with fail
 refine HSK.out.mono ?_
 rintro e w2 ⟨ka,kc,rfl,hk2,hb2⟩
 have HL2:=hide (HL.out.later hb2)
 have HB2:=hide hb2
 have HG:=hide (HL2.out.Get0 hk2 (by decide) (by decide))
 clear hk2 hb2 HSK
 go_wp2_with fail
 refine HG.out.mono ?_
 rintro e w3 ⟨vv,isb,rfl,hv3,hb3⟩
 rw [HVV.out] at hv3
 obtain ⟨rfl,va,vc,rfl,hk3⟩:=hv3
 have HB3:=hide (HB2.out.trans (hb3.mono HB2.out.size))
 have HK3:=hide hk3
 clear hk3 hb3 HG
 go_wp2
 go_ret2
 exact ⟨va,vc,rfl,HK3.out,HB3.out⟩
theorem enc_two_len {a b:Nat} (ha:a<9223372036854775808) (hb:b<9223372036854775808):(enc a++enc b).length=grp a+grp b∧1≤grp a∧grp a≤9∧1≤grp b∧grp b≤9:=by
 obtain ⟨g1,g2,_⟩:=aAj a ha
 obtain ⟨k1,k2,_⟩:=aAj b hb
 exact ⟨by rw [lA,aAl a g1,aAl b k1],g1,g2,k1,k2⟩
theorem ft6 {B g:Nat} {w:World} {b0 b1 b2 b3 b4 b5:Value} {cs:Array Value} {t:TypeId} {fz:Nat×Nat} (h:w.heap[g]?=some (.cells cs t fz)) (ht:t≠5) (hB:B≤g):FT B w ((((((w.setCell ⟨g,0,none⟩ b0).setCell ⟨g,1,none⟩ b1).setCell ⟨g,2,none⟩ b2).setCell ⟨g,3,none⟩ b3).setCell ⟨g,4,none⟩ b4).setCell ⟨g,5,none⟩ b5):=by
 refine ⟨bel6 (Below.refl B w) hB,fun k cs fz e=>?_⟩
 have hne:k≠g:=aAk e h (Ne.symm ht)
 rw [heap_setCell_other _ _ _ _ hne,heap_setCell_other _ _ _ _ hne,heap_setCell_other _ _ _ _ hne,heap_setCell_other _ _ _ _ hne,heap_setCell_other _ _ _ _ hne,heap_setCell_other _ _ _ _ hne,e]
theorem ft1 {B g o:Nat} {w:World} {b0:Value} {cs:Array Value} {t:TypeId} {fz:Nat×Nat} (h:w.heap[g]?=some (.cells cs t fz)) (ht:t≠5) (hB:B≤g):FT B w (w.setCell ⟨g,o,none⟩ b0):=by
 refine ⟨(Below.refl B w).setCell (p:=⟨g,o,none⟩) hB _,fun k cs fz e=>?_⟩
 rw [heap_setCell_other _ _ _ _ (aAk e h (Ne.symm ht)),e]
theorem ballotsOf_ok {B:Nat} {w:World} {a:Option Addr} {n c rp rl:Nat} (h1:rp<9223372036854775808) (h2:rl<9223372036854775808) (hp:1≤rp) (hl:rl≤rp) (hb:BS w a n c (enc rp++enc rl)) :
  Calls Tryz.prog 84 #[.slice a n c] w fun e w'=>e=.returned (.tuple #[.int .i64 (rp:Int),.int .i64 (rl:Int),.int .i64 0])∧w'=w:=by
 obtain ⟨hlen,g1,g9,k1,k9⟩:=enc_two_len h1 h2
 have hn:=hb.hlen
 have R1:=aBw a n c (enc rp++enc rl) 0 w hb
 have R2:=aBw a n c (enc rp++enc rl) (grp rp:Int) w hb
 obtain ⟨a1,a2,a3⟩:=@ru_at [] (enc rl) rp h1
 obtain ⟨b1,b2,b3⟩:=@ru_at (enc rp) [] rl h2
 simp only [List.nil_append,List.append_nil,List.length_nil] at a1 a2 a3 b1 b2 b3
 rw [aAl rp g1] at b1 b2 b3
 have a1:ruN (enc rp++enc rl) 0=rp:=a1
 have a2:ruP (enc rp++enc rl) 0=0+grp rp:=a2
 have a3:ruE (enc rp++enc rl) 0=0:=a3
 rw [Nat.zero_add] at a2
 rw [a1,a2,a3] at R1
 rw [b1,b2,b3] at R2
 have HR1:=hide R1
 have HR2:=hide R2
 have z1:((grp rp+grp rl:Nat):Int)=(n:Int):=by omega
 have z2:¬ (rp:Int)<1:=by omega
 have z3:¬ (rp:Int)<(rl:Int):=by omega
 rw [z1] at HR2
 clear R1 R2 a1 a2 a3 b1 b2 b3 hb hlen hn h1 h2 z1
 go_enter Tryz.func84,Tryz.ntmps84
 go_wp2_with fail
 refine HR1.out.mono ?_
 rintro e w1 ⟨rfl,hw⟩
 have hw:=hw.symm
 subst hw
 go_wp2_with fail
 refine HR2.out.mono ?_
 rintro e w1 ⟨rfl,hw⟩
 have hw:=hw.symm
 subst hw
 go_wp2
 go_ret3
 exact ⟨rfl,rfl⟩
theorem LS.readAccepted [Gd] {B p q g ls N c u:Nat} {l:List It} {W w:World} (h:LS B p q g ls N c u l W w) {v rp rl:Nat} {val:List Nat} (hv:v≤16) (hl:rl≠0) (hval:valL l [15,v,0]=some val) :
  Calls Tryz.prog 85 #[.pointer (some ⟨ls,0,none⟩),.int .i64 (v:Int),.agg #[.int .i64 (rp:Int),.int .i64 (rl:Int),.slice none 0 0]] w fun e w'=>∃ rv,e=.returned (.tuple #[rv,.int .i64 0])∧RcV B w' rv (rp,rl,val)∧Below w.heap.size w w':=by
 have lt:∀ {k:Nat} {o:Obj} {ww:World},ww.heap[k]?=some o→k<ww.heap.size:=fun e=>(lO e)
 have HNW:Hid ((w.alloc (.cells #[.int .i64 (rp:Int),.int .i64 (rl:Int),.slice none 0 0] 108)).heap[w.heap.size]?=some (.cells #[.int .i64 (rp:Int),.int .i64 (rl:Int),.slice none 0 0] 108 (0,0))):=heap_alloc_new w _
 have HBX:=hide (aAc w (.cells #[.int .i64 (rp:Int),.int .i64 (rl:Int),.slice none 0 0] 108))
 have HL1:=hide (h.later HBX.out)
 have HB0:=hide h.bw
 have HVK:=hide (valueKey_any (B:=B) (show v<256 by omega) (w.alloc (.cells #[.int .i64 (rp:Int),.int .i64 (rl:Int),.slice none 0 0] 108)))
 have HQ:=hide hl
 have HVV:=hide hval
 clear h hl hval hv
 go_enter Tryz.func85,Tryz.ntmps85
 go_wp2_with fail
 refine HVK.out.mono ?_
 rintro e w2 ⟨ka,kc,rfl,hk2,hb2⟩
 have HN2:=hide ((hb2.block w.heap.size (lt HNW.out)).trans HNW.out)
 have HL2:=hide (HL1.out.later hb2)
 have HB2:Hid (Below w.heap.size w w2):=HBX.out.trans (hb2.mono HBX.out.size)
 have HG:=hide (HL2.out.Get hk2 (by decide) (by decide))
 clear hk2 hb2 HVK
 go_wp2_with fail
 refine HG.out.mono ?_
 rintro e w3 ⟨vv,isb,rfl,hv3,hb3⟩
 rw [HVV.out] at hv3
 obtain ⟨rfl,va,vc,rfl,hk3⟩:=hv3
 have HN3:=hide ((hb3.block w.heap.size (lt HN2.out)).trans HN2.out)
 have HB3:Hid (Below w.heap.size w w3):=HB2.out.trans (hb3.mono HB2.out.size)
 have HK3:=hide hk3
 clear hk3 hb3 HG
 generalize hn0:w.heap.size=n0 at *
 have c2:w3.cell? ⟨n0,2,none⟩=some (.slice none 0 0):=aAa HN3.out
 have f2:w3.frozen? ⟨n0,2,none⟩=false:=aAb HN3.out
 have HS:Hid ((w3.setCell ⟨n0,2,none⟩ (.slice va val.length vc)).heap[n0]?=some (.cells #[.int .i64 (rp:Int),.int .i64 (rl:Int),.slice va val.length vc] 108 (0,0))):=heap_setCell_same _ _ _ _ _ _ HN3.out
 have HFS:=hide (HK3.out.ft (ft1 (o:=2) (b0:=.slice va val.length vc) HN3.out (by decide) HB0.out))
 have HBS:Hid (Below n0 w (w3.setCell ⟨n0,2,none⟩ (.slice va val.length vc))):=HB3.out.setCell (p:=⟨n0,2,none⟩) (nR n0) _
 go_upto_region 7 with fail
 generalize w3.setCell ⟨n0,2,none⟩ (.slice va val.length vc)=w4 at *
 have c0:w4.cell? ⟨n0,0,none⟩=some (.int .i64 (rp:Int)):=aAa HS.out
 have c1:w4.cell? ⟨n0,1,none⟩=some (.int .i64 (rl:Int)):=aAa HS.out
 have c3:w4.cell? ⟨n0,2,none⟩=some (.slice va val.length vc):=aAa HS.out
 go_wp2
 go_ret2
 exact ⟨_,rfl,Or.inr ⟨HQ.out,va,vc,rfl,HFS.out⟩,by rw [hn0];exact HBS.out⟩
structure RL (l:List It) (R:Nat→Rec):Prop where
 z:∀ v,v≤16→(R v).1=0→(R v).2.1=0∧valL l [15,v]=none
 n:∀ v,v≤16→(R v).1≠0→valL l [15,v]=some (enc (R v).1++enc (R v).2.1)
 b:∀ v,v≤16→(R v).2.1≤(R v).1∧(R v).1<9223372036854775808∧(R v).2.2.length≤1800
 a:∀ v,v≤16→(R v).2.1≠0→valL l [15,v,0]=some (R v).2.2
def RdT (B:Nat) (r:Rec) (w:World) (e:Ending) (w':World):Prop:=∃ rv,e=.returned (.tuple #[rv,.int .i64 0])∧RcV B w' rv r∧Below w.heap.size w w'
theorem LS.read [Gd] {B p q g ls N c u:Nat} {l:List It} {W w:World} (h:LS B p q g ls N c u l W w) {R:Nat→Rec} (hR:RL l R) {v:Nat} (hv:v≤16) :
  Calls Tryz.prog 51 #[.pointer (some ⟨ls,0,none⟩),.int .i64 (v:Int)] w fun e w'=>RdT B (R v) w e w':=by
 have hz:=hR.z v hv
 have hn:=hR.n v hv
 have hb:=hR.b v hv
 have ha:=hR.a v hv
 generalize R v=r at *
 obtain ⟨rp,rl,rval⟩:=r
 have HVK:=hide (aFh (B:=B) (show v<256 by omega) w)
 have HL0:=hide h
 have HV16:=hide hv
 have HZ:=hide hz
 have HN:=hide hn
 have HB:=hide hb
 have HA:=hide ha
 clear h hR hz hn hb ha hv
 go_enter Tryz.func51,Tryz.ntmps51
 go_wp2_with fail
 refine HVK.out.mono ?_
 rintro e w2 ⟨ka,kc,rfl,hk2,hb2⟩
 have HL2:=hide (HL0.out.later hb2)
 have HB2:=hide hb2
 have HG:=hide (HL2.out.Get hk2 (by decide) (by decide))
 clear hk2 hb2 HVK
 go_wp2_with fail
 refine HG.out.mono ?_
 rintro e w3 ⟨vv,isb,rfl,hv3,hb3⟩
 have HL3:=hide (HL2.out.later hb3)
 have HB3:Hid (Below w.heap.size w w3):=HB2.out.trans (hb3.mono HB2.out.size)
 clear hb3 HG
 by_cases h0:rp=0
 ·obtain ⟨z1,z2⟩:=HZ.out h0
  have z1:rl=0:=z1
  rw [z2] at hv3
  obtain ⟨rfl,rfl⟩:=hv3
  subst h0
  have HZZ:=hide z1
  clear z1 z2
  go_wp2
  go_ret2
  exact ⟨_,rfl,Or.inl ⟨HZZ.out,rfl⟩,HB3.out⟩
 ·have hn2:=HN.out h0
  rw [hn2] at hv3
  obtain ⟨rfl,va,vc,rfl,hk3⟩:=hv3
  obtain ⟨b1,b2,b3⟩:=HB.out
  have b1:rl≤rp:=b1
  have b2:rp<9223372036854775808:=b2
  have HBO:=hide (ballotsOf_ok (B:=B) b2 (show rl<9223372036854775808 by omega) (show 1≤rp by omega) b1 hk3.1)
  clear hn2 hk3 b3 b2 b1
  generalize (enc rp++enc rl).length=bn at *
  go_wp2_with fail
  refine HBO.out.mono ?_
  rintro e w4 ⟨rfl,hw⟩
  have hw:=hw.symm
  subst hw
  clear HBO
  by_cases hl0:rl=0
  ·have y0:((rl:Nat):Int)=0:=by omega
   have HZZ:=hide hl0
   clear hl0 h0
   go_wp2
   go_ret2
   exact ⟨_,rfl,Or.inl ⟨HZZ.out,rfl⟩,HB3.out⟩
  ·have y0:¬ ((rl:Nat):Int)=0:=by omega
   have HRA:=hide (HL3.out.readAccepted (rp:=rp) HV16.out hl0 (HA.out hl0))
   clear hl0 h0
   go_wp2_with fail
   refine HRA.out.mono ?_
   rintro e w5 ⟨rv,rfl,hr5,hb5⟩
   have HR5:=hide hr5
   have HB5:=hide (HB3.out.trans (hb5.mono HB3.out.size))
   clear hr5 hb5 HRA
   go_wp2
   go_ret2
   exact ⟨_,rfl,HR5.out,HB5.out⟩
structure RGM [Gd] (B p q g ls rg N c u:Nat) (l:List It) (W w:World):Prop where
 s:LS B p q g ls N c u l W w
 b:B≤rg
 v:∃ cs,w.heap[rg]?=some (.cells cs 86 (0,0))∧cs.size=18∧cs[0]?=some (.pointer (some ⟨ls,0,none⟩))
def RgF (B g ls rg:Nat) (w w':World):Prop:=Below B w w'∧∀ (k:Nat) (cs:Array Value) (t:TypeId) (fz:Nat×Nat),w.heap[k]?=some (Obj.cells cs t fz)→NT t→k≠g→k≠ls→k≠rg→w'.heap[k]?=some (Obj.cells cs t fz)
theorem RgF.trans {B g ls rg:Nat} {a b c:World} (h:RgF B g ls rg a b) (k:RgF B g ls rg b c):RgF B g ls rg a c:=⟨h.1.trans k.1,fun i cs t fz e n1 n2 n3 n4=>k.2 i cs t fz (h.2 i cs t fz e n1 n2 n3 n4) n1 n2 n3 n4⟩
theorem RgF.of {B g ls rg:Nat} {w w':World} (h:Below w.heap.size w w') (hB:B≤w.heap.size):RgF B g ls rg w w':=⟨h.mono hB,fun i cs t fz e _ _ _ _=>(h.block i (lO e)).trans e⟩
theorem RgF.ly {B g ls rg:Nat} {w w':World} (h:LyF B g ls w w'):RgF B g ls rg w w':=⟨h.1,fun k cs t fz e n1 n2 n3 _=>h.2 k cs t fz e n1 n2 n3⟩
theorem RgF.set {B g ls rg o:Nat} {w:World} {x:Value} (hB:B≤rg):RgF B g ls rg w (w.setCell ⟨rg,o,none⟩ x):=⟨(Ex.set hB).1,fun i cs t fz e h1 h2 h3 h4=>by rw [(Ex.set (w:=w) (o:=o) (u:=x) hB).2 i (lO e) (by simpa using h4),e]⟩
section
variable [Gd] {B p q g ls rg N c u:Nat} {l:List It} {W w w':World}
theorem RGM.later (h:RGM B p q g ls rg N c u l W w) (hb:Below w.heap.size w w'):RGM B p q g ls rg N c u l W w':=by
 obtain ⟨cs,h1,h2⟩:=h.v
 exact ⟨h.s.later hb,h.b,cs,(hb.block rg (lO h1)).trans h1,h2⟩
theorem RGM.bw (h:RGM B p q g ls rg N c u l W w):B≤w.heap.size:=h.s.bw
theorem RGM.cell0 (h:RGM B p q g ls rg N c u l W w):w.cell? ⟨rg,0,none⟩=some (.pointer (some ⟨ls,0,none⟩)):=by
 obtain ⟨cs,h1,h2,h3⟩:=h.v
 exact (aAa h1).trans h3
theorem RGM.known (h:RGM B p q g ls rg N c u l W w) {v:Nat} (hv:v≤16):(∃ x,w.cell? ⟨rg,1+v,none⟩=some x)∧w.frozen? ⟨rg,1+v,none⟩=false:=by
 obtain ⟨cs,h1,h2,h3⟩:=h.v
 refine ⟨?_,aAb h1⟩
 rw [aAa h1]
 exact ⟨_,Array.getElem?_eq_getElem (by omega)⟩
theorem RGM.set (h:RGM B p q g ls rg N c u l W w) {o:Nat} {x:Value} (ho:1≤o):RGM B p q g ls rg N c u l W (w.setCell ⟨rg,o,none⟩ x):=by
 obtain ⟨cs,h1,h2,h3⟩:=h.v
 have keep:∀ (k:Nat) (cs:Array Value) (t:TypeId) (fz:Nat×Nat),w.heap[k]?=some (Obj.cells cs t fz)→t≠86→(w.setCell ⟨rg,o,none⟩ x).heap[k]?=some (Obj.cells cs t fz):=fun k cs t fz e ht=>by
  rw [(Ex.set (w:=w) (o:=o) (u:=x) h.b).2 k (lO e) (by simpa using aAk e h1 ht),e]
 obtain ⟨cl,k1,k2⟩:=h.s.lv
 refine ⟨⟨h.s.kx.same (Ex.set h.b).1 (fun k cs t fz e ht=>keep k cs t fz e ?_),h.s.bl,cl,keep _ _ _ _ k1 (by decide),k2⟩,h.b,_,heap_setCell_same _ _ _ _ _ _ h1,by rw [Array.size_setIfInBounds];exact h2,by rw [Array.getElem?_setIfInBounds_ne (by omega)];exact h3⟩
 rcases ht with rfl | rfl | ht
 ·decide
 ·decide
 ·intro q9
  rw [q9] at ht
  exact ht (by decide)
theorem RGM.ft (h:RGM B p q g ls rg N c u l W w) (f:RgF B g ls rg w w'):FT B w w':=by
 obtain ⟨cg,hg⟩:=h.s.kx.blk
 obtain ⟨cl,k1,_⟩:=h.s.lv
 obtain ⟨cs,h1,_⟩:=h.v
 exact ⟨f.1,fun k cs fz e=>f.2 k cs _ fz e (by decide) (aAk e hg (by decide)) (aAk e k1 (by decide)) (aAk e h1 (by decide))⟩
end
def LkT [Gd] (B p q g ls rg N c u:Nat) (l:List It) (W:World) (r:Rec) (w:World) (e:Ending) (w':World):Prop:=∃ rv,e=.returned (.tuple #[rv,.int .i64 0])∧RcV B w' rv r∧RGM B p q g ls rg N c u l W w'∧∀ x1 x2,RgF B x1 x2 rg w w'
theorem RGM.look [Gd] {B p q g ls rg N c u:Nat} {l:List It} {W w:World} (h:RGM B p q g ls rg N c u l W w) {R:Nat→Rec} (hR:RL l R) {v:Nat} (hv:v≤16) :
  Calls Tryz.prog 22 #[.pointer (some ⟨rg,0,none⟩),.int .i64 (v:Int)] w fun e w'=>LkT B p q g ls rg N c u l W (R v) w e w':=by
 have r0:=h.cell0
 have HD:=hide h.s.dead
 have H:=hide h
 have HR:=hide hR
 have HV:=hide hv
 have i0:(0:Int)≤(v:Int):=by omega
 have i1:(v:Int)<17:=by omega
 clear h hR hv
 go_enter Tryz.func22,Tryz.ntmps22
 go_wp2_with fail
 refine HD.out.mono ?_
 rintro e w1 ⟨rfl,hb1⟩
 have H1:=hide (H.out.later hb1)
 have HB1:=hide hb1
 have r1:=H1.out.cell0
 have HRD:=hide (H1.out.s.read HR.out HV.out)
 clear hb1 r0 HD
 go_wp2_with fail
 refine HRD.out.mono ?_
 rintro e w2 ⟨rv,rfl,hr2,hb2⟩
 have H2:=hide (H1.out.later hb2)
 have HB2:=hide (HB1.out.trans (hb2.mono HB1.out.size))
 obtain ⟨⟨x,hx⟩,hf⟩:=H2.out.known HV.out
 have HBR:=hide H2.out.b
 obtain ⟨cs,k1,_⟩:=H2.out.v
 have HK1:=hide k1
 have HF2:Hid (∀ x1 x2,RgF B x1 x2 rg w w2):=fun x1 x2=>RgF.of HB2.out H.out.bw
 have HR2:=hide hr2
 have HRF:Hid (∀ x,RcV B (w2.setCell ⟨rg,1+v,none⟩ x) rv (R v)):=fun x=>HR2.out.ft (ft1 HK1.out (by decide) HBR.out)
 clear hb2 r1 HRD k1
 obtain ⟨ty,pv,hform⟩:∃ ty pv,rv=.iface ty pv:=by
  rcases hr2 with ⟨_,e⟩ | ⟨_,a,c,e,_⟩
  ·exact ⟨_,_,e⟩
  ·exact ⟨_,_,e⟩
 subst hform
 clear hr2
 go_wp2
 go_ret2
 exact ⟨_,rfl,HRF.out _,H2.out.set (by omega),fun x1 x2=>(HF2.out x1 x2).trans (RgF.set HBR.out)⟩
theorem RGM.keep [Gd] {B p q g ls rg N c u:Nat} {l cl:List It} {W w:World} {ty:TypeId} {pv cv:Value} {v:Nat} (hg0:Gd.g=none) (h:RGM B p q g ls rg N c u l W w) (hv:v≤16) (hN:3≤N) (hc9:c<900) (hu:u+9*cl.length+11≤N) (hu2:u≤2000) (hl:l.length+cl.length<90) (hcv:CHV B w cv cl) (hok:∀ x∈cl,0<x.1.length∧x.1.length≤60∧x.2.length≤1800∧(∀ n∈x.1,n<256)∧∀ n∈x.2,n<256) :
  Calls Tryz.prog 30 #[.pointer (some ⟨rg,0,none⟩),.int .i64 (v:Int),.iface ty pv,cv] w fun e w'=>e=.returned (.int .i64 0)∧RGM B p q g ls rg N (c+1) (apL l cl).length (apL l cl) W w'∧RgF B g ls rg w w':=by
 have lt:∀ {k:Nat} {o:Obj} {ww:World},ww.heap[k]?=some o→k<ww.heap.size:=fun e=>(lO e)
 have hd:Below w.heap.size w w.drew:=(Below.refl _ _).drew
 have H:=hide (h.later hd)
 have HBW:=hide h.bw
 have HPO:=hide H.out.s.pos
 have HAP:=hide (H.out.s.Apply hg0 hN hc9 hu hu2 hl (hcv.later hd h.bw) hok)
 have HV:=hide hv
 have i0:(0:Int)≤(v:Int):=by omega
 have i1:(v:Int)<17:=by omega
 have HX0:Hid ((fun wx=>wx.cell? ⟨rg,0,none⟩=some (.pointer (some ⟨ls,0,none⟩))) w.drew):=H.out.cell0
 obtain ⟨gv,cap,hform⟩:∃ g cap,cv=.slice (some ⟨g,0,none⟩) cl.length cap:=by
  obtain ⟨kv,g,cap,h1,_⟩:=hcv
  exact ⟨g,cap,h1⟩
 subst hform
 have HD:Hid (RgF B g ls rg w w.drew):=RgF.of hd h.bw
 clear h hcv hok hd hv
 generalize cl.length=M at *
 go_enter Tryz.func30,Tryz.ntmps30
 go_upto_region 1 with fail
 refine wp_region_noPanic ?_
 refine wp_region_held_drew (S:=fun wx=>wx.cell? ⟨rg,0,none⟩=some (.pointer (some ⟨ls,0,none⟩))) (by kernel_rfl) HX0.out (fun hHeld=>?_)
 refine wpAnyH_tk 0 10 ?_
 refine wpAnyH_tk 1 11 ?_
 refine wpAnyH_tk 2 12 ?_
 refine wpAnyH_tk 3 13 ?_
 refine wpAnyH_tk 4 14 ?_
 refine wpAnyH_tk 5 15 ?_
 refine wpAnyH_tk 6 16 ?_
 refine wpAnyH_tk 7 17 ?_
 refine wpAnyH_tk 9 19 ?_
 refine wpAnyH_cm 8 ?_;intro K hK
 go_simp
 refine HPO.out.mono ?_
 rintro e w9 ⟨rfl,hw⟩
 subst hw
 refine hK.out _ _ hHeld (fun hHeld=>?_)
 clear hK K
 try simp only [Act.put,siT,scZ,scS]
 refine wpAnyH_cm 10 ?_;intro K hK
 go_simp
 refine HAP.out.mono ?_
 rintro e w3 ⟨rfl,b1,b2⟩
 obtain ⟨cg,hg⟩:=H.out.s.kx.blk
 obtain ⟨cl0,k1,_⟩:=H.out.s.lv
 obtain ⟨cs,k2,k3,k4⟩:=H.out.v
 have h3:RGM B p q g ls rg N (c+1) (apL l cl).length (apL l cl) W w3:=⟨b2,H.out.b,cs,b1.2 _ _ _ _ k2 (by decide) (aAk k2 hg (by decide)) (aAk k2 k1 (by decide)),k3,k4⟩
 have H3:=hide h3
 have HF3:Hid (RgF B g ls rg w w3):=HD.out.trans (RgF.ly b1)
 have HX3:Hid ((fun wx=>wx.cell? ⟨rg,0,none⟩=some (.pointer (some ⟨ls,0,none⟩))) w3):=h3.cell0
 clear b1 b2 hg k1 k2 k3 k4 h3 hHeld
 refine hK.out _ _ HX3.out (fun hHeld=>?_)
 clear hK K
 try simp only [Act.put,siT,scZ,scS]
 refine wpAnyH_tk 11 9 ?_
 refine wpAnyH_done (by kernel_rfl) ?_ _
 refine NoPanic.normal ?_
 clear hHeld HX0 HX3 HPO HAP
 obtain ⟨⟨x,hx⟩,hf⟩:=H3.out.known HV.out
 have HBR:=hide H3.out.b
 go_wp2
 go_ret
 exact ⟨rfl,H3.out.set (by omega),HF3.out.trans (RgF.set HBR.out)⟩
abbrev Lg:=Nat×Nat×Bool
structure NDV (cs:Array Value) (ls rg:Nat) (L:Nat→Lg):Prop where
 sz:cs.size=53
 c0:cs[0]?=some (.pointer (some ⟨ls,0,none⟩))
 c1:cs[1]?=some (.pointer (some ⟨rg,0,none⟩))
 cl:∀ j,j≤16→cs[2+j*3]?=some (.int .i64 ((L j).1:Int))∧cs[2+j*3+1]?=some (.int .i64 ((L j).2.1:Int))∧cs[2+j*3+2]?=some (.bool (L j).2.2)
structure NDM [Gd] (B p q g ls rg nd N c u:Nat) (l:List It) (L:Nat→Lg) (W w:World):Prop where
 s:LS B p q g ls N c u l W w
 b:B≤nd
 v:∃ cs,w.heap[nd]?=some (.cells cs 64 (0,0))∧NDV cs ls rg L
def upL (L:Nat→Lg) (j:Nat) (x:Lg):Nat→Lg:=fun i=>if i=j then x else L i
theorem NDV.set {cs:Array Value} {ls rg:Nat} {L:Nat→Lg} (h:NDV cs ls rg L) {j:Nat} (hj:j≤16) (x:Lg):NDV (((cs.setIfInBounds (2+j*3) (.int .i64 (x.1:Int))).setIfInBounds (2+j*3+1) (.int .i64 (x.2.1:Int))).setIfInBounds (2+j*3+2) (.bool x.2.2)) ls rg (upL L j x):=by
 have hs:=h.sz
 refine ⟨by simp only [Array.size_setIfInBounds];exact h.sz,?_,?_,?_⟩
 ·rw [Array.getElem?_setIfInBounds_ne (by omega),Array.getElem?_setIfInBounds_ne (by omega),Array.getElem?_setIfInBounds_ne (by omega)]
  exact h.c0
 ·rw [Array.getElem?_setIfInBounds_ne (by omega),Array.getElem?_setIfInBounds_ne (by omega),Array.getElem?_setIfInBounds_ne (by omega)]
  exact h.c1
 ·intro i hi
  by_cases hij:i=j
  ·subst hij
   have e:upL L i x i=x:=if_pos rfl
   rw [e]
   refine ⟨?_,?_,?_⟩
   ·rw [Array.getElem?_setIfInBounds_ne (by omega),Array.getElem?_setIfInBounds_ne (by omega),Array.getElem?_setIfInBounds_self_of_lt (by omega)]
   ·rw [Array.getElem?_setIfInBounds_ne (by omega),Array.getElem?_setIfInBounds_self_of_lt (by rw [Array.size_setIfInBounds];omega)]
   ·rw [Array.getElem?_setIfInBounds_self_of_lt (by rw [Array.size_setIfInBounds,Array.size_setIfInBounds];omega)]
  ·have e:upL L j x i=L i:=if_neg hij
   rw [e]
   refine ⟨?_,?_,?_⟩
   ·rw [Array.getElem?_setIfInBounds_ne (by omega),Array.getElem?_setIfInBounds_ne (by omega),Array.getElem?_setIfInBounds_ne (by omega)]
    exact (h.cl i hi).1
   ·rw [Array.getElem?_setIfInBounds_ne (by omega),Array.getElem?_setIfInBounds_ne (by omega),Array.getElem?_setIfInBounds_ne (by omega)]
    exact (h.cl i hi).2.1
   ·rw [Array.getElem?_setIfInBounds_ne (by omega),Array.getElem?_setIfInBounds_ne (by omega),Array.getElem?_setIfInBounds_ne (by omega)]
    exact (h.cl i hi).2.2
section
variable [Gd] {B p q g ls rg nd N c u:Nat} {l:List It} {L:Nat→Lg} {W w w':World}
theorem LS.nset (h:LS B p q g ls N c u l W w) {cf:Array Value} {o:Nat} {x:Value} (hf:w.heap[nd]?=some (.cells cf 64 (0,0))) (hB:B≤nd):LS B p q g ls N c u l W (w.setCell ⟨nd,o,none⟩ x):=by
 obtain ⟨cs,h1,h2⟩:=h.lv
 have keep:∀ (k:Nat) (cs:Array Value) (t:TypeId) (fz:Nat×Nat),w.heap[k]?=some (Obj.cells cs t fz)→t≠64→(w.setCell ⟨nd,o,none⟩ x).heap[k]?=some (Obj.cells cs t fz):=fun k cs t fz e ht=>by
  rw [(Ex.set (w:=w) (o:=o) (u:=x) hB).2 k (lO e) (by simpa using aAk e hf ht),e]
 refine ⟨h.kx.same (Ex.set hB).1 (fun k cs t fz e ht=>keep k cs t fz e ?_),h.bl,cs,keep _ _ _ _ h1 (by decide),h2⟩
 rcases ht with rfl | rfl | ht
 ·decide
 ·decide
 ·intro q9
  rw [q9] at ht
  exact ht (by decide)
theorem NDM.later (h:NDM B p q g ls rg nd N c u l L W w) (hb:Below w.heap.size w w'):NDM B p q g ls rg nd N c u l L W w':=by
 obtain ⟨cs,h1,h2⟩:=h.v
 exact ⟨h.s.later hb,h.b,cs,(hb.block nd (lO h1)).trans h1,h2⟩
theorem NDM.bw (h:NDM B p q g ls rg nd N c u l L W w):B≤w.heap.size:=h.s.bw
theorem NDM.cell0 (h:NDM B p q g ls rg nd N c u l L W w):w.cell? ⟨nd,0,none⟩=some (.pointer (some ⟨ls,0,none⟩)):=by
 obtain ⟨cs,h1,h2⟩:=h.v
 exact (aAa h1).trans h2.c0
theorem NDM.lg (h:NDM B p q g ls rg nd N c u l L W w) {j:Nat} (hj:j≤16):w.cell? ⟨nd,2+j*3,none⟩=some (.int .i64 ((L j).1:Int))∧w.cell? ⟨nd,2+j*3+1,none⟩=some (.int .i64 ((L j).2.1:Int))∧w.cell? ⟨nd,2+j*3+2,none⟩=some (.bool (L j).2.2):=by
 obtain ⟨cs,h1,h2⟩:=h.v
 exact ⟨(aAa h1).trans (h2.cl j hj).1,(aAa h1).trans (h2.cl j hj).2.1,(aAa h1).trans (h2.cl j hj).2.2⟩
theorem NDM.lgf (h:NDM B p q g ls rg nd N c u l L W w) (o:Nat):w.frozen? ⟨nd,o,none⟩=false:=by
 obtain ⟨cs,h1,h2⟩:=h.v
 exact aAb h1
theorem NDM.set (h:NDM B p q g ls rg nd N c u l L W w) {j:Nat} (hj:j≤16) (x:Lg):NDM B p q g ls rg nd N c u l (upL L j x) W (((w.setCell ⟨nd,2+j*3,none⟩ (.int .i64 (x.1:Int))).setCell ⟨nd,2+j*3+1,none⟩ (.int .i64 (x.2.1:Int))).setCell ⟨nd,2+j*3+2,none⟩ (.bool x.2.2)):=by
 obtain ⟨cs,h1,h2⟩:=h.v
 have k1:=heap_setCell_same w nd (2+j*3) cs 64 (.int .i64 (x.1:Int)) h1
 have k2:=heap_setCell_same _ nd (2+j*3+1) _ 64 (.int .i64 (x.2.1:Int)) k1
 have k3:=heap_setCell_same _ nd (2+j*3+2) _ 64 (.bool x.2.2) k2
 exact ⟨((h.s.nset h1 h.b).nset k1 h.b).nset k2 h.b,h.b,_,k3,h2.set hj x⟩
theorem NDM.ft (h:NDM B p q g ls rg nd N c u l L W w) (f:RgF B g ls nd w w'):FT B w w':=by
 obtain ⟨cg,hg⟩:=h.s.kx.blk
 obtain ⟨cl,k1,_⟩:=h.s.lv
 obtain ⟨cs,h1,_⟩:=h.v
 exact ⟨f.1,fun k cs fz e=>f.2 k cs _ fz e (by decide) (aAk e hg (by decide)) (aAk e k1 (by decide)) (aAk e h1 (by decide))⟩
theorem NDM.dead (h:NDM B p q g ls rg nd N c u l L W w):Calls Tryz.prog 26 #[.pointer (some ⟨nd,0,none⟩)] w fun e w'=>e=.returned (.bool false)∧Below w.heap.size w w':=by
 have x0:=h.cell0
 have HD:=hide h.s.dead
 clear h
 go_enter Tryz.func26,Tryz.ntmps26
 go_wp2_with fail
 refine HD.out.mono ?_
 rintro e w1 ⟨rfl,hb1⟩
 have HB1:=hide hb1
 clear hb1 HD x0
 go_wp2
 go_ret
 exact ⟨rfl,HB1.out⟩
end
theorem nref_ok [Gd] {B p q g ls rg nd N c u lg at_ n cp:Nat} {l:List It} {L:Nat→Lg} {W w:World} {k:Int} {va:Option Addr} (h:NDM B p q g ls rg nd N c u l L W w) (hk1:1≤k) (hk2:k≤8) (hlg:lg≤16) (hn:n≤1800) :
  Calls Tryz.prog 14 #[.pointer (some ⟨nd,0,none⟩),.agg #[.int .i64 k,.int .i64 (lg:Int),.int .i64 (at_:Int),.slice va n cp]] w fun e w'=>e=.returned (.int .i64 0)∧Below w.heap.size w w':=by
 have lt:∀ {k:Nat} {o:Obj} {ww:World},ww.heap[k]?=some o→k<ww.heap.size:=fun e=>(lO e)
 have z1:¬ k<1:=by omega
 have z2:¬ 8<k:=by omega
 have z3:¬ (lg:Int)<0:=by omega
 have z4:¬ (16:Int)<(lg:Int):=by omega
 have z5:¬ (at_:Int)<0:=by omega
 have z6:¬ (1800:Int)<(n:Int):=by omega
 have HNW:Hid ((w.alloc (.cells #[.int .i64 k,.int .i64 (lg:Int),.int .i64 (at_:Int),.slice va n cp] 35)).heap[w.heap.size]?=some (.cells #[.int .i64 k,.int .i64 (lg:Int),.int .i64 (at_:Int),.slice va n cp] 35 (0,0))):=heap_alloc_new w _
 have HBX:=hide (aAc w (.cells #[.int .i64 k,.int .i64 (lg:Int),.int .i64 (at_:Int),.slice va n cp] 35))
 have HD:=hide (h.later HBX.out).dead
 clear h hk1 hk2 hlg hn
 go_enter Tryz.func14,Tryz.ntmps14
 go_wp2_with fail
 refine HD.out.mono ?_
 rintro e w1 ⟨rfl,hb1⟩
 have HN1:=hide ((hb1.block _ (lt HNW.out)).trans HNW.out)
 have HB1:=hide (HBX.out.trans (hb1.mono HBX.out.size))
 clear hb1 HD HNW
 generalize hn0:w.heap.size=n0 at *
 have y0:w1.cell? ⟨n0,0,none⟩=some (.int .i64 k):=aAa HN1.out
 have y1:w1.cell? ⟨n0,1,none⟩=some (.int .i64 (lg:Int)):=aAa HN1.out
 have y2:w1.cell? ⟨n0,2,none⟩=some (.int .i64 (at_:Int)):=aAa HN1.out
 have y3:w1.cell? ⟨n0,3,none⟩=some (.slice va n cp):=aAa HN1.out
 go_wp2
 go_ret
 exact ⟨rfl,by rw [hn0];exact HB1.out⟩
theorem nref_arg [Gd] {B p q g ls rg nd N c u n cp:Nat} {l:List It} {L:Nat→Lg} {W w:World} {k lg at_:Int} {va:Option Addr} (h:NDM B p q g ls rg nd N c u l L W w) (hk1:k<1) :
  Calls Tryz.prog 14 #[.pointer (some ⟨nd,0,none⟩),.agg #[.int .i64 k,.int .i64 lg,.int .i64 at_,.slice va n cp]] w fun e w'=>e=.returned (.int .i64 1)∧Below w.heap.size w w':=by
 have lt:∀ {k:Nat} {o:Obj} {ww:World},ww.heap[k]?=some o→k<ww.heap.size:=fun e=>(lO e)
 have HNW:Hid ((w.alloc (.cells #[.int .i64 k,.int .i64 lg,.int .i64 at_,.slice va n cp] 35)).heap[w.heap.size]?=some (.cells #[.int .i64 k,.int .i64 lg,.int .i64 at_,.slice va n cp] 35 (0,0))):=heap_alloc_new w _
 have HBX:=hide (aAc w (.cells #[.int .i64 k,.int .i64 lg,.int .i64 at_,.slice va n cp] 35))
 have HD:=hide (h.later HBX.out).dead
 clear h
 go_enter Tryz.func14,Tryz.ntmps14
 go_wp2_with fail
 refine HD.out.mono ?_
 rintro e w1 ⟨rfl,hb1⟩
 have HN1:=hide ((hb1.block _ (lt HNW.out)).trans HNW.out)
 have HB1:=hide (HBX.out.trans (hb1.mono HBX.out.size))
 clear hb1 HD HNW
 generalize hn0:w.heap.size=n0 at *
 have y0:w1.cell? ⟨n0,0,none⟩=some (.int .i64 k):=aAa HN1.out
 go_wp2
 go_ret
 exact ⟨rfl,by rw [hn0];exact HB1.out⟩
theorem putL_self {l:List It} (hs:Srt l) (it:It):it∈putL l it:=by
 unfold putL
 by_cases h:hasI l it.1=true
 ·obtain ⟨x,hx,_⟩:=(hs.has it.1).1 h
  rw [if_pos h]
  exact mG (i:=fndI l it.1) (by rw [List.getElem?_set,if_pos rfl,if_pos (lL hx)])
 ·rw [if_neg h]
  simp
theorem putL_old {l:List It} (hs:Srt l) {it x:It} (hx:x∈l) (hne:x.1≠it.1):x∈putL l it:=by
 unfold putL
 by_cases h:hasI l it.1=true
 ·obtain ⟨y,hy,hk⟩:=(hs.has it.1).1 h
  rw [if_pos h]
  obtain ⟨i,hi⟩:=List.getElem?_of_mem hx
  refine mG (i:=i) ?_
  rw [List.getElem?_set,if_neg (fun q=>?_)]
  ·exact hi
  ·rw [←q,hy] at hi
   cases hi
   exact hne hk
 ·rw [if_neg h]
  rw [←List.take_append_drop (fndI l it.1) l] at hx
  rcases List.mem_append.1 hx with q | q
  ·exact List.mem_append_left _ q
  ·exact List.mem_append_right _ (List.mem_cons_of_mem _ q)
theorem valL_put {l:List It} (hs:Srt l) (it:It) (k:List Nat):valL (putL l it) k=if it.1=k then some it.2 else valL l k:=by
 by_cases h:it.1=k
 ·rw [if_pos h,←h]
  exact aB3 (aD9 hs) (putL_self hs it)
 ·rw [if_neg h]
  by_cases c:∃ x∈l,x.1=k
  ·obtain ⟨x,hx,rfl⟩:=c
   rw [aB3 hs hx,aB3 (aD9 hs) (putL_old hs hx (fun q=>h q.symm))]
  ·rw [aCf fun x hx q=>c ⟨x,hx,q⟩]
   refine aCf fun x hx q=>?_
   rcases aGe hx with q9 | q9
   ·exact c ⟨x,q9,q⟩
   ·rw [q9] at q
    exact h q
theorem RL.nil:RL [] (fun _=>(0,0,[])):=⟨fun v _ _=>⟨rfl,rfl⟩,fun v _ h=>absurd rfl h,fun v _=>⟨nR _,by decide,by decide⟩,fun v _ h=>absurd rfl h⟩
theorem RcV.pr {B:Nat} {w:World} {rv:Value} {r:Rec} (h:RcV B w rv r):∃ ty pv,rv=.iface ty pv∧∀ ww:World,(method 420 ty pv "headland/register.promised").run Tryz.prog ww=.ok (225,.int .i64 (r.1:Int)) ww:=by
 rcases h with ⟨_,e⟩ | ⟨_,a,c,e,_⟩
 ·exact ⟨_,_,e,fun ww=>mt_pr _ ww⟩
 ·exact ⟨_,_,e,fun ww=>mt_ac _ _ _ ww⟩
theorem RGM.an [Gd] {B p q g ls rg N c u:Nat} {l:List It} {W w:World} (h:RGM B p q g ls rg N c u l W w) {n0 o:Nat} {x:Value} {ca:Array Value} (hn:w.heap[n0]?=some (.cells ca 32 (0,0))) (hB:B≤n0):RGM B p q g ls rg N c u l W (w.setCell ⟨n0,o,none⟩ x):=by
 obtain ⟨cs,h1,h2⟩:=h.v
 obtain ⟨cl,k1,k2⟩:=h.s.lv
 have keep:∀ (k:Nat) (cs:Array Value) (t:TypeId) (fz:Nat×Nat),w.heap[k]?=some (Obj.cells cs t fz)→t≠32→(w.setCell ⟨n0,o,none⟩ x).heap[k]?=some (Obj.cells cs t fz):=fun k cs t fz e ht=>by
  rw [(Ex.set (w:=w) (o:=o) (u:=x) hB).2 k (lO e) (by simpa using aAk e hn ht),e]
 refine ⟨⟨h.s.kx.same (Ex.set hB).1 (fun k cs t fz e ht=>keep k cs t fz e ?_),h.s.bl,cl,keep _ _ _ _ k1 (by decide),k2⟩,h.b,cs,keep _ _ _ _ h1 (by decide),h2⟩
 rcases ht with rfl | rfl | ht
 ·decide
 ·decide
 ·intro q9
  rw [q9] at ht
  exact ht (by decide)
theorem RGM.an6 [Gd] {B p q g ls rg N c u:Nat} {l:List It} {W w:World} (h:RGM B p q g ls rg N c u l W w) {n0:Nat} {a0 a1 a2 a3 a4 a5 b0 b1 b2 b3 b4 b5:Value} (hn:w.heap[n0]?=some (.cells #[a0,a1,a2,a3,a4,a5] 32 (0,0))) (hB:B≤n0):RGM B p q g ls rg N c u l W ((((((w.setCell ⟨n0,0,none⟩ b0).setCell ⟨n0,1,none⟩ b1).setCell ⟨n0,2,none⟩ b2).setCell ⟨n0,3,none⟩ b3).setCell ⟨n0,4,none⟩ b4).setCell ⟨n0,5,none⟩ b5):=by
 have s1:(w.setCell ⟨n0,0,none⟩ b0).heap[n0]?=some (.cells (#[a0,a1,a2,a3,a4,a5].setIfInBounds 0 b0) 32 (0,0)):=heap_setCell_same _ _ _ _ _ _ hn
 have s2:((w.setCell ⟨n0,0,none⟩ b0).setCell ⟨n0,1,none⟩ b1).heap[n0]?=some (.cells ((#[a0,a1,a2,a3,a4,a5].setIfInBounds 0 b0).setIfInBounds 1 b1) 32 (0,0)):=heap_setCell_same _ _ _ _ _ _ s1
 have s3:(((w.setCell ⟨n0,0,none⟩ b0).setCell ⟨n0,1,none⟩ b1).setCell ⟨n0,2,none⟩ b2).heap[n0]?=some (.cells (((#[a0,a1,a2,a3,a4,a5].setIfInBounds 0 b0).setIfInBounds 1 b1).setIfInBounds 2 b2) 32 (0,0)):=heap_setCell_same _ _ _ _ _ _ s2
 have s4:((((w.setCell ⟨n0,0,none⟩ b0).setCell ⟨n0,1,none⟩ b1).setCell ⟨n0,2,none⟩ b2).setCell ⟨n0,3,none⟩ b3).heap[n0]?=some (.cells ((((#[a0,a1,a2,a3,a4,a5].setIfInBounds 0 b0).setIfInBounds 1 b1).setIfInBounds 2 b2).setIfInBounds 3 b3) 32 (0,0)):=heap_setCell_same _ _ _ _ _ _ s3
 have s5:(((((w.setCell ⟨n0,0,none⟩ b0).setCell ⟨n0,1,none⟩ b1).setCell ⟨n0,2,none⟩ b2).setCell ⟨n0,3,none⟩ b3).setCell ⟨n0,4,none⟩ b4).heap[n0]?=some (.cells (((((#[a0,a1,a2,a3,a4,a5].setIfInBounds 0 b0).setIfInBounds 1 b1).setIfInBounds 2 b2).setIfInBounds 3 b3).setIfInBounds 4 b4) 32 (0,0)):=heap_setCell_same _ _ _ _ _ _ s4
 exact (((((h.an hn hB).an s1 hB).an s2 hB).an s3 hB).an s4 hB).an s5 hB
theorem RgF.an6 {B g ls rg n0:Nat} {w0 w:World} {b0 b1 b2 b3 b4 b5:Value} (h:RgF B g ls rg w0 w) (hn:w0.heap.size≤n0) (hB:B≤n0):RgF B g ls rg w0 ((((((w.setCell ⟨n0,0,none⟩ b0).setCell ⟨n0,1,none⟩ b1).setCell ⟨n0,2,none⟩ b2).setCell ⟨n0,3,none⟩ b3).setCell ⟨n0,4,none⟩ b4).setCell ⟨n0,5,none⟩ b5):=by
 refine ⟨bel6 h.1 hB,fun k cs t fz e n1 n2 n3 n4=>?_⟩
 have hne:k≠n0:=by
  have:=(lO e)
  omega
 rw [heap_setCell_other _ _ _ _ hne,heap_setCell_other _ _ _ _ hne,heap_setCell_other _ _ _ _ hne,heap_setCell_other _ _ _ _ hne,heap_setCell_other _ _ _ _ hne,heap_setCell_other _ _ _ _ hne]
 exact h.2 k cs t fz e n1 n2 n3 n4
theorem pairs_zero [Gd] {B p q g N c u r:Nat} {l:List It} {W w:World} (h:KX B p q g N c u l W w) (hr:w.heap[r]?=some (.cells #[.slice none 0 0,.slice none 0 0,.int .i64 0,.slice none 0 0] 171 (0,0))) :
  Calls Tryz.prog 81 #[.pointer (some ⟨g,0,none⟩),.pointer (some ⟨g,2,none⟩),.pointer (some ⟨r,0,none⟩)] w fun e w'=>e=.returned (.tuple #[.slice none 0 0,.int .i64 0])∧Below w.heap.size w w':=by
 have lt:∀ {k:Nat} {o:Obj} {ww:World},ww.heap[k]?=some o→k<ww.heap.size:=fun e=>(lO e)
 have q0:=aAf [Obj.cells #[.pointer (some ⟨g,0,none⟩)] 72,Obj.cells #[.pointer (some ⟨g,2,none⟩)] 168,Obj.cells #[.pointer (some ⟨r,0,none⟩)] 169] w 0 _ rfl
 have q2:=aAf [Obj.cells #[.pointer (some ⟨g,0,none⟩)] 72,Obj.cells #[.pointer (some ⟨g,2,none⟩)] 168,Obj.cells #[.pointer (some ⟨r,0,none⟩)] 169] w 2 _ rfl
 have qb:=(aAn [Obj.cells #[.pointer (some ⟨g,0,none⟩)] 72,Obj.cells #[.pointer (some ⟨g,2,none⟩)] 168,Obj.cells #[.pointer (some ⟨r,0,none⟩)] 169] w).1
 have HQ0:Hid ((((w.alloc (.cells #[.pointer (some ⟨g,0,none⟩)] 72)).alloc (.cells #[.pointer (some ⟨g,2,none⟩)] 168)).alloc (.cells #[.pointer (some ⟨r,0,none⟩)] 169)).heap[w.heap.size]?=some (.cells #[.pointer (some ⟨g,0,none⟩)] 72 (0,0))):=q0
 have HQ2:Hid ((((w.alloc (.cells #[.pointer (some ⟨g,0,none⟩)] 72)).alloc (.cells #[.pointer (some ⟨g,2,none⟩)] 168)).alloc (.cells #[.pointer (some ⟨r,0,none⟩)] 169)).heap[w.heap.size+1+1]?=some (.cells #[.pointer (some ⟨r,0,none⟩)] 169 (0,0))):=q2
 have HB1:Hid (Below w.heap.size w (((w.alloc (.cells #[.pointer (some ⟨g,0,none⟩)] 72)).alloc (.cells #[.pointer (some ⟨g,2,none⟩)] 168)).alloc (.cells #[.pointer (some ⟨r,0,none⟩)] 169))):=qb
 have H1:=hide (h.later HB1.out)
 have HR1:=hide ((HB1.out.block r (lt hr)).trans hr)
 have HD:=hide H1.out.dead
 have y0:(((w.alloc (.cells #[.pointer (some ⟨g,0,none⟩)] 72)).alloc (.cells #[.pointer (some ⟨g,2,none⟩)] 168)).alloc (.cells #[.pointer (some ⟨r,0,none⟩)] 169)).cell? ⟨w.heap.size,0,none⟩=some (.pointer (some ⟨g,0,none⟩)):=aAa HQ0.out
 clear h hr q0 q2 qb
 go_enter Tryz.func81,Tryz.ntmps81
 go_wp2_with fail
 refine HD.out.mono ?_
 rintro e w2 ⟨rfl,hb2⟩
 have HN2:=hide ((hb2.block _ (lt HQ2.out)).trans HQ2.out)
 have HR2:=hide ((hb2.block r (lt HR1.out)).trans HR1.out)
 have HB2:Hid (Below w.heap.size w w2):=HB1.out.trans (hb2.mono HB1.out.size)
 clear hb2 HD y0
 generalize hn2:w.heap.size+1+1=n2 at *
 have x0:w2.cell? ⟨n2,0,none⟩=some (.pointer (some ⟨r,0,none⟩)):=aAa HN2.out
 have x1:w2.cell? ⟨r,0,none⟩=some (.slice none 0 0):=aAa HR2.out
 have x2:w2.cell? ⟨r,1,none⟩=some (.slice none 0 0):=aAa HR2.out
 have x3:w2.cell? ⟨r,2,none⟩=some (.int .i64 0):=aAa HR2.out
 have HX0:Hid ((fun wx=>wx.cell? ⟨n2,0,none⟩=some (.pointer (some ⟨r,0,none⟩))∧wx.cell? ⟨r,2,none⟩=some (.int .i64 0)) w2.drew):=⟨x0,x3⟩
 have d1:decide ((0:Int)=0)=true:=rfl
 go_upto_region 7 with fail
 refine wp_region_noPanic ?_
 refine wp_region_held_drew (S:=fun wx=>wx.cell? ⟨n2,0,none⟩=some (.pointer (some ⟨r,0,none⟩))∧wx.cell? ⟨r,2,none⟩=some (.int .i64 0)) (by kernel_rfl) HX0.out (fun hHeld=>?_)
 refine wpAnyH_tk 0 34 ?_
 refine wpAnyH_tk 1 35 ?_
 refine wpAnyH_tk 2 36 ?_
 refine wpAnyH_tk 3 37 ?_
 refine wpAnyH_tk 4 38 ?_
 refine wpAnyH_tk 5 39 ?_
 refine aAe (i:=6) (d:=40) (v:=undef) (by kernel_rfl) (by kernel_rfl) (by kernel_rfl) (by kernel_rfl) (fun _ _ _ h=>h) ?hya6 (by assumption) ?resta6
 case hya6 =>
  intro oi ho
  simp only [List.getElem?_toArray,List.getElem?_cons_succ,List.getElem?_cons_zero,oI] at ho
  subst ho
  exact Or.inr ⟨by rfl,rfl⟩
 try simp only [Act.put,siT,scZ,scS]
 refine aAe (i:=7) (d:=41) (v:=undef) (by kernel_rfl) (by kernel_rfl) (by kernel_rfl) (by kernel_rfl) (fun _ _ _ h=>h) ?hya7 (by assumption) ?resta7
 case hya7 =>
  intro oi ho
  simp only [List.getElem?_toArray,List.getElem?_cons_succ,List.getElem?_cons_zero,oI] at ho
  subst ho
  exact Or.inr ⟨by rfl,rfl⟩
 try simp only [Act.put,siT,scZ,scS]
 refine aAe (i:=8) (d:=42) (v:=undef) (by kernel_rfl) (by kernel_rfl) (by kernel_rfl) (by kernel_rfl) (fun _ _ _ h=>h) ?hya8 (by assumption) ?resta8
 case hya8 =>
  intro oi ho
  simp only [List.getElem?_toArray,List.getElem?_cons_succ,List.getElem?_cons_zero,oI] at ho
  subst ho
  exact Or.inr ⟨by rfl,rfl⟩
 try simp only [Act.put,siT,scZ,scS]
 refine aAe (i:=9) (d:=43) (v:=undef) (by kernel_rfl) (by kernel_rfl) (by kernel_rfl) (by kernel_rfl) (fun _ _ _ h=>h) ?hya9 (by assumption) ?resta9
 case hya9 =>
  intro oi ho
  simp only [List.getElem?_toArray,List.getElem?_cons_succ,List.getElem?_cons_zero,oI] at ho
  subst ho
  exact Or.inr ⟨by rfl,rfl⟩
 try simp only [Act.put,siT,scZ,scS]
 refine aAe (i:=10) (d:=44) (v:=undef) (by kernel_rfl) (by kernel_rfl) (by kernel_rfl) (by kernel_rfl) (fun _ _ _ h=>h) ?hya10 (by assumption) ?resta10
 case hya10 =>
  intro oi ho
  simp only [List.getElem?_toArray,List.getElem?_cons_succ,List.getElem?_cons_zero,oI] at ho
  subst ho
  exact Or.inr ⟨by rfl,rfl⟩
 try simp only [Act.put,siT,scZ,scS]
 refine wpAnyH_tk 11 45 ?_
 refine wpAnyH_tk 12 46 ?_
 refine aAe (i:=13) (d:=47) (v:=undef) (by kernel_rfl) (by kernel_rfl) (by kernel_rfl) (by kernel_rfl) (fun _ _ _ h=>h) ?hya13 (by assumption) ?resta13
 case hya13 =>
  intro oi ho
  simp only [List.getElem?_toArray,List.getElem?_cons_succ,List.getElem?_cons_zero,oI] at ho
  subst ho
  exact Or.inr ⟨by rfl,rfl⟩
 try simp only [Act.put,siT,scZ,scS]
 refine aAe (i:=14) (d:=48) (v:=undef) (by kernel_rfl) (by kernel_rfl) (by kernel_rfl) (by kernel_rfl) (fun _ _ _ h=>h) ?hya14 (by assumption) ?resta14
 case hya14 =>
  intro oi ho
  simp only [List.getElem?_toArray,List.getElem?_cons_succ,List.getElem?_cons_zero,oI] at ho
  subst ho
  exact Or.inr ⟨by rfl,rfl⟩
 try simp only [Act.put,siT,scZ,scS]
 refine aAe (i:=15) (d:=49) (v:=undef) (by kernel_rfl) (by kernel_rfl) (by kernel_rfl) (by kernel_rfl) (fun _ _ _ h=>h) ?hya15 (by assumption) ?resta15
 case hya15 =>
  intro oi ho
  simp only [List.getElem?_toArray,List.getElem?_cons_succ,List.getElem?_cons_zero,oI] at ho
  subst ho
  exact Or.inr ⟨by rfl,rfl⟩
 try simp only [Act.put,siT,scZ,scS]
 refine aAe (i:=16) (d:=50) (v:=undef) (by kernel_rfl) (by kernel_rfl) (by kernel_rfl) (by kernel_rfl) (fun _ _ _ h=>h) ?hya16 (by assumption) ?resta16
 case hya16 =>
  intro oi ho
  simp only [List.getElem?_toArray,List.getElem?_cons_succ,List.getElem?_cons_zero,oI] at ho
  subst ho
  exact Or.inr ⟨by rfl,rfl⟩
 try simp only [Act.put,siT,scZ,scS]
 refine aAe (i:=17) (d:=51) (v:=undef) (by kernel_rfl) (by kernel_rfl) (by kernel_rfl) (by kernel_rfl) (fun _ _ _ h=>h) ?hya17 (by assumption) ?resta17
 case hya17 =>
  intro oi ho
  simp only [List.getElem?_toArray,List.getElem?_cons_succ,List.getElem?_cons_zero,oI] at ho
  subst ho
  exact Or.inr ⟨by rfl,rfl⟩
 try simp only [Act.put,siT,scZ,scS]
 refine aAe (i:=18) (d:=52) (v:=undef) (by kernel_rfl) (by kernel_rfl) (by kernel_rfl) (by kernel_rfl) (fun _ _ _ h=>h) ?hya18 (by assumption) ?resta18
 case hya18 =>
  intro oi ho
  simp only [List.getElem?_toArray,List.getElem?_cons_succ,List.getElem?_cons_zero,oI] at ho
  subst ho
  exact Or.inr ⟨by rfl,rfl⟩
 try simp only [Act.put,siT,scZ,scS]
 refine wpAnyH_tk 19 53 ?_
 refine wpAnyH_tk 20 33 ?_
 refine wpAnyH_done (by kernel_rfl) ?_ _
 refine NoPanic.normal ?_
 clear hHeld
 go_wp2
 go_ret2
 exact ⟨rfl,HB2.out.drew⟩
theorem Range_zero [Gd] {B p q g N c u:Nat} {l:List It} {W w:World} (h:KX B p q g N c u l W w) :
  Calls Tryz.prog 46 #[.pointer (some ⟨g,0,none⟩),.slice none 0 0,.slice none 0 0,.int .i64 0] w fun e w'=>e=.returned (.tuple #[.slice none 0 0,.int .i64 0])∧Below w.heap.size w w':=by
 have HB1:=hide (aAc w (.cells #[.slice none 0 0,.slice none 0 0,.int .i64 0,.slice none 0 0] 171))
 have HP:=hide (pairs_zero (h.later HB1.out) (heap_alloc_new w _))
 clear h
 go_enter Tryz.func46,Tryz.ntmps46
 go_wp2_with fail
 refine HP.out.mono ?_
 rintro e w2 ⟨rfl,hb2⟩
 have HB2:=hide (HB1.out.trans (hb2.mono HB1.out.size))
 clear hb2
 go_wp2
 go_ret2
 exact ⟨rfl,HB2.out⟩
theorem results_fig {fn:Func} {p u:Tmp} (h:fn.results=#[.cell p 77,.tmp u]) (tmps:Array Value) (w:World) (g:Nat) (cs:Array Value)
  (hp:tmps.getD p undef=.pointer (some ⟨g,0,none⟩)) (hg:w.heap[g]?=some (.cells cs 77 (0,0))) (hz:cs.size=17) :
  (results fn tmps).run Tryz.prog w=.ok (.tuple #[.agg cs,tmps.getD u undef]) w:=by
 have hi:(Tryz.prog.info? 77).map (·.size)=some cs.size:=by rw [hz];exact aB8
 rw [results_cell_tmp h,hp]
 simp only [asAddr,Sem.run_pure,Result.andThen_ok,run_loadVar_row w g 77 77 cs (0,0) _ hg Tryz.underlying77 rfl hi]
theorem z17_ok:FGV z17:=by
 refine ⟨rfl,rfl,fun i h1 h2=>⟨0,?_⟩⟩
 unfold z17
 rw [List.getElem?_toArray,List.getElem?_replicate,if_pos h2]
theorem counted_zero [Gd] {B p q g N c u:Nat} {W w:World} (h:KX B p q g N c u [] W w) :
  Calls Tryz.prog 20 #[.pointer (some ⟨g,0,none⟩)] w fun e w'=>e=.returned (.tuple #[.agg z17,.int .i64 0])∧Below w.heap.size w w':=by
 have lt:∀ {k:Nat} {o:Obj} {ww:World},ww.heap[k]?=some o→k<ww.heap.size:=fun e=>(lO e)
 have hz:∀ ww,(zeroValue 77).run Tryz.prog ww=.ok (.agg z17) ww:=fun ww=>by kernel_rfl
 have hzz:z17.size=17:=rfl
 have HB1:=hide (aAc w (.cells z17 77))
 have HN1:Hid ((w.alloc (.cells z17 77)).heap[w.heap.size]?=some (.cells z17 77 (0,0))):=heap_alloc_new w _
 have H1:=hide (h.later HB1.out)
 have HLE:Hid (Calls Tryz.prog 47 #[.pointer (some ⟨g,0,none⟩)] (w.alloc (.cells z17 77)) fun e w'=>e=.returned (.int .i64 0)∧w'=w.alloc (.cells z17 77)):=H1.out.Len
 have HRA:=hide (Range_zero H1.out)
 clear h
 go_enter Tryz.func20,Tryz.ntmps20
 go_wp2_with fail
 refine HLE.out.mono ?_
 rintro e w9 ⟨rfl,rfl⟩
 go_wp2_with fail
 refine HRA.out.mono ?_
 rintro e w2 ⟨rfl,hb2⟩
 have HN2:=hide ((hb2.block _ (lt HN1.out)).trans HN1.out)
 have HB2:=hide (HB1.out.trans (hb2.mono HB1.out.size))
 have HB3:=hide (aAc w2 (.cells z17 77))
 have HM3:Hid ((w2.alloc (.cells z17 77)).heap[w2.heap.size]?=some (.cells z17 77 (0,0))):=heap_alloc_new w2 _
 have HN3:=hide ((HB3.out.block _ (lt HN2.out)).trans HN2.out)
 have HB03:=hide (HB2.out.trans (HB3.out.mono HB2.out.size))
 clear hb2 HLE HRA
 go_upto_region 5 with fail
 generalize w2.alloc (.cells z17 77)=w3 at *
 generalize w2.heap.size=n1 at *
 generalize hn0:w.heap.size=n0 at *
 go_wp2_with fail
 go_loopw [24] (fun i wx=>i=.int .i64 0∧wx=w3) (fun _ _=>0)
 case atStart=>exact ⟨rfl,rfl⟩
 case round =>
  obtain ⟨rfl,rfl⟩:=hrel
  have HLD:=hide (run_loadVar_row (P:=Tryz.prog) wr n1 77 77 z17 (0,0) _ HM3.out Tryz.underlying77 rfl (by rw [hzz];exact aB8))
  have hst:=aA0 (o:=0) HN3.out (show 0+z17.size≤17 by rw [hzz];decide) z17_ok.one
  rw [aBs (show z17.size=z17.size from rfl)] at hst
  have HY:=hide (setRow_heap _ _ _ z17 _ _ HN3.out)
  have HBF:Hid (Below n0 w (wr.setRow n0 z17)):=below_setRow HB03.out (nR n0) z17
  go_wp2_with (refine wpList_load_row rfl (.tmp 6) 77 rfl rfl HLD.out ?_)
  (try simp only [Exit.inBlock,Exit.then])
  exact bodyPost_ret (results_fig rfl _ _ n0 z17 rfl HY.out hzz) rfl ⟨rfl,by rw [hn0];exact HBF.out⟩
theorem lv_build {g p:Nat} {base cf:Array Value} (hf:FGV cf) (b1:base.size=19) (b2:base[0]?=some (.pointer (some ⟨g,0,none⟩))) (b3:base[1]?=some (.pointer (some ⟨p,0,none⟩))):LV (Array.foldl (fun (cs:Array Value) (x:Value×Nat)=>cs.setIfInBounds (2+x.2) x.1) base cf.zipIdx 0 17) g p:=by
 obtain ⟨i1,i2⟩:=aCt (base:=base) (vs:=cf) (o:=2) (n:=17) hf.sz (by rw [b1];decide)
 refine ⟨i1.trans b1,?_,?_,?_,fun i h1 h2=>?_⟩
 ·rw [i2,if_neg (by omega)];exact b2
 ·rw [i2,if_neg (by omega)];exact b3
 ·rw [i2,if_pos (by omega)]
  exact hf.c0
 ·rw [i2,if_pos (by omega)]
  exact hf.cp (i-2) (by omega) (by omega)
theorem pairs_most0 [Gd] {B p q g N c u r ln lc hn hc:Nat} {la ha:Option Addr} (hl1:ln≤64) (hl2:hn≤64) {l:List It} {W w:World} (h:KX B p q g N c u l W w) (hr:w.heap[r]?=some (.cells #[.slice la ln lc,.slice ha hn hc,.int .i64 0,.slice none 0 0] 171 (0,0))) :
  Calls Tryz.prog 81 #[.pointer (some ⟨g,0,none⟩),.pointer (some ⟨g,2,none⟩),.pointer (some ⟨r,0,none⟩)] w fun e w'=>e=.returned (.tuple #[.slice none 0 0,.int .i64 0])∧Below w.heap.size w w':=by
 have lt:∀ {k:Nat} {o:Obj} {ww:World},ww.heap[k]?=some o→k<ww.heap.size:=fun e=>(lO e)
 have q0:=aAf [Obj.cells #[.pointer (some ⟨g,0,none⟩)] 72,Obj.cells #[.pointer (some ⟨g,2,none⟩)] 168,Obj.cells #[.pointer (some ⟨r,0,none⟩)] 169] w 0 _ rfl
 have q2:=aAf [Obj.cells #[.pointer (some ⟨g,0,none⟩)] 72,Obj.cells #[.pointer (some ⟨g,2,none⟩)] 168,Obj.cells #[.pointer (some ⟨r,0,none⟩)] 169] w 2 _ rfl
 have qb:=(aAn [Obj.cells #[.pointer (some ⟨g,0,none⟩)] 72,Obj.cells #[.pointer (some ⟨g,2,none⟩)] 168,Obj.cells #[.pointer (some ⟨r,0,none⟩)] 169] w).1
 have HQ0:Hid ((((w.alloc (.cells #[.pointer (some ⟨g,0,none⟩)] 72)).alloc (.cells #[.pointer (some ⟨g,2,none⟩)] 168)).alloc (.cells #[.pointer (some ⟨r,0,none⟩)] 169)).heap[w.heap.size]?=some (.cells #[.pointer (some ⟨g,0,none⟩)] 72 (0,0))):=q0
 have HQ2:Hid ((((w.alloc (.cells #[.pointer (some ⟨g,0,none⟩)] 72)).alloc (.cells #[.pointer (some ⟨g,2,none⟩)] 168)).alloc (.cells #[.pointer (some ⟨r,0,none⟩)] 169)).heap[w.heap.size+1+1]?=some (.cells #[.pointer (some ⟨r,0,none⟩)] 169 (0,0))):=q2
 have HB1:Hid (Below w.heap.size w (((w.alloc (.cells #[.pointer (some ⟨g,0,none⟩)] 72)).alloc (.cells #[.pointer (some ⟨g,2,none⟩)] 168)).alloc (.cells #[.pointer (some ⟨r,0,none⟩)] 169))):=qb
 have H1:=hide (h.later HB1.out)
 have HR1:=hide ((HB1.out.block r (lt hr)).trans hr)
 have HD:=hide H1.out.dead
 have y0:(((w.alloc (.cells #[.pointer (some ⟨g,0,none⟩)] 72)).alloc (.cells #[.pointer (some ⟨g,2,none⟩)] 168)).alloc (.cells #[.pointer (some ⟨r,0,none⟩)] 169)).cell? ⟨w.heap.size,0,none⟩=some (.pointer (some ⟨g,0,none⟩)):=aAa HQ0.out
 clear h hr q0 q2 qb
 go_enter Tryz.func81,Tryz.ntmps81
 go_wp2_with fail
 refine HD.out.mono ?_
 rintro e w2 ⟨rfl,hb2⟩
 have HN2:=hide ((hb2.block _ (lt HQ2.out)).trans HQ2.out)
 have HR2:=hide ((hb2.block r (lt HR1.out)).trans HR1.out)
 have HB2:Hid (Below w.heap.size w w2):=HB1.out.trans (hb2.mono HB1.out.size)
 clear hb2 HD y0
 generalize hn2:w.heap.size+1+1=n2 at *
 have x0:w2.cell? ⟨n2,0,none⟩=some (.pointer (some ⟨r,0,none⟩)):=aAa HN2.out
 have x1:w2.cell? ⟨r,0,none⟩=some (.slice la ln lc):=aAa HR2.out
 have x2:w2.cell? ⟨r,1,none⟩=some (.slice ha hn hc):=aAa HR2.out
 have x3:w2.cell? ⟨r,2,none⟩=some (.int .i64 0):=aAa HR2.out
 have HX0:Hid ((fun wx=>wx.cell? ⟨n2,0,none⟩=some (.pointer (some ⟨r,0,none⟩))∧wx.cell? ⟨r,2,none⟩=some (.int .i64 0)) w2.drew):=⟨x0,x3⟩
 have d1:decide ((0:Int)=0)=true:=rfl
 have g1:¬ (64:Int)<(ln:Int):=by omega
 have g2:¬ (64:Int)<(hn:Int):=by omega
 go_upto_region 7 with fail
 refine wp_region_noPanic ?_
 refine wp_region_held_drew (S:=fun wx=>wx.cell? ⟨n2,0,none⟩=some (.pointer (some ⟨r,0,none⟩))∧wx.cell? ⟨r,2,none⟩=some (.int .i64 0)) (by kernel_rfl) HX0.out (fun hHeld=>?_)
 refine wpAnyH_tk 0 34 ?_
 refine wpAnyH_tk 1 35 ?_
 refine wpAnyH_tk 2 36 ?_
 refine wpAnyH_tk 3 37 ?_
 refine wpAnyH_tk 4 38 ?_
 refine wpAnyH_tk 5 39 ?_
 refine aAe (i:=6) (d:=40) (v:=undef) (by kernel_rfl) (by kernel_rfl) (by kernel_rfl) (by kernel_rfl) (fun _ _ _ h=>h) ?hya6 (by assumption) ?resta6
 case hya6 =>
  intro oi ho
  simp only [List.getElem?_toArray,List.getElem?_cons_succ,List.getElem?_cons_zero,oI] at ho
  subst ho
  exact Or.inr ⟨by rfl,rfl⟩
 try simp only [Act.put,siT,scZ,scS]
 refine aAe (i:=7) (d:=41) (v:=undef) (by kernel_rfl) (by kernel_rfl) (by kernel_rfl) (by kernel_rfl) (fun _ _ _ h=>h) ?hya7 (by assumption) ?resta7
 case hya7 =>
  intro oi ho
  simp only [List.getElem?_toArray,List.getElem?_cons_succ,List.getElem?_cons_zero,oI] at ho
  subst ho
  exact Or.inr ⟨by rfl,rfl⟩
 try simp only [Act.put,siT,scZ,scS]
 refine aAe (i:=8) (d:=42) (v:=undef) (by kernel_rfl) (by kernel_rfl) (by kernel_rfl) (by kernel_rfl) (fun _ _ _ h=>h) ?hya8 (by assumption) ?resta8
 case hya8 =>
  intro oi ho
  simp only [List.getElem?_toArray,List.getElem?_cons_succ,List.getElem?_cons_zero,oI] at ho
  subst ho
  exact Or.inr ⟨by rfl,rfl⟩
 try simp only [Act.put,siT,scZ,scS]
 refine aAe (i:=9) (d:=43) (v:=undef) (by kernel_rfl) (by kernel_rfl) (by kernel_rfl) (by kernel_rfl) (fun _ _ _ h=>h) ?hya9 (by assumption) ?resta9
 case hya9 =>
  intro oi ho
  simp only [List.getElem?_toArray,List.getElem?_cons_succ,List.getElem?_cons_zero,oI] at ho
  subst ho
  exact Or.inr ⟨by rfl,rfl⟩
 try simp only [Act.put,siT,scZ,scS]
 refine aAe (i:=10) (d:=44) (v:=undef) (by kernel_rfl) (by kernel_rfl) (by kernel_rfl) (by kernel_rfl) (fun _ _ _ h=>h) ?hya10 (by assumption) ?resta10
 case hya10 =>
  intro oi ho
  simp only [List.getElem?_toArray,List.getElem?_cons_succ,List.getElem?_cons_zero,oI] at ho
  subst ho
  exact Or.inr ⟨by rfl,rfl⟩
 try simp only [Act.put,siT,scZ,scS]
 refine wpAnyH_tk 11 45 ?_
 refine wpAnyH_tk 12 46 ?_
 refine aAe (i:=13) (d:=47) (v:=undef) (by kernel_rfl) (by kernel_rfl) (by kernel_rfl) (by kernel_rfl) (fun _ _ _ h=>h) ?hya13 (by assumption) ?resta13
 case hya13 =>
  intro oi ho
  simp only [List.getElem?_toArray,List.getElem?_cons_succ,List.getElem?_cons_zero,oI] at ho
  subst ho
  exact Or.inr ⟨by rfl,rfl⟩
 try simp only [Act.put,siT,scZ,scS]
 refine aAe (i:=14) (d:=48) (v:=undef) (by kernel_rfl) (by kernel_rfl) (by kernel_rfl) (by kernel_rfl) (fun _ _ _ h=>h) ?hya14 (by assumption) ?resta14
 case hya14 =>
  intro oi ho
  simp only [List.getElem?_toArray,List.getElem?_cons_succ,List.getElem?_cons_zero,oI] at ho
  subst ho
  exact Or.inr ⟨by rfl,rfl⟩
 try simp only [Act.put,siT,scZ,scS]
 refine aAe (i:=15) (d:=49) (v:=undef) (by kernel_rfl) (by kernel_rfl) (by kernel_rfl) (by kernel_rfl) (fun _ _ _ h=>h) ?hya15 (by assumption) ?resta15
 case hya15 =>
  intro oi ho
  simp only [List.getElem?_toArray,List.getElem?_cons_succ,List.getElem?_cons_zero,oI] at ho
  subst ho
  exact Or.inr ⟨by rfl,rfl⟩
 try simp only [Act.put,siT,scZ,scS]
 refine aAe (i:=16) (d:=50) (v:=undef) (by kernel_rfl) (by kernel_rfl) (by kernel_rfl) (by kernel_rfl) (fun _ _ _ h=>h) ?hya16 (by assumption) ?resta16
 case hya16 =>
  intro oi ho
  simp only [List.getElem?_toArray,List.getElem?_cons_succ,List.getElem?_cons_zero,oI] at ho
  subst ho
  exact Or.inr ⟨by rfl,rfl⟩
 try simp only [Act.put,siT,scZ,scS]
 refine aAe (i:=17) (d:=51) (v:=undef) (by kernel_rfl) (by kernel_rfl) (by kernel_rfl) (by kernel_rfl) (fun _ _ _ h=>h) ?hya17 (by assumption) ?resta17
 case hya17 =>
  intro oi ho
  simp only [List.getElem?_toArray,List.getElem?_cons_succ,List.getElem?_cons_zero,oI] at ho
  subst ho
  exact Or.inr ⟨by rfl,rfl⟩
 try simp only [Act.put,siT,scZ,scS]
 refine aAe (i:=18) (d:=52) (v:=undef) (by kernel_rfl) (by kernel_rfl) (by kernel_rfl) (by kernel_rfl) (fun _ _ _ h=>h) ?hya18 (by assumption) ?resta18
 case hya18 =>
  intro oi ho
  simp only [List.getElem?_toArray,List.getElem?_cons_succ,List.getElem?_cons_zero,oI] at ho
  subst ho
  exact Or.inr ⟨by rfl,rfl⟩
 try simp only [Act.put,siT,scZ,scS]
 refine wpAnyH_tk 19 53 ?_
 refine wpAnyH_tk 20 33 ?_
 refine wpAnyH_done (by kernel_rfl) ?_ _
 refine NoPanic.normal ?_
 clear hHeld
 go_wp2
 go_ret2
 exact ⟨rfl,HB2.out.drew⟩
theorem Range_most0 [Gd] {B p q g N c u ln lc hn hc:Nat} {la ha:Option Addr} (hl1:ln≤64) (hl2:hn≤64) {l:List It} {W w:World} (h:KX B p q g N c u l W w) :
  Calls Tryz.prog 46 #[.pointer (some ⟨g,0,none⟩),.slice la ln lc,.slice ha hn hc,.int .i64 0] w fun e w'=>e=.returned (.tuple #[.slice none 0 0,.int .i64 0])∧Below w.heap.size w w':=by
 have HB1:=hide (aAc w (.cells #[.slice la ln lc,.slice ha hn hc,.int .i64 0,.slice none 0 0] 171))
 have HP:=hide (pairs_most0 hl1 hl2 (h.later HB1.out) (heap_alloc_new w _))
 clear h
 go_enter Tryz.func46,Tryz.ntmps46
 go_wp2_with fail
 refine HP.out.mono ?_
 rintro e w2 ⟨rfl,hb2⟩
 have HB2:=hide (HB1.out.trans (hb2.mono HB1.out.size))
 clear hb2
 go_wp2
 go_ret2
 exact ⟨rfl,HB2.out⟩
def KpN (w w':World):Prop:=∀ (k:Nat) (cs:Array Value) (t:TypeId) (fz:Nat×Nat),w.heap[k]?=some (Obj.cells cs t fz)→NT t→w'.heap[k]?=some (Obj.cells cs t fz)
def Fg0 (ls:Nat) (w:World):Prop:=∃ cs,w.heap[ls]?=some (.cells cs 81 (0,0))∧∀ i,i<17→cs[2+i]?=some (.int .i64 0)
theorem fig_build {base cf:Array Value} (hf:FGV cf) (b1:base.size=19) (hz:cf=z17) {i:Nat} (hi:i<17):(Array.foldl (fun (cs:Array Value) (x:Value×Nat)=>cs.setIfInBounds (2+x.2) x.1) base cf.zipIdx 0 17)[2+i]?=some (.int .i64 0):=by
 obtain ⟨i1,i2⟩:=aCt (base:=base) (vs:=cf) (o:=2) (n:=17) hf.sz (by rw [b1];decide)
 rw [i2,if_pos (by omega),show 2+i-2=i by omega,hz]
 unfold z17
 rw [List.getElem?_toArray,List.getElem?_replicate,if_pos hi]
theorem lopen_new0 [Gd] {B p n:Nat} {s:DS} {W w:World} (hs:s=DS.new n) (hD:DI B p s w) (hB:B≤w.heap.size) (hW:Below B W w) (h3:3≤n) (h4:n≤4096) :
  Calls Tryz.prog 11 #[.pointer (some ⟨p,0,none⟩)] w fun e w'=>∃ q g ls,e=.returned (.tuple #[.pointer (some ⟨ls,0,none⟩),.int .i64 0])∧LS B p q g ls n 0 0 [] W w'∧Fg0 ls w':=by
 have lt:∀ {k:Nat} {o:Obj} {ww:World},ww.heap[k]?=some o→k<ww.heap.size:=fun e=>(lO e)
 obtain ⟨zf,hzf⟩:∃ x,x=z17:=⟨_,rfl⟩
 have hz:∀ ww,(zeroValue 77).run Tryz.prog ww=.ok (.agg zf) ww:=fun ww=>by rw [hzf];kernel_rfl
 have HFG:Hid (FGV zf):=by show FGV zf;rw [hzf];exact z17_ok
 have hzz:zf.size=17:=HFG.out.sz
 have HZF:=hide hzf
 clear hzf
 have hf:=new_facts n s hs
 have HL0:Hid (lastH (rdH (pad (s.show 0)) s.n) (rdH (pad (s.show 1)) s.n)=some (0,0)):=by
  show _=_
  rw [hf.2.2.2.2.2.1,hf.2.2.2.2.2.2,rdH_zero]
  exact lastH_zero
 have HF:=hide hf
 have HBW:=hide hB
 have HWW:=hide hW
 have HOP:=hide (Open_none (num:=0) hD hB HF.out.1 HF.out.2.1 (by rw [HF.out.2.2.1];decide) (by rw [HF.out.2.2.2.1];exact h3) (by rw [HF.out.2.2.2.1];exact h4) HL0.out (by decide))
 clear hs hf hD hB hW
 go_enter Tryz.func11,Tryz.ntmps11
 go_wp2_with fail
 refine HOP.out.mono ?_
 rintro e w2 ⟨q,g,st0,rfl,hgB,hM,r0,r1,r2,r3,hF⟩
 have hO:OpT B p g n w2:=⟨q,s,_,st0,hM,Or.inl ⟨r0,r1,r2,rfl,r3⟩,r1,HF.out.2.2.2.1,HF.out.2.2.2.2.1,by show cntF (newSt s.n)=_;rw [newSt_cnt s.n (by rw [HF.out.2.2.2.1];omega),HF.out.2.2.2.1],rfl,HF.out.2.2.2.2.2.1,HF.out.2.2.2.2.2.2⟩
 obtain ⟨q',s',t',st',left',hTI,_⟩:=hO.ti (by omega) (HWW.out.trans hF.bel)
 have hkx:KX B p q' g n 0 0 [] W w2:=⟨st',s',t',st',left',hTI⟩
 have HK2:=hide hkx
 have HCO:=hide (counted_zero hkx)
 rw [←HZF.out] at HCO
 clear hgB hM r0 r1 r2 r3 hF hO hTI hkx HOP
 go_wp2_with fail
 refine HCO.out.mono ?_
 rintro e w3 ⟨rfl,hb3⟩
 have HK3:=hide (HK2.out.later hb3)
 have x1:(w3.alloc (.cells zf 77)).heap[w3.heap.size]?=some (.cells zf 77 (0,0)):=heap_alloc_new w3 _
 have hst:=aA0 (o:=0) x1 (show 0+zf.size≤zf.size by omega) HFG.out.one
 rw [aBs (show zf.size=zf.size from rfl)] at hst
 have HY:=hide (setRow_heap _ _ _ zf _ _ x1)
 have HB4:Hid (Below w3.heap.size w3 ((w3.alloc (.cells zf 77)).setRow w3.heap.size zf)):=below_setRow (aAc w3 _) (nR _) zf
 clear hb3 HCO x1
 go_upto_region 5 with fail
 generalize ((w3.alloc (.cells zf 77)).setRow w3.heap.size zf)=w4 at *
 have HK4:=hide (HK3.out.later HB4.out)
 generalize w3.heap.size=n3 at *
 clear hst
 have HLD:=hide (run_loadVar_row (P:=Tryz.prog) w4 n3 77 77 zf (0,0) _ HY.out Tryz.underlying77 rfl (by rw [hzz];exact aB8))
 go_wp2_with (refine wpList_load_row rfl (.tmp 6) 77 rfl rfl HLD.out ?_)
 go_ret2
 exact ⟨q',g,w4.heap.size,rfl,⟨HK4.out.later (aAc w4 _),HK4.out.bw,_,heap_alloc_new w4 _,lv_build HFG.out rfl rfl rfl⟩,_,heap_alloc_new w4 _,fun i hi=>fig_build HFG.out rfl HZF.out hi⟩
theorem new_reg0 [Gd] {B p q g ls N:Nat} {W w:World} (h:LS B p q g ls N 0 0 [] W w) :
  Calls Tryz.prog 12 #[.pointer (some ⟨ls,0,none⟩)] w fun e w'=>∃ rg,e=.returned (.tuple #[.pointer (some ⟨rg,0,none⟩),.int .i64 0])∧RGM B p q g ls rg N 0 0 [] W w'∧KpN w w':=by
 have HD:=hide h.dead
 have H:=hide h
 clear h
 go_enter Tryz.func12,Tryz.ntmps12
 go_wp2_with fail
 refine HD.out.mono ?_
 rintro e w1 ⟨rfl,hb1⟩
 have lt:∀ {k:Nat} {o:Obj} {ww:World},ww.heap[k]?=some o→k<ww.heap.size:=fun e=>(lO e)
 have H1:=hide (H.out.later hb1)
 have HNW:Hid ((w1.alloc (.cells #[.pointer (some ⟨ls,0,none⟩),.nilIface,.nilIface,.nilIface,.nilIface,.nilIface,.nilIface,.nilIface,.nilIface,.nilIface,.nilIface,.nilIface,.nilIface,.nilIface,.nilIface,.nilIface,.nilIface,.nilIface] 86)).heap[w1.heap.size]?=some (.cells #[.pointer (some ⟨ls,0,none⟩),.nilIface,.nilIface,.nilIface,.nilIface,.nilIface,.nilIface,.nilIface,.nilIface,.nilIface,.nilIface,.nilIface,.nilIface,.nilIface,.nilIface,.nilIface,.nilIface,.nilIface] 86 (0,0))):=heap_alloc_new w1 _
 have HG0:Hid (RGM B p q g ls w1.heap.size N 0 0 [] W (w1.alloc (.cells #[.pointer (some ⟨ls,0,none⟩),.nilIface,.nilIface,.nilIface,.nilIface,.nilIface,.nilIface,.nilIface,.nilIface,.nilIface,.nilIface,.nilIface,.nilIface,.nilIface,.nilIface,.nilIface,.nilIface,.nilIface] 86))):=⟨H1.out.later (aAc w1 _),H1.out.bw,_,HNW.out,rfl,rfl⟩
 have HKP:Hid (∀ (k:Nat) (cs:Array Value) (t:TypeId) (fz:Nat×Nat),w.heap[k]?=some (Obj.cells cs t fz)→(w1.alloc (.cells #[.pointer (some ⟨ls,0,none⟩),.nilIface,.nilIface,.nilIface,.nilIface,.nilIface,.nilIface,.nilIface,.nilIface,.nilIface,.nilIface,.nilIface,.nilIface,.nilIface,.nilIface,.nilIface,.nilIface,.nilIface] 86)).heap[k]?=some (Obj.cells cs t fz)∧k≠w1.heap.size):=fun k cs t fz e=>by
  have e1:=(hb1.block k (lt e)).trans e
  exact ⟨((aAc w1 _).block k (lt e1)).trans e1,Nat.ne_of_lt (lt e1)⟩
 clear hb1 HD HNW
 go_upto_region 6 with fail
 generalize w1.alloc (.cells #[.pointer (some ⟨ls,0,none⟩),.nilIface,.nilIface,.nilIface,.nilIface,.nilIface,.nilIface,.nilIface,.nilIface,.nilIface,.nilIface,.nilIface,.nilIface,.nilIface,.nilIface,.nilIface,.nilIface,.nilIface] 86)=w2 at *
 generalize w1.heap.size=rg at *
 go_wp2_with fail
 go_loopw [15] (fun i wx=>∃ j:Nat,j≤17∧i=.int .i64 j∧RGM B p q g ls rg N 0 0 [] W wx∧RgF B rg rg rg w2 wx) (fun i _=>17-(intOf i).toNat)
 case atStart=>exact ⟨0,by omega,rfl,HG0.out,RgF.of (Below.refl _ _) HG0.out.bw⟩
 case round =>
  obtain ⟨j,hj,rfl,hG,hFF⟩:=hrel
  have HG:=hide hG
  have HFF:=hide hFF
  clear hG hFF HG0
  by_cases hjn:j<17
  ·have i1:(j:Int)<17:=by omega
   have HLK:=hide (HG.out.look RL.nil (v:=j) (by omega))
   go_wp2_with fail
   refine HLK.out.mono ?_
   rintro e w3 ⟨rv,rfl,hr3,h3,hf3⟩
   have H3:=hide h3
   have HF3:=hide (HFF.out.trans (hf3 rg rg))
   obtain ⟨ty,pv,hform,_⟩:=hr3.pr
   subst hform
   clear hr3 h3 hf3 HLK
   go_wp2_with fail
   go_roundw
   case rel=>exact ⟨j+1,by omega,by go_num,H3.out,HF3.out⟩
   case measure=>simp [intOf];omega
  ·have i1:¬ (j:Int)<17:=by omega
   go_wp2
   go_ret2
   exact ⟨rg,rfl,HG.out,fun k cs t fz e hn=>HFF.out.2 k cs t fz (HKP.out k cs t fz e).1 hn (HKP.out k cs t fz e).2 (HKP.out k cs t fz e).2 (HKP.out k cs t fz e).2⟩
theorem aGj {K:Nat} (w:World) :
  Calls Tryz.prog 107 #[.slice none 0 0,.func (Fn.func K) #[] #[]] w fun e w'=>e=.returned (.int .i64 (-1))∧Below w.heap.size w w':=by
 go_enter Tryz.func107,Tryz.ntmps107
 go_wp2_with fail
 go_loopw [8] (fun i wx=>i=.int .i64 0∧Below w.heap.size w wx) (fun _ _=>0)
 case atStart=>exact ⟨rfl,Below.refl _ _⟩
 case round =>
  obtain ⟨rfl,hb⟩:=hrel
  have HB:=hide hb
  clear hb
  go_wp2
  go_ret
  exact ⟨rfl,HB.out⟩
theorem aCc {K:Nat} (w:World) :
  Calls Tryz.prog 86 #[.slice none 0 0,.func (Fn.func K) #[] #[]] w fun e w'=>e=.returned (.bool false)∧Below w.heap.size w w':=by
 have HI:=hide (aGj (K:=K) w)
 go_enter Tryz.func86,Tryz.ntmps86
 go_wp2_with fail
 refine HI.out.mono ?_
 rintro e w1 ⟨rfl,hb1⟩
 have HB1:=hide hb1
 clear hb1
 go_wp2
 go_ret
 exact ⟨rfl,HB1.out⟩
theorem LS.refusal_nil [Gd] {B p q g ls N c u:Nat} {l:List It} {W w:World} (h:LS B p q g ls N c u l W w) :
  Calls Tryz.prog 52 #[.pointer (some ⟨ls,0,none⟩),.bool true,.slice none 0 0] w fun e w'=>e=.returned (.int .i64 0)∧Below w.heap.size w w':=by
 have HD:=hide h.dead
 clear h
 go_enter Tryz.func52,Tryz.ntmps52
 go_wp2_with fail
 refine HD.out.mono ?_
 rintro e w1 ⟨rfl,hb1⟩
 have HB1:=hide hb1
 have HC1:=hide (aCc (K:=87) w1)
 clear hb1 HD
 go_wp2_with fail
 refine HC1.out.mono ?_
 rintro e w2 ⟨rfl,hb2⟩
 have HB2:=hide (HB1.out.trans (hb2.mono HB1.out.size))
 have HC2:=hide (aCc (K:=88) w2)
 clear hb2 HC1
 go_wp2_with fail
 refine HC2.out.mono ?_
 rintro e w3 ⟨rfl,hb3⟩
 have HB3:=hide (HB2.out.trans (hb3.mono HB2.out.size))
 clear hb3 HC2
 go_wp2
 go_ret
 exact ⟨rfl,HB3.out⟩
theorem LS.len0 {ls:Nat} {w:World} (hz:Fg0 ls w) :
  Calls Tryz.prog 24 #[.pointer (some ⟨ls,0,none⟩),.int .i64 0] w fun e w'=>e=.returned (.int .i64 0)∧w'=w:=by
 obtain ⟨cs,h1,h2⟩:=hz
 have x3:w.cell? ⟨ls,3,none⟩=some (.int .i64 0):=(aAa h1).trans (h2 1 (by decide))
 have HIS:=hide (aEy w)
 clear h1 h2
 go_enter Tryz.func24,Tryz.ntmps24
 go_wp2_with fail
 refine HIS.out.mono ?_
 rintro e w1 ⟨rfl,hw⟩
 have hw:=hw.symm
 subst hw
 go_wp2
 go_ret
 exact ⟨rfl,rfl⟩
theorem treeEnd_0 {B:Nat} (w:World):Calls Tryz.prog 56 #[.int .i64 0,.slice none 0 0] w fun e w'=>∃ b d,e=.returned (.slice b 1 d)∧BK B w' b 1 d [1]∧Below w.heap.size w w':=by
 have HT:Hid (Calls Tryz.prog 55 #[.int .i64 1,.slice none 0 0] w fun e w'=>∃ b d,e=.returned (.slice b (0+1) d)∧BK B w' b (0+1) d (1::[])∧Below w.heap.size w w'):=aB4 (sp:=1) (by decide) (BK.nil B w).1 (by omega)
 go_enter Tryz.func56,Tryz.ntmps56
 go_wp2_with fail
 refine HT.out.mono ?_
 rintro e w1 ⟨b,d,rfl,hk,hb⟩
 have HK:=hide hk
 have HB:=hide hb
 clear hk hb HT
 go_wp2
 go_ret
 exact ⟨b,d,rfl,HK.out,HB.out⟩
theorem LS.pairs0 [Gd] {B p q g ls N c u ln lc hn hc:Nat} {la ha:Option Addr} {l:List It} {W w:World} (hl1:ln≤64) (hl2:hn≤64) (h:LS B p q g ls N c u l W w) :
  Calls Tryz.prog 54 #[.pointer (some ⟨ls,0,none⟩),.slice la ln lc,.slice ha hn hc,.int .i64 0] w fun e w'=>e=.returned (.tuple #[.slice none 0 0,.int .i64 0])∧Below w.heap.size w w':=by
 have x0:=h.cell0
 have HR:=hide (Range_most0 (la:=la) (lc:=lc) (ha:=ha) (hc:=hc) hl1 hl2 h.kx)
 clear h
 go_enter Tryz.func54,Tryz.ntmps54
 go_wp2_with fail
 refine HR.out.mono ?_
 rintro e w1 ⟨rfl,hb1⟩
 have HB1:=hide hb1
 clear hb1 HR x0
 go_wp2_with fail
 go_loopw [32] (fun i wx=>i=.int .i64 0∧wx=w1) (fun _ _=>0)
 case atStart=>exact ⟨rfl,rfl⟩
 case round =>
  obtain ⟨rfl,rfl⟩:=hrel
  go_wp2
  go_ret2
  exact ⟨rfl,HB1.out⟩
theorem LS.Range0 [Gd] {B p q g ls N c u:Nat} {l:List It} {W w:World} (h:LS B p q g ls N c u l W w) :
  Calls Tryz.prog 23 #[.pointer (some ⟨ls,0,none⟩),.int .i64 0,.slice none 0 0,.slice none 0 0,.int .i64 0] w fun e w'=>e=.returned (.tuple #[.slice none 0 0,.int .i64 0])∧Below w.heap.size w w':=by
 have HIS:=hide (aEy w)
 have HRF:=hide h.refusal_nil
 have HL:=hide h
 clear h
 go_enter Tryz.func23,Tryz.ntmps23
 go_wp2_with fail
 refine HIS.out.mono ?_
 rintro e w1 ⟨rfl,hw⟩
 have hw:=hw.symm
 subst hw
 clear HIS
 go_wp2_with fail
 refine HRF.out.mono ?_
 rintro e w2 ⟨rfl,hb2⟩
 have HB2:=hide hb2
 have HL2:=hide (HL.out.later hb2)
 have HTK:Hid (Calls Tryz.prog 55 #[.int .i64 0,.slice none 0 0] w2 fun e w'=>∃ b d,e=.returned (.slice b (0+1) d)∧BK B w' b (0+1) d (0::[])∧Below w2.heap.size w2 w'):=aB4 (sp:=0) (by decide) (BK.nil B w2).1 (by omega)
 clear hb2 HRF
 go_wp2_with fail
 refine HTK.out.mono ?_
 rintro e w3 ⟨kb,kd,rfl,hk3,hb3⟩
 have HB3:=hide (HB2.out.trans (hb3.mono HB2.out.size))
 have HL3:=hide (HL2.out.later hb3)
 have HTE:=hide (treeEnd_0 (B:=B) w3)
 clear hk3 hb3 HTK
 go_wp2_with fail
 refine HTE.out.mono ?_
 rintro e w4 ⟨eb,ed,rfl,hk4,hb4⟩
 have HB4:=hide (HB3.out.trans (hb4.mono HB3.out.size))
 have HPS:=hide ((HL3.out.later hb4).pairs0 (la:=kb) (lc:=kd) (ha:=eb) (hc:=ed) (show 1≤64 by decide) (show 1≤64 by decide))
 clear hk4 hb4 HTE
 go_wp2_with fail
 refine HPS.out.mono ?_
 rintro e w5 ⟨rfl,hb5⟩
 have HB5:=hide (HB4.out.trans (hb5.mono HB4.out.size))
 clear hb5 HPS
 go_wp2
 go_ret2
 exact ⟨rfl,HB5.out⟩
def z51:Array Value:=((List.replicate 17 [Value.int .i64 0,Value.int .i64 0,Value.bool false]).flatten).toArray
theorem z51_sz:z51.size=51:=rfl
theorem z51_one:∀ v∈z51.toList,v.oneCell'=true:=by
 intro v hv
 have h:v∈(List.replicate 17 [Value.int .i64 0,Value.int .i64 0,Value.bool false]).flatten:=hv
 rw [List.mem_flatten] at h
 obtain ⟨l,hl,hv⟩:=h
 rw [List.mem_replicate] at hl
 rw [hl.2] at hv
 simp only [List.mem_cons,List.not_mem_nil,or_false] at hv
 rcases hv with rfl | rfl | rfl<;>rfl
theorem z51_at:∀ j,j≤16→z51[j*3]?=some (.int .i64 0)∧z51[j*3+1]?=some (.int .i64 0)∧z51[j*3+2]?=some (.bool false):=by
 intro j hj
 have h:j=0∨j=1∨j=2∨j=3∨j=4∨j=5∨j=6∨j=7∨j=8∨j=9∨j=10∨j=11∨j=12∨j=13∨j=14∨j=15∨j=16:=by omega
 rcases h with rfl | rfl | rfl | rfl | rfl | rfl | rfl | rfl | rfl | rfl | rfl | rfl | rfl | rfl | rfl | rfl | rfl<;>exact ⟨rfl,rfl,rfl⟩
theorem aEd:(Tryz.prog.info? 60).map (·.size)=some 51:=by kernel_rfl
theorem results_lgs {fn:Func} {p u:Tmp} (h:fn.results=#[.cell p 60,.tmp u]) (tmps:Array Value) (w:World) (g:Nat) (cs:Array Value)
  (hp:tmps.getD p undef=.pointer (some ⟨g,0,none⟩)) (hg:w.heap[g]?=some (.cells cs 60 (0,0))) (hz:cs.size=51) :
  (results fn tmps).run Tryz.prog w=.ok (.tuple #[.agg cs,tmps.getD u undef]) w:=by
 have hi:(Tryz.prog.info? 60).map (·.size)=some cs.size:=by rw [hz];exact aEd
 rw [results_cell_tmp h,hp]
 simp only [asAddr,Sem.run_pure,Result.andThen_ok,run_loadVar_row w g 60 60 cs (0,0) _ hg Tryz.underlying60 rfl hi]
theorem Fg0.later {ls:Nat} {w w':World} (h:Fg0 ls w) (hb:Below w.heap.size w w'):Fg0 ls w':=by
 obtain ⟨cs,h1,h2⟩:=h
 exact ⟨cs,(hb.block ls (lO h1)).trans h1,h2⟩
theorem nread_zero [Gd] {B p q g ls N c u:Nat} {l:List It} {W w:World} (h:LS B p q g ls N c u l W w) (hz0:Fg0 ls w) :
  Calls Tryz.prog 13 #[.pointer (some ⟨ls,0,none⟩)] w fun e w'=>e=.returned (.tuple #[.agg z51,.int .i64 0])∧Below w.heap.size w w':=by
 have lt:∀ {k:Nat} {o:Obj} {ww:World},ww.heap[k]?=some o→k<ww.heap.size:=fun e=>(lO e)
 have hz:∀ ww,(zeroValue 60).run Tryz.prog ww=.ok (.agg z51) ww:=fun ww=>by kernel_rfl
 have hzz:z51.size=51:=z51_sz
 have HB1:=hide (aAc w (.cells z51 60))
 have HN1:Hid ((w.alloc (.cells z51 60)).heap[w.heap.size]?=some (.cells z51 60 (0,0))):=heap_alloc_new w _
 have H1:=hide (h.later HB1.out)
 have HLE:=hide (LS.len0 (hz0.later HB1.out))
 have HRA:=hide H1.out.Range0
 clear h hz0
 go_enter Tryz.func13,Tryz.ntmps13
 go_wp2_with fail
 refine HLE.out.mono ?_
 rintro e w9 ⟨rfl,rfl⟩
 go_wp2_with fail
 refine HRA.out.mono ?_
 rintro e w2 ⟨rfl,hb2⟩
 have HN2:=hide ((hb2.block _ (lt HN1.out)).trans HN1.out)
 have HB2:=hide (HB1.out.trans (hb2.mono HB1.out.size))
 clear hb2 HLE HRA
 generalize hn0:w.heap.size=n0 at *
 go_wp2_with fail
 go_loopw [21] (fun i wx=>i=.int .i64 0∧wx=w2) (fun _ _=>0)
 case atStart=>exact ⟨rfl,rfl⟩
 case round =>
  obtain ⟨rfl,rfl⟩:=hrel
  have HLD:=hide (run_loadVar_row (P:=Tryz.prog) wr n0 60 60 z51 (0,0) _ HN2.out Tryz.underlying60 rfl (by rw [hzz];exact aEd))
  have hst:=aA0 (o:=0) HN2.out (show 0+z51.size≤51 by rw [hzz];decide) z51_one
  rw [aBs (show z51.size=z51.size from rfl)] at hst
  have HY:=hide (setRow_heap _ _ _ z51 _ _ HN2.out)
  have HBF:Hid (Below n0 w (wr.setRow n0 z51)):=below_setRow HB2.out (nR n0) z51
  go_wp2_with (refine wpList_load_row rfl (.tmp 2) 60 rfl rfl HLD.out ?_)
  (try simp only [Exit.inBlock,Exit.then])
  exact bodyPost_ret (results_lgs rfl _ _ n0 z51 rfl HY.out hzz) rfl ⟨rfl,by rw [hn0];exact HBF.out⟩
theorem nd_build {ls rg:Nat} {base zf:Array Value} (hz:zf=z51) (b1:base.size=53) (b2:base[0]?=some (.pointer (some ⟨ls,0,none⟩))) (b3:base[1]?=some (.pointer (some ⟨rg,0,none⟩))):NDV (Array.foldl (fun (cs:Array Value) (x:Value×Nat)=>cs.setIfInBounds (2+x.2) x.1) base zf.zipIdx 0 51) ls rg (fun _=>(0,0,false)):=by
 obtain ⟨i1,i2⟩:=aCt (base:=base) (vs:=zf) (o:=2) (n:=51) (by rw [hz];rfl) (by rw [b1];decide)
 refine ⟨i1.trans b1,?_,?_,fun j hj=>?_⟩
 ·rw [i2,if_neg (by omega)];exact b2
 ·rw [i2,if_neg (by omega)];exact b3
 ·have h:=z51_at j hj
  rw [←hz] at h
  refine ⟨?_,?_,?_⟩
  ·rw [i2,if_pos (by omega),show 2+j*3-2=j*3 by omega];exact h.1
  ·rw [i2,if_pos (by omega),show 2+j*3+1-2=j*3+1 by omega];exact h.2.1
  ·rw [i2,if_pos (by omega),show 2+j*3+2-2=j*3+2 by omega];exact h.2.2
theorem nopen_new [Gd] {B p n:Nat} {s:DS} {W w:World} (hs:s=DS.new n) (hD:DI B p s w) (hB:B≤w.heap.size) (hW:Below B W w) (h3:3≤n) (h4:n≤4096) :
  Calls Tryz.prog 6 #[.pointer (some ⟨p,0,none⟩)] w fun e w'=>∃ q g ls rg nd,e=.returned (.tuple #[.pointer (some ⟨nd,0,none⟩),.int .i64 0])∧NDM B p q g ls rg nd n 0 0 [] (fun _=>(0,0,false)) W w':=by
 have lt:∀ {k:Nat} {o:Obj} {ww:World},ww.heap[k]?=some o→k<ww.heap.size:=fun e=>(lO e)
 obtain ⟨zf,hzf⟩:∃ x,x=z51:=⟨_,rfl⟩
 have hz:∀ ww,(zeroValue 60).run Tryz.prog ww=.ok (.agg zf) ww:=fun ww=>by rw [hzf];kernel_rfl
 have hzz:zf.size=51:=by rw [hzf];rfl
 have HZF:=hide hzf
 have HZO:Hid (∀ v∈zf.toList,v.oneCell'=true):=by show ∀ v∈zf.toList,_;rw [hzf];exact z51_one
 have HOP:=hide (lopen_new0 hs hD hB hW h3 h4)
 clear hs hD hB hW hzf
 go_enter Tryz.func6,Tryz.ntmps6
 go_wp2_with fail
 refine HOP.out.mono ?_
 rintro e w1 ⟨q,g,ls,rfl,h1,hf1⟩
 have HNR:=hide (new_reg0 h1)
 have HF1:=hide hf1
 clear h1 hf1 HOP
 go_wp2_with fail
 refine HNR.out.mono ?_
 rintro e w2 ⟨rg,rfl,h2,hk2⟩
 obtain ⟨cs1,q1,q2⟩:=HF1.out
 have hf2:Fg0 ls w2:=⟨cs1,hk2 _ _ _ _ q1 (by decide),q2⟩
 have H2:=hide h2.s
 have HRD:=hide (nread_zero h2.s hf2)
 rw [←HZF.out] at HRD
 clear h2 hk2 hf2 q1 q2 HNR HF1
 go_wp2_with fail
 refine HRD.out.mono ?_
 rintro e w3 ⟨rfl,hb3⟩
 have HK3:=hide (H2.out.later hb3)
 have x1:(w3.alloc (.cells zf 60)).heap[w3.heap.size]?=some (.cells zf 60 (0,0)):=heap_alloc_new w3 _
 have hst:=aA0 (o:=0) x1 (show 0+zf.size≤zf.size by omega) HZO.out
 rw [aBs (show zf.size=zf.size from rfl)] at hst
 have HY:=hide (setRow_heap _ _ _ zf _ _ x1)
 have HB4:Hid (Below w3.heap.size w3 ((w3.alloc (.cells zf 60)).setRow w3.heap.size zf)):=below_setRow (aAc w3 _) (nR _) zf
 clear hb3 HRD x1
 go_upto_region 8 with fail
 generalize ((w3.alloc (.cells zf 60)).setRow w3.heap.size zf)=w4 at *
 have HK4:=hide (HK3.out.later HB4.out)
 generalize w3.heap.size=n3 at *
 clear hst
 have HLD:=hide (run_loadVar_row (P:=Tryz.prog) w4 n3 60 60 zf (0,0) _ HY.out Tryz.underlying60 rfl (by rw [hzz];exact aEd))
 go_wp2_with (refine wpList_load_row rfl (.tmp 7) 60 rfl rfl HLD.out ?_)
 go_ret2
 exact ⟨q,g,ls,rg,w4.heap.size,rfl,HK4.out.later (aAc w4 _),HK4.out.bw,_,heap_alloc_new w4 _,nd_build HZF.out rfl rfl rfl⟩
end Go.Proofs.YtibfkdjbnaeneaaGreat
