import Derived.Test.YthimmblpmijnlaaGreatZ43
set_option maxRecDepth 100000
set_option maxHeartbeats 16000000
set_option linter.unusedVariables false
namespace Go.Proofs.YthimmblpmijnlaaGreat
open Go.RowKit
theorem treeKey_0 {B:Nat} {w:World} {a:Option Addr} {n c:Nat} {xs:List Nat} (h:BS w a n c xs) (hn:n≤10000) :
  Calls Tryz.prog 76 #[.int .i64 0,.slice a n c] w fun e w'=>∃ b d,e=.returned (.slice b (n+1) d)∧BK B w' b (n+1) d (0::xs)∧Below w.heap.size w w':=aB8 (sp:=0) (by decide) h hn
theorem CHV0.one {B g:Nat} {w:World} {kv vv:Value} {it:It} (h:w.heap[g]?=some (.cells #[.int .i64 0,kv,vv,.bool false] 124 (0,0))) (hk:KV B w kv it.1) (hv:KV B w vv it.2):CHV0 B w (.slice (some ⟨g,0,none⟩) 1 1) [it]:=by
 refine ⟨[(kv,vv)],g,1,rfl,rfl,h,fun i it' x h1 h2=>?_⟩
 have:i=0:=by
  have:=(lL h1)
  simp at this
  omega
 subst this
 simp at h1 h2
 subst h1 h2
 exact ⟨hk,hv⟩
theorem LS.Get0 [Gd] {B p q g ls N c u:Nat} {l:List It} {W w:World} (h:LS B p q g ls N c u l W w) {ka:Option Addr} {kn kc:Nat} {key:List Nat} (hk:BK B w ka kn kc key) (h0:0<kn) (h6:kn≤60) :
  Calls Tryz.prog 83 #[.pointer (some ⟨ls,0,none⟩),.int .i64 0,.slice ka kn kc] w fun e w'=>GtT B (valL l (0::key)) w e w':=by
 have hkl:=hk.len
 obtain ⟨x1,hx1⟩:∃ x,x=w.alloc (.cells #[.int .i64 0,.slice ka kn kc,.slice none 0 0,.bool false] 124):=⟨_,rfl⟩
 obtain ⟨x2,hx2⟩:∃ x,x=x1.alloc (.cells #[.int .i64 0,.slice ka kn kc,.slice none 0 0,.bool false] 124):=⟨_,rfl⟩
 have b1:Below w.heap.size w x1:=by rw [hx1];exact aAc w _
 have b2:Below x1.heap.size x1 x2:=by rw [hx2];exact aAc x1 _
 have HB2:Hid (Below w.heap.size w x2):=b1.trans (b2.mono b1.size)
 have hs1:x1.heap.size=w.heap.size+1:=by rw [hx1];exact Array.size_push _
 have hnew:x2.heap[w.heap.size+1]?=some (.cells #[.int .i64 0,.slice ka kn kc,.slice none 0 0,.bool false] 124 (0,0)):=by rw [←hs1,hx2];exact heap_alloc_new x1 _
 have hL2:=h.later HB2.out
 have HRF:=hide (hL2.refusal0 (CHV0.one (it:=(key,[])) hnew ⟨ka,kc,by rw [hkl],by rw [hkl];exact hk.later HB2.out h.bw⟩ (kv_nil _ _)) (by simp) (by intro x hx;simp only [List.mem_singleton] at hx;subst hx;exact ⟨by rw [hkl];exact h0,by rw [hkl];exact h6,by simp⟩))
 have HL:=hide hL2
 have HK:=hide (hk.later HB2.out h.bw)
 rw [hx2,hx1] at HRF
 clear h hk b1 b2 hs1 hnew hL2
 go_enter Tryz.func83,Tryz.ntmps83
 go_wp2_with fail
 refine HRF.out.mono ?_
 rintro e w3 ⟨rfl,hb3⟩
 rw [←hx1,←hx2] at hb3
 have HL3:=hide (HL.out.later hb3)
 have HK3:=hide (HK.out.later hb3 HL.out.bw)
 have HB3:=hide (HB2.out.trans (hb3.mono HB2.out.size))
 clear hb3 HRF hx1 hx2 HB2
 have HX0:Hid ((fun wx=>wx.cell? ⟨ls,0,none⟩=some (.pointer (some ⟨g,0,none⟩))) w3.drew):=HL3.out.cell0
 have HLD:=hide (HL3.out.later (Below.refl _ _).drew)
 have HKD:=hide (HK3.out.later (Below.refl _ _).drew HL3.out.bw)
 have HBD:Hid (Below w.heap.size w w3.drew):=HB3.out.drew
 go_upto_region 5 with fail
 have HTK:=hide (treeKey_0 (B:=B) HKD.out.1 (by omega))
 refine wp_region_noPanic ?_
 refine wp_region_held_drew (S:=fun wx=>wx.cell? ⟨ls,0,none⟩=some (.pointer (some ⟨g,0,none⟩))) (by kernel_rfl) HX0.out (fun hHeld=>?_)
 refine wpAnyH_tk 0 22 ?_
 refine wpAnyH_tk 1 23 ?_
 refine wpAnyH_tk 2 24 ?_
 refine wpAnyH_tk 3 25 ?_
 refine wpAnyH_tk 4 26 ?_
 refine wpAnyH_tk 5 27 ?_
 refine wpAnyH_cm 6 ?_;intro K hK
 go_simp
 refine HTK.out.mono ?_
 rintro e w5 ⟨tb,td,rfl,hk5,hb5⟩
 have HL5:=hide (HLD.out.later hb5)
 have HB5:=hide (HBD.out.trans (hb5.mono HBD.out.size))
 have HGT:=hide (HL5.out.kx.Get hk5 (by omega) (by omega))
 have HX5:Hid ((fun wx=>wx.cell? ⟨ls,0,none⟩=some (.pointer (some ⟨g,0,none⟩))) w5):=HL5.out.cell0
 clear hk5 hb5 hHeld
 refine hK.out _ _ HX5.out (fun hHeld=>?_)
 clear hK K
 try simp only [Act.put,siT,scZ,scS]
 refine wpAnyH_cm 7 ?_;intro K hK
 go_simp
 refine HGT.out.mono ?_
 rintro e w6 ⟨v,isb,rfl,hv6,hb6⟩
 obtain ⟨va,vn,vc,hva⟩:=hv6.form
 subst hva
 have HL6:=hide (HL5.out.later hb6)
 have HB6:=hide (HB5.out.trans (hb6.mono HB5.out.size))
 have HV6:=hide hv6
 have HX6:Hid ((fun wx=>wx.cell? ⟨ls,0,none⟩=some (.pointer (some ⟨g,0,none⟩))) w6):=HL6.out.cell0
 clear hv6 hb6 hHeld
 refine hK.out _ _ HX6.out (fun hHeld=>?_)
 clear hK K
 try simp only [Act.put,siT,scZ,scS]
 refine wpAnyH_tk 8 30 ?_
 refine wpAnyH_tk 9 31 ?_
 refine wpAnyH_tk 10 32 ?_
 refine wpAnyH_tk 11 6 ?_
 refine wpAnyH_tk 12 7 ?_
 refine wpAnyH_tk 13 8 ?_
 refine wpAnyH_done (by kernel_rfl) ?_ _
 refine NoPanic.normal ?_
 clear hHeld
 go_wp2
 go_ret3
 exact ⟨_,isb,rfl,HV6.out,HB6.out⟩
theorem LS.putOrTake0 [Gd] {B p q g ls N c u:Nat} {l:List It} {W w:World} (hg0:True) (h:LS B p q g ls N c u l W w) (hu:u+20≤N) (hu2:u≤3000) (hl:l.length<90) (it:It) (hit:ItOk it) {ka va:Option Addr} {kn kc vn vc:Nat} (hkn:it.1.length=kn) (hvn:it.2.length=vn) (hk:BK B w ka kn kc it.1) (hv:BK B w va vn vc it.2) {xa:Option Addr} {xn xc:Nat} :
  Calls Tryz.prog 135 #[.pointer (some ⟨ls,0,none⟩),.slice ka kn kc,.agg #[.int .i64 0,.slice xa xn xc,.slice va vn vc,.bool false]] w fun e w'=>e=.returned (.int .i64 0)∧ChF B g w w'∧LS B p q g ls N c (u+9) (putL l it) W w':=by
 have HBX:=hide (aAc w (.cells #[.int .i64 0,.slice xa xn xc,.slice va vn vc,.bool false] 124))
 have HNW:Hid ((w.alloc (.cells #[.int .i64 0,.slice xa xn xc,.slice va vn vc,.bool false] 124)).heap[w.heap.size]?=some (.cells #[.int .i64 0,.slice xa xn xc,.slice va vn vc,.bool false] 124 (0,0))):=heap_alloc_new w _
 have HL1:=hide (h.later HBX.out)
 have HK1:=hide (hk.later HBX.out h.bw)
 have HV1:=hide (hv.later HBX.out h.bw)
 have HBW:=hide h.bw
 have HIT:=hide hit
 clear h hk hv hit
 go_enter Tryz.func135,Tryz.ntmps135
 go_upto_region 1 with fail
 generalize hcb:w.heap.size=cb at *
 generalize w.alloc (.cells #[.int .i64 0,.slice xa xn xc,.slice va vn vc,.bool false] 124)=w1 at *
 have r3:w1.cell? ⟨cb,3,none⟩=some (.bool false):=aAa HNW.out
 have hd:Below w1.heap.size w1 w1.drew:=(Below.refl _ _).drew
 have HLD:=hide (HL1.out.later hd)
 have HPU:=hide (HLD.out.kx.Put hg0 hu hu2 hl it HIT.out hkn hvn (HK1.out.later hd HL1.out.bw) (HV1.out.later hd HL1.out.bw))
 have HX0:Hid ((fun wx=>wx.cell? ⟨ls,0,none⟩=some (.pointer (some ⟨g,0,none⟩))∧wx.cell? ⟨cb,2,none⟩=some (.slice va vn vc)) w1.drew):=⟨HLD.out.cell0,aAa HNW.out⟩
 have HBD:Hid (Below cb w w1.drew):=HBX.out.drew
 have HNW2:Hid (w1.drew.heap[cb]?=some (.cells #[.int .i64 0,.slice xa xn xc,.slice va vn vc,.bool false] 124 (0,0))):=HNW.out
 clear hd
 go_upto_region 2 with fail
 have HN2:Hid (w1.drew.heap[cb]?=some (.cells #[.int .i64 0,.slice xa xn xc,.slice va vn vc,.bool false] 124 (0,0))):=HNW2.out
 have HXC:Hid (∀ w3,ChF B g w1.drew w3→w3.cell? ⟨cb,2,none⟩=some (.slice va vn vc)):=fun w3 hc=>by
  obtain ⟨cg,hg⟩:=HLD.out.kx.blk
  refine aAa (hc.2 _ _ _ _ HN2.out (by decide) (fun q9=>?_))
  have h9:=HN2.out
  rw [q9,hg] at h9
  simp only [oI,cI] at h9
  exact absurd h9.2.1 (by decide)
 refine wp_region_noPanic ?_
 refine wp_region_held_drew (S:=fun wx=>wx.cell? ⟨ls,0,none⟩=some (.pointer (some ⟨g,0,none⟩))∧wx.cell? ⟨cb,2,none⟩=some (.slice va vn vc)) (by kernel_rfl) HX0.out (fun hHeld=>?_)
 refine wpAnyH_tk 0 12 ?_
 refine wpAnyH_tk 1 13 ?_
 refine wpAnyH_tk 2 14 ?_
 refine wpAnyH_tk 3 15 ?_
 refine wpAnyH_tk 4 16 ?_
 refine wpAnyH_tk 5 17 ?_
 refine wpAnyH_tk 6 18 ?_
 refine wpAnyH_tk 7 19 ?_
 refine wpAnyH_cm 8 ?_;intro K hK
 go_simp
 refine HPU.out.mono ?_
 rintro e w3 ⟨rfl,hc3,hx3⟩
 have HL3:=hide (HLD.out.ch hc3 hx3)
 have HC3:=hide hc3
 have HX3:Hid ((fun wx=>wx.cell? ⟨ls,0,none⟩=some (.pointer (some ⟨g,0,none⟩))∧wx.cell? ⟨cb,2,none⟩=some (.slice va vn vc)) w3):=⟨HL3.out.cell0,HXC.out w3 hc3⟩
 clear hc3 hx3 hHeld
 refine hK.out _ _ HX3.out (fun hHeld=>?_)
 clear hK K
 try simp only [Act.put,siT,scZ,scS]
 refine wpAnyH_tk 9 6 ?_
 refine wpAnyH_done (by kernel_rfl) ?_ _
 refine NoPanic.normal ?_
 clear hHeld
 go_wp2
 go_ret
 refine ⟨rfl,⟨(HBD.out.mono HBW.out).trans HC3.out.1,fun k cs t fz e n1 n2=>HC3.out.2 k cs t fz ((HBD.out.block k (by have:=(lO e);omega)).trans e) n1 n2,GdK.trans (fun k _ hf=>HBD.out.block k (by have:=hf.lt;omega)) HC3.out.gd⟩,HL3.out⟩
theorem LS.layOne0 [Gd] {B p q g ls N c u fb:Nat} {l:List It} {W w:World} (hg0:True) (h:LS B p q g ls N c u l W w) (hu:u+20≤N) (hu2:u≤3000) (hl:l.length<90) (it:It) (hit:ItOk (0::it.1,it.2)) {xa va:Option Addr} {xn xc vn vc:Nat} (hxn:it.1.length=xn) (hvn:it.2.length=vn) (hk:BK B w xa xn xc it.1) (hv:BK B w va vn vc it.2) {cf:Array Value} (hBf:B≤fb) (hf:w.heap[fb]?=some (.cells cf 100 (0,0))) (hF:FGV cf) :
  Calls Tryz.prog 115 #[.pointer (some ⟨ls,0,none⟩),.agg #[.int .i64 0,.slice xa xn xc,.slice va vn vc,.bool false],.pointer (some ⟨fb,0,none⟩)] w fun e w'=>e=.returned (.int .i64 0)∧LyF B g fb w w'∧LS B p q g ls N c (u+9) (putL l (0::it.1,it.2)) W w'∧∃ cf',w'.heap[fb]?=some (.cells cf' 100 (0,0))∧FGV cf':=by
 have h6:xn≤63:=by
  have h9:(0::it.1).length≤64:=hit.k1
  simp at h9
  omega
 have HBX:=hide (aAc w (.cells #[.int .i64 0,.slice xa xn xc,.slice va vn vc,.bool false] 124))
 have HNW:Hid ((w.alloc (.cells #[.int .i64 0,.slice xa xn xc,.slice va vn vc,.bool false] 124)).heap[w.heap.size]?=some (.cells #[.int .i64 0,.slice xa xn xc,.slice va vn vc,.bool false] 124 (0,0))):=heap_alloc_new w _
 have HL1:=hide (h.later HBX.out)
 have HK1:=hide (hk.later HBX.out h.bw)
 have HV1:=hide (hv.later HBX.out h.bw)
 have HF1:=hide ((HBX.out.block fb (lO hf)).trans hf)
 have HFV:=hide hF
 have HBW:=hide h.bw
 have HIT:=hide hit
 clear h hk hv hit hf hF
 go_enter Tryz.func115,Tryz.ntmps115
 go_upto_region 1 with fail
 generalize hcb:w.heap.size=cb at *
 generalize w.alloc (.cells #[.int .i64 0,.slice xa xn xc,.slice va vn vc,.bool false] 124)=w1 at *
 have r0:w1.cell? ⟨ls,0,none⟩=some (.pointer (some ⟨g,0,none⟩)):=HL1.out.cell0
 have HLE:=hide HL1.out.kx.Len
 go_wp2_with fail
 refine HLE.out.mono ?_
 rintro e w9 ⟨rfl,hw⟩
 have hw:=hw.symm
 subst hw
 have hd:Below w1.heap.size w1 w1.drew:=(Below.refl _ _).drew
 have HLD:=hide (HL1.out.later hd)
 have HNWD:Hid (w1.drew.heap[cb]?=some (.cells #[.int .i64 0,.slice xa xn xc,.slice va vn vc,.bool false] 124 (0,0))):=HNW.out
 have HFD:Hid (w1.drew.heap[fb]?=some (.cells cf 100 (0,0))):=HF1.out
 have HVD:=hide (HV1.out.later hd HL1.out.bw)
 have HTK:=hide (treeKey_0 (B:=B) (HK1.out.later hd HL1.out.bw).1 (by omega))
 have HX0:Hid ((fun wx=>wx.cell? ⟨ls,0,none⟩=some (.pointer (some ⟨g,0,none⟩))∧wx.cell? ⟨cb,0,none⟩=some (.int .i64 0)∧wx.cell? ⟨cb,1,none⟩=some (.slice xa xn xc)∧wx.cell? ⟨cb,2,none⟩=some (.slice va vn vc)∧wx.cell? ⟨cb,3,none⟩=some (.bool false)) w1.drew):=⟨HLD.out.cell0,aAa HNW.out,aAa HNW.out,aAa HNW.out,aAa HNW.out⟩
 have HBD:Hid (Below cb w w1.drew):=HBX.out.drew
 clear hd r0 HLE
 go_upto_region 2 with fail
 refine wp_region_noPanic ?_
 refine wp_region_held_drew (S:=fun wx=>wx.cell? ⟨ls,0,none⟩=some (.pointer (some ⟨g,0,none⟩))∧wx.cell? ⟨cb,0,none⟩=some (.int .i64 0)∧wx.cell? ⟨cb,1,none⟩=some (.slice xa xn xc)∧wx.cell? ⟨cb,2,none⟩=some (.slice va vn vc)∧wx.cell? ⟨cb,3,none⟩=some (.bool false)) (by kernel_rfl) HX0.out (fun hHeld=>?_)
 refine wpAnyH_tk 0 14 ?_
 refine wpAnyH_tk 1 15 ?_
 refine wpAnyH_tk 2 16 ?_
 refine wpAnyH_tk 3 17 ?_
 refine wpAnyH_tk 4 18 ?_
 refine wpAnyH_tk 5 19 ?_
 refine wpAnyH_tk 6 20 ?_
 refine wpAnyH_tk 8 22 ?_
 refine wpAnyH_cm 7 ?_;intro K hK
 go_simp
 refine HTK.out.mono ?_
 rintro e w3 ⟨tb,td,rfl,hk3,hb3⟩
 have HL3:=hide (HLD.out.later hb3)
 have HNW3:Hid (w3.heap[cb]?=some (.cells #[.int .i64 0,.slice xa xn xc,.slice va vn vc,.bool false] 124 (0,0))):=(hb3.block cb (lO HNWD.out)).trans HNWD.out
 have HF3:Hid (w3.heap[fb]?=some (.cells cf 100 (0,0))):=(hb3.block fb (lO HFD.out)).trans HFD.out
 have HB3:Hid (Below cb w w3):=HBD.out.trans (hb3.mono (by rw [←hcb];exact HBD.out.size))
 have HPT:=hide (HL3.out.putOrTake0 hg0 hu hu2 hl (0::it.1,it.2) HIT.out (by show (0::it.1).length=xn+1;simp [hxn]) hvn hk3 (HVD.out.later hb3 HLD.out.bw) (xa:=xa) (xn:=xn) (xc:=xc))
 have HX3:Hid ((fun wx=>wx.cell? ⟨ls,0,none⟩=some (.pointer (some ⟨g,0,none⟩))∧wx.cell? ⟨cb,0,none⟩=some (.int .i64 0)∧wx.cell? ⟨cb,1,none⟩=some (.slice xa xn xc)∧wx.cell? ⟨cb,2,none⟩=some (.slice va vn vc)∧wx.cell? ⟨cb,3,none⟩=some (.bool false)) w3):=⟨HL3.out.cell0,aAa HNW3.out,aAa HNW3.out,aAa HNW3.out,aAa HNW3.out⟩
 clear hk3 hb3 hHeld
 refine hK.out _ _ HX3.out (fun hHeld=>?_)
 clear hK K
 try simp only [Act.put,siT,scZ,scS]
 refine wpAnyH_cm 9 ?_;intro K hK
 go_simp
 refine HPT.out.mono ?_
 rintro e w4 ⟨rfl,hc4,hl4⟩
 obtain ⟨cg,hg⟩:=HL3.out.kx.blk
 have HL4:=hide hl4
 have HC4:=hide hc4
 have HNW4:Hid (w4.heap[cb]?=some (.cells #[.int .i64 0,.slice xa xn xc,.slice va vn vc,.bool false] 124 (0,0))):=hc4.2 _ _ _ _ HNW3.out (by decide) (aA0 HNW3.out hg (by decide))
 have HF4:Hid (w4.heap[fb]?=some (.cells cf 100 (0,0))):=hc4.2 _ _ _ _ HF3.out (by decide) (aA0 HF3.out hg (by decide))
 have HX4:Hid ((fun wx=>wx.cell? ⟨ls,0,none⟩=some (.pointer (some ⟨g,0,none⟩))∧wx.cell? ⟨cb,0,none⟩=some (.int .i64 0)∧wx.cell? ⟨cb,1,none⟩=some (.slice xa xn xc)∧wx.cell? ⟨cb,2,none⟩=some (.slice va vn vc)∧wx.cell? ⟨cb,3,none⟩=some (.bool false)) w4):=⟨HL4.out.cell0,aAa HNW4.out,aAa HNW4.out,aAa HNW4.out,aAa HNW4.out⟩
 clear hc4 hl4 hg hHeld
 refine hK.out _ _ HX4.out (fun hHeld=>?_)
 clear hK K
 try simp only [Act.put,siT,scZ,scS]
 refine wpAnyH_tk 10 8 ?_
 refine wpAnyH_done (by kernel_rfl) ?_ _
 refine NoPanic.normal ?_
 clear hHeld HX0 HX3 HX4 HTK HPT
 obtain ⟨n16,hn16⟩:=HFV.out.cp 1 (by decide) (by decide)
 have hd:Below w4.heap.size w4 w4.drew:=(Below.refl _ _).drew
 have HLX:=hide (HL4.out.later hd)
 have HFX:Hid (w4.drew.heap[fb]?=some (.cells cf 100 (0,0))):=HF4.out
 have HNX:Hid (w4.drew.heap[cb]?=some (.cells #[.int .i64 0,.slice xa xn xc,.slice va vn vc,.bool false] 124 (0,0))):=HNW4.out
 have HLE:=hide HLX.out.kx.Len
 have HX0:Hid ((fun wx=>wx.cell? ⟨ls,0,none⟩=some (.pointer (some ⟨g,0,none⟩))∧wx.cell? ⟨cb,0,none⟩=some (.int .i64 0)) w4.drew):=⟨HLX.out.cell0,aAa HNX.out⟩
 have HBX4:Hid (LyF B g fb w w4.drew):=(LyF.of (by rw [hcb];exact HB3.out) (by rw [hcb];exact HBW.out)).trans ((LyF.ch HC4.out).trans (LyF.of hd HL4.out.bw))
 clear hd
 go_upto_region 3 with fail
 have y16:w4.drew.cell? ⟨fb,1,none⟩=some (.int .i64 n16):=(aAa HFX.out).trans hn16
 have z16:w4.drew.frozen? ⟨fb,1,none⟩=false:=aAb HFX.out
 clear hn16
 generalize (putL l (0::it.1,it.2)).length=ln5 at *
 generalize l.length=ln0 at *
 refine wp_region_noPanic ?_
 refine wp_region_held_drew (S:=fun wx=>wx.cell? ⟨ls,0,none⟩=some (.pointer (some ⟨g,0,none⟩))∧wx.cell? ⟨cb,0,none⟩=some (.int .i64 0)) (by kernel_rfl) HX0.out (fun hHeld=>?_)
 refine wpAnyH_tk 0 24 ?_
 refine wpAnyH_tk 1 25 ?_
 refine wpAnyH_tk 2 26 ?_
 refine wpAnyH_tk 3 27 ?_
 refine wpAnyH_tk 4 28 ?_
 refine wpAnyH_tk 5 29 ?_
 refine wpAnyH_tk 6 30 ?_
 refine wpAnyH_tk 8 32 ?_
 refine wpAnyH_tk 9 33 ?_
 refine wpAnyH_tk 10 34 ?_
 refine wpAnyH_tk 11 35 ?_
 refine wpAnyH_tk 13 37 ?_
 refine wpAnyH_tk 16 40 ?_
 refine wpAnyH_tk 17 41 ?_
 refine aAo (i:=7) (j:=12) (by kernel_rfl) (by kernel_rfl) (by kernel_rfl) ?ba ?bb
 case ba =>
  intro o ho K hK
  simp only [List.getElem?_toArray,List.getElem?_cons_succ,List.getElem?_cons_zero,oI] at ho
  subst ho
  go_simp
  refine hK.out _ _ hHeld (fun hHeld=>?_)
  clear hK K
  try simp only [Act.put,siT,scZ,scS]
  refine wpAnyH_cm 12 ?_;intro K hK
  go_simp
  refine HLE.out.mono ?_
  rintro e w9 ⟨rfl,hw⟩
  have hw:=hw.symm
  subst hw
  refine hK.out _ _ hHeld (fun hHeld=>?_)
  clear hK K
  try simp only [Act.put,siT,scZ,scS]
  refine wpAnyH_tk 14 38 ?_
  refine wpAnyH_tk 15 39 ?_
  refine wpAnyH_tk 18 42 ?_
  refine wpAnyH_cm 19 ?_;intro K hK
  go_simp
  have HXS:Hid (∀ x,(fun wx=>wx.cell? ⟨ls,0,none⟩=some (.pointer (some ⟨g,0,none⟩))∧wx.cell? ⟨cb,0,none⟩=some (.int .i64 0)) (w4.drew.setCell ⟨fb,1,none⟩ x)):=fun x=>by
   have hlx:=HLX.out.fig (o:=1) (x:=x) HFX.out hBf
   refine ⟨hlx.cell0,(World.cell?_of_block (heap_setCell_other _ _ _ _ ?_)).trans HX0.out.2⟩
   exact aA0 HNX.out HFX.out (by decide)
  clear hHeld
  refine hK.out _ _ (HXS.out _) (fun hHeld=>?_)
  clear hK K
  try simp only [Act.put,siT,scZ,scS]
  refine wpAnyH_done (by kernel_rfl) ?_ _
  refine NoPanic.normal ?_
  clear hHeld y16 z16
  go_wp2
  go_ret
  exact ⟨rfl,HBX4.out.trans (LyF.set hBf HFX.out (by unfold DTy;decide)),HLX.out.fig HFX.out hBf,_,heap_setCell_same _ _ _ _ _ _ HFX.out,HFV.out.set (by decide) _⟩
 case bb =>
  intro o ho K hK
  simp only [List.getElem?_toArray,List.getElem?_cons_succ,List.getElem?_cons_zero,oI] at ho
  subst ho
  go_simp
  refine HLE.out.mono ?_
  rintro e w9 ⟨rfl,hw⟩
  have hw:=hw.symm
  subst hw
  refine hK.out _ _ hHeld (fun hHeld=>?_)
  clear hK K
  try simp only [Act.put,siT,scZ,scS]
  refine wpAnyH_tk 14 38 ?_
  refine wpAnyH_cm 7 ?_;intro K hK
  go_simp
  refine hK.out _ _ hHeld (fun hHeld=>?_)
  clear hK K
  try simp only [Act.put,siT,scZ,scS]
  refine wpAnyH_tk 15 39 ?_
  refine wpAnyH_tk 18 42 ?_
  refine wpAnyH_cm 19 ?_;intro K hK
  go_simp
  have HXS:Hid (∀ x,(fun wx=>wx.cell? ⟨ls,0,none⟩=some (.pointer (some ⟨g,0,none⟩))∧wx.cell? ⟨cb,0,none⟩=some (.int .i64 0)) (w4.drew.setCell ⟨fb,1,none⟩ x)):=fun x=>by
   have hlx:=HLX.out.fig (o:=1) (x:=x) HFX.out hBf
   refine ⟨hlx.cell0,(World.cell?_of_block (heap_setCell_other _ _ _ _ ?_)).trans HX0.out.2⟩
   exact aA0 HNX.out HFX.out (by decide)
  clear hHeld
  refine hK.out _ _ (HXS.out _) (fun hHeld=>?_)
  clear hK K
  try simp only [Act.put,siT,scZ,scS]
  refine wpAnyH_done (by kernel_rfl) ?_ _
  refine NoPanic.normal ?_
  clear hHeld y16 z16
  go_wp2
  go_ret
  exact ⟨rfl,HBX4.out.trans (LyF.set hBf HFX.out (by unfold DTy;decide)),HLX.out.fig HFX.out hBf,_,heap_setCell_same _ _ _ _ _ _ HFX.out,HFV.out.set (by decide) _⟩
def apL0 (l:List It) (cl:List It):List It:=cl.foldl (fun l x=>putL l (0::x.1,x.2)) l
theorem apL0_succ {l cl:List It} {j:Nat} {x:It} (h:cl[j]?=some x):apL0 l (cl.take (j+1))=putL (apL0 l (cl.take j)) (0::x.1,x.2):=by
 unfold apL0
 rw [List.take_add_one,h,List.foldl_append]
 rfl
theorem aG0 (l:List It):∀ cl:List It,(apL0 l cl).length≤l.length+cl.length:=by
 intro cl
 induction cl generalizing l with
 | nil=>exact nR _
 | cons x cl ih =>
  have h1:=ih (putL l (0::x.1,x.2))
  have h2:=aGf l (0::x.1,x.2)
  show (apL0 (putL l (0::x.1,x.2)) cl).length≤_
  rw [List.length_cons]
  split at h2<;>omega
theorem LS.lay0 [Gd] {B p q g ls N c u fb:Nat} {l cl:List It} {v:Value} {W w:World} (hg0:True) (h:LS B p q g ls N c u l W w) (hu:u+9*cl.length+11≤N) (hu2:u≤2000) (hl:l.length+cl.length<90) (hv:CHV0 B w v cl) (hok:∀ x∈cl,ItOk (0::x.1,x.2)) {cf:Array Value} (hBf:B≤fb) (hf:w.heap[fb]?=some (.cells cf 100 (0,0))) (hF:FGV cf) :
  Calls Tryz.prog 86 #[.pointer (some ⟨ls,0,none⟩),.int .i64 0,v,.pointer (some ⟨fb,0,none⟩)] w fun e w'=>e=.returned (.int .i64 0)∧LyF B g fb w w'∧LS B p q g ls N c (u+9*cl.length) (apL0 l cl) W w'∧∃ cf',w'.heap[fb]?=some (.cells cf' 100 (0,0))∧FGV cf':=by
 obtain ⟨gv,cap,hform⟩:∃ g cap,v=.slice (some ⟨g,0,none⟩) cl.length cap:=by
  obtain ⟨kv,g,cap,h1,_⟩:=hv
  exact ⟨g,cap,h1⟩
 subst hform
 have HL0:=hide h
 have HV0:=hide hv
 have HOK:=hide hok
 have HF0:Hid (∃ cf',w.heap[fb]?=some (.cells cf' 100 (0,0))∧FGV cf'):=⟨cf,hf,hF⟩
 clear h hv hok hf hF
 generalize hM:cl.length=M at *
 go_enter Tryz.func86,Tryz.ntmps86
 go_wp2_with fail
 go_loopw [14] (fun i wx=>∃ j:Nat,j≤M∧i=.int .i64 j∧LyF B g fb w wx∧LS B p q g ls N c (u+9*j) (apL0 l (cl.take j)) W wx∧CHV0 B wx (.slice (some ⟨gv,0,none⟩) M cap) cl∧∃ cf',wx.heap[fb]?=some (.cells cf' 100 (0,0))∧FGV cf') (fun i _=>M-(intOf i).toNat)
 case atStart=>exact ⟨0,by omega,rfl,LyF.refl _ _ _ _,HL0.out,HV0.out,HF0.out⟩
 case round =>
  obtain ⟨j,hj,rfl,a1,a2,a3,cf1,a4,a5⟩:=hrel
  have HA1:=hide a1
  have HA2:=hide a2
  have HA3:=hide a3
  have HA4:=hide a4
  have HA5:=hide a5
  clear a1 a2 a3 a4 a5
  by_cases hjn:j<M
  ·have xj:(j:Int)<(M:Int):=by omega
   obtain ⟨it,hit⟩:∃ it,cl[j]?=some it:=⟨_,gE (by omega)⟩
   obtain ⟨g',cap',ka,kc,va,vc,f1,q1,q2,q3,q4,q5,q6⟩:=HA3.out.at hit
   rw [hM] at f1
   simp only [Value.slice.injEq,oI,Addr.mk.injEq] at f1
   obtain ⟨⟨rfl,_,_⟩,_,rfl⟩:=f1
   have HSU:=hide (apL0_succ (l:=l) hit)
   have hll:=aG0 l (cl.take j)
   have htl:(cl.take j).length≤j:=List.length_take_le _ _
   obtain ⟨x1,hx1⟩:∃ x,x=wr.alloc (.cells #[.int .i64 0,.slice ka it.1.length kc,.slice va it.2.length vc,.bool false] 124):=⟨_,rfl⟩
   have hb1:Below wr.heap.size wr x1:=by rw [hx1];exact aAc wr _
   have hL1:=HA2.out.later hb1
   have hf1:=(hb1.block fb (lO HA4.out)).trans HA4.out
   have HLO:=hide (hL1.layOne0 hg0 (by omega) (by omega) (by omega) it (HOK.out it (mG hit)) rfl rfl (q5.later hb1 HA2.out.bw) (q6.later hb1 HA2.out.bw) hBf hf1 HA5.out)
   have HL1:=hide hL1
   have HF1:=hide hf1
   have HB1:=hide hb1
   have HV1:=hide (HA3.out.later hb1 HA2.out.bw)
   rw [hx1] at HLO
   generalize it.1.length=kn at *
   generalize it.2.length=vn at *
   clear hit q5 q6 hb1 hL1 hf1 hll htl
   go_wp2_with fail
   refine HLO.out.mono ?_
   rintro e w2 ⟨rfl,b1,b2,cf2,b3,b4⟩
   rw [←hx1] at b1
   have HC2:Hid (LyF B g fb w w2):=HA1.out.trans ((LyF.of HB1.out HA2.out.bw).trans b1)
   have HL2:Hid (LS B p q g ls N c (u+9*(j+1)) (apL0 l (cl.take (j+1))) W w2):=by rw [HSU.out];exact b2
   obtain ⟨cg,hg⟩:=HL1.out.kx.blk
   have HV2:Hid (CHV0 B w2 (.slice (some ⟨gv,0,none⟩) M cap) cl):=HV1.out.stay (LyF.ft HL1.out b1 HF1.out) fun k cs e=>b1.2 k cs _ _ e (by decide) (aA0 e hg (by decide)) (aA0 e HF1.out (by decide))
   have HF2:Hid (∃ cf',w2.heap[fb]?=some (.cells cf' 100 (0,0))∧FGV cf'):=⟨cf2,b3,b4⟩
   clear b1 b2 b3 b4 hg HLO hx1
   go_wp2_with fail
   go_roundw
   case rel=>exact ⟨j+1,by omega,by go_num,HC2.out,HL2.out,HV2.out,HF2.out⟩
   case measure=>simp [intOf];omega
  ·have xj:¬ (j:Int)<(M:Int):=by omega
   have r0:wr.cell? ⟨fb,0,none⟩=some (.int .i64 0):=(aAa HA4.out).trans HA5.out.c0
   have hjm:j=M:=by omega
   subst hjm
   have htk:cl.take cl.length=cl:=List.take_length
   rw [hM] at htk
   rw [htk] at HA2
   clear htk
   go_wp2
   go_ret
   exact ⟨rfl,HA1.out,HA2.out,cf1,HA4.out,HA5.out⟩
theorem LS.apply10 [Gd] {B p q g ls N c u fb x1 x2 x3 t1 t2 t3:Nat} {l cl:List It} {v:Value} {W w:World} (hg0:True) (h:LS B p q g ls N c u l W w) (hu:u+9*cl.length+11≤N) (hu2:u≤2000) (hl:l.length+cl.length<90) (hv:CHV0 B w v cl) (hok:∀ x∈cl,ItOk (0::x.1,x.2)) {cf:Array Value} (hBf:B≤fb) (hf:w.heap[fb]?=some (.cells cf 100 (0,0))) (hF:FGV cf)
  (hx1:w.heap[x1]?=some (.cells #[.pointer (some ⟨ls,0,none⟩)] t1 (0,0))) (hx2:w.heap[x2]?=some (.cells #[.int .i64 0] t2 (0,0))) (hx3:w.heap[x3]?=some (.cells #[v] t3 (0,0))) :
  Calls Tryz.prog 85 #[.pointer (some ⟨fb,0,none⟩),.pointer (some ⟨x1,0,none⟩),.pointer (some ⟨x2,0,none⟩),.pointer (some ⟨x3,0,none⟩)] w fun e w'=>e=.returned (.int .i64 0)∧LyF B g fb w w'∧LS B p q g ls N c (u+9*cl.length) (apL0 l cl) W w'∧∃ cf',w'.heap[fb]?=some (.cells cf' 100 (0,0))∧FGV cf':=by
 have HLY:=hide (h.lay0 hg0 hu hu2 hl hv hok hBf hf hF)
 obtain ⟨gv,cap,hform⟩:∃ g cap,v=.slice (some ⟨g,0,none⟩) cl.length cap:=by
  obtain ⟨kv,g,cap,h1,_⟩:=hv
  exact ⟨g,cap,h1⟩
 subst hform
 have r1:w.cell? ⟨x1,0,none⟩=some (.pointer (some ⟨ls,0,none⟩)):=aAa hx1
 have r2:w.cell? ⟨x2,0,none⟩=some (.int .i64 0):=aAa hx2
 have r3:w.cell? ⟨x3,0,none⟩=some (.slice (some ⟨gv,0,none⟩) cl.length cap):=aAa hx3
 clear h hv hok hf hF hx1 hx2 hx3
 generalize cl.length=M at *
 go_enter Tryz.func85,Tryz.ntmps85
 go_wp2_with fail
 refine HLY.out.mono ?_
 rintro e w1 ⟨rfl,h1⟩
 have H1:=hide h1
 clear h1
 go_wp2
 go_ret
 exact ⟨rfl,H1.out⟩
theorem LS.atOnce0 [Gd] {B p q g ls N c u x1 x2 x3 t1 t2 t3:Nat} {l cl:List It} {v:Value} {W w:World} (hg0:True) (h:LS B p q g ls N c u l W w) (hN:3≤N) (hc9:c<900) (hu:u+9*cl.length+11≤N) (hu2:u≤2000) (hl:l.length+cl.length<90) (hv:CHV0 B w v cl) (hok:∀ x∈cl,ItOk (0::x.1,x.2))
  (hx1:w.heap[x1]?=some (.cells #[.pointer (some ⟨ls,0,none⟩)] t1 (0,0))) (hx2:w.heap[x2]?=some (.cells #[.int .i64 0] t2 (0,0))) (hx3:w.heap[x3]?=some (.cells #[v] t3 (0,0))) :
  Calls Tryz.prog 84 #[.pointer (some ⟨ls,0,none⟩),.func (Fn.func 85) #[] #[.pointer (some ⟨x1,0,none⟩),.pointer (some ⟨x2,0,none⟩),.pointer (some ⟨x3,0,none⟩)]] w fun e w'=>e=.returned (.int .i64 0)∧LyF B g ls w w'∧LS B p q g ls N (c+1) (apL0 l cl).length (apL0 l cl) W w':=by
 have lt:∀ {k:Nat} {o:Obj} {ww:World},ww.heap[k]?=some o→k<ww.heap.size:=fun e=>(lO e)
 have hz:∀ ww,(zeroValue 100).run Tryz.prog ww=.ok (.agg z17) ww:=fun ww=>by kernel_rfl
 obtain ⟨cs,h1,h2⟩:=h.lv
 have hcut:=h2.cut
 have hst:=fun (ww:World) (o:Nat) (hh:ww.heap[o]?=some (.cells z17 100 (0,0)))=>by
  have:=aA4 (o:=0) hh (show 0+(cutF cs).size≤17 by rw [hcut.sz];decide) hcut.one
  rw [aB0 (show (cutF cs).size=17 from hcut.sz)] at this
  exact this
 have HLD:=hide (aGm (w:=w) (g:=ls) (o:=2) (ty:=100) (cs:=cutF cs) (fun j v hv=>(aAa h1).trans (cutF_get hv)) Tryz.underlying100 rfl (by rw [hcut.sz];exact aDl))
 have xa:(w.alloc (.cells z17 100)).heap[w.heap.size]?=some (.cells z17 100 (0,0)):=heap_alloc_new w _
 have hst1:=hst _ _ xa
 have HY:=hide (setRow_heap _ _ _ (cutF cs) _ _ xa)
 have HB1:Hid (Below w.heap.size w ((w.alloc (.cells z17 100)).setRow w.heap.size (cutF cs))):=below_setRow (aAc w _) (nR _) (cutF cs)
 have HCU:=hide hcut
 have hzs:(cutF cs).size=17:=hcut.sz
 have H0:=hide h
 have HV0:=hide hv
 have HOK:=hide hok
 have HX1:=hide hx1
 have HX2:=hide hx2
 have HX3:=hide hx3
 clear h h1 h2 hcut hst xa hv hok hx1 hx2 hx3
 go_enter Tryz.func84,Tryz.ntmps84
 go_upto_region 2 with (refine wpList_load_row rfl (.tmp 9) 100 rfl rfl HLD.out ?_)
 generalize ((w.alloc (.cells z17 100)).setRow w.heap.size (cutF cs))=w1 at *
 have HN0:Hid (B≤w.heap.size):=H0.out.bw
 generalize hfb:w.heap.size=fb at *
 clear hst1 HLD
 have HL1:=hide (H0.out.later (by rw [hfb];exact HB1.out))
 have HV1:=hide (HV0.out.later (by rw [hfb];exact HB1.out) (by rw [hfb];exact HN0.out))
 have bl:∀ {k:Nat} {o:Obj},w.heap[k]?=some o→w1.heap[k]?=some o:=fun e=>(HB1.out.block _ (by have:=lt e;omega)).trans e
 have HAP:=hide (HL1.out.apply10 hg0 hu hu2 hl HV1.out HOK.out HN0.out HY.out HCU.out (bl HX1.out) (bl HX2.out) (bl HX3.out))
 have hcf:(callFunc 85 #[.pointer (some ⟨fb,0,none⟩),.pointer (some ⟨x1,0,none⟩),.pointer (some ⟨x2,0,none⟩),.pointer (some ⟨x3,0,none⟩)]).run Tryz.prog w1=.ok (.enter 85 #[.pointer (some ⟨fb,0,none⟩),.pointer (some ⟨x1,0,none⟩),.pointer (some ⟨x2,0,none⟩),.pointer (some ⟨x3,0,none⟩)]) w1:=by rfl
 clear bl
 go_wp2_with fail
 refine HAP.out.mono ?_
 rintro e w2 ⟨rfl,b1,b2,cf2,b3,b4⟩
 have HC2:=hide b1
 have HL2:=hide b2
 have HF2:=hide b3
 have HG2:=hide b4
 have r0:w2.cell? ⟨ls,0,none⟩=some (.pointer (some ⟨g,0,none⟩)):=b2.cell0
 have HCM:=hide (b2.kx.commit hN hc9)
 clear b1 b2 b3 b4 HAP hcf
 go_wp2_with fail
 refine HCM.out.mono ?_
 rintro e w3 ⟨rfl,hc3,hx3⟩
 obtain ⟨cg,hg⟩:=HL2.out.kx.blk
 have HL3:=hide (HL2.out.ch hc3 hx3)
 have HF3:=hide (hc3.2 _ _ _ _ HF2.out (by decide) (aA0 HF2.out hg (by decide)))
 have HC3:=hide hc3
 obtain ⟨cs3,k1,k2⟩:=HL3.out.lv
 have HK1:=hide k1
 have HK2:=hide k2
 have HLD3:=hide (run_loadVar_row (P:=Tryz.prog) w3 fb 100 100 cf2 (0,0) _ HF3.out Tryz.underlying100 rfl (by rw [HG2.out.sz];exact aDl))
 have hst3:=aA4 (o:=2) k1 (show 2+cf2.size≤cs3.size by rw [HG2.out.sz,k2.sz];decide) HG2.out.one
 have hzc:cf2.size=17:=HG2.out.sz
 have HLF:=hide (HL3.out.row k1 (k2.put HG2.out))
 have HCF:Hid (LyF B g ls w (w3.setRow ls (spl cs3 2 cf2))):=by
  have hxr:Ex B [ls] w3 (w3.setRow ls (spl cs3 2 cf2)):=Ex.row HL3.out.bl _
  refine ⟨(HB1.out.mono HN0.out).trans (HC2.out.1.trans (HC3.out.1.trans hxr.1)),fun k c0 t fz e n1 n2 n3=>?_,((GdK.trans (fun k _ hf=>HB1.out.block k (by have:=hf.lt;omega)) HC2.out.gd).trans HC3.out.gd).trans (hxr.gdk k1 (by unfold DTy;decide))⟩
  have hkl:=lt e
  have e1:=(HB1.out.block k (by omega)).trans e
  have e2:=HC2.out.2 k c0 t fz e1 n1 n2 (by omega)
  have e3:=HC3.out.2 k c0 t fz e2 n1 n2
  rw [hxr.2 k (lt e3) (by simpa using n3),e3]
 clear hc3 hx3 hg k1 k2 r0 HCM
 go_wp2_with (refine wpList_load_row rfl (.tmp 5) 100 rfl rfl HLD3.out ?_)
 go_ret
 exact ⟨rfl,HCF.out,HLF.out⟩
theorem ItOk.of0 {x:It} (h1:x.1.length≤60) (h2:x.2.length≤1800) (h3:∀ n∈x.1,n<256) (h4:∀ n∈x.2,n<256):ItOk (0::x.1,x.2):=by
 refine ⟨(fun q=>by cases q),?_,h2,fun n hn=>?_,h4⟩
 ·show (0::x.1).length≤64
  rw [List.length_cons];omega
 ·rcases List.mem_cons.1 hn with rfl | q
  ·decide
  ·exact h3 n q
theorem LS.Apply0 [Gd] {B p q g ls N c u:Nat} {l cl:List It} {v:Value} {W w:World} (hg0:True) (h:LS B p q g ls N c u l W w) (hN:3≤N) (hc9:c<900) (hu:u+9*cl.length+11≤N) (hu2:u≤2000) (hl:l.length+cl.length<90) (hv:CHV0 B w v cl) (hok:∀ x∈cl,0<x.1.length∧x.1.length≤60∧x.2.length≤1800∧(∀ n∈x.1,n<256)∧∀ n∈x.2,n<256) :
  Calls Tryz.prog 56 #[.pointer (some ⟨ls,0,none⟩),.int .i64 0,v] w fun e w'=>e=.returned (.int .i64 0)∧LyF B g ls w w'∧LS B p q g ls N (c+1) (apL0 l cl).length (apL0 l cl) W w':=by
 have lt:∀ {k:Nat} {o:Obj} {ww:World},ww.heap[k]?=some o→k<ww.heap.size:=fun e=>(lO e)
 have hmf:∀ (fn:Fn) (first cap:Array Value) (w:World),(Instr.makeFunc fn first cap).run Tryz.prog w=.ok (.func fn first cap) w:=fun _ _ _ _=>rfl
 have HIT:Hid (∀ x∈cl,ItOk (0::x.1,x.2)):=fun x hx=>ItOk.of0 (hok x hx).2.1 (hok x hx).2.2.1 (hok x hx).2.2.2.1 (hok x hx).2.2.2.2
 have HRK:Hid (∀ x∈cl,0<x.1.length∧x.1.length≤60∧x.2.length≤1800):=fun x hx=>⟨(hok x hx).1,(hok x hx).2.1,(hok x hx).2.2.1⟩
 obtain ⟨gv,cap,hform⟩:∃ g cap,v=.slice (some ⟨g,0,none⟩) cl.length cap:=by
  obtain ⟨kv,g,cap,h1,_⟩:=hv
  exact ⟨g,cap,h1⟩
 subst hform
 generalize hM:cl.length=M at *
 have q0:=aAd [Obj.cells #[.pointer (some ⟨ls,0,none⟩)] 76,Obj.cells #[.int .i64 0] 3,Obj.cells #[.slice (some ⟨gv,0,none⟩) M cap] 133] w 0 _ rfl
 have q1:=aAd [Obj.cells #[.pointer (some ⟨ls,0,none⟩)] 76,Obj.cells #[.int .i64 0] 3,Obj.cells #[.slice (some ⟨gv,0,none⟩) M cap] 133] w 1 _ rfl
 have q2:=aAd [Obj.cells #[.pointer (some ⟨ls,0,none⟩)] 76,Obj.cells #[.int .i64 0] 3,Obj.cells #[.slice (some ⟨gv,0,none⟩) M cap] 133] w 2 _ rfl
 have qb:=(aAn [Obj.cells #[.pointer (some ⟨ls,0,none⟩)] 76,Obj.cells #[.int .i64 0] 3,Obj.cells #[.slice (some ⟨gv,0,none⟩) M cap] 133] w).1
 have HQ:Hid ((((w.alloc (.cells #[.pointer (some ⟨ls,0,none⟩)] 76)).alloc (.cells #[.int .i64 0] 3)).alloc (.cells #[.slice (some ⟨gv,0,none⟩) M cap] 133)).heap[w.heap.size]?=some (.cells #[.pointer (some ⟨ls,0,none⟩)] 76 (0,0))∧(((w.alloc (.cells #[.pointer (some ⟨ls,0,none⟩)] 76)).alloc (.cells #[.int .i64 0] 3)).alloc (.cells #[.slice (some ⟨gv,0,none⟩) M cap] 133)).heap[w.heap.size+1]?=some (.cells #[.int .i64 0] 3 (0,0))∧(((w.alloc (.cells #[.pointer (some ⟨ls,0,none⟩)] 76)).alloc (.cells #[.int .i64 0] 3)).alloc (.cells #[.slice (some ⟨gv,0,none⟩) M cap] 133)).heap[w.heap.size+2]?=some (.cells #[.slice (some ⟨gv,0,none⟩) M cap] 133 (0,0))∧Below w.heap.size w (((w.alloc (.cells #[.pointer (some ⟨ls,0,none⟩)] 76)).alloc (.cells #[.int .i64 0] 3)).alloc (.cells #[.slice (some ⟨gv,0,none⟩) M cap] 133))):=⟨q0,q1,q2,qb⟩
 have H0:=hide h
 have HV0:=hide hv
 have HN0:Hid (B≤w.heap.size):=h.bw
 clear h hv hok q0 q1 q2 qb
 go_enter Tryz.func56,Tryz.ntmps56
 go_upto_region 1 with fail
 generalize (((w.alloc (.cells #[.pointer (some ⟨ls,0,none⟩)] 76)).alloc (.cells #[.int .i64 0] 3)).alloc (.cells #[.slice (some ⟨gv,0,none⟩) M cap] 133))=w1 at *
 obtain ⟨hx1,hx2,hx3,hb1⟩:=HQ.out
 generalize hx1n:w.heap.size=x1 at *
 generalize hx2n:x1+1=x2 at *
 have e3:x1+2=x2+1:=by omega
 rw [e3] at hx3
 clear e3
 generalize hx3n:x2+1=x3 at *
 have hd:Below x1 w w1.drew:=hb1.drew
 have HLD:=hide (H0.out.later (by rw [hx1n];exact hd))
 have HVD:=hide (HV0.out.later (by rw [hx1n];exact hd) (by rw [hx1n];exact HN0.out))
 have HRF:=hide (HLD.out.refusal0 HVD.out (by omega) HRK.out)
 obtain ⟨cs,k1,k2⟩:=HLD.out.lv
 have HX0:Hid ((fun wx=>wx.cell? ⟨x1,0,none⟩=some (.pointer (some ⟨ls,0,none⟩))∧wx.cell? ⟨x2,0,none⟩=some (.int .i64 0)∧wx.cell? ⟨x3,0,none⟩=some (.slice (some ⟨gv,0,none⟩) M cap)∧wx.cell? ⟨ls,2,none⟩=some (.int .i64 0)) w1.drew):=⟨aAa hx1,aAa hx2,aAa hx3,(aAa k1).trans k2.c2⟩
 have HY1:Hid (w1.drew.heap[x1]?=some (.cells #[.pointer (some ⟨ls,0,none⟩)] 76 (0,0))):=hx1
 have HY2:Hid (w1.drew.heap[x2]?=some (.cells #[.int .i64 0] 3 (0,0))):=hx2
 have HY3:Hid (w1.drew.heap[x3]?=some (.cells #[.slice (some ⟨gv,0,none⟩) M cap] 133 (0,0))):=hx3
 have HBD:=hide hd
 clear hx1 hx2 hx3 hb1 hd k1 k2 HQ
 refine wp_region_noPanic ?_
 refine wp_region_held_drew (S:=fun wx=>wx.cell? ⟨x1,0,none⟩=some (.pointer (some ⟨ls,0,none⟩))∧wx.cell? ⟨x2,0,none⟩=some (.int .i64 0)∧wx.cell? ⟨x3,0,none⟩=some (.slice (some ⟨gv,0,none⟩) M cap)∧wx.cell? ⟨ls,2,none⟩=some (.int .i64 0)) (by kernel_rfl) HX0.out (fun hHeld=>?_)
 refine wpAnyH_tk 0 8 ?_
 refine wpAnyH_tk 1 9 ?_
 refine wpAnyH_tk 2 10 ?_
 refine wpAnyH_tk 3 11 ?_
 refine wpAnyH_tk 4 12 ?_
 refine wpAnyH_tk 5 13 ?_
 refine wpAnyH_tk 6 14 ?_
 refine wpAnyH_tk 7 15 ?_
 refine wpAnyH_tk 8 16 ?_
 refine wpAnyH_cm 9 ?_;intro K hK
 go_simp
 refine HRF.out.mono ?_
 rintro e w3 ⟨rfl,hb3⟩
 have HL3:=hide (HLD.out.later hb3)
 have HV3:=hide (HVD.out.later hb3 HLD.out.bw)
 have HZ1:=hide ((hb3.block x1 (lt HY1.out)).trans HY1.out)
 have HZ2:=hide ((hb3.block x2 (lt HY2.out)).trans HY2.out)
 have HZ3:=hide ((hb3.block x3 (lt HY3.out)).trans HY3.out)
 have HB3:Hid (Below x1 w w3):=HBD.out.trans (hb3.mono (by have:=HBD.out.size;omega))
 obtain ⟨cs3,k1,k2⟩:=HL3.out.lv
 have HX3:Hid ((fun wx=>wx.cell? ⟨x1,0,none⟩=some (.pointer (some ⟨ls,0,none⟩))∧wx.cell? ⟨x2,0,none⟩=some (.int .i64 0)∧wx.cell? ⟨x3,0,none⟩=some (.slice (some ⟨gv,0,none⟩) M cap)∧wx.cell? ⟨ls,2,none⟩=some (.int .i64 0)) w3):=⟨aAa HZ1.out,aAa HZ2.out,aAa HZ3.out,(aAa k1).trans k2.c2⟩
 clear hb3 k1 k2 hHeld
 refine hK.out _ _ HX3.out (fun hHeld=>?_)
 clear hK K
 try simp only [Act.put,siT,scZ,scS]
 refine wpAnyH_tk 10 7 ?_
 refine wpAnyH_done (by kernel_rfl) ?_ _
 refine NoPanic.normal ?_
 clear hHeld HX0 HRF
 have r1:w3.cell? ⟨x1,0,none⟩=some (.pointer (some ⟨ls,0,none⟩)):=HX3.out.1
 have HAO:=hide (HL3.out.atOnce0 hg0 hN hc9 (by rw [hM];exact hu) hu2 (by rw [hM];exact hl) HV3.out HIT.out HZ1.out HZ2.out HZ3.out)
 go_wp2_with fail
 refine HAO.out.mono ?_
 rintro e w4 ⟨rfl,b1,b2⟩
 have HF4:=hide b1
 have HL4:=hide b2
 clear b1 b2 HAO r1
 go_wp2
 go_ret
 refine ⟨rfl,⟨(HB3.out.mono HN0.out).trans HF4.out.1,fun k c0 t fz e n1 n2 n3=>?_,GdK.trans (fun k _ hf=>HB3.out.block k (by have:=hf.lt;omega)) HF4.out.gd⟩,HL4.out⟩
 have hkl:=lt e
 exact HF4.out.2 k c0 t fz ((HB3.out.block k (by omega)).trans e) n1 n2 n3
theorem changes_w {B lg tl tr vc:Nat} {sl:Bool} {va:Option Addr} {val:List Nat} {w:World} (hv:BK B w va val.length vc val) (hB:B≤w.heap.size) (h1:lg<256) (h2:tl<256) :
  Calls Tryz.prog 58 #[.int .i64 (lg:Int),.agg #[.int .i64 (tl:Int),.int .i64 (tr:Int),.bool sl],.agg #[.int .i64 ((tl:Int)+1),.int .i64 (tr:Int),.bool sl],.slice va val.length vc] w fun e w'=>∃ v,e=.returned v∧CHV0 B w' v [([lg,tl],val)]∧Below w.heap.size w w':=by
 have i1:(tl:Int)<(tl:Int)+1:=by omega
 have HBX:=hide (aAr w (.cells #[.int .i64 (tl:Int),.int .i64 (tr:Int),.bool sl] 83) (.cells #[.int .i64 ((tl:Int)+1),.int .i64 (tr:Int),.bool sl] 83))
 have HV1:=hide (hv.later HBX.out hB)
 have HS1:Hid (B≤((w.alloc (.cells #[.int .i64 (tl:Int),.int .i64 (tr:Int),.bool sl] 83)).alloc (.cells #[.int .i64 ((tl:Int)+1),.int .i64 (tr:Int),.bool sl] 83)).heap.size):=nT hB HBX.out.size
 have HSK:=hide (aEr (B:=B) h1 h2 ((w.alloc (.cells #[.int .i64 (tl:Int),.int .i64 (tr:Int),.bool sl] 83)).alloc (.cells #[.int .i64 ((tl:Int)+1),.int .i64 (tr:Int),.bool sl] 83)))
 clear hv
 go_enter Tryz.func58,Tryz.ntmps58
 go_wp2_with fail
 refine HSK.out.mono ?_
 rintro e w2 ⟨ka,kc,rfl,hk2,hb2⟩
 have HK2:=hide hk2
 have HV2:=hide (HV1.out.later hb2 HS1.out)
 have HB2:=hide (HBX.out.trans (hb2.mono HBX.out.size))
 have HS2:Hid (B≤w2.heap.size):=nT HS1.out hb2.size
 have HLA:=hide (nlaid_any (ka:=ka) (va:=va) (kn:=2) (kc:=kc) (vn:=val.length) (vc:=vc) w2)
 clear hk2 hb2 HSK
 go_wp2_with fail
 refine HLA.out.mono ?_
 rintro e w3 ⟨rfl,hb3⟩
 have HK3:=hide (HK2.out.later hb3 HS2.out)
 have HV3:=hide (HV2.out.later hb3 HS2.out)
 have HB3:=hide (HB2.out.trans (hb3.mono HB2.out.size))
 have HS3:Hid (B≤w3.heap.size):=nT HS2.out hb3.size
 clear hb3 HLA
 go_wp2
 go_ret
 have hb4:=aAc w3 (.cells #[.int .i64 0,.slice ka 2 kc,.slice va val.length vc,.bool false] 124)
 exact ⟨_,rfl,CHV0.one (heap_alloc_new w3 _) ⟨ka,kc,rfl,HK3.out.later hb4 HS3.out⟩ ⟨va,vc,rfl,HV3.out.later hb4 HS3.out⟩,HB3.out.trans (hb4.mono HB3.out.size)⟩
theorem LS.readSlot [Gd] {B p q g ls N c u lg at_:Nat} {l:List It} {W w:World} {val:List Nat} (h:LS B p q g ls N c u l W w) (h1:lg<256) (h2:at_<256) (hval:valL l [0,lg,at_]=some val) :
  Calls Tryz.prog 54 #[.pointer (some ⟨ls,0,none⟩),.int .i64 (lg:Int),.int .i64 (at_:Int)] w fun e w'=>∃ va vc,e=.returned (.tuple #[.slice va val.length vc,.int .i64 0])∧BK B w' va val.length vc val∧Below w.heap.size w w':=by
 have HSK:=hide (aEr (B:=B) h1 h2 w)
 have HL:=hide h
 have HVV:=hide hval
 clear h hval
 go_enter Tryz.func54,Tryz.ntmps54
 go_wp2_with fail
 refine HSK.out.mono ?_
 rintro e w2 ⟨ka,kc,rfl,hk2,hb2⟩
 have HL2:=hide (HL.out.later hb2)
 have HB2:=hide hb2
 have HG:=hide (HL2.out.Get0 hk2 (by decide) (by decide))
 clear hk2 hb2 HSK
 go_wp2_with fail
 refine HG.out.mono ?_
 rintro e w3 ⟨vv,isb,rfl,hv3,hb3⟩
 rw [HVV.out] at hv3
 obtain ⟨rfl,va,vc,rfl,hk3⟩:=hv3
 have HB3:=hide (HB2.out.trans (hb3.mono HB2.out.size))
 have HK3:=hide hk3
 clear hk3 hb3 HG
 go_wp2
 go_ret2
 exact ⟨va,vc,rfl,HK3.out,HB3.out⟩
theorem enc_two_len {a b:Nat} (ha:a<9223372036854775808) (hb:b<9223372036854775808):(enc a++enc b).length=grp a+grp b∧1≤grp a∧grp a≤9∧1≤grp b∧grp b≤9:=by
 obtain ⟨g1,g2,_⟩:=aAk a ha
 obtain ⟨k1,k2,_⟩:=aAk b hb
 exact ⟨by rw [lA,aAm a g1,aAm b k1],g1,g2,k1,k2⟩
theorem ft6 {B g:Nat} {w:World} {b0 b1 b2 b3 b4 b5:Value} {cs:Array Value} {t:TypeId} {fz:Nat×Nat} (h:w.heap[g]?=some (.cells cs t fz)) (ht:t≠5) (hB:B≤g):FT B w ((((((w.setCell ⟨g,0,none⟩ b0).setCell ⟨g,1,none⟩ b1).setCell ⟨g,2,none⟩ b2).setCell ⟨g,3,none⟩ b3).setCell ⟨g,4,none⟩ b4).setCell ⟨g,5,none⟩ b5):=by
 refine ⟨bel6 (Below.refl B w) hB,fun k cs fz e=>?_⟩
 have hne:k≠g:=aA0 e h (Ne.symm ht)
 rw [heap_setCell_other _ _ _ _ hne,heap_setCell_other _ _ _ _ hne,heap_setCell_other _ _ _ _ hne,heap_setCell_other _ _ _ _ hne,heap_setCell_other _ _ _ _ hne,heap_setCell_other _ _ _ _ hne,e]
theorem ft1 {B g o:Nat} {w:World} {b0:Value} {cs:Array Value} {t:TypeId} {fz:Nat×Nat} (h:w.heap[g]?=some (.cells cs t fz)) (ht:t≠5) (hB:B≤g):FT B w (w.setCell ⟨g,o,none⟩ b0):=by
 refine ⟨(Below.refl B w).setCell (p:=⟨g,o,none⟩) hB _,fun k cs fz e=>?_⟩
 rw [heap_setCell_other _ _ _ _ (aA0 e h (Ne.symm ht)),e]
theorem ballotsOf_ok {B:Nat} {w:World} {a:Option Addr} {n c rp rl:Nat} (h1:rp<9223372036854775808) (h2:rl<9223372036854775808) (hp:1≤rp) (hl:rl≤rp) (hb:BS w a n c (enc rp++enc rl)) :
  Calls Tryz.prog 106 #[.slice a n c] w fun e w'=>e=.returned (.tuple #[.int .i64 (rp:Int),.int .i64 (rl:Int),.int .i64 0])∧w'=w:=by
 obtain ⟨hlen,g1,g9,k1,k9⟩:=enc_two_len h1 h2
 have hn:=hb.hlen
 have R1:=aBy a n c (enc rp++enc rl) 0 w hb
 have R2:=aBy a n c (enc rp++enc rl) (grp rp:Int) w hb
 obtain ⟨a1,a2,a3⟩:=@ru_at [] (enc rl) rp h1
 obtain ⟨b1,b2,b3⟩:=@ru_at (enc rp) [] rl h2
 simp only [List.nil_append,List.append_nil,List.length_nil] at a1 a2 a3 b1 b2 b3
 rw [aAm rp g1] at b1 b2 b3
 have a1:ruN (enc rp++enc rl) 0=rp:=a1
 have a2:ruP (enc rp++enc rl) 0=0+grp rp:=a2
 have a3:ruE (enc rp++enc rl) 0=0:=a3
 rw [Nat.zero_add] at a2
 rw [a1,a2,a3] at R1
 rw [b1,b2,b3] at R2
 have HR1:=hide R1
 have HR2:=hide R2
 have z1:((grp rp+grp rl:Nat):Int)=(n:Int):=by omega
 have z2:¬ (rp:Int)<1:=by omega
 have z3:¬ (rp:Int)<(rl:Int):=by omega
 rw [z1] at HR2
 clear R1 R2 a1 a2 a3 b1 b2 b3 hb hlen hn h1 h2 z1
 go_enter Tryz.func106,Tryz.ntmps106
 go_wp2_with fail
 refine HR1.out.mono ?_
 rintro e w1 ⟨rfl,hw⟩
 have hw:=hw.symm
 subst hw
 go_wp2_with fail
 refine HR2.out.mono ?_
 rintro e w1 ⟨rfl,hw⟩
 have hw:=hw.symm
 subst hw
 go_wp2
 go_ret3
 exact ⟨rfl,rfl⟩
theorem LS.readAccepted [Gd] {B p q g ls N c u:Nat} {l:List It} {W w:World} (h:LS B p q g ls N c u l W w) {v rp rl:Nat} {val:List Nat} (hv:v≤16) (hl:rl≠0) (hval:valL l [15,v,0]=some val) :
  Calls Tryz.prog 107 #[.pointer (some ⟨ls,0,none⟩),.int .i64 (v:Int),.agg #[.int .i64 (rp:Int),.int .i64 (rl:Int),.slice none 0 0]] w fun e w'=>∃ rv,e=.returned (.tuple #[rv,.int .i64 0])∧RcV B w' rv (rp,rl,val)∧Below w.heap.size w w':=by
 have lt:∀ {k:Nat} {o:Obj} {ww:World},ww.heap[k]?=some o→k<ww.heap.size:=fun e=>(lO e)
 have HNW:Hid ((w.alloc (.cells #[.int .i64 (rp:Int),.int .i64 (rl:Int),.slice none 0 0] 128)).heap[w.heap.size]?=some (.cells #[.int .i64 (rp:Int),.int .i64 (rl:Int),.slice none 0 0] 128 (0,0))):=heap_alloc_new w _
 have HBX:=hide (aAc w (.cells #[.int .i64 (rp:Int),.int .i64 (rl:Int),.slice none 0 0] 128))
 have HL1:=hide (h.later HBX.out)
 have HB0:=hide h.bw
 have HVK:=hide (valueKey_any (B:=B) (show v<256 by omega) (w.alloc (.cells #[.int .i64 (rp:Int),.int .i64 (rl:Int),.slice none 0 0] 128)))
 have HQ:=hide hl
 have HVV:=hide hval
 clear h hl hval hv
 go_enter Tryz.func107,Tryz.ntmps107
 go_wp2_with fail
 refine HVK.out.mono ?_
 rintro e w2 ⟨ka,kc,rfl,hk2,hb2⟩
 have HN2:=hide ((hb2.block w.heap.size (lt HNW.out)).trans HNW.out)
 have HL2:=hide (HL1.out.later hb2)
 have HB2:Hid (Below w.heap.size w w2):=HBX.out.trans (hb2.mono HBX.out.size)
 have HG:=hide (HL2.out.Get hk2 (by decide) (by decide))
 clear hk2 hb2 HVK
 go_wp2_with fail
 refine HG.out.mono ?_
 rintro e w3 ⟨vv,isb,rfl,hv3,hb3⟩
 rw [HVV.out] at hv3
 obtain ⟨rfl,va,vc,rfl,hk3⟩:=hv3
 have HN3:=hide ((hb3.block w.heap.size (lt HN2.out)).trans HN2.out)
 have HB3:Hid (Below w.heap.size w w3):=HB2.out.trans (hb3.mono HB2.out.size)
 have HK3:=hide hk3
 clear hk3 hb3 HG
 generalize hn0:w.heap.size=n0 at *
 have c2:w3.cell? ⟨n0,2,none⟩=some (.slice none 0 0):=aAa HN3.out
 have f2:w3.frozen? ⟨n0,2,none⟩=false:=aAb HN3.out
 have HS:Hid ((w3.setCell ⟨n0,2,none⟩ (.slice va val.length vc)).heap[n0]?=some (.cells #[.int .i64 (rp:Int),.int .i64 (rl:Int),.slice va val.length vc] 128 (0,0))):=heap_setCell_same _ _ _ _ _ _ HN3.out
 have HFS:=hide (HK3.out.ft (ft1 (o:=2) (b0:=.slice va val.length vc) HN3.out (by decide) HB0.out))
 have HBS:Hid (Below n0 w (w3.setCell ⟨n0,2,none⟩ (.slice va val.length vc))):=HB3.out.setCell (p:=⟨n0,2,none⟩) (nR n0) _
 go_upto_region 7 with fail
 generalize w3.setCell ⟨n0,2,none⟩ (.slice va val.length vc)=w4 at *
 have c0:w4.cell? ⟨n0,0,none⟩=some (.int .i64 (rp:Int)):=aAa HS.out
 have c1:w4.cell? ⟨n0,1,none⟩=some (.int .i64 (rl:Int)):=aAa HS.out
 have c3:w4.cell? ⟨n0,2,none⟩=some (.slice va val.length vc):=aAa HS.out
 go_wp2
 go_ret2
 exact ⟨_,rfl,Or.inr ⟨HQ.out,va,vc,rfl,HFS.out⟩,by rw [hn0];exact HBS.out⟩
structure RL (l:List It) (R:Nat→Rec):Prop where
 z:∀ v,v≤16→(R v).1=0→(R v).2.1=0∧valL l [15,v]=none
 n:∀ v,v≤16→(R v).1≠0→valL l [15,v]=some (enc (R v).1++enc (R v).2.1)
 b:∀ v,v≤16→(R v).2.1≤(R v).1∧(R v).1<9223372036854775808∧(R v).2.2.length≤1800
 a:∀ v,v≤16→(R v).2.1≠0→valL l [15,v,0]=some (R v).2.2
def RdT (B:Nat) (r:Rec) (w:World) (e:Ending) (w':World):Prop:=∃ rv,e=.returned (.tuple #[rv,.int .i64 0])∧RcV B w' rv r∧Below w.heap.size w w'
theorem LS.read [Gd] {B p q g ls N c u:Nat} {l:List It} {W w:World} (h:LS B p q g ls N c u l W w) {R:Nat→Rec} (hR:RL l R) {v:Nat} (hv:v≤16) :
  Calls Tryz.prog 72 #[.pointer (some ⟨ls,0,none⟩),.int .i64 (v:Int)] w fun e w'=>RdT B (R v) w e w':=by
 have hz:=hR.z v hv
 have hn:=hR.n v hv
 have hb:=hR.b v hv
 have ha:=hR.a v hv
 generalize R v=r at *
 obtain ⟨rp,rl,rval⟩:=r
 have HVK:=hide (aFl (B:=B) (show v<256 by omega) w)
 have HL0:=hide h
 have HV16:=hide hv
 have HZ:=hide hz
 have HN:=hide hn
 have HB:=hide hb
 have HA:=hide ha
 clear h hR hz hn hb ha hv
 go_enter Tryz.func72,Tryz.ntmps72
 go_wp2_with fail
 refine HVK.out.mono ?_
 rintro e w2 ⟨ka,kc,rfl,hk2,hb2⟩
 have HL2:=hide (HL0.out.later hb2)
 have HB2:=hide hb2
 have HG:=hide (HL2.out.Get hk2 (by decide) (by decide))
 clear hk2 hb2 HVK
 go_wp2_with fail
 refine HG.out.mono ?_
 rintro e w3 ⟨vv,isb,rfl,hv3,hb3⟩
 have HL3:=hide (HL2.out.later hb3)
 have HB3:Hid (Below w.heap.size w w3):=HB2.out.trans (hb3.mono HB2.out.size)
 clear hb3 HG
 by_cases h0:rp=0
 ·obtain ⟨z1,z2⟩:=HZ.out h0
  have z1:rl=0:=z1
  rw [z2] at hv3
  obtain ⟨rfl,rfl⟩:=hv3
  subst h0
  have HZZ:=hide z1
  clear z1 z2
  go_wp2
  go_ret2
  exact ⟨_,rfl,Or.inl ⟨HZZ.out,rfl⟩,HB3.out⟩
 ·have hn2:=HN.out h0
  rw [hn2] at hv3
  obtain ⟨rfl,va,vc,rfl,hk3⟩:=hv3
  obtain ⟨b1,b2,b3⟩:=HB.out
  have b1:rl≤rp:=b1
  have b2:rp<9223372036854775808:=b2
  have HBO:=hide (ballotsOf_ok (B:=B) b2 (show rl<9223372036854775808 by omega) (show 1≤rp by omega) b1 hk3.1)
  clear hn2 hk3 b3 b2 b1
  generalize (enc rp++enc rl).length=bn at *
  go_wp2_with fail
  refine HBO.out.mono ?_
  rintro e w4 ⟨rfl,hw⟩
  have hw:=hw.symm
  subst hw
  clear HBO
  by_cases hl0:rl=0
  ·have y0:((rl:Nat):Int)=0:=by omega
   have HZZ:=hide hl0
   clear hl0 h0
   go_wp2
   go_ret2
   exact ⟨_,rfl,Or.inl ⟨HZZ.out,rfl⟩,HB3.out⟩
  ·have y0:¬ ((rl:Nat):Int)=0:=by omega
   have HRA:=hide (HL3.out.readAccepted (rp:=rp) HV16.out hl0 (HA.out hl0))
   clear hl0 h0
   go_wp2_with fail
   refine HRA.out.mono ?_
   rintro e w5 ⟨rv,rfl,hr5,hb5⟩
   have HR5:=hide hr5
   have HB5:=hide (HB3.out.trans (hb5.mono HB3.out.size))
   clear hr5 hb5 HRA
   go_wp2
   go_ret2
   exact ⟨_,rfl,HR5.out,HB5.out⟩
structure RGM [Gd] (B p q g ls rg N c u:Nat) (l:List It) (W w:World):Prop where
 s:LS B p q g ls N c u l W w
 b:B≤rg
 v:∃ cs,w.heap[rg]?=some (.cells cs 109 (0,0))∧cs.size=18∧cs[0]?=some (.pointer (some ⟨ls,0,none⟩))
structure RgF [Gd] (B g ls rg:Nat) (w w':World):Prop where
 bel:Below B w w'
 stay:∀ (k:Nat) (cs:Array Value) (t:TypeId) (fz:Nat×Nat),w.heap[k]?=some (Obj.cells cs t fz)→NT t→k≠g→k≠ls→k≠rg→w'.heap[k]?=some (Obj.cells cs t fz)
 gd:GdK w w'
theorem RgF.trans [Gd] {B g ls rg:Nat} {a b c:World} (h:RgF B g ls rg a b) (k:RgF B g ls rg b c):RgF B g ls rg a c:=⟨h.1.trans k.1,fun i cs t fz e n1 n2 n3 n4=>k.2 i cs t fz (h.2 i cs t fz e n1 n2 n3 n4) n1 n2 n3 n4,h.gd.trans k.gd⟩
theorem RgF.of [Gd] {B g ls rg:Nat} {w w':World} (h:Below w.heap.size w w') (hB:B≤w.heap.size):RgF B g ls rg w w':=⟨h.mono hB,fun i cs t fz e _ _ _ _=>(h.block i (lO e)).trans e,GdK.of h⟩
theorem RgF.ly [Gd] {B g ls rg:Nat} {w w':World} (h:LyF B g ls w w'):RgF B g ls rg w w':=⟨h.1,fun k cs t fz e n1 n2 n3 _=>h.2 k cs t fz e n1 n2 n3,h.gd⟩
theorem RgF.set [Gd] {B g ls rg o:Nat} {w:World} {x:Value} (hB:B≤rg) {cg:Array Value} {tg:TypeId} {fz:Nat×Nat} (hg:w.heap[rg]?=some (.cells cg tg fz)) (htg:¬ DTy tg):RgF B g ls rg w (w.setCell ⟨rg,o,none⟩ x):=⟨(Ex.set hB).1,fun i cs t fz e h1 h2 h3 h4=>by rw [(Ex.set (w:=w) (o:=o) (u:=x) hB).2 i (lO e) (by simpa using h4),e],(Ex.set hB).gdk hg htg⟩
section
variable [Gd] {B p q g ls rg N c u:Nat} {l:List It} {W w w':World}
theorem RGM.later (h:RGM B p q g ls rg N c u l W w) (hb:Below w.heap.size w w'):RGM B p q g ls rg N c u l W w':=by
 obtain ⟨cs,h1,h2⟩:=h.v
 exact ⟨h.s.later hb,h.b,cs,(hb.block rg (lO h1)).trans h1,h2⟩
theorem RGM.bw (h:RGM B p q g ls rg N c u l W w):B≤w.heap.size:=h.s.bw
theorem RGM.cell0 (h:RGM B p q g ls rg N c u l W w):w.cell? ⟨rg,0,none⟩=some (.pointer (some ⟨ls,0,none⟩)):=by
 obtain ⟨cs,h1,h2,h3⟩:=h.v
 exact (aAa h1).trans h3
theorem RGM.known (h:RGM B p q g ls rg N c u l W w) {v:Nat} (hv:v≤16):(∃ x,w.cell? ⟨rg,1+v,none⟩=some x)∧w.frozen? ⟨rg,1+v,none⟩=false:=by
 obtain ⟨cs,h1,h2,h3⟩:=h.v
 refine ⟨?_,aAb h1⟩
 rw [aAa h1]
 exact ⟨_,Array.getElem?_eq_getElem (by omega)⟩
theorem RGM.set (h:RGM B p q g ls rg N c u l W w) {o:Nat} {x:Value} (ho:1≤o):RGM B p q g ls rg N c u l W (w.setCell ⟨rg,o,none⟩ x):=by
 obtain ⟨cs,h1,h2,h3⟩:=h.v
 have keep:∀ (k:Nat) (cs:Array Value) (t:TypeId) (fz:Nat×Nat),w.heap[k]?=some (Obj.cells cs t fz)→t≠109→(w.setCell ⟨rg,o,none⟩ x).heap[k]?=some (Obj.cells cs t fz):=fun k cs t fz e ht=>by
  rw [(Ex.set (w:=w) (o:=o) (u:=x) h.b).2 k (lO e) (by simpa using aA0 e h1 ht),e]
 obtain ⟨cl,k1,k2⟩:=h.s.lv
 refine ⟨⟨h.s.kx.same (Ex.set h.b).1 (fun k cs t fz e ht=>keep k cs t fz e ?_),h.s.bl,cl,keep _ _ _ _ k1 (by decide),k2⟩,h.b,_,heap_setCell_same _ _ _ _ _ _ h1,by rw [Array.size_setIfInBounds];exact h2,by rw [Array.getElem?_setIfInBounds_ne (by omega)];exact h3⟩
 rcases ht with rfl | rfl | ht
 ·decide
 ·decide
 ·intro q9
  rw [q9] at ht
  exact ht (by decide)
end
def LkT [Gd] (B p q g ls rg N c u:Nat) (l:List It) (W:World) (r:Rec) (w:World) (e:Ending) (w':World):Prop:=∃ rv,e=.returned (.tuple #[rv,.int .i64 0])∧RcV B w' rv r∧RGM B p q g ls rg N c u l W w'∧∀ x1 x2,RgF B x1 x2 rg w w'
theorem RGM.look [Gd] {B p q g ls rg N c u:Nat} {l:List It} {W w:World} (h:RGM B p q g ls rg N c u l W w) {R:Nat→Rec} (hR:RL l R) {v:Nat} (hv:v≤16) :
  Calls Tryz.prog 43 #[.pointer (some ⟨rg,0,none⟩),.int .i64 (v:Int)] w fun e w'=>LkT B p q g ls rg N c u l W (R v) w e w':=by
 have r0:=h.cell0
 have HD:=hide h.s.dead
 have H:=hide h
 have HR:=hide hR
 have HV:=hide hv
 have i0:(0:Int)≤(v:Int):=by omega
 have i1:(v:Int)<17:=by omega
 clear h hR hv
 go_enter Tryz.func43,Tryz.ntmps43
 go_wp2_with fail
 refine HD.out.mono ?_
 rintro e w1 ⟨rfl,hb1⟩
 have H1:=hide (H.out.later hb1)
 have HB1:=hide hb1
 have r1:=H1.out.cell0
 have HRD:=hide (H1.out.s.read HR.out HV.out)
 clear hb1 r0 HD
 go_wp2_with fail
 refine HRD.out.mono ?_
 rintro e w2 ⟨rv,rfl,hr2,hb2⟩
 have H2:=hide (H1.out.later hb2)
 have HB2:=hide (HB1.out.trans (hb2.mono HB1.out.size))
 obtain ⟨⟨x,hx⟩,hf⟩:=H2.out.known HV.out
 have HBR:=hide H2.out.b
 obtain ⟨cs,k1,_⟩:=H2.out.v
 have HK1:=hide k1
 have HF2:Hid (∀ x1 x2,RgF B x1 x2 rg w w2):=fun x1 x2=>RgF.of HB2.out H.out.bw
 have HR2:=hide hr2
 have HRF:Hid (∀ x,RcV B (w2.setCell ⟨rg,1+v,none⟩ x) rv (R v)):=fun x=>HR2.out.ft (ft1 HK1.out (by decide) HBR.out)
 clear hb2 r1 HRD k1
 obtain ⟨ty,pv,hform⟩:∃ ty pv,rv=.iface ty pv:=by
  rcases hr2 with ⟨_,e⟩ | ⟨_,a,c,e,_⟩
  ·exact ⟨_,_,e⟩
  ·exact ⟨_,_,e⟩
 subst hform
 clear hr2
 go_wp2
 go_ret2
 exact ⟨_,rfl,HRF.out _,H2.out.set (by omega),fun x1 x2=>by
  obtain ⟨cr,k2,_⟩:=H2.out.v
  exact (HF2.out x1 x2).trans (RgF.set HBR.out k2 (by unfold DTy;decide))⟩
abbrev Lg:=Nat×Nat×Bool
structure NDV (cs:Array Value) (ls rg:Nat) (L:Nat→Lg):Prop where
 sz:cs.size=53
 c0:cs[0]?=some (.pointer (some ⟨ls,0,none⟩))
 c1:cs[1]?=some (.pointer (some ⟨rg,0,none⟩))
 cl:∀ j,j≤16→cs[2+j*3]?=some (.int .i64 ((L j).1:Int))∧cs[2+j*3+1]?=some (.int .i64 ((L j).2.1:Int))∧cs[2+j*3+2]?=some (.bool (L j).2.2)
structure NDM [Gd] (B p q g ls rg nd N c u:Nat) (l:List It) (L:Nat→Lg) (W w:World):Prop where
 s:LS B p q g ls N c u l W w
 b:B≤nd
 v:∃ cs,w.heap[nd]?=some (.cells cs 89 (0,0))∧NDV cs ls rg L
def upL (L:Nat→Lg) (j:Nat) (x:Lg):Nat→Lg:=fun i=>if i=j then x else L i
theorem NDV.set {cs:Array Value} {ls rg:Nat} {L:Nat→Lg} (h:NDV cs ls rg L) {j:Nat} (hj:j≤16) (x:Lg):NDV (((cs.setIfInBounds (2+j*3) (.int .i64 (x.1:Int))).setIfInBounds (2+j*3+1) (.int .i64 (x.2.1:Int))).setIfInBounds (2+j*3+2) (.bool x.2.2)) ls rg (upL L j x):=by
 have hs:=h.sz
 refine ⟨by simp only [Array.size_setIfInBounds];exact h.sz,?_,?_,?_⟩
 ·rw [Array.getElem?_setIfInBounds_ne (by omega),Array.getElem?_setIfInBounds_ne (by omega),Array.getElem?_setIfInBounds_ne (by omega)]
  exact h.c0
 ·rw [Array.getElem?_setIfInBounds_ne (by omega),Array.getElem?_setIfInBounds_ne (by omega),Array.getElem?_setIfInBounds_ne (by omega)]
  exact h.c1
 ·intro i hi
  by_cases hij:i=j
  ·subst hij
   have e:upL L i x i=x:=if_pos rfl
   rw [e]
   refine ⟨?_,?_,?_⟩
   ·rw [Array.getElem?_setIfInBounds_ne (by omega),Array.getElem?_setIfInBounds_ne (by omega),Array.getElem?_setIfInBounds_self_of_lt (by omega)]
   ·rw [Array.getElem?_setIfInBounds_ne (by omega),Array.getElem?_setIfInBounds_self_of_lt (by rw [Array.size_setIfInBounds];omega)]
   ·rw [Array.getElem?_setIfInBounds_self_of_lt (by rw [Array.size_setIfInBounds,Array.size_setIfInBounds];omega)]
  ·have e:upL L j x i=L i:=if_neg hij
   rw [e]
   refine ⟨?_,?_,?_⟩
   ·rw [Array.getElem?_setIfInBounds_ne (by omega),Array.getElem?_setIfInBounds_ne (by omega),Array.getElem?_setIfInBounds_ne (by omega)]
    exact (h.cl i hi).1
   ·rw [Array.getElem?_setIfInBounds_ne (by omega),Array.getElem?_setIfInBounds_ne (by omega),Array.getElem?_setIfInBounds_ne (by omega)]
    exact (h.cl i hi).2.1
   ·rw [Array.getElem?_setIfInBounds_ne (by omega),Array.getElem?_setIfInBounds_ne (by omega),Array.getElem?_setIfInBounds_ne (by omega)]
    exact (h.cl i hi).2.2
section
variable [Gd] {B p q g ls rg nd N c u:Nat} {l:List It} {L:Nat→Lg} {W w w':World}
theorem LS.nset (h:LS B p q g ls N c u l W w) {cf:Array Value} {o:Nat} {x:Value} (hf:w.heap[nd]?=some (.cells cf 89 (0,0))) (hB:B≤nd):LS B p q g ls N c u l W (w.setCell ⟨nd,o,none⟩ x):=by
 obtain ⟨cs,h1,h2⟩:=h.lv
 have keep:∀ (k:Nat) (cs:Array Value) (t:TypeId) (fz:Nat×Nat),w.heap[k]?=some (Obj.cells cs t fz)→t≠89→(w.setCell ⟨nd,o,none⟩ x).heap[k]?=some (Obj.cells cs t fz):=fun k cs t fz e ht=>by
  rw [(Ex.set (w:=w) (o:=o) (u:=x) hB).2 k (lO e) (by simpa using aA0 e hf ht),e]
 refine ⟨h.kx.same (Ex.set hB).1 (fun k cs t fz e ht=>keep k cs t fz e ?_),h.bl,cs,keep _ _ _ _ h1 (by decide),h2⟩
 rcases ht with rfl | rfl | ht
 ·decide
 ·decide
 ·intro q9
  rw [q9] at ht
  exact ht (by decide)
theorem NDM.later (h:NDM B p q g ls rg nd N c u l L W w) (hb:Below w.heap.size w w'):NDM B p q g ls rg nd N c u l L W w':=by
 obtain ⟨cs,h1,h2⟩:=h.v
 exact ⟨h.s.later hb,h.b,cs,(hb.block nd (lO h1)).trans h1,h2⟩
theorem NDM.bw (h:NDM B p q g ls rg nd N c u l L W w):B≤w.heap.size:=h.s.bw
theorem NDM.cell0 (h:NDM B p q g ls rg nd N c u l L W w):w.cell? ⟨nd,0,none⟩=some (.pointer (some ⟨ls,0,none⟩)):=by
 obtain ⟨cs,h1,h2⟩:=h.v
 exact (aAa h1).trans h2.c0
theorem NDM.lg (h:NDM B p q g ls rg nd N c u l L W w) {j:Nat} (hj:j≤16):w.cell? ⟨nd,2+j*3,none⟩=some (.int .i64 ((L j).1:Int))∧w.cell? ⟨nd,2+j*3+1,none⟩=some (.int .i64 ((L j).2.1:Int))∧w.cell? ⟨nd,2+j*3+2,none⟩=some (.bool (L j).2.2):=by
 obtain ⟨cs,h1,h2⟩:=h.v
 exact ⟨(aAa h1).trans (h2.cl j hj).1,(aAa h1).trans (h2.cl j hj).2.1,(aAa h1).trans (h2.cl j hj).2.2⟩
theorem NDM.lgf (h:NDM B p q g ls rg nd N c u l L W w) (o:Nat):w.frozen? ⟨nd,o,none⟩=false:=by
 obtain ⟨cs,h1,h2⟩:=h.v
 exact aAb h1
theorem NDM.set (h:NDM B p q g ls rg nd N c u l L W w) {j:Nat} (hj:j≤16) (x:Lg):NDM B p q g ls rg nd N c u l (upL L j x) W (((w.setCell ⟨nd,2+j*3,none⟩ (.int .i64 (x.1:Int))).setCell ⟨nd,2+j*3+1,none⟩ (.int .i64 (x.2.1:Int))).setCell ⟨nd,2+j*3+2,none⟩ (.bool x.2.2)):=by
 obtain ⟨cs,h1,h2⟩:=h.v
 have k1:=heap_setCell_same w nd (2+j*3) cs 89 (.int .i64 (x.1:Int)) h1
 have k2:=heap_setCell_same _ nd (2+j*3+1) _ 89 (.int .i64 (x.2.1:Int)) k1
 have k3:=heap_setCell_same _ nd (2+j*3+2) _ 89 (.bool x.2.2) k2
 exact ⟨((h.s.nset h1 h.b).nset k1 h.b).nset k2 h.b,h.b,_,k3,h2.set hj x⟩
theorem NDM.dead (h:NDM B p q g ls rg nd N c u l L W w):Calls Tryz.prog 34 #[.pointer (some ⟨nd,0,none⟩)] w fun e w'=>e=.returned (.bool false)∧Below w.heap.size w w':=by
 have x0:=h.cell0
 have HD:=hide h.s.dead
 clear h
 go_enter Tryz.func34,Tryz.ntmps34
 go_wp2_with fail
 refine HD.out.mono ?_
 rintro e w1 ⟨rfl,hb1⟩
 have HB1:=hide hb1
 clear hb1 HD x0
 go_wp2
 go_ret
 exact ⟨rfl,HB1.out⟩
end
theorem nref_ok [Gd] {B p q g ls rg nd N c u lg at_ n cp:Nat} {l:List It} {L:Nat→Lg} {W w:World} {k:Int} {va:Option Addr} (h:NDM B p q g ls rg nd N c u l L W w) (hk1:1≤k) (hk2:k≤8) (hlg:lg≤16) (hn:n≤1800) :
  Calls Tryz.prog 35 #[.pointer (some ⟨nd,0,none⟩),.agg #[.int .i64 k,.int .i64 (lg:Int),.int .i64 (at_:Int),.slice va n cp]] w fun e w'=>e=.returned (.int .i64 0)∧Below w.heap.size w w':=by
 have lt:∀ {k:Nat} {o:Obj} {ww:World},ww.heap[k]?=some o→k<ww.heap.size:=fun e=>(lO e)
 have z1:¬ k<1:=by omega
 have z2:¬ 8<k:=by omega
 have z3:¬ (lg:Int)<0:=by omega
 have z4:¬ (16:Int)<(lg:Int):=by omega
 have z5:¬ (at_:Int)<0:=by omega
 have z6:¬ (1800:Int)<(n:Int):=by omega
 have HNW:Hid ((w.alloc (.cells #[.int .i64 k,.int .i64 (lg:Int),.int .i64 (at_:Int),.slice va n cp] 34)).heap[w.heap.size]?=some (.cells #[.int .i64 k,.int .i64 (lg:Int),.int .i64 (at_:Int),.slice va n cp] 34 (0,0))):=heap_alloc_new w _
 have HBX:=hide (aAc w (.cells #[.int .i64 k,.int .i64 (lg:Int),.int .i64 (at_:Int),.slice va n cp] 34))
 have HD:=hide (h.later HBX.out).dead
 clear h hk1 hk2 hlg hn
 go_enter Tryz.func35,Tryz.ntmps35
 go_wp2_with fail
 refine HD.out.mono ?_
 rintro e w1 ⟨rfl,hb1⟩
 have HN1:=hide ((hb1.block _ (lt HNW.out)).trans HNW.out)
 have HB1:=hide (HBX.out.trans (hb1.mono HBX.out.size))
 clear hb1 HD HNW
 generalize hn0:w.heap.size=n0 at *
 have y0:w1.cell? ⟨n0,0,none⟩=some (.int .i64 k):=aAa HN1.out
 have y1:w1.cell? ⟨n0,1,none⟩=some (.int .i64 (lg:Int)):=aAa HN1.out
 have y2:w1.cell? ⟨n0,2,none⟩=some (.int .i64 (at_:Int)):=aAa HN1.out
 have y3:w1.cell? ⟨n0,3,none⟩=some (.slice va n cp):=aAa HN1.out
 go_wp2
 go_ret
 exact ⟨rfl,by rw [hn0];exact HB1.out⟩
theorem NDM.fp [Gd] {B p q g ls rg nd N c u:Nat} {l:List It} {L:Nat→Lg} {W w:World} (h:NDM B p q g ls rg nd N c u l L W w):∃ F:Nat→Prop,(∀ k,F k→FBk w k)∧(∀ k,Gd.s k→¬ F k)∧∀ (w':World) (S':Nat→Prop),(∀ k,F k→w'.heap[k]?=w.heap[k]?)→ByK w w'→w'.heap[g]?=w.heap[g]?→w'.heap[ls]?=w.heap[ls]?→w'.heap[nd]?=w.heap[nd]?→Below B w w'→(∀ k,S' k→FBk w' k∧¬ F k)→@NDM ⟨S'⟩ B p q g ls rg nd N c u l L W w':=by
 obtain ⟨⟨kx,bl,cl,k1,k2⟩,nb,cn,k3,k4⟩:=h
 obtain ⟨F,h1,h2,h3⟩:=kx.fp
 refine ⟨F,h1,h2,fun w' S' hF hB hg hl hn hb hS=>?_⟩
 have h4:=h3 w' S' hF hB hg hb hS
 letI:Gd:=⟨S'⟩
 exact ⟨⟨h4,bl,cl,hl.trans k1,k2⟩,nb,cn,hn.trans k3,k4⟩
theorem RL.nil:RL [] (fun _=>(0,0,[])):=⟨fun v _ _=>⟨rfl,rfl⟩,fun v _ h=>absurd rfl h,fun v _=>⟨nR _,by decide,by decide⟩,fun v _ h=>absurd rfl h⟩
theorem RcV.pr {B:Nat} {w:World} {rv:Value} {r:Rec} (h:RcV B w rv r):∃ ty pv,rv=.iface ty pv∧∀ ww:World,(method 435 ty pv "headland/register.promised").run Tryz.prog ww=.ok (241,.int .i64 (r.1:Int)) ww:=by
 rcases h with ⟨_,e⟩ | ⟨_,a,c,e,_⟩
 ·exact ⟨_,_,e,fun ww=>mt_pr _ ww⟩
 ·exact ⟨_,_,e,fun ww=>mt_ac _ _ _ ww⟩
theorem RgF.an6 [Gd] {B g ls rg n0:Nat} {w0 w:World} {b0 b1 b2 b3 b4 b5:Value} (h:RgF B g ls rg w0 w) (hn:w0.heap.size≤n0) (hB:B≤n0):RgF B g ls rg w0 ((((((w.setCell ⟨n0,0,none⟩ b0).setCell ⟨n0,1,none⟩ b1).setCell ⟨n0,2,none⟩ b2).setCell ⟨n0,3,none⟩ b3).setCell ⟨n0,4,none⟩ b4).setCell ⟨n0,5,none⟩ b5):=by
 refine ⟨bel6 h.1 hB,fun k cs t fz e n1 n2 n3 n4=>?_,fun k hk hf=>by
  have hne:k≠n0:=by
   have:=hf.lt
   omega
  rw [heap_setCell_other _ _ _ _ hne,heap_setCell_other _ _ _ _ hne,heap_setCell_other _ _ _ _ hne,heap_setCell_other _ _ _ _ hne,heap_setCell_other _ _ _ _ hne,heap_setCell_other _ _ _ _ hne]
  exact h.gd k hk hf⟩
 have hne:k≠n0:=by
  have:=(lO e)
  omega
 rw [heap_setCell_other _ _ _ _ hne,heap_setCell_other _ _ _ _ hne,heap_setCell_other _ _ _ _ hne,heap_setCell_other _ _ _ _ hne,heap_setCell_other _ _ _ _ hne,heap_setCell_other _ _ _ _ hne]
 exact h.2 k cs t fz e n1 n2 n3 n4
theorem pairs_zero [Gd] {B p q g N c u r:Nat} {l:List It} {W w:World} (h:KX B p q g N c u l W w) (hr:w.heap[r]?=some (.cells #[.slice none 0 0,.slice none 0 0,.int .i64 0,.slice none 0 0] 197 (0,0))) :
  Calls Tryz.prog 103 #[.pointer (some ⟨g,0,none⟩),.pointer (some ⟨g,2,none⟩),.pointer (some ⟨r,0,none⟩)] w fun e w'=>e=.returned (.tuple #[.slice none 0 0,.int .i64 0])∧Below w.heap.size w w':=by
 have lt:∀ {k:Nat} {o:Obj} {ww:World},ww.heap[k]?=some o→k<ww.heap.size:=fun e=>(lO e)
 have q0:=aAd [Obj.cells #[.pointer (some ⟨g,0,none⟩)] 95,Obj.cells #[.pointer (some ⟨g,2,none⟩)] 194,Obj.cells #[.pointer (some ⟨r,0,none⟩)] 195] w 0 _ rfl
 have q2:=aAd [Obj.cells #[.pointer (some ⟨g,0,none⟩)] 95,Obj.cells #[.pointer (some ⟨g,2,none⟩)] 194,Obj.cells #[.pointer (some ⟨r,0,none⟩)] 195] w 2 _ rfl
 have qb:=(aAn [Obj.cells #[.pointer (some ⟨g,0,none⟩)] 95,Obj.cells #[.pointer (some ⟨g,2,none⟩)] 194,Obj.cells #[.pointer (some ⟨r,0,none⟩)] 195] w).1
 have HQ0:Hid ((((w.alloc (.cells #[.pointer (some ⟨g,0,none⟩)] 95)).alloc (.cells #[.pointer (some ⟨g,2,none⟩)] 194)).alloc (.cells #[.pointer (some ⟨r,0,none⟩)] 195)).heap[w.heap.size]?=some (.cells #[.pointer (some ⟨g,0,none⟩)] 95 (0,0))):=q0
 have HQ2:Hid ((((w.alloc (.cells #[.pointer (some ⟨g,0,none⟩)] 95)).alloc (.cells #[.pointer (some ⟨g,2,none⟩)] 194)).alloc (.cells #[.pointer (some ⟨r,0,none⟩)] 195)).heap[w.heap.size+1+1]?=some (.cells #[.pointer (some ⟨r,0,none⟩)] 195 (0,0))):=q2
 have HB1:Hid (Below w.heap.size w (((w.alloc (.cells #[.pointer (some ⟨g,0,none⟩)] 95)).alloc (.cells #[.pointer (some ⟨g,2,none⟩)] 194)).alloc (.cells #[.pointer (some ⟨r,0,none⟩)] 195))):=qb
 have H1:=hide (h.later HB1.out)
 have HR1:=hide ((HB1.out.block r (lt hr)).trans hr)
 have HD:=hide H1.out.dead
 have y0:(((w.alloc (.cells #[.pointer (some ⟨g,0,none⟩)] 95)).alloc (.cells #[.pointer (some ⟨g,2,none⟩)] 194)).alloc (.cells #[.pointer (some ⟨r,0,none⟩)] 195)).cell? ⟨w.heap.size,0,none⟩=some (.pointer (some ⟨g,0,none⟩)):=aAa HQ0.out
 clear h hr q0 q2 qb
 go_enter Tryz.func103,Tryz.ntmps103
 go_wp2_with fail
 refine HD.out.mono ?_
 rintro e w2 ⟨rfl,hb2⟩
 have HN2:=hide ((hb2.block _ (lt HQ2.out)).trans HQ2.out)
 have HR2:=hide ((hb2.block r (lt HR1.out)).trans HR1.out)
 have HB2:Hid (Below w.heap.size w w2):=HB1.out.trans (hb2.mono HB1.out.size)
 clear hb2 HD y0
 generalize hn2:w.heap.size+1+1=n2 at *
 have x0:w2.cell? ⟨n2,0,none⟩=some (.pointer (some ⟨r,0,none⟩)):=aAa HN2.out
 have x1:w2.cell? ⟨r,0,none⟩=some (.slice none 0 0):=aAa HR2.out
 have x2:w2.cell? ⟨r,1,none⟩=some (.slice none 0 0):=aAa HR2.out
 have x3:w2.cell? ⟨r,2,none⟩=some (.int .i64 0):=aAa HR2.out
 have HX0:Hid ((fun wx=>wx.cell? ⟨n2,0,none⟩=some (.pointer (some ⟨r,0,none⟩))∧wx.cell? ⟨r,2,none⟩=some (.int .i64 0)) w2.drew):=⟨x0,x3⟩
 have d1:decide ((0:Int)=0)=true:=rfl
 go_upto_region 7 with fail
 refine wp_region_noPanic ?_
 refine wp_region_held_drew (S:=fun wx=>wx.cell? ⟨n2,0,none⟩=some (.pointer (some ⟨r,0,none⟩))∧wx.cell? ⟨r,2,none⟩=some (.int .i64 0)) (by kernel_rfl) HX0.out (fun hHeld=>?_)
 refine wpAnyH_tk 0 34 ?_
 refine wpAnyH_tk 1 35 ?_
 refine wpAnyH_tk 2 36 ?_
 refine wpAnyH_tk 3 37 ?_
 refine wpAnyH_tk 4 38 ?_
 refine wpAnyH_tk 5 39 ?_
 refine aAf (i:=6) (d:=40) (v:=undef) (by kernel_rfl) (by kernel_rfl) (by kernel_rfl) (by kernel_rfl) (fun _ _ _ h=>h) ?hya6 (by assumption) ?resta6
 case hya6 =>
  intro oi ho
  simp only [List.getElem?_toArray,List.getElem?_cons_succ,List.getElem?_cons_zero,oI] at ho
  subst ho
  exact Or.inr ⟨by rfl,rfl⟩
 try simp only [Act.put,siT,scZ,scS]
 refine aAf (i:=7) (d:=41) (v:=undef) (by kernel_rfl) (by kernel_rfl) (by kernel_rfl) (by kernel_rfl) (fun _ _ _ h=>h) ?hya7 (by assumption) ?resta7
 case hya7 =>
  intro oi ho
  simp only [List.getElem?_toArray,List.getElem?_cons_succ,List.getElem?_cons_zero,oI] at ho
  subst ho
  exact Or.inr ⟨by rfl,rfl⟩
 try simp only [Act.put,siT,scZ,scS]
 refine aAf (i:=8) (d:=42) (v:=undef) (by kernel_rfl) (by kernel_rfl) (by kernel_rfl) (by kernel_rfl) (fun _ _ _ h=>h) ?hya8 (by assumption) ?resta8
 case hya8 =>
  intro oi ho
  simp only [List.getElem?_toArray,List.getElem?_cons_succ,List.getElem?_cons_zero,oI] at ho
  subst ho
  exact Or.inr ⟨by rfl,rfl⟩
 try simp only [Act.put,siT,scZ,scS]
 refine aAf (i:=9) (d:=43) (v:=undef) (by kernel_rfl) (by kernel_rfl) (by kernel_rfl) (by kernel_rfl) (fun _ _ _ h=>h) ?hya9 (by assumption) ?resta9
 case hya9 =>
  intro oi ho
  simp only [List.getElem?_toArray,List.getElem?_cons_succ,List.getElem?_cons_zero,oI] at ho
  subst ho
  exact Or.inr ⟨by rfl,rfl⟩
 try simp only [Act.put,siT,scZ,scS]
 refine aAf (i:=10) (d:=44) (v:=undef) (by kernel_rfl) (by kernel_rfl) (by kernel_rfl) (by kernel_rfl) (fun _ _ _ h=>h) ?hya10 (by assumption) ?resta10
 case hya10 =>
  intro oi ho
  simp only [List.getElem?_toArray,List.getElem?_cons_succ,List.getElem?_cons_zero,oI] at ho
  subst ho
  exact Or.inr ⟨by rfl,rfl⟩
 try simp only [Act.put,siT,scZ,scS]
 refine wpAnyH_tk 11 45 ?_
 refine wpAnyH_tk 12 46 ?_
 refine aAf (i:=13) (d:=47) (v:=undef) (by kernel_rfl) (by kernel_rfl) (by kernel_rfl) (by kernel_rfl) (fun _ _ _ h=>h) ?hya13 (by assumption) ?resta13
 case hya13 =>
  intro oi ho
  simp only [List.getElem?_toArray,List.getElem?_cons_succ,List.getElem?_cons_zero,oI] at ho
  subst ho
  exact Or.inr ⟨by rfl,rfl⟩
 try simp only [Act.put,siT,scZ,scS]
 refine aAf (i:=14) (d:=48) (v:=undef) (by kernel_rfl) (by kernel_rfl) (by kernel_rfl) (by kernel_rfl) (fun _ _ _ h=>h) ?hya14 (by assumption) ?resta14
 case hya14 =>
  intro oi ho
  simp only [List.getElem?_toArray,List.getElem?_cons_succ,List.getElem?_cons_zero,oI] at ho
  subst ho
  exact Or.inr ⟨by rfl,rfl⟩
 try simp only [Act.put,siT,scZ,scS]
 refine aAf (i:=15) (d:=49) (v:=undef) (by kernel_rfl) (by kernel_rfl) (by kernel_rfl) (by kernel_rfl) (fun _ _ _ h=>h) ?hya15 (by assumption) ?resta15
 case hya15 =>
  intro oi ho
  simp only [List.getElem?_toArray,List.getElem?_cons_succ,List.getElem?_cons_zero,oI] at ho
  subst ho
  exact Or.inr ⟨by rfl,rfl⟩
 try simp only [Act.put,siT,scZ,scS]
 refine aAf (i:=16) (d:=50) (v:=undef) (by kernel_rfl) (by kernel_rfl) (by kernel_rfl) (by kernel_rfl) (fun _ _ _ h=>h) ?hya16 (by assumption) ?resta16
 case hya16 =>
  intro oi ho
  simp only [List.getElem?_toArray,List.getElem?_cons_succ,List.getElem?_cons_zero,oI] at ho
  subst ho
  exact Or.inr ⟨by rfl,rfl⟩
 try simp only [Act.put,siT,scZ,scS]
 refine aAf (i:=17) (d:=51) (v:=undef) (by kernel_rfl) (by kernel_rfl) (by kernel_rfl) (by kernel_rfl) (fun _ _ _ h=>h) ?hya17 (by assumption) ?resta17
 case hya17 =>
  intro oi ho
  simp only [List.getElem?_toArray,List.getElem?_cons_succ,List.getElem?_cons_zero,oI] at ho
  subst ho
  exact Or.inr ⟨by rfl,rfl⟩
 try simp only [Act.put,siT,scZ,scS]
 refine aAf (i:=18) (d:=52) (v:=undef) (by kernel_rfl) (by kernel_rfl) (by kernel_rfl) (by kernel_rfl) (fun _ _ _ h=>h) ?hya18 (by assumption) ?resta18
 case hya18 =>
  intro oi ho
  simp only [List.getElem?_toArray,List.getElem?_cons_succ,List.getElem?_cons_zero,oI] at ho
  subst ho
  exact Or.inr ⟨by rfl,rfl⟩
 try simp only [Act.put,siT,scZ,scS]
 refine wpAnyH_tk 19 53 ?_
 refine wpAnyH_tk 20 33 ?_
 refine wpAnyH_done (by kernel_rfl) ?_ _
 refine NoPanic.normal ?_
 clear hHeld
 go_wp2
 go_ret2
 exact ⟨rfl,HB2.out.drew⟩
theorem Range_zero [Gd] {B p q g N c u:Nat} {l:List It} {W w:World} (h:KX B p q g N c u l W w) :
  Calls Tryz.prog 67 #[.pointer (some ⟨g,0,none⟩),.slice none 0 0,.slice none 0 0,.int .i64 0] w fun e w'=>e=.returned (.tuple #[.slice none 0 0,.int .i64 0])∧Below w.heap.size w w':=by
 have HB1:=hide (aAc w (.cells #[.slice none 0 0,.slice none 0 0,.int .i64 0,.slice none 0 0] 197))
 have HP:=hide (pairs_zero (h.later HB1.out) (heap_alloc_new w _))
 clear h
 go_enter Tryz.func67,Tryz.ntmps67
 go_wp2_with fail
 refine HP.out.mono ?_
 rintro e w2 ⟨rfl,hb2⟩
 have HB2:=hide (HB1.out.trans (hb2.mono HB1.out.size))
 clear hb2
 go_wp2
 go_ret2
 exact ⟨rfl,HB2.out⟩
theorem results_fig {fn:Func} {p u:Tmp} (h:fn.results=#[.cell p 100,.tmp u]) (tmps:Array Value) (w:World) (g:Nat) (cs:Array Value)
  (hp:tmps.getD p undef=.pointer (some ⟨g,0,none⟩)) (hg:w.heap[g]?=some (.cells cs 100 (0,0))) (hz:cs.size=17) :
  (results fn tmps).run Tryz.prog w=.ok (.tuple #[.agg cs,tmps.getD u undef]) w:=by
 have hi:(Tryz.prog.info? 100).map (·.size)=some cs.size:=by rw [hz];exact aDl
 rw [results_cell_tmp h,hp]
 simp only [asAddr,Sem.run_pure,Result.andThen_ok,run_loadVar_row w g 100 100 cs (0,0) _ hg Tryz.underlying100 rfl hi]
theorem z17_ok:FGV z17:=by
 refine ⟨rfl,rfl,fun i h1 h2=>⟨0,?_⟩⟩
 unfold z17
 rw [List.getElem?_toArray,List.getElem?_replicate,if_pos h2]
theorem counted_zero [Gd] {B p q g N c u:Nat} {W w:World} (h:KX B p q g N c u [] W w) :
  Calls Tryz.prog 41 #[.pointer (some ⟨g,0,none⟩)] w fun e w'=>e=.returned (.tuple #[.agg z17,.int .i64 0])∧Below w.heap.size w w':=by
 have lt:∀ {k:Nat} {o:Obj} {ww:World},ww.heap[k]?=some o→k<ww.heap.size:=fun e=>(lO e)
 have hz:∀ ww,(zeroValue 100).run Tryz.prog ww=.ok (.agg z17) ww:=fun ww=>by kernel_rfl
 have hzz:z17.size=17:=rfl
 have HB1:=hide (aAc w (.cells z17 100))
 have HN1:Hid ((w.alloc (.cells z17 100)).heap[w.heap.size]?=some (.cells z17 100 (0,0))):=heap_alloc_new w _
 have H1:=hide (h.later HB1.out)
 have HLE:Hid (Calls Tryz.prog 68 #[.pointer (some ⟨g,0,none⟩)] (w.alloc (.cells z17 100)) fun e w'=>e=.returned (.int .i64 0)∧w'=w.alloc (.cells z17 100)):=H1.out.Len
 have HRA:=hide (Range_zero H1.out)
 clear h
 go_enter Tryz.func41,Tryz.ntmps41
 go_wp2_with fail
 refine HLE.out.mono ?_
 rintro e w9 ⟨rfl,rfl⟩
 go_wp2_with fail
 refine HRA.out.mono ?_
 rintro e w2 ⟨rfl,hb2⟩
 have HN2:=hide ((hb2.block _ (lt HN1.out)).trans HN1.out)
 have HB2:=hide (HB1.out.trans (hb2.mono HB1.out.size))
 have HB3:=hide (aAc w2 (.cells z17 100))
 have HM3:Hid ((w2.alloc (.cells z17 100)).heap[w2.heap.size]?=some (.cells z17 100 (0,0))):=heap_alloc_new w2 _
 have HN3:=hide ((HB3.out.block _ (lt HN2.out)).trans HN2.out)
 have HB03:=hide (HB2.out.trans (HB3.out.mono HB2.out.size))
 clear hb2 HLE HRA
 go_upto_region 5 with fail
 generalize w2.alloc (.cells z17 100)=w3 at *
 generalize w2.heap.size=n1 at *
 generalize hn0:w.heap.size=n0 at *
 go_wp2_with fail
 go_loopw [24] (fun i wx=>i=.int .i64 0∧wx=w3) (fun _ _=>0)
 case atStart=>exact ⟨rfl,rfl⟩
 case round =>
  obtain ⟨rfl,rfl⟩:=hrel
  have HLD:=hide (run_loadVar_row (P:=Tryz.prog) wr n1 100 100 z17 (0,0) _ HM3.out Tryz.underlying100 rfl (by rw [hzz];exact aDl))
  have hst:=aA4 (o:=0) HN3.out (show 0+z17.size≤17 by rw [hzz];decide) z17_ok.one
  rw [aB0 (show z17.size=z17.size from rfl)] at hst
  have HY:=hide (setRow_heap _ _ _ z17 _ _ HN3.out)
  have HBF:Hid (Below n0 w (wr.setRow n0 z17)):=below_setRow HB03.out (nR n0) z17
  go_wp2_with (refine wpList_load_row rfl (.tmp 6) 100 rfl rfl HLD.out ?_)
  (try simp only [Exit.inBlock,Exit.then])
  exact bodyPost_ret (results_fig rfl _ _ n0 z17 rfl HY.out hzz) rfl ⟨rfl,by rw [hn0];exact HBF.out⟩
theorem lv_build {g p:Nat} {base cf:Array Value} (hf:FGV cf) (b1:base.size=19) (b2:base[0]?=some (.pointer (some ⟨g,0,none⟩))) (b3:base[1]?=some (.pointer (some ⟨p,0,none⟩))):LV (Array.foldl (fun (cs:Array Value) (x:Value×Nat)=>cs.setIfInBounds (2+x.2) x.1) base cf.zipIdx 0 17) g p:=by
 obtain ⟨i1,i2⟩:=aCt (base:=base) (vs:=cf) (o:=2) (n:=17) hf.sz (by rw [b1];decide)
 refine ⟨i1.trans b1,?_,?_,?_,fun i h1 h2=>?_⟩
 ·rw [i2,if_neg (by omega)];exact b2
 ·rw [i2,if_neg (by omega)];exact b3
 ·rw [i2,if_pos (by omega)]
  exact hf.c0
 ·rw [i2,if_pos (by omega)]
  exact hf.cp (i-2) (by omega) (by omega)
theorem pairs_most0 [Gd] {B p q g N c u r ln lc hn hc:Nat} {la ha:Option Addr} (hl1:ln≤64) (hl2:hn≤64) {l:List It} {W w:World} (h:KX B p q g N c u l W w) (hr:w.heap[r]?=some (.cells #[.slice la ln lc,.slice ha hn hc,.int .i64 0,.slice none 0 0] 197 (0,0))) :
  Calls Tryz.prog 103 #[.pointer (some ⟨g,0,none⟩),.pointer (some ⟨g,2,none⟩),.pointer (some ⟨r,0,none⟩)] w fun e w'=>e=.returned (.tuple #[.slice none 0 0,.int .i64 0])∧Below w.heap.size w w':=by
 have lt:∀ {k:Nat} {o:Obj} {ww:World},ww.heap[k]?=some o→k<ww.heap.size:=fun e=>(lO e)
 have q0:=aAd [Obj.cells #[.pointer (some ⟨g,0,none⟩)] 95,Obj.cells #[.pointer (some ⟨g,2,none⟩)] 194,Obj.cells #[.pointer (some ⟨r,0,none⟩)] 195] w 0 _ rfl
 have q2:=aAd [Obj.cells #[.pointer (some ⟨g,0,none⟩)] 95,Obj.cells #[.pointer (some ⟨g,2,none⟩)] 194,Obj.cells #[.pointer (some ⟨r,0,none⟩)] 195] w 2 _ rfl
 have qb:=(aAn [Obj.cells #[.pointer (some ⟨g,0,none⟩)] 95,Obj.cells #[.pointer (some ⟨g,2,none⟩)] 194,Obj.cells #[.pointer (some ⟨r,0,none⟩)] 195] w).1
 have HQ0:Hid ((((w.alloc (.cells #[.pointer (some ⟨g,0,none⟩)] 95)).alloc (.cells #[.pointer (some ⟨g,2,none⟩)] 194)).alloc (.cells #[.pointer (some ⟨r,0,none⟩)] 195)).heap[w.heap.size]?=some (.cells #[.pointer (some ⟨g,0,none⟩)] 95 (0,0))):=q0
 have HQ2:Hid ((((w.alloc (.cells #[.pointer (some ⟨g,0,none⟩)] 95)).alloc (.cells #[.pointer (some ⟨g,2,none⟩)] 194)).alloc (.cells #[.pointer (some ⟨r,0,none⟩)] 195)).heap[w.heap.size+1+1]?=some (.cells #[.pointer (some ⟨r,0,none⟩)] 195 (0,0))):=q2
 have HB1:Hid (Below w.heap.size w (((w.alloc (.cells #[.pointer (some ⟨g,0,none⟩)] 95)).alloc (.cells #[.pointer (some ⟨g,2,none⟩)] 194)).alloc (.cells #[.pointer (some ⟨r,0,none⟩)] 195))):=qb
 have H1:=hide (h.later HB1.out)
 have HR1:=hide ((HB1.out.block r (lt hr)).trans hr)
 have HD:=hide H1.out.dead
 have y0:(((w.alloc (.cells #[.pointer (some ⟨g,0,none⟩)] 95)).alloc (.cells #[.pointer (some ⟨g,2,none⟩)] 194)).alloc (.cells #[.pointer (some ⟨r,0,none⟩)] 195)).cell? ⟨w.heap.size,0,none⟩=some (.pointer (some ⟨g,0,none⟩)):=aAa HQ0.out
 clear h hr q0 q2 qb
 go_enter Tryz.func103,Tryz.ntmps103
 go_wp2_with fail
 refine HD.out.mono ?_
 rintro e w2 ⟨rfl,hb2⟩
 have HN2:=hide ((hb2.block _ (lt HQ2.out)).trans HQ2.out)
 have HR2:=hide ((hb2.block r (lt HR1.out)).trans HR1.out)
 have HB2:Hid (Below w.heap.size w w2):=HB1.out.trans (hb2.mono HB1.out.size)
 clear hb2 HD y0
 generalize hn2:w.heap.size+1+1=n2 at *
 have x0:w2.cell? ⟨n2,0,none⟩=some (.pointer (some ⟨r,0,none⟩)):=aAa HN2.out
 have x1:w2.cell? ⟨r,0,none⟩=some (.slice la ln lc):=aAa HR2.out
 have x2:w2.cell? ⟨r,1,none⟩=some (.slice ha hn hc):=aAa HR2.out
 have x3:w2.cell? ⟨r,2,none⟩=some (.int .i64 0):=aAa HR2.out
 have HX0:Hid ((fun wx=>wx.cell? ⟨n2,0,none⟩=some (.pointer (some ⟨r,0,none⟩))∧wx.cell? ⟨r,2,none⟩=some (.int .i64 0)) w2.drew):=⟨x0,x3⟩
 have d1:decide ((0:Int)=0)=true:=rfl
 have g1:¬ (64:Int)<(ln:Int):=by omega
 have g2:¬ (64:Int)<(hn:Int):=by omega
 go_upto_region 7 with fail
 refine wp_region_noPanic ?_
 refine wp_region_held_drew (S:=fun wx=>wx.cell? ⟨n2,0,none⟩=some (.pointer (some ⟨r,0,none⟩))∧wx.cell? ⟨r,2,none⟩=some (.int .i64 0)) (by kernel_rfl) HX0.out (fun hHeld=>?_)
 refine wpAnyH_tk 0 34 ?_
 refine wpAnyH_tk 1 35 ?_
 refine wpAnyH_tk 2 36 ?_
 refine wpAnyH_tk 3 37 ?_
 refine wpAnyH_tk 4 38 ?_
 refine wpAnyH_tk 5 39 ?_
 refine aAf (i:=6) (d:=40) (v:=undef) (by kernel_rfl) (by kernel_rfl) (by kernel_rfl) (by kernel_rfl) (fun _ _ _ h=>h) ?hya6 (by assumption) ?resta6
 case hya6 =>
  intro oi ho
  simp only [List.getElem?_toArray,List.getElem?_cons_succ,List.getElem?_cons_zero,oI] at ho
  subst ho
  exact Or.inr ⟨by rfl,rfl⟩
 try simp only [Act.put,siT,scZ,scS]
 refine aAf (i:=7) (d:=41) (v:=undef) (by kernel_rfl) (by kernel_rfl) (by kernel_rfl) (by kernel_rfl) (fun _ _ _ h=>h) ?hya7 (by assumption) ?resta7
 case hya7 =>
  intro oi ho
  simp only [List.getElem?_toArray,List.getElem?_cons_succ,List.getElem?_cons_zero,oI] at ho
  subst ho
  exact Or.inr ⟨by rfl,rfl⟩
 try simp only [Act.put,siT,scZ,scS]
 refine aAf (i:=8) (d:=42) (v:=undef) (by kernel_rfl) (by kernel_rfl) (by kernel_rfl) (by kernel_rfl) (fun _ _ _ h=>h) ?hya8 (by assumption) ?resta8
 case hya8 =>
  intro oi ho
  simp only [List.getElem?_toArray,List.getElem?_cons_succ,List.getElem?_cons_zero,oI] at ho
  subst ho
  exact Or.inr ⟨by rfl,rfl⟩
 try simp only [Act.put,siT,scZ,scS]
 refine aAf (i:=9) (d:=43) (v:=undef) (by kernel_rfl) (by kernel_rfl) (by kernel_rfl) (by kernel_rfl) (fun _ _ _ h=>h) ?hya9 (by assumption) ?resta9
 case hya9 =>
  intro oi ho
  simp only [List.getElem?_toArray,List.getElem?_cons_succ,List.getElem?_cons_zero,oI] at ho
  subst ho
  exact Or.inr ⟨by rfl,rfl⟩
 try simp only [Act.put,siT,scZ,scS]
 refine aAf (i:=10) (d:=44) (v:=undef) (by kernel_rfl) (by kernel_rfl) (by kernel_rfl) (by kernel_rfl) (fun _ _ _ h=>h) ?hya10 (by assumption) ?resta10
 case hya10 =>
  intro oi ho
  simp only [List.getElem?_toArray,List.getElem?_cons_succ,List.getElem?_cons_zero,oI] at ho
  subst ho
  exact Or.inr ⟨by rfl,rfl⟩
 try simp only [Act.put,siT,scZ,scS]
 refine wpAnyH_tk 11 45 ?_
 refine wpAnyH_tk 12 46 ?_
 refine aAf (i:=13) (d:=47) (v:=undef) (by kernel_rfl) (by kernel_rfl) (by kernel_rfl) (by kernel_rfl) (fun _ _ _ h=>h) ?hya13 (by assumption) ?resta13
 case hya13 =>
  intro oi ho
  simp only [List.getElem?_toArray,List.getElem?_cons_succ,List.getElem?_cons_zero,oI] at ho
  subst ho
  exact Or.inr ⟨by rfl,rfl⟩
 try simp only [Act.put,siT,scZ,scS]
 refine aAf (i:=14) (d:=48) (v:=undef) (by kernel_rfl) (by kernel_rfl) (by kernel_rfl) (by kernel_rfl) (fun _ _ _ h=>h) ?hya14 (by assumption) ?resta14
 case hya14 =>
  intro oi ho
  simp only [List.getElem?_toArray,List.getElem?_cons_succ,List.getElem?_cons_zero,oI] at ho
  subst ho
  exact Or.inr ⟨by rfl,rfl⟩
 try simp only [Act.put,siT,scZ,scS]
 refine aAf (i:=15) (d:=49) (v:=undef) (by kernel_rfl) (by kernel_rfl) (by kernel_rfl) (by kernel_rfl) (fun _ _ _ h=>h) ?hya15 (by assumption) ?resta15
 case hya15 =>
  intro oi ho
  simp only [List.getElem?_toArray,List.getElem?_cons_succ,List.getElem?_cons_zero,oI] at ho
  subst ho
  exact Or.inr ⟨by rfl,rfl⟩
 try simp only [Act.put,siT,scZ,scS]
 refine aAf (i:=16) (d:=50) (v:=undef) (by kernel_rfl) (by kernel_rfl) (by kernel_rfl) (by kernel_rfl) (fun _ _ _ h=>h) ?hya16 (by assumption) ?resta16
 case hya16 =>
  intro oi ho
  simp only [List.getElem?_toArray,List.getElem?_cons_succ,List.getElem?_cons_zero,oI] at ho
  subst ho
  exact Or.inr ⟨by rfl,rfl⟩
 try simp only [Act.put,siT,scZ,scS]
 refine aAf (i:=17) (d:=51) (v:=undef) (by kernel_rfl) (by kernel_rfl) (by kernel_rfl) (by kernel_rfl) (fun _ _ _ h=>h) ?hya17 (by assumption) ?resta17
 case hya17 =>
  intro oi ho
  simp only [List.getElem?_toArray,List.getElem?_cons_succ,List.getElem?_cons_zero,oI] at ho
  subst ho
  exact Or.inr ⟨by rfl,rfl⟩
 try simp only [Act.put,siT,scZ,scS]
 refine aAf (i:=18) (d:=52) (v:=undef) (by kernel_rfl) (by kernel_rfl) (by kernel_rfl) (by kernel_rfl) (fun _ _ _ h=>h) ?hya18 (by assumption) ?resta18
 case hya18 =>
  intro oi ho
  simp only [List.getElem?_toArray,List.getElem?_cons_succ,List.getElem?_cons_zero,oI] at ho
  subst ho
  exact Or.inr ⟨by rfl,rfl⟩
 try simp only [Act.put,siT,scZ,scS]
 refine wpAnyH_tk 19 53 ?_
 refine wpAnyH_tk 20 33 ?_
 refine wpAnyH_done (by kernel_rfl) ?_ _
 refine NoPanic.normal ?_
 clear hHeld
 go_wp2
 go_ret2
 exact ⟨rfl,HB2.out.drew⟩
theorem Range_most0 [Gd] {B p q g N c u ln lc hn hc:Nat} {la ha:Option Addr} (hl1:ln≤64) (hl2:hn≤64) {l:List It} {W w:World} (h:KX B p q g N c u l W w) :
  Calls Tryz.prog 67 #[.pointer (some ⟨g,0,none⟩),.slice la ln lc,.slice ha hn hc,.int .i64 0] w fun e w'=>e=.returned (.tuple #[.slice none 0 0,.int .i64 0])∧Below w.heap.size w w':=by
 have HB1:=hide (aAc w (.cells #[.slice la ln lc,.slice ha hn hc,.int .i64 0,.slice none 0 0] 197))
 have HP:=hide (pairs_most0 hl1 hl2 (h.later HB1.out) (heap_alloc_new w _))
 clear h
 go_enter Tryz.func67,Tryz.ntmps67
 go_wp2_with fail
 refine HP.out.mono ?_
 rintro e w2 ⟨rfl,hb2⟩
 have HB2:=hide (HB1.out.trans (hb2.mono HB1.out.size))
 clear hb2
 go_wp2
 go_ret2
 exact ⟨rfl,HB2.out⟩
end Go.Proofs.YthimmblpmijnlaaGreat
