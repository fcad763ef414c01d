import Derived.Test.YtdfjjhlhnfindaaGreatZ47
set_option maxRecDepth 100000
set_option maxHeartbeats 16000000
set_option linter.unusedVariables false
namespace Go.Proofs.YtdfjjhlhnfindaaGreat
open Go.RowKit
section
variable {B N nt gh v b i n cp:Nat} {P:Nat->NdP} {s:Mt} {W w w':World} {k:Bool} {va:Option Addr} {val:List Nat}
theorem HN.wr6 (h:HN B N nt gh v P s W w) {g:Nat} {a0 a1 a2 a3 a4 a5 b0 b1 b2 b3 b4 b5:Value} (hg:w.heap[g]?=some (.cells #[a0,a1,a2,a3,a4,a5] 75 (0,0))) (hB:B<=g):HN B N nt gh v P s W ((((((w.setCell ⟨g,0,none⟩ b0).setCell ⟨g,1,none⟩ b1).setCell ⟨g,2,none⟩ b2).setCell ⟨g,3,none⟩ b3).setCell ⟨g,4,none⟩ b4).setCell ⟨g,5,none⟩ b5):=by
 obtain ⟨A,wv,h1,h2⟩:=h
 exact ⟨A,wv,h1.wr6 hg hB,h2⟩
theorem HN.set6A (h:HN B N nt gh v P s W w) {g o:Nat} {b0 b1 b2 b3 b4 b5:Value} {cs:Array Value} (hg:w.heap[g]?=some (.cells cs 75 (0,0))) (hB:B<=g):HN B N nt gh v P s W ((((((w.setCell ⟨g,o,none⟩ b0).setCell ⟨g,o+1,none⟩ b1).setCell ⟨g,o+2,none⟩ b2).setCell ⟨g,o+3,none⟩ b3).setCell ⟨g,o+4,none⟩ b4).setCell ⟨g,o+5,none⟩ b5):=by
 obtain ⟨A,wv,h1,h2⟩:=h
 exact ⟨A,wv,h1.set6A hg hB,h2⟩
theorem HN.set1 (h:HN B N nt gh v P s W w) {g o:Nat} {u:Value} {cs:Array Value} {t:TypeId} (hg:w.heap[g]?=some (.cells cs t (0,0))) (hB:B<=g) (h0:¬ DTy t) (h1:t≠5) (h2:t≠183) (h3:t≠130) (h4:t≠115/\t≠135) (h5:t≠45/\t≠70/\t≠51):HN B N nt gh v P s W (w.setCell ⟨g,o,none⟩ u):=by
 obtain ⟨A,wv,k1,k2⟩:=h
 exact ⟨A,wv,k1.set1 hg hB h0 h1 h2 h3 h4 h5,k2⟩
theorem HN.nds (h:HN B N nt gh v P s W w):∃ wv lv,NTM w nt gh 3 wv lv:=by
 obtain ⟨A,wv,h1,h2⟩:=h
 obtain ⟨lv,h3,_⟩:=h1.n
 exact ⟨wv,lv,h3⟩
theorem HN.callL [WF] [WC] {ee tl bl:Int} {tln bln vn:Nat} {vl:List Nat} {s1:Mt} (h:HN B N nt gh v P s W w) (hwf:WF.ok s.F) (hi:i<3) (hv:v<=16) (hb1:1<=b) (hb2:b<9223372036854775808) (hk:BK B w va n cp val) (hn:n<=1800) (hm:s.m i<=83) (hN:s.m i+34<=N) (hl:s.l.length+s.F.length<=64) (hst:stp v k b val i s=(⟨ee,tln,bln,vl⟩,s1)) (htl:tl=(tln:Int)) (hbl:bl=(bln:Int)) (hvn:vn=vl.length) :
  Calls Tryz.prog 48 #[.pointer (some ⟨nt,0,none⟩),.int .i64 (i:Int),.agg #[.int .i64 (kd k),.int .i64 (v:Int),.int .i64 (b:Int),.slice va n cp]] w fun e w'=>(∃ (tk:Bool) (ae:Int) (sa:Option Addr) (sc:Nat),e=.returned (.tuple #[.agg #[.int .i64 ae,.int .i64 tl,.bool false,.int .i64 0,.int .i64 bl,.slice sa vn sc],.bool tk])/\BK B w' sa vn sc vl/\((tk=true/\ae=ee)\/(tk=false/\ae=0/\ee=40)))/\HN B N nt gh v P s1 W w'/\NsF B w w':=by
 subst htl hbl hvn
 have h9:=h.call (k:=k) hwf hi hv hb1 hb2 hk hn hm hN hl
 rw [hst] at h9
 exact h9
end
def AnR (B:Nat) (w:World) (cs:Array Value) (n:Nat) (a:Nat->An):Prop:=∀ i,i<n->∃ sa sc,cs[i*6]?=some (.int .i64 (a i).e)/\cs[i*6+1]?=some (.int .i64 ((a i).tl:Int))/\cs[i*6+2]?=some (.bool false)/\cs[i*6+3]?=some (.int .i64 0)/\cs[i*6+4]?=some (.int .i64 ((a i).bl:Int))/\cs[i*6+5]?=some (.slice sa (a i).val.length sc)/\BK B w sa (a i).val.length sc (a i).val
structure AGI (B N nt gh gb g j v ba:Nat) (P:Nat->NdP) (k:Bool) (val:List Nat) (st:Mt) (who:Int) (pr:Nat) (W w0 wx:World):Prop where
 s:HN B N nt gh v P (akS v k ba val st j) W wx
 b:wx.heap[gb]?=some (.cells #[.pointer (some ⟨nt,0,none⟩),.int .i64 (v:Int),.int .i64 who,.int .i64 (prj (akA v k ba val st) pr j:Int)] 60 (0,0))
 r:∃ cs,wx.heap[g]?=some (.cells cs 75 (0,0))/\cs.size=3*6/\AnR B wx cs j (akA v k ba val st)
 f:AsF B gb w0 wx
structure AGJ (B N nt gh gb g n2 v:Nat) (P:Nat->NdP) (s:Mt) (who pq ae tl bl:Int) (vn:Nat) (sa:Option Addr) (sc:Nat) (val:List Nat) (cs:Array Value) (W w0 wr wx:World):Prop where
 s:HN B N nt gh v P s W wx
 c:wx.heap[n2]?=some (.cells #[.int .i64 ae,.int .i64 tl,.bool false,.int .i64 0,.int .i64 bl,.slice sa vn sc] 75 (0,0))
 b:wx.heap[gb]?=some (.cells #[.pointer (some ⟨nt,0,none⟩),.int .i64 (v:Int),.int .i64 who,.int .i64 pq] 60 (0,0))
 d:wx.heap[g]?=some (.cells cs 75 (0,0))
 k:BK B wx sa vn sc val
 t:FT B wr wx
 f:AsF B gb w0 wx
 g1:g<n2/\gb<n2/\w0.heap.size<=n2
 g2:B<=n2
theorem ask_gen [WF] [WC] {B N nt gh gb v b n cp pr:Nat} {P:Nat->NdP} {s:Mt} {W w:World} {who:Int} {k:Bool} {va:Option Addr} {val:List Nat} {K m:Nat} (h:HN B N nt gh v P s W w) (hok:MtOk K m s) (hm:m<=83) (hN:m+34<=N) (hbK:b<=K) (hv:v<=16) (hb1:1<=b) (hb2:b<9223372036854775808) (hk:BK B w va n cp val) (hn:n<=1800) (hb:w.heap[gb]?=some (.cells #[.pointer (some ⟨nt,0,none⟩),.int .i64 (v:Int),.int .i64 who,.int .i64 (pr:Int)] 60 (0,0))) (hgB:B<=gb) :
  Calls Tryz.prog 36 #[.pointer (some ⟨gb,0,none⟩),.int .i64 (kd k),.int .i64 (b:Int),.slice va n cp] w fun e w'=>∃ g,e=.returned (.slice (some ⟨g,0,none⟩) 3 3)/\w.heap.size<=g/\AGI B N nt gh gb g 3 v b P k val s who pr W w w':=by
 obtain ⟨i0,hi,hz0,hz1,hz2⟩:=info_parts info_ans6
 have lt:∀ {k:Nat} {o:Obj} {ww:World},ww.heap[k]?=some o->k<ww.heap.size:=fun e=>(lO e)
 have HND:=hide (by
  obtain ⟨wv,lv,h1⟩:=h.nds
  exact nodes_any h1)
 have HVL:Hid (val.length<=1800):=by show val.length<=1800;have:=hk.1.hlen;omega
 have HOK:Hid (∀ j,j<3->(akS v k b val s j).m j<=83/\(akS v k b val s j).m j+34<=N/\(akS v k b val s j).l.length+(akS v k b val s j).F.length<=64/\WF.ok (akS v k b val s j).F):=by
  intro j hj
  have h1:=(akS_ok (v:=v) (k:=k) (b:=b) (val:=val) hok.r hok.f hbK HVL.out j (by omega)).2
  have h2:=hok.m j hj
  rw [(akS_m (v:=v) (k:=k) (b:=b) (val:=val) (s:=s) j j).2 (nR j)]
  exact ⟨by omega,by omega,h1,akS_wf hok.k j⟩
 have HS:=hide h
 have HB:=hide hb
 have HGB:=hide hgB
 have HKV:=hide hk
 have HARG:=hide (And.intro hv (And.intro hb1 (And.intro hb2 hn)))
 have c0:w.cell? ⟨gb,0,none⟩=some (.pointer (some ⟨nt,0,none⟩)):=aAa hb
 clear h hb hgB hok hm hN hbK hv hb1 hb2 hk hn
 go_enter Tryz.func36,Tryz.ntmps36
 go_wp2_with fail
 refine HND.out.mono ?_
 rintro e w0' ⟨rfl,hw⟩
 have hw:=hw.symm
 subst hw
 clear HND c0
 go_wp2_with (refine wpList_make_full w rfl _ _ 92 rfl w.heap.size 75 i0 (.agg #[.int .i64 0,.int .i64 0,.bool false,.int .i64 0,.int .i64 0,.slice none 0 0]) 6 Tryz.underlying92 hi hz0 hz1 .i64 .i64 3 3 3 rfl rfl rfl rfl (by rw [hz2];omega) (by unfold maxLen;omega) (nR _) ?_;intro w1 ho1 hg1;have HO1:=hide (made_all ho1);have HG1:=hide ((Below.refl w.heap.size w).grown hg1 (nR _) (fun k hk=>by cases hk));clear ho1 hg1)
 generalize hg0:w.heap.size=g at *
 go_loopw [21] (fun i wx=>∃ j:Nat,j<=3/\i=.int .i64 j/\AGI B N nt gh gb g j v b P k val s who pr W w wx) (fun i _=>3-(intOf i).toNat)
 case atStart =>
  have hb1:Below w.heap.size w w1:=by rw [hg0];exact HG1.out
  obtain ⟨cs,k1,k2,_⟩:=HO1.out
  refine ⟨0,by omega,rfl,HS.out.later hb1,(HG1.out.block gb (by rw [<-hg0];exact lt HB.out)).trans HB.out,⟨cs,k1,k2,fun i hi=>absurd hi (by omega)⟩,AsF.ns (NsF.of hb1 HS.out.bw)⟩
 case round =>
  obtain ⟨j,hj,rfl,hI⟩:=hrel
  have HI:=hide hI
  clear hI HO1 HG1
  by_cases hjn:j<3
  ·have i1:(j:Int)<3:=by omega
   have i2:(0:Int)<=(j:Int):=by omega
   have i3:(j:Int)<1000:=by omega
   obtain ⟨pq,HPQ⟩:∃ pq:Int,Hid (pq=(prj (akA v k b val s) pr j:Int)):=⟨_,rfl⟩
   obtain ⟨ee,tln,bln,vl,s1,HST⟩:∃ ee tln bln vl s1,Hid (stp v k b val j (akS v k b val s j)=(⟨ee,tln,bln,vl⟩,s1)):=⟨_,_,_,_,_,rfl⟩
   obtain ⟨tl,HTL⟩:∃ tl:Int,Hid (tl=(tln:Int)):=⟨_,rfl⟩
   obtain ⟨bl,HBL⟩:∃ bl:Int,Hid (bl=(bln:Int)):=⟨_,rfl⟩
   obtain ⟨vn,HVN⟩:∃ vn:Nat,Hid (vn=vl.length):=⟨_,rfl⟩
   have hbb:=HI.out.b
   rw [<-HPQ.out] at hbb
   have HBB:=hide hbb
   have HS1:=hide HI.out.s
   obtain ⟨cs,hr1,hr2,hr3⟩:=HI.out.r
   have HR1:=hide hr1
   have HR2:=hide hr2
   have HR3:=hide hr3
   have HF1:=hide HI.out.f
   have HJN:=hide hjn
   have HGS:Hid (g<wr.heap.size):=lt hr1
   clear hbb hr1 hr2 hr3 HI
   go_upto_region 5 with fail
   go_cut [11,12,21] from 21 to 58 (fun p q i wx=>i=.int .i64 (j:Int)/\∃ n2 tk ae sa sc,p=.pointer (some ⟨n2,0,none⟩)/\q=.bool tk/\AGJ B N nt gh gb g n2 v P s1 who pq ae tl bl vn sa sc vl cs W w wr wx/\((tk=true/\ae=ee)\/(tk=false/\ae=0/\ee=40)))
   case first =>
    have hbd:Below wr.heap.size wr wr.drew:=(Below.refl _ _).drew
    have HFD:Hid (AsF B gb w wr.drew):=HF1.out.trans (AsF.ns (NsF.of hbd HS1.out.bw))
    have HTD:Hid (FT B wr wr.drew):=(NsF.of hbd HS1.out.bw).ft
    have HFT:Hid (FT B w wr):=HF1.out.ft HB.out
    have HSD:=hide (HS1.out.later hbd)
    have HCA:=hide (HSD.out.callL (i:=j) (k:=k) (va:=va) (n:=n) (cp:=cp) (HOK.out j HJN.out).2.2.2 HJN.out HARG.out.1 HARG.out.2.1 HARG.out.2.2.1 (HKV.out.ft (HFT.out.trans HTD.out)) HARG.out.2.2.2 (HOK.out j HJN.out).1 (HOK.out j HJN.out).2.1 (HOK.out j HJN.out).2.2.1 HST.out HTL.out HBL.out HVN.out)
    have HX1:Hid ((fun wx=>wx.cell? ⟨gb,0,none⟩=some (.pointer (some ⟨nt,0,none⟩))/\wx.cell? ⟨gb,1,none⟩=some (.int .i64 (v:Int))) wr.drew):=⟨aAa (show wr.drew.heap[gb]?=_ from HBB.out),aAa (show wr.drew.heap[gb]?=_ from HBB.out)⟩
    clear hbd
    refine wp_region_noPanic ?_
    refine wp_region_held_drew (S:=fun wx=>wx.cell? ⟨gb,0,none⟩=some (.pointer (some ⟨nt,0,none⟩))/\wx.cell? ⟨gb,1,none⟩=some (.int .i64 (v:Int))) (by kernel_rfl) HX1.out (fun hHeld=>?_)
    refine wpAnyH_tk 0 25 ?_
    refine wpAnyH_tk 1 26 ?_
    refine wpAnyH_tk 2 27 ?_
    refine wpAnyH_tk 3 28 ?_
    refine wpAnyH_tk 4 29 ?_
    refine wpAnyH_tk 5 30 ?_
    refine wpAnyH_tk 6 31 ?_
    refine wpAnyH_tk 7 32 ?_
    refine wpAnyH_tk 8 33 ?_
    refine wpAnyH_tk 9 34 ?_
    refine wpAnyH_tk 10 35 ?_
    refine wpAnyH_tk 11 36 ?_
    refine wpAnyH_tk 12 37 ?_
    refine aAp (i:=13) (j:=17) (by kernel_rfl) (by kernel_rfl) (by kernel_rfl) ?ba ?bb
    case ba =>
     intro o ho K hK
     simp only [List.getElem?_toArray,List.getElem?_cons_succ,List.getElem?_cons_zero,oI] at ho
     subst ho
     go_simp
     refine HCA.out.mono ?_
     rintro e w3 ⟨⟨tk,ae,sa,sc,rfl,hk3,hcs3⟩,hs3,hf3⟩
     have HCS:=hide hcs3
     have HS3:=hide hs3
     have HK3:=hide hk3
     have HB3:Hid (w3.heap[gb]?=_):=hf3.2 gb _ _ _ (show wr.drew.heap[gb]?=_ from HBB.out) (by decide) (by decide) (by decide) (by decide) (by decide)
     have HD3:Hid (w3.heap[g]?=_):=hf3.2 g _ _ _ (show wr.drew.heap[g]?=_ from HR1.out) (by decide) (by decide) (by decide) (by decide) (by decide)
     have HF3:Hid (AsF B gb w w3):=HFD.out.trans (AsF.ns hf3)
     have HT3:Hid (FT B wr w3):=HTD.out.trans hf3.ft
     have HX3:Hid ((fun wx=>wx.cell? ⟨gb,0,none⟩=some (.pointer (some ⟨nt,0,none⟩))/\wx.cell? ⟨gb,1,none⟩=some (.int .i64 (v:Int))) w3):=⟨aAa HB3.out,aAa HB3.out⟩
     clear hk3 hs3 hf3 hHeld HCA hcs3
     refine hK.out _ _ HX3.out (fun hHeld=>?_)
     clear hK K
     try simp only [Act.put,siT,scZ,scS]
     refine wpAnyH_tk 14 24 ?_
     refine wpAnyH_tk 15 39 ?_
     refine wpAnyH_tk 16 40 ?_
     refine wpAnyH_cm 17 ?_;intro K hK
     go_simp
     have hb4:=aAc w3 (.cells #[.int .i64 0,.int .i64 0,.bool false,.int .i64 0,.int .i64 0,.slice none 0 0] 75)
     have HC5:Hid ((w3.alloc (.cells #[.int .i64 0,.int .i64 0,.bool false,.int .i64 0,.int .i64 0,.slice none 0 0] 75)).heap[w3.heap.size]?=some (.cells #[.int .i64 0,.int .i64 0,.bool false,.int .i64 0,.int .i64 0,.slice none 0 0] 75 (0,0))):=heap_alloc_new w3 _
     have HS5:=hide (HS3.out.later hb4)
     have HB5:Hid ((w3.alloc (.cells #[.int .i64 0,.int .i64 0,.bool false,.int .i64 0,.int .i64 0,.slice none 0 0] 75)).heap[gb]?=_):=(hb4.block gb (lt HB3.out)).trans HB3.out
     have HD5:Hid ((w3.alloc (.cells #[.int .i64 0,.int .i64 0,.bool false,.int .i64 0,.int .i64 0,.slice none 0 0] 75)).heap[g]?=_):=(hb4.block g (lt HD3.out)).trans HD3.out
     have HK5:=hide (HK3.out.later hb4 HS3.out.bw)
     have HF5:Hid (AsF B gb w (w3.alloc (.cells #[.int .i64 0,.int .i64 0,.bool false,.int .i64 0,.int .i64 0,.slice none 0 0] 75))):=HF3.out.trans (AsF.ns (NsF.of hb4 HS3.out.bw))
     have HT5:Hid (FT B wr (w3.alloc (.cells #[.int .i64 0,.int .i64 0,.bool false,.int .i64 0,.int .i64 0,.slice none 0 0] 75))):=HT3.out.trans (NsF.of hb4 HS3.out.bw).ft
     have HGN:Hid (g<w3.heap.size/\gb<w3.heap.size/\w.heap.size<=w3.heap.size):=⟨lt HD3.out,lt HB3.out,HF3.out.1.size⟩
     have HBC:Hid (B<=w3.heap.size):=HS3.out.bw
     have HX5:Hid ((fun wx=>wx.cell? ⟨gb,0,none⟩=some (.pointer (some ⟨nt,0,none⟩))/\wx.cell? ⟨gb,1,none⟩=some (.int .i64 (v:Int))) (w3.alloc (.cells #[.int .i64 0,.int .i64 0,.bool false,.int .i64 0,.int .i64 0,.slice none 0 0] 75))):=⟨aAa HB5.out,aAa HB5.out⟩
     clear hb4 hHeld HS3 HB3 HD3 HK3 HF3 HT3
     generalize w3.alloc (.cells #[.int .i64 0,.int .i64 0,.bool false,.int .i64 0,.int .i64 0,.slice none 0 0] 75)=w5 at *
     generalize w3.heap.size=n2 at *
     refine hK.out _ _ HX5.out (fun hHeld=>?_)
     clear hK K
     try simp only [Act.put,siT,scZ,scS]
     have z0:w5.cell? ⟨n2,0,none⟩=some (.int .i64 0):=aAa HC5.out
     have zf0:w5.frozen? ⟨n2,0,none⟩=false:=aAb HC5.out
     have z1:w5.cell? ⟨n2,1,none⟩=some (.int .i64 0):=aAa HC5.out
     have zf1:w5.frozen? ⟨n2,1,none⟩=false:=aAb HC5.out
     have z2:w5.cell? ⟨n2,2,none⟩=some (.bool false):=aAa HC5.out
     have zf2:w5.frozen? ⟨n2,2,none⟩=false:=aAb HC5.out
     have z3:w5.cell? ⟨n2,3,none⟩=some (.int .i64 0):=aAa HC5.out
     have zf3:w5.frozen? ⟨n2,3,none⟩=false:=aAb HC5.out
     have z4:w5.cell? ⟨n2,4,none⟩=some (.int .i64 0):=aAa HC5.out
     have zf4:w5.frozen? ⟨n2,4,none⟩=false:=aAb HC5.out
     have z5:w5.cell? ⟨n2,5,none⟩=some (.slice none 0 0):=aAa HC5.out
     have zf5:w5.frozen? ⟨n2,5,none⟩=false:=aAb HC5.out
     refine wpAnyH_cm 18 ?_;intro K hK
     go_simp
     have HS6:=hide (HS5.out.wr6 (b0:=.int .i64 ae) (b1:=.int .i64 tl) (b2:=.bool false) (b3:=.int .i64 0) (b4:=.int .i64 bl) (b5:=.slice sa vn sc) HC5.out HBC.out)
     have HC6:Hid (((((((w5.setCell ⟨n2,0,none⟩ (.int .i64 ae)).setCell ⟨n2,1,none⟩ (.int .i64 tl)).setCell ⟨n2,2,none⟩ (.bool false)).setCell ⟨n2,3,none⟩ (.int .i64 0)).setCell ⟨n2,4,none⟩ (.int .i64 bl)).setCell ⟨n2,5,none⟩ (.slice sa vn sc)).heap[n2]?=some (.cells #[.int .i64 ae,.int .i64 tl,.bool false,.int .i64 0,.int .i64 bl,.slice sa vn sc] 75 (0,0))):=set6 HC5.out
     have HB6:Hid (((((((w5.setCell ⟨n2,0,none⟩ (.int .i64 ae)).setCell ⟨n2,1,none⟩ (.int .i64 tl)).setCell ⟨n2,2,none⟩ (.bool false)).setCell ⟨n2,3,none⟩ (.int .i64 0)).setCell ⟨n2,4,none⟩ (.int .i64 bl)).setCell ⟨n2,5,none⟩ (.slice sa vn sc)).heap[gb]?=_):=(oth6 (by have:=HGN.out;omega)).trans HB5.out
     have HD6:Hid (((((((w5.setCell ⟨n2,0,none⟩ (.int .i64 ae)).setCell ⟨n2,1,none⟩ (.int .i64 tl)).setCell ⟨n2,2,none⟩ (.bool false)).setCell ⟨n2,3,none⟩ (.int .i64 0)).setCell ⟨n2,4,none⟩ (.int .i64 bl)).setCell ⟨n2,5,none⟩ (.slice sa vn sc)).heap[g]?=_):=(oth6 (by have:=HGN.out;omega)).trans HD5.out
     have HK6:Hid (BK B ((((((w5.setCell ⟨n2,0,none⟩ (.int .i64 ae)).setCell ⟨n2,1,none⟩ (.int .i64 tl)).setCell ⟨n2,2,none⟩ (.bool false)).setCell ⟨n2,3,none⟩ (.int .i64 0)).setCell ⟨n2,4,none⟩ (.int .i64 bl)).setCell ⟨n2,5,none⟩ (.slice sa vn sc)) sa vn sc vl):=HK5.out.ft (ft6 HC5.out (by decide) HBC.out)
     have HT6:Hid (FT B wr ((((((w5.setCell ⟨n2,0,none⟩ (.int .i64 ae)).setCell ⟨n2,1,none⟩ (.int .i64 tl)).setCell ⟨n2,2,none⟩ (.bool false)).setCell ⟨n2,3,none⟩ (.int .i64 0)).setCell ⟨n2,4,none⟩ (.int .i64 bl)).setCell ⟨n2,5,none⟩ (.slice sa vn sc))):=HT5.out.trans (ft6 HC5.out (by decide) HBC.out)
     have HF6:Hid (AsF B gb w ((((((w5.setCell ⟨n2,0,none⟩ (.int .i64 ae)).setCell ⟨n2,1,none⟩ (.int .i64 tl)).setCell ⟨n2,2,none⟩ (.bool false)).setCell ⟨n2,3,none⟩ (.int .i64 0)).setCell ⟨n2,4,none⟩ (.int .i64 bl)).setCell ⟨n2,5,none⟩ (.slice sa vn sc))):=⟨bel6 HF5.out.1 HBC.out,fun k cs t fz e m1 m2 m3 m4 m5 m6=>(oth6 (by have:=lt e;have:=HGN.out;omega)).trans (HF5.out.2 k cs t fz e m1 m2 m3 m4 m5 m6)⟩
     have HX6:Hid ((fun wx=>wx.cell? ⟨gb,0,none⟩=some (.pointer (some ⟨nt,0,none⟩))/\wx.cell? ⟨gb,1,none⟩=some (.int .i64 (v:Int))) ((((((w5.setCell ⟨n2,0,none⟩ (.int .i64 ae)).setCell ⟨n2,1,none⟩ (.int .i64 tl)).setCell ⟨n2,2,none⟩ (.bool false)).setCell ⟨n2,3,none⟩ (.int .i64 0)).setCell ⟨n2,4,none⟩ (.int .i64 bl)).setCell ⟨n2,5,none⟩ (.slice sa vn sc))):=⟨aAa HB6.out,aAa HB6.out⟩
     clear hHeld z0 zf0 z1 zf1 z2 zf2 z3 zf3 z4 zf4 z5 zf5
     generalize ((((((w5.setCell ⟨n2,0,none⟩ (.int .i64 ae)).setCell ⟨n2,1,none⟩ (.int .i64 tl)).setCell ⟨n2,2,none⟩ (.bool false)).setCell ⟨n2,3,none⟩ (.int .i64 0)).setCell ⟨n2,4,none⟩ (.int .i64 bl)).setCell ⟨n2,5,none⟩ (.slice sa vn sc))=w6 at *
     refine hK.out _ _ HX6.out (fun hHeld=>?_)
     clear hK K
     try simp only [Act.put,siT,scZ,scS]
     refine wpAnyH_tk 19 12 ?_
     refine wpAnyH_done (by kernel_rfl) ?_ _
     refine NoPanic.normal ?_
     clear hHeld
     go_wp2_with fail
     go_meet
     case rel=>exact ⟨rfl,n2,tk,ae,sa,sc,rfl,rfl,⟨HS6.out,HC6.out,HB6.out,HD6.out,HK6.out,HT6.out,HF6.out,HGN.out,HBC.out⟩,HCS.out⟩
    case bb =>
     intro o ho K hK
     simp only [List.getElem?_toArray,List.getElem?_cons_succ,List.getElem?_cons_zero,oI] at ho
     subst ho
     go_simp
     have hb3:Below wr.heap.size wr (wr.alloc (.cells #[.int .i64 0,.int .i64 0,.bool false,.int .i64 0,.int .i64 0,.slice none 0 0] 75)).drew:=⟨(aAc wr (.cells #[.int .i64 0,.int .i64 0,.bool false,.int .i64 0,.int .i64 0,.slice none 0 0] 75)).os,(aAc wr (.cells #[.int .i64 0,.int .i64 0,.bool false,.int .i64 0,.int .i64 0,.slice none 0 0] 75)).tape,(aAc wr (.cells #[.int .i64 0,.int .i64 0,.bool false,.int .i64 0,.int .i64 0,.slice none 0 0] 75)).output,(aAc wr (.cells #[.int .i64 0,.int .i64 0,.bool false,.int .i64 0,.int .i64 0,.slice none 0 0] 75)).size,(aAc wr (.cells #[.int .i64 0,.int .i64 0,.bool false,.int .i64 0,.int .i64 0,.slice none 0 0] 75)).block⟩
     have HC3:Hid ((wr.alloc (.cells #[.int .i64 0,.int .i64 0,.bool false,.int .i64 0,.int .i64 0,.slice none 0 0] 75)).drew.heap[wr.heap.size]?=some (.cells #[.int .i64 0,.int .i64 0,.bool false,.int .i64 0,.int .i64 0,.slice none 0 0] 75 (0,0))):=heap_alloc_new wr _
     have HB3:Hid ((wr.alloc (.cells #[.int .i64 0,.int .i64 0,.bool false,.int .i64 0,.int .i64 0,.slice none 0 0] 75)).drew.heap[gb]?=_):=(hb3.block gb (lt HBB.out)).trans HBB.out
     have HD3:Hid ((wr.alloc (.cells #[.int .i64 0,.int .i64 0,.bool false,.int .i64 0,.int .i64 0,.slice none 0 0] 75)).drew.heap[g]?=_):=(hb3.block g (lt HR1.out)).trans HR1.out
     have HF3:Hid (AsF B gb w (wr.alloc (.cells #[.int .i64 0,.int .i64 0,.bool false,.int .i64 0,.int .i64 0,.slice none 0 0] 75)).drew):=HF1.out.trans (AsF.ns (NsF.of hb3 HS1.out.bw))
     have HT3:Hid (FT B wr (wr.alloc (.cells #[.int .i64 0,.int .i64 0,.bool false,.int .i64 0,.int .i64 0,.slice none 0 0] 75)).drew):=(NsF.of hb3 HS1.out.bw).ft
     have HGN:Hid (g<wr.heap.size/\gb<wr.heap.size/\w.heap.size<=wr.heap.size):=⟨lt HR1.out,lt HBB.out,HF1.out.1.size⟩
     have HBC:Hid (B<=wr.heap.size):=HS1.out.bw
     have HS3:=hide (HS1.out.later hb3)
     have HCB:=hide (HS3.out.callL (i:=j) (k:=k) (va:=va) (n:=n) (cp:=cp) (HOK.out j HJN.out).2.2.2 HJN.out HARG.out.1 HARG.out.2.1 HARG.out.2.2.1 (HKV.out.ft (HFT.out.trans HT3.out)) HARG.out.2.2.2 (HOK.out j HJN.out).1 (HOK.out j HJN.out).2.1 (HOK.out j HJN.out).2.2.1 HST.out HTL.out HBL.out HVN.out)
     have HX3:Hid ((fun wx=>wx.cell? ⟨gb,0,none⟩=some (.pointer (some ⟨nt,0,none⟩))/\wx.cell? ⟨gb,1,none⟩=some (.int .i64 (v:Int))) (wr.alloc (.cells #[.int .i64 0,.int .i64 0,.bool false,.int .i64 0,.int .i64 0,.slice none 0 0] 75)).drew):=⟨aAa HB3.out,aAa HB3.out⟩
     clear hb3 hHeld HCA
     generalize (wr.alloc (.cells #[.int .i64 0,.int .i64 0,.bool false,.int .i64 0,.int .i64 0,.slice none 0 0] 75)).drew=x2 at *
     generalize wr.heap.size=n2 at *
     refine hK.out _ _ HX3.out (fun hHeld=>?_)
     clear hK K
     try simp only [Act.put,siT,scZ,scS]
     refine wpAnyH_cm 13 ?_;intro K hK
     go_simp
     refine HCB.out.mono ?_
     rintro e w5 ⟨⟨tk,ae,sa,sc,rfl,hk3,hcs3⟩,hs3,hf3⟩
     have HCS:=hide hcs3
     have HS5:=hide hs3
     have HK5:=hide hk3
     have HB5:Hid (w5.heap[gb]?=_):=hf3.2 gb _ _ _ HB3.out (by decide) (by decide) (by decide) (by decide) (by decide)
     have HD5:Hid (w5.heap[g]?=_):=hf3.2 g _ _ _ HD3.out (by decide) (by decide) (by decide) (by decide) (by decide)
     have HC5:Hid (w5.heap[n2]?=_):=hf3.2 n2 _ _ _ HC3.out (by decide) (by decide) (by decide) (by decide) (by decide)
     have HF5:Hid (AsF B gb w w5):=HF3.out.trans (AsF.ns hf3)
     have HT5:Hid (FT B wr w5):=HT3.out.trans hf3.ft
     have HX5:Hid ((fun wx=>wx.cell? ⟨gb,0,none⟩=some (.pointer (some ⟨nt,0,none⟩))/\wx.cell? ⟨gb,1,none⟩=some (.int .i64 (v:Int))) w5):=⟨aAa HB5.out,aAa HB5.out⟩
     clear hk3 hs3 hf3 hHeld HCB HS3 HB3 HD3 HC3 HF3 HT3 hcs3
     refine hK.out _ _ HX5.out (fun hHeld=>?_)
     clear hK K
     try simp only [Act.put,siT,scZ,scS]
     refine wpAnyH_tk 14 24 ?_
     refine wpAnyH_tk 15 39 ?_
     refine wpAnyH_tk 16 40 ?_
     have z0:w5.cell? ⟨n2,0,none⟩=some (.int .i64 0):=aAa HC5.out
     have zf0:w5.frozen? ⟨n2,0,none⟩=false:=aAb HC5.out
     have z1:w5.cell? ⟨n2,1,none⟩=some (.int .i64 0):=aAa HC5.out
     have zf1:w5.frozen? ⟨n2,1,none⟩=false:=aAb HC5.out
     have z2:w5.cell? ⟨n2,2,none⟩=some (.bool false):=aAa HC5.out
     have zf2:w5.frozen? ⟨n2,2,none⟩=false:=aAb HC5.out
     have z3:w5.cell? ⟨n2,3,none⟩=some (.int .i64 0):=aAa HC5.out
     have zf3:w5.frozen? ⟨n2,3,none⟩=false:=aAb HC5.out
     have z4:w5.cell? ⟨n2,4,none⟩=some (.int .i64 0):=aAa HC5.out
     have zf4:w5.frozen? ⟨n2,4,none⟩=false:=aAb HC5.out
     have z5:w5.cell? ⟨n2,5,none⟩=some (.slice none 0 0):=aAa HC5.out
     have zf5:w5.frozen? ⟨n2,5,none⟩=false:=aAb HC5.out
     refine wpAnyH_cm 18 ?_;intro K hK
     go_simp
     have HS6:=hide (HS5.out.wr6 (b0:=.int .i64 ae) (b1:=.int .i64 tl) (b2:=.bool false) (b3:=.int .i64 0) (b4:=.int .i64 bl) (b5:=.slice sa vn sc) HC5.out HBC.out)
     have HC6:Hid (((((((w5.setCell ⟨n2,0,none⟩ (.int .i64 ae)).setCell ⟨n2,1,none⟩ (.int .i64 tl)).setCell ⟨n2,2,none⟩ (.bool false)).setCell ⟨n2,3,none⟩ (.int .i64 0)).setCell ⟨n2,4,none⟩ (.int .i64 bl)).setCell ⟨n2,5,none⟩ (.slice sa vn sc)).heap[n2]?=some (.cells #[.int .i64 ae,.int .i64 tl,.bool false,.int .i64 0,.int .i64 bl,.slice sa vn sc] 75 (0,0))):=set6 HC5.out
     have HB6:Hid (((((((w5.setCell ⟨n2,0,none⟩ (.int .i64 ae)).setCell ⟨n2,1,none⟩ (.int .i64 tl)).setCell ⟨n2,2,none⟩ (.bool false)).setCell ⟨n2,3,none⟩ (.int .i64 0)).setCell ⟨n2,4,none⟩ (.int .i64 bl)).setCell ⟨n2,5,none⟩ (.slice sa vn sc)).heap[gb]?=_):=(oth6 (by have:=HGN.out;omega)).trans HB5.out
     have HD6:Hid (((((((w5.setCell ⟨n2,0,none⟩ (.int .i64 ae)).setCell ⟨n2,1,none⟩ (.int .i64 tl)).setCell ⟨n2,2,none⟩ (.bool false)).setCell ⟨n2,3,none⟩ (.int .i64 0)).setCell ⟨n2,4,none⟩ (.int .i64 bl)).setCell ⟨n2,5,none⟩ (.slice sa vn sc)).heap[g]?=_):=(oth6 (by have:=HGN.out;omega)).trans HD5.out
     have HK6:Hid (BK B ((((((w5.setCell ⟨n2,0,none⟩ (.int .i64 ae)).setCell ⟨n2,1,none⟩ (.int .i64 tl)).setCell ⟨n2,2,none⟩ (.bool false)).setCell ⟨n2,3,none⟩ (.int .i64 0)).setCell ⟨n2,4,none⟩ (.int .i64 bl)).setCell ⟨n2,5,none⟩ (.slice sa vn sc)) sa vn sc vl):=HK5.out.ft (ft6 HC5.out (by decide) HBC.out)
     have HT6:Hid (FT B wr ((((((w5.setCell ⟨n2,0,none⟩ (.int .i64 ae)).setCell ⟨n2,1,none⟩ (.int .i64 tl)).setCell ⟨n2,2,none⟩ (.bool false)).setCell ⟨n2,3,none⟩ (.int .i64 0)).setCell ⟨n2,4,none⟩ (.int .i64 bl)).setCell ⟨n2,5,none⟩ (.slice sa vn sc))):=HT5.out.trans (ft6 HC5.out (by decide) HBC.out)
     have HF6:Hid (AsF B gb w ((((((w5.setCell ⟨n2,0,none⟩ (.int .i64 ae)).setCell ⟨n2,1,none⟩ (.int .i64 tl)).setCell ⟨n2,2,none⟩ (.bool false)).setCell ⟨n2,3,none⟩ (.int .i64 0)).setCell ⟨n2,4,none⟩ (.int .i64 bl)).setCell ⟨n2,5,none⟩ (.slice sa vn sc))):=⟨bel6 HF5.out.1 HBC.out,fun k cs t fz e m1 m2 m3 m4 m5 m6=>(oth6 (by have:=lt e;have:=HGN.out;omega)).trans (HF5.out.2 k cs t fz e m1 m2 m3 m4 m5 m6)⟩
     have HX6:Hid ((fun wx=>wx.cell? ⟨gb,0,none⟩=some (.pointer (some ⟨nt,0,none⟩))/\wx.cell? ⟨gb,1,none⟩=some (.int .i64 (v:Int))) ((((((w5.setCell ⟨n2,0,none⟩ (.int .i64 ae)).setCell ⟨n2,1,none⟩ (.int .i64 tl)).setCell ⟨n2,2,none⟩ (.bool false)).setCell ⟨n2,3,none⟩ (.int .i64 0)).setCell ⟨n2,4,none⟩ (.int .i64 bl)).setCell ⟨n2,5,none⟩ (.slice sa vn sc))):=⟨aAa HB6.out,aAa HB6.out⟩
     clear hHeld z0 zf0 z1 zf1 z2 zf2 z3 zf3 z4 zf4 z5 zf5
     generalize ((((((w5.setCell ⟨n2,0,none⟩ (.int .i64 ae)).setCell ⟨n2,1,none⟩ (.int .i64 tl)).setCell ⟨n2,2,none⟩ (.bool false)).setCell ⟨n2,3,none⟩ (.int .i64 0)).setCell ⟨n2,4,none⟩ (.int .i64 bl)).setCell ⟨n2,5,none⟩ (.slice sa vn sc))=w6 at *
     refine hK.out _ _ HX6.out (fun hHeld=>?_)
     clear hK K
     try simp only [Act.put,siT,scZ,scS]
     refine wpAnyH_tk 19 12 ?_
     refine wpAnyH_done (by kernel_rfl) ?_ _
     refine NoPanic.normal ?_
     clear hHeld
     go_wp2_with fail
     go_meet
     case rel=>exact ⟨rfl,n2,tk,ae,sa,sc,rfl,rfl,⟨HS6.out,HC6.out,HB6.out,HD6.out,HK6.out,HT6.out,HF6.out,HGN.out,HBC.out⟩,HCS.out⟩
   case rest =>
    obtain ⟨rfl,n2,tk,ae,sa,sc,rfl,rfl,hJ,hcase⟩:=hcut
    rcases hcase with ⟨rfl,hae⟩ | ⟨rfl,hae,hee⟩
    ·rw [hae] at hJ
     have HJ:=hide hJ
     clear hJ hae
     go_upto_region 8 with fail
     have HCD:Hid (wc.drew.heap[n2]?=_):=HJ.out.c
     have HBD:Hid (wc.drew.heap[gb]?=_):=HJ.out.b
     have HX8:Hid ((fun wx=>wx.cell? ⟨n2,1,none⟩=some (.int .i64 tl)) wc.drew):=aAa HCD.out
     refine wp_region_noPanic ?_
     refine wp_region_held_drew (S:=fun wx=>wx.cell? ⟨n2,1,none⟩=some (.int .i64 tl)) (by kernel_rfl) HX8.out (fun hHeld=>?_)
     refine wpAnyH_tk 0 44 ?_
     refine wpAnyH_tk 1 45 ?_
     refine wpAnyH_tk 2 46 ?_
     refine wpAnyH_tk 3 47 ?_
     refine wpAnyH_tk 5 49 ?_
     refine wpAnyH_tk 6 50 ?_
     have q0:wc.drew.cell? ⟨gb,3,none⟩=some (.int .i64 pq):=aAa HBD.out
     have qf:wc.drew.frozen? ⟨gb,3,none⟩=false:=aAb HBD.out
     refine wpAnyH_cm 4 ?_;intro K hK
     go_simp
     refine hK.out _ _ HX8.out (fun hHeld=>?_)
     clear hK K
     try simp only [Act.put,siT,scZ,scS]
     refine wpAnyH_tk 7 51 ?_
     refine wpAnyH_tk 8 52 ?_
     refine wpAnyH_tk 9 53 ?_
     refine wpAnyH_cm 10 ?_;intro K hK
     go_simp
     have HX9:Hid ((fun wx=>wx.cell? ⟨n2,1,none⟩=some (.int .i64 tl)) (wc.drew.setCell ⟨gb,3,none⟩ (.int .i64 (max pq tl)))):=aAa ((heap_setCell_other _ _ _ _ (show n2≠gb by have:=HJ.out.g1;omega)).trans HCD.out)
     refine hK.out _ _ HX9.out (fun hHeld=>?_)
     clear hK K
     try simp only [Act.put,siT,scZ,scS]
     refine wpAnyH_done (by kernel_rfl) ?_ _
     refine NoPanic.normal ?_
     clear hHeld
     generalize hz:(wc.setCell ⟨gb,3,none⟩ (.int .i64 (max pq tl))).drew=wz at *
     have hbz:Below B wc (wc.setCell ⟨gb,3,none⟩ (.int .i64 (max pq tl))):=(Below.refl _ _).setCell (p:=⟨gb,3,none⟩) HGB.out _
     have hbz2:Below (wc.setCell ⟨gb,3,none⟩ (.int .i64 (max pq tl))).heap.size (wc.setCell ⟨gb,3,none⟩ (.int .i64 (max pq tl))) wz:=by rw [<-hz];exact (Below.refl _ _).drew
     have hhz:wz.heap=(wc.setCell ⟨gb,3,none⟩ (.int .i64 (max pq tl))).heap:=by rw [<-hz];rfl
     have HSZ:Hid (HN B N nt gh v P s1 W wz):=(HJ.out.s.set1 (o:=3) (u:=.int .i64 (max pq tl)) HJ.out.b HGB.out (by unfold DTy;decide) (by decide) (by decide) (by decide) (by decide) (by decide)).later hbz2
     have HBZ:Hid (wz.heap[gb]?=some (.cells #[.pointer (some ⟨nt,0,none⟩),.int .i64 (v:Int),.int .i64 who,.int .i64 (max pq tl)] 60 (0,0))):=by show wz.heap[gb]?=_;rw [hhz];exact heap_setCell_same _ _ _ _ _ _ HJ.out.b
     have HCZ:Hid (wz.heap[n2]?=some (.cells #[.int .i64 ee,.int .i64 tl,.bool false,.int .i64 0,.int .i64 bl,.slice sa vn sc] 75 (0,0))):=by show wz.heap[n2]?=_;rw [hhz];exact (heap_setCell_other _ _ _ _ (show n2≠gb by have:=HJ.out.g1;omega)).trans HJ.out.c
     have HNG:Hid (g≠gb):=aAr HJ.out.d HJ.out.b (by decide)
     have HDZ:Hid (wz.heap[g]?=some (.cells cs 75 (0,0))):=by show wz.heap[g]?=_;rw [hhz];exact (heap_setCell_other _ _ _ _ HNG.out).trans HJ.out.d
     have HBLZ:Hid (Below B wc wz):=hbz.trans (hbz2.mono (nT HJ.out.s.bw hbz.size))
     have HFTZ:Hid (FT B wc wz):=⟨HBLZ.out,fun k cs' fz e=>by rw [hhz];exact (heap_setCell_other _ _ _ _ (aAr e HJ.out.b (by decide))).trans e⟩
     have HFZ:Hid (AsF B gb w wz):=HJ.out.f.trans ⟨HBLZ.out,fun k cs' t fz e _ _ _ _ _ n6=>by rw [hhz];exact (heap_setCell_other _ _ _ _ n6).trans e⟩
     have HKZ:=hide (HJ.out.k.ft HFTZ.out)
     have HTZ:=hide (HJ.out.t.trans HFTZ.out)
     clear hz hbz hbz2 hhz HX8 HCD HBD
     have hcs:cs.size=3*6:=HR2.out
     have hj6:j*6+6<=cs.size:=by have:=HJN.out;omega
     have v0:wz.cell? ⟨n2,0,none⟩=some (.int .i64 ee):=aAa HCZ.out
     have v1:wz.cell? ⟨n2,1,none⟩=some (.int .i64 tl):=aAa HCZ.out
     have v2:wz.cell? ⟨n2,2,none⟩=some (.bool false):=aAa HCZ.out
     have v3:wz.cell? ⟨n2,3,none⟩=some (.int .i64 0):=aAa HCZ.out
     have v4:wz.cell? ⟨n2,4,none⟩=some (.int .i64 bl):=aAa HCZ.out
     have v5:wz.cell? ⟨n2,5,none⟩=some (.slice sa vn sc):=aAa HCZ.out
     have e0:wz.cell? ⟨g,j*6,none⟩=some (cs[j*6]'(by omega)):=(aAa HDZ.out).trans (Array.getElem?_eq_getElem _)
     have ef0:wz.frozen? ⟨g,j*6,none⟩=false:=aAb HDZ.out
     have e1:wz.cell? ⟨g,j*6+1,none⟩=some (cs[j*6+1]'(by omega)):=(aAa HDZ.out).trans (Array.getElem?_eq_getElem _)
     have ef1:wz.frozen? ⟨g,j*6+1,none⟩=false:=aAb HDZ.out
     have e2:wz.cell? ⟨g,j*6+2,none⟩=some (cs[j*6+2]'(by omega)):=(aAa HDZ.out).trans (Array.getElem?_eq_getElem _)
     have ef2:wz.frozen? ⟨g,j*6+2,none⟩=false:=aAb HDZ.out
     have e3:wz.cell? ⟨g,j*6+3,none⟩=some (cs[j*6+3]'(by omega)):=(aAa HDZ.out).trans (Array.getElem?_eq_getElem _)
     have ef3:wz.frozen? ⟨g,j*6+3,none⟩=false:=aAb HDZ.out
     have e4:wz.cell? ⟨g,j*6+4,none⟩=some (cs[j*6+4]'(by omega)):=(aAa HDZ.out).trans (Array.getElem?_eq_getElem _)
     have ef4:wz.frozen? ⟨g,j*6+4,none⟩=false:=aAb HDZ.out
     have e5:wz.cell? ⟨g,j*6+5,none⟩=some (cs[j*6+5]'(by omega)):=(aAa HDZ.out).trans (Array.getElem?_eq_getElem _)
     have ef5:wz.frozen? ⟨g,j*6+5,none⟩=false:=aAb HDZ.out
     generalize cs[j*6]'(by omega)=k0 at e0
     generalize cs[j*6+1]'(by omega)=k1 at e1
     generalize cs[j*6+2]'(by omega)=k2 at e2
     generalize cs[j*6+3]'(by omega)=k3 at e3
     generalize cs[j*6+4]'(by omega)=k4 at e4
     generalize cs[j*6+5]'(by omega)=k5 at e5
     have HGC:Hid (B<=g):=by show B<=g;rw [<-hg0];exact HS.out.bw
     have HFIN:Hid (AGI B N nt gh gb g (j+1) v b P k val s who pr W w (((((((wz.setCell ⟨g,j*6,none⟩ (.int .i64 ee)).setCell ⟨g,j*6+1,none⟩ (.int .i64 tl)).setCell ⟨g,j*6+2,none⟩ (.bool false)).setCell ⟨g,j*6+3,none⟩ (.int .i64 0)).setCell ⟨g,j*6+4,none⟩ (.int .i64 bl)).setCell ⟨g,j*6+5,none⟩ (.slice sa vn sc)))):=by
      have est:akS v k b val s (j+1)=s1:=by show (stp v k b val j (akS v k b val s j)).2=s1;rw [HST.out]
      have ean:akA v k b val s j=⟨ee,tln,bln,vl⟩:=by show (stp v k b val j (akS v k b val s j)).1=_;rw [HST.out]
      have pmax:max pq tl=(prj (akA v k b val s) pr (j+1):Int):=by
       show _=((max (prj (akA v k b val s) pr j) (akA v k b val s j).tl:Nat):Int)
       rw [ean,HPQ.out,HTL.out]
       show max _ _=((max _ tln:Nat):Int)
       omega
      refine ⟨by rw [est];exact HSZ.out.set6A HDZ.out HGC.out,?_,⟨_,set6o HDZ.out,by simp only [Array.size_setIfInBounds];exact hcs,fun i hi=>?_⟩,⟨bel6o HFZ.out.1 HGC.out,fun k cs' t fz e m1 m2 m3 m4 m5 m6=>(oth6o (by have:=lt e;omega)).trans (HFZ.out.2 k cs' t fz e m1 m2 m3 m4 m5 m6)⟩⟩
      ·rw [<-pmax]
       exact (oth6o (Ne.symm HNG.out)).trans HBZ.out
      ·have hft:FT B wz (((((((wz.setCell ⟨g,j*6,none⟩ (.int .i64 ee)).setCell ⟨g,j*6+1,none⟩ (.int .i64 tl)).setCell ⟨g,j*6+2,none⟩ (.bool false)).setCell ⟨g,j*6+3,none⟩ (.int .i64 0)).setCell ⟨g,j*6+4,none⟩ (.int .i64 bl)).setCell ⟨g,j*6+5,none⟩ (.slice sa vn sc))):=ft6o HDZ.out (by decide) HGC.out
       by_cases hij:i=j
       ·subst hij
        have q0:(akA v k b val s i).e=ee:=by rw [ean]
        have q1:((akA v k b val s i).tl:Int)=tl:=by rw [ean];exact HTL.out.symm
        have q2:((akA v k b val s i).bl:Int)=bl:=by rw [ean];exact HBL.out.symm
        have q3:(akA v k b val s i).val=vl:=by rw [ean]
        have q4:(akA v k b val s i).val.length=vn:=by rw [ean];exact HVN.out.symm
        refine ⟨sa,sc,?_,?_,at6o2 hj6,at6o3 hj6,?_,?_,?_⟩
        ·rw [q0];exact at6o0 hj6
        ·rw [q1];exact at6o1 hj6
        ·rw [q2];exact at6o4 hj6
        ·rw [q4];exact at6o5 hj6
        ·rw [q4,q3];exact HKZ.out.ft hft
       ·obtain ⟨sa',sc',h1,h2,h3,h4,h5,h6,h7⟩:=HR3.out i (by omega)
        refine ⟨sa',sc',?_,?_,?_,?_,?_,?_,(h7.ft HTZ.out).ft hft⟩<;>rw [at6o (by omega)]<;>assumption
     go_wp2_with fail
     go_roundw
     case rel=>exact ⟨j+1,by omega,by go_num,HFIN.out⟩
     case measure=>simp [intOf];omega
    ·rw [hae] at hJ
     have z0:wc.cell? ⟨n2,0,none⟩=some (.int .i64 0):=aAa hJ.c
     have zf0:wc.frozen? ⟨n2,0,none⟩=false:=aAb hJ.c
     have hb4:Below B wc (wc.setCell ⟨n2,0,none⟩ (.int .i64 40)):=(Below.refl _ _).setCell (p:=⟨n2,0,none⟩) hJ.g2 _
     have HJ4:Hid (AGJ B N nt gh gb g n2 v P s1 who pq ee tl bl vn sa sc vl cs W w wr (wc.setCell ⟨n2,0,none⟩ (.int .i64 40))):=by
      show AGJ B N nt gh gb g n2 v P s1 who pq ee tl bl vn sa sc vl cs W w wr (wc.setCell ⟨n2,0,none⟩ (.int .i64 40))
      rw [hee]
      exact ⟨hJ.s.set1 hJ.c hJ.g2 (by unfold DTy;decide) (by decide) (by decide) (by decide) (by decide) (by decide),heap_setCell_same _ _ _ _ _ _ hJ.c,(heap_setCell_other _ _ _ _ (show gb≠n2 by have:=hJ.g1;omega)).trans hJ.b,(heap_setCell_other _ _ _ _ (show g≠n2 by have:=hJ.g1;omega)).trans hJ.d,hJ.k.ft (FT.set hJ.c hJ.g2 (by decide)),hJ.t.trans (FT.set hJ.c hJ.g2 (by decide)),⟨hJ.f.1.trans hb4,fun k cs t fz e m1 m2 m3 m4 m5 m6=>(heap_setCell_other _ _ _ _ (show k≠n2 by have:=lt e;have:=hJ.g1;omega)).trans (hJ.f.2 k cs t fz e m1 m2 m3 m4 m5 m6)⟩,hJ.g1,hJ.g2⟩
     clear hJ hb4 hae hee
     go_upto_region 8 with fail
     clear z0 zf0
     generalize (wc.setCell ⟨n2,0,none⟩ (.int .i64 40))=wd at *
     have HJ:=HJ4
     clear HJ4
     have HCD:Hid (wd.drew.heap[n2]?=_):=HJ.out.c
     have HBD:Hid (wd.drew.heap[gb]?=_):=HJ.out.b
     have HX8:Hid ((fun wx=>wx.cell? ⟨n2,1,none⟩=some (.int .i64 tl)) wd.drew):=aAa HCD.out
     refine wp_region_noPanic ?_
     refine wp_region_held_drew (S:=fun wx=>wx.cell? ⟨n2,1,none⟩=some (.int .i64 tl)) (by kernel_rfl) HX8.out (fun hHeld=>?_)
     refine wpAnyH_tk 0 44 ?_
     refine wpAnyH_tk 1 45 ?_
     refine wpAnyH_tk 2 46 ?_
     refine wpAnyH_tk 3 47 ?_
     refine wpAnyH_tk 5 49 ?_
     refine wpAnyH_tk 6 50 ?_
     have q0:wd.drew.cell? ⟨gb,3,none⟩=some (.int .i64 pq):=aAa HBD.out
     have qf:wd.drew.frozen? ⟨gb,3,none⟩=false:=aAb HBD.out
     refine wpAnyH_cm 4 ?_;intro K hK
     go_simp
     refine hK.out _ _ HX8.out (fun hHeld=>?_)
     clear hK K
     try simp only [Act.put,siT,scZ,scS]
     refine wpAnyH_tk 7 51 ?_
     refine wpAnyH_tk 8 52 ?_
     refine wpAnyH_tk 9 53 ?_
     refine wpAnyH_cm 10 ?_;intro K hK
     go_simp
     have HX9:Hid ((fun wx=>wx.cell? ⟨n2,1,none⟩=some (.int .i64 tl)) (wd.drew.setCell ⟨gb,3,none⟩ (.int .i64 (max pq tl)))):=aAa ((heap_setCell_other _ _ _ _ (show n2≠gb by have:=HJ.out.g1;omega)).trans HCD.out)
     refine hK.out _ _ HX9.out (fun hHeld=>?_)
     clear hK K
     try simp only [Act.put,siT,scZ,scS]
     refine wpAnyH_done (by kernel_rfl) ?_ _
     refine NoPanic.normal ?_
     clear hHeld
     generalize hz:(wd.setCell ⟨gb,3,none⟩ (.int .i64 (max pq tl))).drew=wz at *
     have hbz:Below B wd (wd.setCell ⟨gb,3,none⟩ (.int .i64 (max pq tl))):=(Below.refl _ _).setCell (p:=⟨gb,3,none⟩) HGB.out _
     have hbz2:Below (wd.setCell ⟨gb,3,none⟩ (.int .i64 (max pq tl))).heap.size (wd.setCell ⟨gb,3,none⟩ (.int .i64 (max pq tl))) wz:=by rw [<-hz];exact (Below.refl _ _).drew
     have hhz:wz.heap=(wd.setCell ⟨gb,3,none⟩ (.int .i64 (max pq tl))).heap:=by rw [<-hz];rfl
     have HSZ:Hid (HN B N nt gh v P s1 W wz):=(HJ.out.s.set1 (o:=3) (u:=.int .i64 (max pq tl)) HJ.out.b HGB.out (by unfold DTy;decide) (by decide) (by decide) (by decide) (by decide) (by decide)).later hbz2
     have HBZ:Hid (wz.heap[gb]?=some (.cells #[.pointer (some ⟨nt,0,none⟩),.int .i64 (v:Int),.int .i64 who,.int .i64 (max pq tl)] 60 (0,0))):=by show wz.heap[gb]?=_;rw [hhz];exact heap_setCell_same _ _ _ _ _ _ HJ.out.b
     have HCZ:Hid (wz.heap[n2]?=some (.cells #[.int .i64 ee,.int .i64 tl,.bool false,.int .i64 0,.int .i64 bl,.slice sa vn sc] 75 (0,0))):=by show wz.heap[n2]?=_;rw [hhz];exact (heap_setCell_other _ _ _ _ (show n2≠gb by have:=HJ.out.g1;omega)).trans HJ.out.c
     have HNG:Hid (g≠gb):=aAr HJ.out.d HJ.out.b (by decide)
     have HDZ:Hid (wz.heap[g]?=some (.cells cs 75 (0,0))):=by show wz.heap[g]?=_;rw [hhz];exact (heap_setCell_other _ _ _ _ HNG.out).trans HJ.out.d
     have HBLZ:Hid (Below B wd wz):=hbz.trans (hbz2.mono (nT HJ.out.s.bw hbz.size))
     have HFTZ:Hid (FT B wd wz):=⟨HBLZ.out,fun k cs' fz e=>by rw [hhz];exact (heap_setCell_other _ _ _ _ (aAr e HJ.out.b (by decide))).trans e⟩
     have HFZ:Hid (AsF B gb w wz):=HJ.out.f.trans ⟨HBLZ.out,fun k cs' t fz e _ _ _ _ _ n6=>by rw [hhz];exact (heap_setCell_other _ _ _ _ n6).trans e⟩
     have HKZ:=hide (HJ.out.k.ft HFTZ.out)
     have HTZ:=hide (HJ.out.t.trans HFTZ.out)
     clear hz hbz hbz2 hhz HX8 HCD HBD
     have hcs:cs.size=3*6:=HR2.out
     have hj6:j*6+6<=cs.size:=by have:=HJN.out;omega
     have v0:wz.cell? ⟨n2,0,none⟩=some (.int .i64 ee):=aAa HCZ.out
     have v1:wz.cell? ⟨n2,1,none⟩=some (.int .i64 tl):=aAa HCZ.out
     have v2:wz.cell? ⟨n2,2,none⟩=some (.bool false):=aAa HCZ.out
     have v3:wz.cell? ⟨n2,3,none⟩=some (.int .i64 0):=aAa HCZ.out
     have v4:wz.cell? ⟨n2,4,none⟩=some (.int .i64 bl):=aAa HCZ.out
     have v5:wz.cell? ⟨n2,5,none⟩=some (.slice sa vn sc):=aAa HCZ.out
     have e0:wz.cell? ⟨g,j*6,none⟩=some (cs[j*6]'(by omega)):=(aAa HDZ.out).trans (Array.getElem?_eq_getElem _)
     have ef0:wz.frozen? ⟨g,j*6,none⟩=false:=aAb HDZ.out
     have e1:wz.cell? ⟨g,j*6+1,none⟩=some (cs[j*6+1]'(by omega)):=(aAa HDZ.out).trans (Array.getElem?_eq_getElem _)
     have ef1:wz.frozen? ⟨g,j*6+1,none⟩=false:=aAb HDZ.out
     have e2:wz.cell? ⟨g,j*6+2,none⟩=some (cs[j*6+2]'(by omega)):=(aAa HDZ.out).trans (Array.getElem?_eq_getElem _)
     have ef2:wz.frozen? ⟨g,j*6+2,none⟩=false:=aAb HDZ.out
     have e3:wz.cell? ⟨g,j*6+3,none⟩=some (cs[j*6+3]'(by omega)):=(aAa HDZ.out).trans (Array.getElem?_eq_getElem _)
     have ef3:wz.frozen? ⟨g,j*6+3,none⟩=false:=aAb HDZ.out
     have e4:wz.cell? ⟨g,j*6+4,none⟩=some (cs[j*6+4]'(by omega)):=(aAa HDZ.out).trans (Array.getElem?_eq_getElem _)
     have ef4:wz.frozen? ⟨g,j*6+4,none⟩=false:=aAb HDZ.out
     have e5:wz.cell? ⟨g,j*6+5,none⟩=some (cs[j*6+5]'(by omega)):=(aAa HDZ.out).trans (Array.getElem?_eq_getElem _)
     have ef5:wz.frozen? ⟨g,j*6+5,none⟩=false:=aAb HDZ.out
     generalize cs[j*6]'(by omega)=k0 at e0
     generalize cs[j*6+1]'(by omega)=k1 at e1
     generalize cs[j*6+2]'(by omega)=k2 at e2
     generalize cs[j*6+3]'(by omega)=k3 at e3
     generalize cs[j*6+4]'(by omega)=k4 at e4
     generalize cs[j*6+5]'(by omega)=k5 at e5
     have HGC:Hid (B<=g):=by show B<=g;rw [<-hg0];exact HS.out.bw
     have HFIN:Hid (AGI B N nt gh gb g (j+1) v b P k val s who pr W w (((((((wz.setCell ⟨g,j*6,none⟩ (.int .i64 ee)).setCell ⟨g,j*6+1,none⟩ (.int .i64 tl)).setCell ⟨g,j*6+2,none⟩ (.bool false)).setCell ⟨g,j*6+3,none⟩ (.int .i64 0)).setCell ⟨g,j*6+4,none⟩ (.int .i64 bl)).setCell ⟨g,j*6+5,none⟩ (.slice sa vn sc)))):=by
      have est:akS v k b val s (j+1)=s1:=by show (stp v k b val j (akS v k b val s j)).2=s1;rw [HST.out]
      have ean:akA v k b val s j=⟨ee,tln,bln,vl⟩:=by show (stp v k b val j (akS v k b val s j)).1=_;rw [HST.out]
      have pmax:max pq tl=(prj (akA v k b val s) pr (j+1):Int):=by
       show _=((max (prj (akA v k b val s) pr j) (akA v k b val s j).tl:Nat):Int)
       rw [ean,HPQ.out,HTL.out]
       show max _ _=((max _ tln:Nat):Int)
       omega
      refine ⟨by rw [est];exact HSZ.out.set6A HDZ.out HGC.out,?_,⟨_,set6o HDZ.out,by simp only [Array.size_setIfInBounds];exact hcs,fun i hi=>?_⟩,⟨bel6o HFZ.out.1 HGC.out,fun k cs' t fz e m1 m2 m3 m4 m5 m6=>(oth6o (by have:=lt e;omega)).trans (HFZ.out.2 k cs' t fz e m1 m2 m3 m4 m5 m6)⟩⟩
      ·rw [<-pmax]
       exact (oth6o (Ne.symm HNG.out)).trans HBZ.out
      ·have hft:FT B wz (((((((wz.setCell ⟨g,j*6,none⟩ (.int .i64 ee)).setCell ⟨g,j*6+1,none⟩ (.int .i64 tl)).setCell ⟨g,j*6+2,none⟩ (.bool false)).setCell ⟨g,j*6+3,none⟩ (.int .i64 0)).setCell ⟨g,j*6+4,none⟩ (.int .i64 bl)).setCell ⟨g,j*6+5,none⟩ (.slice sa vn sc))):=ft6o HDZ.out (by decide) HGC.out
       by_cases hij:i=j
       ·subst hij
        have q0:(akA v k b val s i).e=ee:=by rw [ean]
        have q1:((akA v k b val s i).tl:Int)=tl:=by rw [ean];exact HTL.out.symm
        have q2:((akA v k b val s i).bl:Int)=bl:=by rw [ean];exact HBL.out.symm
        have q3:(akA v k b val s i).val=vl:=by rw [ean]
        have q4:(akA v k b val s i).val.length=vn:=by rw [ean];exact HVN.out.symm
        refine ⟨sa,sc,?_,?_,at6o2 hj6,at6o3 hj6,?_,?_,?_⟩
        ·rw [q0];exact at6o0 hj6
        ·rw [q1];exact at6o1 hj6
        ·rw [q2];exact at6o4 hj6
        ·rw [q4];exact at6o5 hj6
        ·rw [q4,q3];exact HKZ.out.ft hft
       ·obtain ⟨sa',sc',h1,h2,h3,h4,h5,h6,h7⟩:=HR3.out i (by omega)
        refine ⟨sa',sc',?_,?_,?_,?_,?_,?_,(h7.ft HTZ.out).ft hft⟩<;>rw [at6o (by omega)]<;>assumption
     go_wp2_with fail
     go_roundw
     case rel=>exact ⟨j+1,by omega,by go_num,HFIN.out⟩
     case measure=>simp [intOf];omega
  ·have i1:¬ (j:Int)<3:=by omega
   have hjM:j=3:=by omega
   subst hjM
   go_wp2
   go_ret
   exact ⟨g,rfl,nR _,HI.out⟩
theorem aEb {fn:Func} {p u x:Tmp} {ty:TypeId} (h:fn.results=#[.cell p ty,.tmp u,.tmp x]) (tmps:Array Value) (P:Program) (w:World) :
  (results fn tmps).run P w =
   ((asAddr (tmps.getD p undef)).run P w).andThen fun a w₁=>((loadVar ty a).run P w₁).andThen fun v w₂=>.ok (.tuple #[v,tmps.getD u undef,tmps.getD x undef]) w₂:=by
 simp only [results,h]
 simp [Sem.run_bind,Result.andThen]
theorem info_sg4:(Tryz.prog.info? 54).map (·.size)=some 4:=by kernel_rfl
theorem info_sgm:(Tryz.prog.info? 54).map (fun i=>(i.zero,i.size,i.bytes))=some (some (.agg #[.int .i64 0,.int .i64 0,.int .i64 0,.int .i64 0]),4,32):=by kernel_rfl
theorem aGc {fn:Func} {p u x:Tmp} (h:fn.results=#[.cell p 54,.tmp u,.tmp x]) (tmps:Array Value) (w:World) (g:Nat) (cs:Array Value)
  (hp:tmps.getD p undef=.pointer (some ⟨g,0,none⟩)) (hg:w.heap[g]?=some (.cells cs 54 (0,0))) (hz:cs.size=4) :
  (results fn tmps).run Tryz.prog w=.ok (.tuple #[.agg cs,tmps.getD u undef,tmps.getD x undef]) w:=by
 have hi:(Tryz.prog.info? 54).map (·.size)=some cs.size:=by rw [hz];exact info_sg4
 rw [aEb h,hp]
 simp only [asAddr,Sem.run_pure,Result.andThen_ok,run_loadVar_row w g 54 54 cs (0,0) _ hg Tryz.underlying54 rfl hi]
theorem aG8 {w:World} {a:Option Addr} {len cap n:Nat} {pre rest:List Nat} (h:BS w a len cap (pre++(enc n++rest))) (hn:n<9223372036854775808) :
  Calls Tryz.prog 37 #[.slice a len cap,.int .i64 (pre.length:Int)] w fun e w'=>e=.returned (.tuple #[.int .i64 (n:Int),.int .i64 ((pre++enc n).length:Int),.int .i64 0])/\w'=w:=by
 have h1:=aBs a len cap _ (pre.length:Int) w h
 have hp:0<=(pre.length:Int)/\(pre.length:Int)<=((pre++(enc n++rest)).length:Int):=by rw [lA];omega
 have hr:=rd_enc n hn pre rest
 have e1:ruN (pre++(enc n++rest)) (pre.length:Int)=n:=by unfold ruN;rw [if_pos hp,Int.toNat_natCast,hr]
 have e2:ruP (pre++(enc n++rest)) (pre.length:Int)=(pre++enc n).length:=by unfold ruP;rw [if_pos hp,Int.toNat_natCast];unfold rdNext;rw [hr,if_pos rfl,lA,aAj n (aAi n hn).1]
 have e3:ruE (pre++(enc n++rest)) (pre.length:Int)=0:=by unfold ruE;rw [if_pos hp,Int.toNat_natCast,hr]
 rw [e1,e2,e3] at h1
 exact h1
theorem seg_last {w:World} {a:Option Addr} {len cap o:Nat} {pre rest:List Nat} (h:BS w a len cap (pre++(enc o++rest))) (ho:o<9223372036854775808) :
  Calls Tryz.prog 38 #[.slice a len cap,.int .i64 (pre.length:Int),.bool true] w fun e w'=>e=.returned (.tuple #[.agg #[.int .i64 0,.int .i64 0,.int .i64 (-1),.int .i64 (o:Int)],.int .i64 ((pre++enc o).length:Int),.int .i64 0])/\Below w.heap.size w w':=by
 have lt:∀ {k:Nat} {o:Obj} {ww:World},ww.heap[k]?=some o->k<ww.heap.size:=fun e=>(lO e)
 have HN1:Hid ((w.alloc (.cells #[.int .i64 0,.int .i64 0,.int .i64 (-1),.int .i64 0] 54)).heap[w.heap.size]?=some (.cells #[.int .i64 0,.int .i64 0,.int .i64 (-1),.int .i64 0] 54 (0,0))):=heap_alloc_new w _
 have HB1:=hide (aAc w (.cells #[.int .i64 0,.int .i64 0,.int .i64 (-1),.int .i64 0] 54))
 have HBS1:=hide (h.later HB1.out (nR _))
 go_enter Tryz.func38,Tryz.ntmps38
 go_upto_region 2 with fail
 generalize (w.alloc (.cells #[.int .i64 0,.int .i64 0,.int .i64 (-1),.int .i64 0] 54))=w1 at *
 generalize hn0:w.heap.size=n0 at *
 have HR1:=hide (aG8 HBS1.out ho)
 generalize hp1:(pre++enc o).length=p1 at *
 have HP1:=hide hp1
 clear hp1
 generalize pre.length=p0 at *
 have q3:w1.cell? ⟨n0,3,none⟩=some (.int .i64 0):=aAa HN1.out
 have qf3:w1.frozen? ⟨n0,3,none⟩=false:=aAb HN1.out
 have HN2:=hide (heap_setCell_same _ n0 3 _ _ (.int .i64 (o:Int)) HN1.out)
 have HB2:Hid (Below n0 w (w1.setCell ⟨n0,3,none⟩ (.int .i64 (o:Int)))):=HB1.out.setCell (p:=⟨n0,3,none⟩) (nR _) _
 go_wp2_with fail
 refine HR1.out.mono ?_
 rintro e w2 ⟨rfl,hw⟩
 have hw:=hw.symm
 subst hw
 go_upto_region 5 with fail
 clear q3 qf3 HR1
 generalize w1.setCell ⟨n0,3,none⟩ (.int .i64 (o:Int))=w3 at *
 have y0:w3.cell? ⟨n0,0,none⟩=some (.int .i64 0):=aAa HN2.out
 have y1:w3.cell? ⟨n0,1,none⟩=some (.int .i64 0):=aAa HN2.out
 have y2:w3.cell? ⟨n0,2,none⟩=some (.int .i64 (-1)):=aAa HN2.out
 have y3:w3.cell? ⟨n0,3,none⟩=some (.int .i64 (o:Int)):=aAa HN2.out
 have z0:w3.frozen? ⟨n0,0,none⟩=false:=aAb HN2.out
 have z1:w3.frozen? ⟨n0,1,none⟩=false:=aAb HN2.out
 have z2:w3.frozen? ⟨n0,2,none⟩=false:=aAb HN2.out
 have z3:w3.frozen? ⟨n0,3,none⟩=false:=aAb HN2.out
 go_wp2
 (try simp only [Exit.inBlock,Exit.then])
 refine bodyPost_ret (aGc rfl _ _ n0 _ rfl (set4 HN2.out) rfl) rfl ?_
 rw [HP1.out]
 exact ⟨rfl,by rw [hn0];exact bel4 HB2.out (nR _)⟩
theorem seg_more {w:World} {a:Option Addr} {len cap o d:Nat} {pre rest:List Nat} (h:BS w a len cap (pre++(enc o++(enc d++rest)))) (ho:o<9223372036854775808) (hd:d<9223372036854775808) :
  Calls Tryz.prog 38 #[.slice a len cap,.int .i64 (pre.length:Int),.bool false] w fun e w'=>e=.returned (.tuple #[.agg #[.int .i64 0,.int .i64 0,.int .i64 (d:Int),.int .i64 (o:Int)],.int .i64 ((pre++enc o++enc d).length:Int),.int .i64 0])/\Below w.heap.size w w':=by
 have lt:∀ {k:Nat} {o:Obj} {ww:World},ww.heap[k]?=some o->k<ww.heap.size:=fun e=>(lO e)
 have HN1:Hid ((w.alloc (.cells #[.int .i64 0,.int .i64 0,.int .i64 (-1),.int .i64 0] 54)).heap[w.heap.size]?=some (.cells #[.int .i64 0,.int .i64 0,.int .i64 (-1),.int .i64 0] 54 (0,0))):=heap_alloc_new w _
 have HB1:=hide (aAc w (.cells #[.int .i64 0,.int .i64 0,.int .i64 (-1),.int .i64 0] 54))
 have HBS1:=hide (h.later HB1.out (nR _))
 have HBS0:=hide h
 go_enter Tryz.func38,Tryz.ntmps38
 go_upto_region 2 with fail
 generalize (w.alloc (.cells #[.int .i64 0,.int .i64 0,.int .i64 (-1),.int .i64 0] 54))=w1 at *
 generalize hn0:w.heap.size=n0 at *
 have HR1:=hide (aG8 HBS1.out ho)
 have HBS2:Hid (BS (w1.setCell ⟨n0,3,none⟩ (.int .i64 (o:Int))) a len cap ((pre++enc o)++(enc d++rest))):=by
  have h9:=HBS0.out.later (HB1.out.setCell (p:=⟨n0,3,none⟩) (nR _) (.int .i64 (o:Int))) (by omega)
  rw [List.append_assoc]
  exact h9
 have HR2:=hide (aG8 HBS2.out hd)
 generalize hp2:(pre++enc o++enc d).length=p2 at *
 have HP2:=hide hp2
 clear hp2
 generalize hp1:(pre++enc o).length=p1 at *
 have HP1:=hide hp1
 clear hp1
 generalize pre.length=p0 at *
 have q3:w1.cell? ⟨n0,3,none⟩=some (.int .i64 0):=aAa HN1.out
 have qf3:w1.frozen? ⟨n0,3,none⟩=false:=aAb HN1.out
 have HN2:=hide (heap_setCell_same _ n0 3 _ _ (.int .i64 (o:Int)) HN1.out)
 have HB2:Hid (Below n0 w (w1.setCell ⟨n0,3,none⟩ (.int .i64 (o:Int)))):=HB1.out.setCell (p:=⟨n0,3,none⟩) (nR _) _
 go_wp2_with fail
 refine HR1.out.mono ?_
 rintro e w2 ⟨rfl,hw⟩
 have hw:=hw.symm
 subst hw
 go_upto_region 4 with fail
 clear q3 qf3 HR1
 generalize w1.setCell ⟨n0,3,none⟩ (.int .i64 (o:Int))=w3 at *
 have q2:w3.cell? ⟨n0,2,none⟩=some (.int .i64 (-1)):=aAa HN2.out
 have qf2:w3.frozen? ⟨n0,2,none⟩=false:=aAb HN2.out
 have HN3:=hide (heap_setCell_same _ n0 2 _ _ (.int .i64 (d:Int)) HN2.out)
 have HB3:Hid (Below n0 w (w3.setCell ⟨n0,2,none⟩ (.int .i64 (d:Int)))):=HB2.out.setCell (p:=⟨n0,2,none⟩) (nR _) _
 go_wp2_with fail
 refine HR2.out.mono ?_
 rintro e w4 ⟨rfl,hw⟩
 have hw:=hw.symm
 subst hw
 go_upto_region 5 with fail
 clear q2 qf2 HR2
 generalize w3.setCell ⟨n0,2,none⟩ (.int .i64 (d:Int))=w5 at *
 have y0:w5.cell? ⟨n0,0,none⟩=some (.int .i64 0):=aAa HN3.out
 have y1:w5.cell? ⟨n0,1,none⟩=some (.int .i64 0):=aAa HN3.out
 have y2:w5.cell? ⟨n0,2,none⟩=some (.int .i64 (d:Int)):=aAa HN3.out
 have y3:w5.cell? ⟨n0,3,none⟩=some (.int .i64 (o:Int)):=aAa HN3.out
 have z0:w5.frozen? ⟨n0,0,none⟩=false:=aAb HN3.out
 have z1:w5.frozen? ⟨n0,1,none⟩=false:=aAb HN3.out
 have z2:w5.frozen? ⟨n0,2,none⟩=false:=aAb HN3.out
 have z3:w5.frozen? ⟨n0,3,none⟩=false:=aAb HN3.out
 go_wp2
 (try simp only [Exit.inBlock,Exit.then])
 refine bodyPost_ret (aGc rfl _ _ n0 _ rfl (set4 HN3.out) rfl) rfl ?_
 rw [HP2.out]
 exact ⟨rfl,by rw [hn0];exact bel4 HB3.out (nR _)⟩
section
variable {w w0:World} {g o k B:Nat} {cs:Array Value} {b0 b1 b2 b3:Value} {t:TypeId}
theorem set4o (h:w.heap[g]?=some (.cells cs t (0,0))):((((w.setCell ⟨g,o,none⟩ b0).setCell ⟨g,o+1,none⟩ b1).setCell ⟨g,o+2,none⟩ b2).setCell ⟨g,o+3,none⟩ b3).heap[g]?=some (.cells ((((cs.setIfInBounds o b0).setIfInBounds (o+1) b1).setIfInBounds (o+2) b2).setIfInBounds (o+3) b3) t (0,0)):=heap_setCell_same _ _ _ _ _ _ (heap_setCell_same _ _ _ _ _ _ (heap_setCell_same _ _ _ _ _ _ (heap_setCell_same _ _ _ _ _ _ h)))
theorem bel4o (hb:Below B w0 w) (hg:B<=g):Below B w0 ((((w.setCell ⟨g,o,none⟩ b0).setCell ⟨g,o+1,none⟩ b1).setCell ⟨g,o+2,none⟩ b2).setCell ⟨g,o+3,none⟩ b3):=(((hb.setCell (p:=⟨g,o,none⟩) hg _).setCell (p:=⟨g,o+1,none⟩) hg _).setCell (p:=⟨g,o+2,none⟩) hg _).setCell (p:=⟨g,o+3,none⟩) hg _
theorem oth4o (hne:k≠g):((((w.setCell ⟨g,o,none⟩ b0).setCell ⟨g,o+1,none⟩ b1).setCell ⟨g,o+2,none⟩ b2).setCell ⟨g,o+3,none⟩ b3).heap[k]?=w.heap[k]?:=by
 rw [heap_setCell_other _ _ _ _ hne,heap_setCell_other _ _ _ _ hne,heap_setCell_other _ _ _ _ hne,heap_setCell_other _ _ _ _ hne]
theorem at4o (hk:k<o\/o+4<=k):((((cs.setIfInBounds o b0).setIfInBounds (o+1) b1).setIfInBounds (o+2) b2).setIfInBounds (o+3) b3)[k]?=cs[k]?:=by
 rw [Array.getElem?_setIfInBounds_ne (by omega),Array.getElem?_setIfInBounds_ne (by omega),Array.getElem?_setIfInBounds_ne (by omega),Array.getElem?_setIfInBounds_ne (by omega)]
theorem at4o0 (hk:o+4<=cs.size):((((cs.setIfInBounds o b0).setIfInBounds (o+1) b1).setIfInBounds (o+2) b2).setIfInBounds (o+3) b3)[o]?=some b0:=by
 rw [Array.getElem?_setIfInBounds_ne (by omega),Array.getElem?_setIfInBounds_ne (by omega),Array.getElem?_setIfInBounds_ne (by omega),Array.getElem?_setIfInBounds_self_of_lt (by omega)]
theorem at4o1 (hk:o+4<=cs.size):((((cs.setIfInBounds o b0).setIfInBounds (o+1) b1).setIfInBounds (o+2) b2).setIfInBounds (o+3) b3)[o+1]?=some b1:=by
 rw [Array.getElem?_setIfInBounds_ne (by omega),Array.getElem?_setIfInBounds_ne (by omega),Array.getElem?_setIfInBounds_self_of_lt (by simp only [Array.size_setIfInBounds];omega)]
theorem at4o2 (hk:o+4<=cs.size):((((cs.setIfInBounds o b0).setIfInBounds (o+1) b1).setIfInBounds (o+2) b2).setIfInBounds (o+3) b3)[o+2]?=some b2:=by
 rw [Array.getElem?_setIfInBounds_ne (by omega),Array.getElem?_setIfInBounds_self_of_lt (by simp only [Array.size_setIfInBounds];omega)]
theorem at4o3 (hk:o+4<=cs.size):((((cs.setIfInBounds o b0).setIfInBounds (o+1) b1).setIfInBounds (o+2) b2).setIfInBounds (o+3) b3)[o+3]?=some b3:=by
 rw [Array.getElem?_setIfInBounds_self_of_lt (by simp only [Array.size_setIfInBounds];omega)]
end
theorem enC_split {l:List Sg} {j:Nat} {s:Sg} (h:l[j]?=some s):enC l=(enc l.length++enB (l.take j))++(enS s++enB (l.drop (j+1))):=by
 unfold enC
 rw [List.append_assoc]
 congr 1
 have h1:l=l.take (j+1)++l.drop (j+1):=(List.take_append_drop _ _).symm
 have h2:enB l=enB (l.take (j+1))++enB (l.drop (j+1)):=by
  unfold enB
  rw [<-List.flatMap_append,List.take_append_drop]
 rw [h2,aE7 h,List.append_assoc]
theorem decode_ok {w:World} {a:Option Addr} {len cap:Nat} {l:List Sg} (h:BS w a len cap (enC l)) (hc:CH l):Calls Tryz.prog 21 #[.slice a len cap] w fun e w'=>(∃ v,e=.returned (.tuple #[v,.int .i64 0])/\SGV w' v l)/\Below w.heap.size w w':=by
 obtain ⟨i0,hi,hz0,hz1,hz2⟩:=info_parts info_sgm
 have lt:∀ {k:Nat} {o:Obj} {ww:World},ww.heap[k]?=some o->k<ww.heap.size:=fun e=>(lO e)
 have HC:=hide hc
 have hn1:=hc.n1
 have hn2:=hc.n2
 have HR0:Hid (Calls Tryz.prog 37 #[.slice a len cap,.int .i64 0] w fun e w'=>e=.returned (.tuple #[.int .i64 (l.length:Int),.int .i64 ((enc l.length++enB (l.take 0)).length:Int),.int .i64 0])/\w'=w):=by
  have h9:=aG8 (pre:=[]) (n:=l.length) (rest:=enB l) h (by omega)
  have e9:enB (l.take 0)=[]:=rfl
  rw [e9,List.append_nil]
  exact h9
 have HLN:Hid (len=(enc l.length++enB (l.take l.length)).length):=by
  show len=_
  rw [List.take_length]
  exact h.hlen.symm
 have HBS:=hide h
 have HST:=hide hc.stl
 have HSP:Hid (∀ j s,l[j]?=some s->enC l=(enc l.length++enB (l.take j))++(enS s++enB (l.drop (j+1)))):=fun j s hs=>enC_split hs
 have HNL:Hid (∀ j s,l[j]?=some s->enB (l.take (j+1))=enB (l.take j)++enS s):=fun j s hs=>aE7 hs
 have HLL:Hid (l.length=l.length):=rfl
 generalize hn:l.length=n at *
 clear h hc
 go_enter Tryz.func21,Tryz.ntmps21
 go_wp2_with fail
 refine HR0.out.mono ?_
 rintro e w0 ⟨rfl,hw⟩
 have hw:=hw.symm
 subst hw
 have d1:decide ((n:Int)<1)=false:=decide_eq_false (by omega)
 have d2:decide ((17:Int)<(n:Int))=false:=decide_eq_false (by omega)
 clear HR0 HLL
 generalize hp0:(enc n++enB (l.take 0)).length=q0 at *
 go_wp2_with (refine wpList_make_full w rfl _ _ 28 rfl w.heap.size 54 i0 (.agg #[.int .i64 0,.int .i64 0,.int .i64 0,.int .i64 0]) 4 Tryz.underlying28 hi hz0 hz1 .i64 .i64 n n n rfl rfl rfl rfl (by rw [hz2];omega) (by unfold maxLen;omega) (nR _) ?_;intro w1 ho1 hg1;have HO1:=hide (made_all ho1);have HG1:=hide ((Below.refl w.heap.size w).grown hg1 (nR _) (fun k hk=>by cases hk));clear ho1 hg1)
 generalize hg0:w.heap.size=g at *
 go_loopw [5,8,32] (fun s5 s8 s32 wx=>∃ j:Nat,j<=n/\s5=.int .i64 ((enc n++enB (l.take j)).length:Int)/\s8=.int .i64 (stA l j)/\s32=.int .i64 (j:Int)/\∃ cs,wx.heap[g]?=some (.cells cs 54 (0,0))/\cs.size=n*4/\(∀ (i:Nat) s,i<j->l[i]?=some s->cs[i*4]?=some (.int .i64 s.lg)/\cs[i*4+1]?=some (.int .i64 s.st)/\cs[i*4+2]?=some (.int .i64 s.en)/\cs[i*4+3]?=some (.int .i64 s.ow))/\Below g w wx) (fun _ _ i _=>n-(intOf i).toNat)
 case atStart =>
  obtain ⟨cs,k1,k2,_⟩:=HO1.out
  exact ⟨0,by omega,by rw [hp0],rfl,rfl,cs,k1,k2,fun i s hi=>absurd hi (by omega),HG1.out⟩
 case round =>
  obtain ⟨j,hj,rfl,rfl,rfl,cs,hd,hcs,hq,hbx⟩:=hrel
  have HD:=hide hd
  have HCS:=hide hcs
  have HQ:=hide hq
  have HBX:=hide hbx
  clear hd hcs hq hbx HO1 HG1
  by_cases hjn:j<n
  ·have i1:(j:Int)<(n:Int):=by omega
   have i2:(0:Int)<=(j:Int):=by omega
   have i3:(j:Int)<1000:=by omega
   have i4:(n:Int)<1000:=by omega
   obtain ⟨s,hs⟩:∃ s,l[j]?=some s:=⟨_,gE (by omega)⟩
   have hnum:=HC.out.num hs
   have hel:=HC.out.el j s hs
   have hst:=HC.out.st hs
   have HMID:Hid (j+1<n->s.st<=s.en/\s.en<=4611686018427387904/\0<=s.en):=fun h9=>HC.out.mid hs (by omega)
   have HLST:Hid (¬ j+1<n->s.en=-1):=fun h9=>HC.out.lst hs (by omega)
   have HES:Hid (stA l (j+1)=s.en):=aE0 hs
   have HSPJ:=hide (HSP.out j s hs)
   have HNLJ:=hide (HNL.out j s hs)
   have HENS:Hid (enS s=enc s.ow.toNat++(if s.en=-1 then [] else enc (s.en-s.st).toNat)):=rfl
   have HSJ:=hide hs
   obtain ⟨slg,sst,sen,sow⟩:=s
   obtain ⟨f1,f2,f3,f4,f5⟩:=hel
   replace f1:slg=(j:Int):=f1
   replace hst:sst=stA l j:=hst
   obtain ⟨on,hon⟩:=Int.eq_ofNat_of_zero_le f2
   replace hon:sow=(on:Int):=hon
   subst hon f1
   rw [<-hst]
   have HON:Hid (on<9223372036854775808):=by show on<_;have h9:((on:Int)).toNat<9223372036854775808:=hnum.1;omega
   have HF4:Hid (0<=sst/\sst<=4611686018427387904):=⟨f4,f5⟩
   have HBSJ:Hid (BS wr a len cap (enC l)):=HBS.out.later (by rw [hg0];exact HBX.out) (nR _)
   clear f2 f3 f4 f5 hnum hst hs
   generalize hX:enc n++enB (l.take j)=X at *
   by_cases hl:j+1<n
   ·obtain ⟨m1,m2,m3⟩:=HMID.out hl
    replace m1:sst<=sen:=m1
    replace m2:sen<=4611686018427387904:=m2
    replace m3:0<=sen:=m3
    obtain ⟨dn,hdn⟩:=Int.eq_ofNat_of_zero_le (show 0<=sen-sst by omega)
    have HDN:Hid (dn<9223372036854775808):=by show dn<_;have:=HF4.out;omega
    have hen:enS ⟨(j:Int),sst,sen,(on:Int)⟩=enc on++enc dn:=by
     rw [HENS.out,if_neg (show ¬ sen=-1 by omega)]
     show enc ((on:Int)).toNat++enc (sen-sst).toNat=_
     rw [hdn]
     rfl
    have HPS:Hid ((enc n++enB (l.take (j+1))).length=(X++enc on++enc dn).length):=by
     show _=_
     rw [HNLJ.out,<-List.append_assoc,hX,hen,List.append_assoc]
    have HSG:=hide (seg_more (w:=wr) (pre:=X) (o:=on) (d:=dn) (rest:=enB (l.drop (j+1))) (a:=a) (len:=len) (cap:=cap) (by have h9:=HBSJ.out;rw [HSPJ.out,hen,List.append_assoc] at h9;exact h9) HON.out HDN.out)
    have k1b:((j:Int) == (n:Int)-1)=false:=by simp;omega
    have k2:¬ (dn:Int)=-1:=by omega
    have k3:IntKind.i64.wrap ((dn:Int)+sst)=sen:=by rw [wrap_small _ (by have:=HF4.out;omega) (by have:=HF4.out;omega)];omega
    clear m1 m2 m3 hdn hen
    generalize (X++enc on++enc dn).length=p2 at *
    generalize X.length=p1 at *
    have HHX:=hide (And.intro hX (And.intro hn (And.intro hg0 hp0)))
    clear hX hn hg0 hp0 HDN
    generalize (dn:Int)=dz at *
    go_wp2_with fail
    refine HSG.out.mono ?_
    rintro e w3 ⟨rfl,hb3⟩
    have HDW:Hid (w3.heap[g]?=_):=(hb3.block g (lt HD.out)).trans HD.out
    have HBW:Hid (Below g w w3):=HBX.out.trans (hb3.mono (by have:=lt HD.out;omega))
    clear hb3 HSG
    have HBA:=hide (aAc w3 (.cells #[.int .i64 (j:Int),.int .i64 sst,.int .i64 sen,.int .i64 (on:Int)] 54))
    have HAN:Hid ((w3.alloc (.cells #[.int .i64 (j:Int),.int .i64 sst,.int .i64 sen,.int .i64 (on:Int)] 54)).heap[w3.heap.size]?=some (.cells #[.int .i64 (j:Int),.int .i64 sst,.int .i64 sen,.int .i64 (on:Int)] 54 (0,0))):=heap_alloc_new w3 _
    have HD3:Hid ((w3.alloc (.cells #[.int .i64 (j:Int),.int .i64 sst,.int .i64 sen,.int .i64 (on:Int)] 54)).heap[g]?=some (.cells cs 54 (0,0))):=(HBA.out.block g (lt HDW.out)).trans HDW.out
    have HB4:Hid (Below g w (w3.alloc (.cells #[.int .i64 (j:Int),.int .i64 sst,.int .i64 sen,.int .i64 (on:Int)] 54))):=HBW.out.trans (HBA.out.mono (by have:=lt HDW.out;omega))
    have HGN:Hid (g<w3.heap.size):=lt HDW.out
    go_upto_region 17 with fail
    generalize w3.alloc (.cells #[.int .i64 (j:Int),.int .i64 sst,.int .i64 sen,.int .i64 (on:Int)] 54)=x3 at *
    generalize w3.heap.size=n3 at *
    have HX17:Hid ((fun wx=>wx.cell? ⟨n3,0,none⟩=some (.int .i64 (j:Int))/\wx.cell? ⟨n3,1,none⟩=some (.int .i64 sst)/\wx.cell? ⟨n3,2,none⟩=some (.int .i64 sen)/\wx.cell? ⟨n3,3,none⟩=some (.int .i64 (on:Int))) x3.drew):=⟨aAa (show x3.drew.heap[n3]?=_ from HAN.out),aAa (show x3.drew.heap[n3]?=_ from HAN.out),aAa (show x3.drew.heap[n3]?=_ from HAN.out),aAa (show x3.drew.heap[n3]?=_ from HAN.out)⟩
    have hj4:j*4+4<=cs.size:=by rw [HCS.out];omega
    refine wp_region_noPanic ?_
    refine wp_region_held_drew (S:=fun wx=>wx.cell? ⟨n3,0,none⟩=some (.int .i64 (j:Int))/\wx.cell? ⟨n3,1,none⟩=some (.int .i64 sst)/\wx.cell? ⟨n3,2,none⟩=some (.int .i64 sen)/\wx.cell? ⟨n3,3,none⟩=some (.int .i64 (on:Int))) (by kernel_rfl) HX17.out (fun hHeld=>?_)
    refine wpAnyH_tk 0 61 ?_
    refine wpAnyH_tk 1 62 ?_
    refine wpAnyH_tk 2 63 ?_
    refine wpAnyH_tk 3 64 ?_
    refine wpAnyH_tk 4 65 ?_
    refine wpAnyH_tk 5 66 ?_
    refine wpAnyH_tk 6 67 ?_
    have e0:x3.cell? ⟨g,j*4,none⟩=some (cs[j*4]'(by omega)):=(aAa HD3.out).trans (Array.getElem?_eq_getElem _)
    have ef0:x3.frozen? ⟨g,j*4,none⟩=false:=aAb HD3.out
    have e1:x3.cell? ⟨g,j*4+1,none⟩=some (cs[j*4+1]'(by omega)):=(aAa HD3.out).trans (Array.getElem?_eq_getElem _)
    have ef1:x3.frozen? ⟨g,j*4+1,none⟩=false:=aAb HD3.out
    have e2:x3.cell? ⟨g,j*4+2,none⟩=some (cs[j*4+2]'(by omega)):=(aAa HD3.out).trans (Array.getElem?_eq_getElem _)
    have ef2:x3.frozen? ⟨g,j*4+2,none⟩=false:=aAb HD3.out
    have e3:x3.cell? ⟨g,j*4+3,none⟩=some (cs[j*4+3]'(by omega)):=(aAa HD3.out).trans (Array.getElem?_eq_getElem _)
    have ef3:x3.frozen? ⟨g,j*4+3,none⟩=false:=aAb HD3.out
    generalize cs[j*4]'(by omega)=k0 at e0
    generalize cs[j*4+1]'(by omega)=k1 at e1
    generalize cs[j*4+2]'(by omega)=k2 at e2
    generalize cs[j*4+3]'(by omega)=k3 at e3
    refine wpAnyH_cm 7 ?_;intro K hK
    go_simp
    have hh18:((((((x3.setCell ⟨g,j*4,none⟩ (.int .i64 (j:Int))).setCell ⟨g,j*4+1,none⟩ (.int .i64 sst)).setCell ⟨g,j*4+2,none⟩ (.int .i64 sen)).setCell ⟨g,j*4+3,none⟩ (.int .i64 (on:Int)))).drew).heap[n3]?=some (.cells #[.int .i64 (j:Int),.int .i64 sst,.int .i64 sen,.int .i64 (on:Int)] 54 (0,0)):=(oth4o (w:=x3) (by have:=HGN.out;omega)).trans HAN.out
    have HX18:Hid ((fun wx=>wx.cell? ⟨n3,0,none⟩=some (.int .i64 (j:Int))/\wx.cell? ⟨n3,1,none⟩=some (.int .i64 sst)/\wx.cell? ⟨n3,2,none⟩=some (.int .i64 sen)/\wx.cell? ⟨n3,3,none⟩=some (.int .i64 (on:Int))) ((((((x3.setCell ⟨g,j*4,none⟩ (.int .i64 (j:Int))).setCell ⟨g,j*4+1,none⟩ (.int .i64 sst)).setCell ⟨g,j*4+2,none⟩ (.int .i64 sen)).setCell ⟨g,j*4+3,none⟩ (.int .i64 (on:Int)))).drew)):=⟨aAa hh18,aAa hh18,aAa hh18,aAa hh18⟩
    refine hK.out _ _ HX18.out (fun hHeld=>?_)
    clear hK K
    try simp only [Act.put,siT,scZ,scS]
    refine wpAnyH_tk 8 8 ?_
    refine wpAnyH_tk 9 5 ?_
    refine wpAnyH_done (by kernel_rfl) ?_ _
    refine NoPanic.normal ?_
    clear hHeld
    have HD5:Hid (((((((x3.setCell ⟨g,j*4,none⟩ (.int .i64 (j:Int))).setCell ⟨g,j*4+1,none⟩ (.int .i64 sst)).setCell ⟨g,j*4+2,none⟩ (.int .i64 sen)).setCell ⟨g,j*4+3,none⟩ (.int .i64 (on:Int)))).drew).heap[g]?=_):=set4o (w:=x3) HD3.out
    have HB5:Hid (Below g w ((((((x3.setCell ⟨g,j*4,none⟩ (.int .i64 (j:Int))).setCell ⟨g,j*4+1,none⟩ (.int .i64 sst)).setCell ⟨g,j*4+2,none⟩ (.int .i64 sen)).setCell ⟨g,j*4+3,none⟩ (.int .i64 (on:Int)))).drew)):=(bel4o HB4.out (nR g)).trans ((Below.refl g _).drew)
    have HQ5:Hid (∀ (i:Nat) s,i<j+1->l[i]?=some s->((((cs.setIfInBounds (j*4) (.int .i64 (j:Int))).setIfInBounds (j*4+1) (.int .i64 sst)).setIfInBounds (j*4+2) (.int .i64 sen)).setIfInBounds (j*4+3) (.int .i64 (on:Int)))[i*4]?=some (.int .i64 s.lg)/\((((cs.setIfInBounds (j*4) (.int .i64 (j:Int))).setIfInBounds (j*4+1) (.int .i64 sst)).setIfInBounds (j*4+2) (.int .i64 sen)).setIfInBounds (j*4+3) (.int .i64 (on:Int)))[i*4+1]?=some (.int .i64 s.st)/\((((cs.setIfInBounds (j*4) (.int .i64 (j:Int))).setIfInBounds (j*4+1) (.int .i64 sst)).setIfInBounds (j*4+2) (.int .i64 sen)).setIfInBounds (j*4+3) (.int .i64 (on:Int)))[i*4+2]?=some (.int .i64 s.en)/\((((cs.setIfInBounds (j*4) (.int .i64 (j:Int))).setIfInBounds (j*4+1) (.int .i64 sst)).setIfInBounds (j*4+2) (.int .i64 sen)).setIfInBounds (j*4+3) (.int .i64 (on:Int)))[i*4+3]?=some (.int .i64 s.ow)):=fun i s hi hsi=>by
     by_cases hij:i=j
     ·subst hij
      rw [HSJ.out] at hsi
      cases hsi
      exact ⟨at4o0 hj4,at4o1 hj4,at4o2 hj4,at4o3 hj4⟩
     ·obtain ⟨b0,b1,b2,b3⟩:=HQ.out i s (by omega) hsi
      refine ⟨?_,?_,?_,?_⟩<;>rw [at4o (by omega)]<;>assumption
    clear e0 ef0 e1 ef1 e2 ef2 e3 ef3
    generalize (((((x3.setCell ⟨g,j*4,none⟩ (.int .i64 (j:Int))).setCell ⟨g,j*4+1,none⟩ (.int .i64 sst)).setCell ⟨g,j*4+2,none⟩ (.int .i64 sen)).setCell ⟨g,j*4+3,none⟩ (.int .i64 (on:Int)))).drew=w6 at *
    go_wp2_with fail
    go_roundw
    case rel=>exact ⟨j+1,by omega,by rw [HPS.out],by rw [HES.out],by go_num,_,HD5.out,by simp only [Array.size_setIfInBounds];exact HCS.out,HQ5.out,HB5.out⟩
    case measure=>simp [intOf];omega
   ·have hse:sen=-1:=HLST.out hl
    subst hse
    have hen:enS ⟨(j:Int),sst,-1,(on:Int)⟩=enc on:=by
     rw [HENS.out,if_pos rfl,List.append_nil]
     rfl
    have HPS:Hid ((enc n++enB (l.take (j+1))).length=(X++enc on).length):=by
     show _=_
     rw [HNLJ.out,<-List.append_assoc,hX,hen]
    have HSG:=hide (seg_last (w:=wr) (pre:=X) (o:=on) (rest:=enB (l.drop (j+1))) (a:=a) (len:=len) (cap:=cap) (by have h9:=HBSJ.out;rw [HSPJ.out,hen] at h9;exact h9) HON.out)
    have k1:(j:Int)=(n:Int)-1:=by omega
    clear hen
    generalize (X++enc on).length=p2 at *
    generalize X.length=p1 at *
    have k1b:((j:Int) == (n:Int)-1)=true:=by simp;omega
    clear k1
    have HHX:=hide (And.intro hX (And.intro hn (And.intro hg0 hp0)))
    clear hX hn hg0 hp0
    go_wp2_with fail
    refine HSG.out.mono ?_
    rintro e w3 ⟨rfl,hb3⟩
    have HDW:Hid (w3.heap[g]?=_):=(hb3.block g (lt HD.out)).trans HD.out
    have HBW:Hid (Below g w w3):=HBX.out.trans (hb3.mono (by have:=lt HD.out;omega))
    clear hb3 HSG
    have HBA:=hide (aAc w3 (.cells #[.int .i64 (j:Int),.int .i64 sst,.int .i64 (-1),.int .i64 (on:Int)] 54))
    have HAN:Hid ((w3.alloc (.cells #[.int .i64 (j:Int),.int .i64 sst,.int .i64 (-1),.int .i64 (on:Int)] 54)).heap[w3.heap.size]?=some (.cells #[.int .i64 (j:Int),.int .i64 sst,.int .i64 (-1),.int .i64 (on:Int)] 54 (0,0))):=heap_alloc_new w3 _
    have HD3:Hid ((w3.alloc (.cells #[.int .i64 (j:Int),.int .i64 sst,.int .i64 (-1),.int .i64 (on:Int)] 54)).heap[g]?=some (.cells cs 54 (0,0))):=(HBA.out.block g (lt HDW.out)).trans HDW.out
    have HB4:Hid (Below g w (w3.alloc (.cells #[.int .i64 (j:Int),.int .i64 sst,.int .i64 (-1),.int .i64 (on:Int)] 54))):=HBW.out.trans (HBA.out.mono (by have:=lt HDW.out;omega))
    have HGN:Hid (g<w3.heap.size):=lt HDW.out
    go_upto_region 17 with fail
    generalize w3.alloc (.cells #[.int .i64 (j:Int),.int .i64 sst,.int .i64 (-1),.int .i64 (on:Int)] 54)=x3 at *
    generalize w3.heap.size=n3 at *
    have HX17:Hid ((fun wx=>wx.cell? ⟨n3,0,none⟩=some (.int .i64 (j:Int))/\wx.cell? ⟨n3,1,none⟩=some (.int .i64 sst)/\wx.cell? ⟨n3,2,none⟩=some (.int .i64 (-1))/\wx.cell? ⟨n3,3,none⟩=some (.int .i64 (on:Int))) x3.drew):=⟨aAa (show x3.drew.heap[n3]?=_ from HAN.out),aAa (show x3.drew.heap[n3]?=_ from HAN.out),aAa (show x3.drew.heap[n3]?=_ from HAN.out),aAa (show x3.drew.heap[n3]?=_ from HAN.out)⟩
    have hj4:j*4+4<=cs.size:=by rw [HCS.out];omega
    refine wp_region_noPanic ?_
    refine wp_region_held_drew (S:=fun wx=>wx.cell? ⟨n3,0,none⟩=some (.int .i64 (j:Int))/\wx.cell? ⟨n3,1,none⟩=some (.int .i64 sst)/\wx.cell? ⟨n3,2,none⟩=some (.int .i64 (-1))/\wx.cell? ⟨n3,3,none⟩=some (.int .i64 (on:Int))) (by kernel_rfl) HX17.out (fun hHeld=>?_)
    refine wpAnyH_tk 0 61 ?_
    refine wpAnyH_tk 1 62 ?_
    refine wpAnyH_tk 2 63 ?_
    refine wpAnyH_tk 3 64 ?_
    refine wpAnyH_tk 4 65 ?_
    refine wpAnyH_tk 5 66 ?_
    refine wpAnyH_tk 6 67 ?_
    have e0:x3.cell? ⟨g,j*4,none⟩=some (cs[j*4]'(by omega)):=(aAa HD3.out).trans (Array.getElem?_eq_getElem _)
    have ef0:x3.frozen? ⟨g,j*4,none⟩=false:=aAb HD3.out
    have e1:x3.cell? ⟨g,j*4+1,none⟩=some (cs[j*4+1]'(by omega)):=(aAa HD3.out).trans (Array.getElem?_eq_getElem _)
    have ef1:x3.frozen? ⟨g,j*4+1,none⟩=false:=aAb HD3.out
    have e2:x3.cell? ⟨g,j*4+2,none⟩=some (cs[j*4+2]'(by omega)):=(aAa HD3.out).trans (Array.getElem?_eq_getElem _)
    have ef2:x3.frozen? ⟨g,j*4+2,none⟩=false:=aAb HD3.out
    have e3:x3.cell? ⟨g,j*4+3,none⟩=some (cs[j*4+3]'(by omega)):=(aAa HD3.out).trans (Array.getElem?_eq_getElem _)
    have ef3:x3.frozen? ⟨g,j*4+3,none⟩=false:=aAb HD3.out
    generalize cs[j*4]'(by omega)=k0 at e0
    generalize cs[j*4+1]'(by omega)=k1 at e1
    generalize cs[j*4+2]'(by omega)=k2 at e2
    generalize cs[j*4+3]'(by omega)=k3 at e3
    refine wpAnyH_cm 7 ?_;intro K hK
    go_simp
    have hh18:((((((x3.setCell ⟨g,j*4,none⟩ (.int .i64 (j:Int))).setCell ⟨g,j*4+1,none⟩ (.int .i64 sst)).setCell ⟨g,j*4+2,none⟩ (.int .i64 (-1))).setCell ⟨g,j*4+3,none⟩ (.int .i64 (on:Int)))).drew).heap[n3]?=some (.cells #[.int .i64 (j:Int),.int .i64 sst,.int .i64 (-1),.int .i64 (on:Int)] 54 (0,0)):=(oth4o (w:=x3) (by have:=HGN.out;omega)).trans HAN.out
    have HX18:Hid ((fun wx=>wx.cell? ⟨n3,0,none⟩=some (.int .i64 (j:Int))/\wx.cell? ⟨n3,1,none⟩=some (.int .i64 sst)/\wx.cell? ⟨n3,2,none⟩=some (.int .i64 (-1))/\wx.cell? ⟨n3,3,none⟩=some (.int .i64 (on:Int))) ((((((x3.setCell ⟨g,j*4,none⟩ (.int .i64 (j:Int))).setCell ⟨g,j*4+1,none⟩ (.int .i64 sst)).setCell ⟨g,j*4+2,none⟩ (.int .i64 (-1))).setCell ⟨g,j*4+3,none⟩ (.int .i64 (on:Int)))).drew)):=⟨aAa hh18,aAa hh18,aAa hh18,aAa hh18⟩
    refine hK.out _ _ HX18.out (fun hHeld=>?_)
    clear hK K
    try simp only [Act.put,siT,scZ,scS]
    refine wpAnyH_tk 8 8 ?_
    refine wpAnyH_tk 9 5 ?_
    refine wpAnyH_done (by kernel_rfl) ?_ _
    refine NoPanic.normal ?_
    clear hHeld
    have HD5:Hid (((((((x3.setCell ⟨g,j*4,none⟩ (.int .i64 (j:Int))).setCell ⟨g,j*4+1,none⟩ (.int .i64 sst)).setCell ⟨g,j*4+2,none⟩ (.int .i64 (-1))).setCell ⟨g,j*4+3,none⟩ (.int .i64 (on:Int)))).drew).heap[g]?=_):=set4o (w:=x3) HD3.out
    have HB5:Hid (Below g w ((((((x3.setCell ⟨g,j*4,none⟩ (.int .i64 (j:Int))).setCell ⟨g,j*4+1,none⟩ (.int .i64 sst)).setCell ⟨g,j*4+2,none⟩ (.int .i64 (-1))).setCell ⟨g,j*4+3,none⟩ (.int .i64 (on:Int)))).drew)):=(bel4o HB4.out (nR g)).trans ((Below.refl g _).drew)
    have HQ5:Hid (∀ (i:Nat) s,i<j+1->l[i]?=some s->((((cs.setIfInBounds (j*4) (.int .i64 (j:Int))).setIfInBounds (j*4+1) (.int .i64 sst)).setIfInBounds (j*4+2) (.int .i64 (-1))).setIfInBounds (j*4+3) (.int .i64 (on:Int)))[i*4]?=some (.int .i64 s.lg)/\((((cs.setIfInBounds (j*4) (.int .i64 (j:Int))).setIfInBounds (j*4+1) (.int .i64 sst)).setIfInBounds (j*4+2) (.int .i64 (-1))).setIfInBounds (j*4+3) (.int .i64 (on:Int)))[i*4+1]?=some (.int .i64 s.st)/\((((cs.setIfInBounds (j*4) (.int .i64 (j:Int))).setIfInBounds (j*4+1) (.int .i64 sst)).setIfInBounds (j*4+2) (.int .i64 (-1))).setIfInBounds (j*4+3) (.int .i64 (on:Int)))[i*4+2]?=some (.int .i64 s.en)/\((((cs.setIfInBounds (j*4) (.int .i64 (j:Int))).setIfInBounds (j*4+1) (.int .i64 sst)).setIfInBounds (j*4+2) (.int .i64 (-1))).setIfInBounds (j*4+3) (.int .i64 (on:Int)))[i*4+3]?=some (.int .i64 s.ow)):=fun i s hi hsi=>by
     by_cases hij:i=j
     ·subst hij
      rw [HSJ.out] at hsi
      cases hsi
      exact ⟨at4o0 hj4,at4o1 hj4,at4o2 hj4,at4o3 hj4⟩
     ·obtain ⟨b0,b1,b2,b3⟩:=HQ.out i s (by omega) hsi
      refine ⟨?_,?_,?_,?_⟩<;>rw [at4o (by omega)]<;>assumption
    clear e0 ef0 e1 ef1 e2 ef2 e3 ef3
    generalize (((((x3.setCell ⟨g,j*4,none⟩ (.int .i64 (j:Int))).setCell ⟨g,j*4+1,none⟩ (.int .i64 sst)).setCell ⟨g,j*4+2,none⟩ (.int .i64 (-1))).setCell ⟨g,j*4+3,none⟩ (.int .i64 (on:Int)))).drew=w6 at *
    go_wp2_with fail
    go_roundw
    case rel=>exact ⟨j+1,by omega,by rw [HPS.out],by rw [HES.out],by go_num,_,HD5.out,by simp only [Array.size_setIfInBounds];exact HCS.out,HQ5.out,HB5.out⟩
    case measure=>simp [intOf];omega
  ·have i1:¬ (j:Int)<(n:Int):=by omega
   have e:j=n:=by omega
   subst e
   rw [<-HLN.out]
   have HSV:Hid (SGV wr (.slice (some ⟨g,0,none⟩) j j) l):=by
    refine ⟨g,j,cs,by rw [hn],by omega,by omega,HD.out,fun i s hs=>HQ.out i s (by have:=(lL hs);omega) hs⟩
   have HRI:=hide (aG7 HSV.out HC.out)
   have i5:¬ (len:Int)<(len:Int):=by omega
   go_wp2_with fail
   refine HRI.out.mono ?_
   rintro e w9 ⟨rfl,hb9⟩
   have HS9:=hide (HSV.out.later hb9)
   have HB9:Hid (Below g w w9):=HBX.out.trans (hb9.mono (by have:=lt HD.out;omega))
   clear hb9 HRI HSV
   go_wp2
   go_ret2
   exact ⟨⟨_,rfl,HS9.out⟩,by rw [hg0];exact HB9.out⟩
section
variable {B N M nt gh:Nat} {P:Nat->NdP} {A:Nat->NdS} {E:Nat->Prop} {wv:Value} {F:List Int} {l:List LR} {W w w':World}
theorem MND.gain (h:MND B N M P A E W w) (T:Nat->Prop) (hT:∀ k,T k->∃ cs t fz,w.heap[k]?=some (Obj.cells cs t fz)/\¬ DTy t/\t≠5/\t≠183/\t≠130/\t≠115/\t≠135) (hs:∀ k,k<w.heap.size->¬ T k->w'.heap[k]?=w.heap[k]?) (hb:Below B w w') {g:Nat} (hg:w.heap.size<=g) (hf:FBk w' g):MND B N M P A (fun k=>k=g) W w':=by
 obtain ⟨F,⟨k1,hE⟩,k2⟩:=h
 have h1:MND B N M P A E W w':=MND.oth ⟨F,⟨k1,hE⟩,k2⟩ T hT hs hb
 have nt:∀ {k:Nat},FBk w k->¬ T k:=fun hf hk=>by
  obtain ⟨cs,t,fz,e,h0,_⟩:=hT _ hk
  exact hf.ne e h0 rfl
 have st:∀ {k:Nat} {cs:Array Value} {t:TypeId} {fz:Nat×Nat},w.heap[k]?=some (Obj.cells cs t fz)->(t=5\/t=183\/t=130\/t=115\/t=135)->w'.heap[k]?=w.heap[k]?:=fun e ht=>by
  refine hs _ (lO e) (fun hk=>?_)
  obtain ⟨cs,t,fz,e',_,h1,h2,h3,h4,h5⟩:=hT _ hk
  rw [e] at e'
  simp only [oI,cI] at e'
  rcases ht with q | q | q | q | q
  ·exact h1 (e'.2.1.symm.trans q)
  ·exact h2 (e'.2.1.symm.trans q)
  ·exact h3 (e'.2.1.symm.trans q)
  ·exact h4 (e'.2.1.symm.trans q)
  ·exact h5 (e'.2.1.symm.trans q)
 refine ⟨F,⟨fun i hi=>?_,fun k hk=>?_⟩,k2⟩
 ·obtain ⟨⟨d1,⟨c1,d2⟩,⟨c2,d3⟩,⟨c3,d4⟩⟩,⟨_,c5,d5,_⟩,_⟩:=k1 i hi
  exact (k1 i hi).keep (fun k hk=>hs k (d1 k hk).lt (nt (d1 k hk))) (fun k cs fz e=>(st e (Or.inl rfl)).trans e) (st d2 (by simp)) (st d3 (by simp)) (st d4 (by simp)) hb (st d5 (by simp))
 ·subst hk
  exact ⟨hf,fun i hi hk=>by have:=((k1 i hi).1.1 k hk).lt;omega⟩
theorem ntT {lv:Value} (h1:NTM w nt gh M wv lv):∀ k,k=nt->∃ cs t fz,w.heap[k]?=some (Obj.cells cs t fz)/\¬ DTy t/\t≠5/\t≠183/\t≠130/\t≠115/\t≠135:=fun k hk=>by
 subst hk
 exact ⟨_,_,_,h1,by unfold DTy;decide,by decide,by decide,by decide,by decide,by decide⟩
theorem NSw.ahead (h:NSw B N M nt gh P A wv F l W w):Calls Tryz.prog 9 #[.pointer (some ⟨nt,0,none⟩)] w fun e w'=>e=.returned (.int .i64 (F.length:Int))/\w'=w:=by
 obtain ⟨lv,h1,h2⟩:=h.n
 obtain ⟨a,c,rfl,_⟩:=h.f
 exact ahead_any h1
end
end Go.Proofs.YtdfjjhlhnfindaaGreat
