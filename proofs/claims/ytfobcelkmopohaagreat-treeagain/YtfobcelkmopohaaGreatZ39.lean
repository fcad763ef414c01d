import Derived.Test.YtfobcelkmopohaaGreatZ38
set_option maxRecDepth 100000
set_option maxHeartbeats 16000000
set_option linter.unusedVariables false
namespace Go.Proofs.YtfobcelkmopohaaGreat
open Go.RowKit
def rsJ (l:List It) (cs:List (List It)) (lo:List Nat) (j:Nat):List It:=if j<=l.length then (if j=fndI l lo/\hasI l lo=true then [] else frm (cs.getD j []) lo)++rstB l cs j else []
section
variable {l:List It} {cs:List (List It)} {lo:List Nat}
theorem rsJ_at {j:Nat} (hj:j<=l.length):rsJ l cs lo j=(if j=fndI l lo/\hasI l lo=true then [] else frm (cs.getD j []) lo)++rstB l cs j:=if_pos hj
theorem rsJ_end {j:Nat} (hj:l.length<j):rsJ l cs lo j=[]:=if_neg (by omega)
theorem rsJ_start (hs:Srt (weave l cs)) (hl:cs.length=l.length+1):frm (weave l cs) lo=rsJ l cs lo (fndI l lo):=by
 have hle:=aA1 l lo
 obtain ⟨c,hc⟩:∃ c,cs[fndI l lo]?=some c:=⟨_,gE (by omega)⟩
 rw [frm_weave hs hl hc,rsJ_at hle,List.getD_eq_getElem?_getD,hc]
 by_cases hh:hasI l lo=true
 ·rw [if_pos hh,if_pos ⟨rfl,hh⟩];rfl
 ·rw [if_neg hh,if_neg (fun q=>hh q.2)];rfl
theorem aHs (hs:Srt (weave l cs)) (hl:cs.length=l.length+1) {j:Nat} {x:It} (hj:fndI l lo<=j) (hx:l[j]?=some x):rstB l cs j=[x]++rsJ l cs lo (j+1):=by
 have hjl:=(lL hx)
 obtain ⟨c,hc⟩:∃ c,cs[j+1]?=some c:=⟨_,gE (by omega)⟩
 rw [rsJ_at (by omega),if_neg (by omega),List.getD_eq_getElem?_getD,hc,Option.getD_some,frm_kid hs hl (show fndI l lo<j+1 by omega) hc]
 unfold rstB
 rw [aDr hx hc]
 rfl
theorem rst_end {j:Nat} (hj:l.length<=j):rstB l cs j=[]:=wvR_end hj
end
def LkC [Gd] (B p q r:Nat) (s:DS) (t:PS) (B1:Nat) (w0:World) (lv hv:Value) (lo hi:List Nat) (most:Nat) (h:Nat):Prop :=
 ∀ (w:World) (b:BT h) (F:List It),Below B1 w0 w->OnD s t h b->Srt (flB h b)->SpV B B1 w r lv hv lo hi most F->F.length<most ->
  Calls Tryz.prog 61 #[.pointer (some ⟨r,0,none⟩),.pointer (some ⟨q,0,none⟩),.int .i64 (BT.id b:Int),.int .i64 ((h:Int)+1)] w fun e w'=>TkR B B1 w r lv hv lo hi most F (frm (flB h b) lo) e w'
theorem look_branch [Gd] {B p q r h:Nat} {s:DS} {t:PS} {w0 w:World} {lv hv:Value} {lo hi:List Nat} {most:Nat} (hST:ST B p q s t w0) (hB:B<=w0.heap.size) (hlf:s.life=t.life) (hdn:s.down=false) (hb:Below w0.heap.size w0 w) (b:BT (h+1)) (hon:OnD s t (h+1) b) (hsr:Srt (flB (h+1) b)) (F:List It) (hsp:SpV B w0.heap.size w r lv hv lo hi most F) (hF:F.length<most) (hmo:most<100000) (hh:h<100000)
  (hIH:LkC B p q r s t w0.heap.size w0 lv hv lo hi most h) :
  Calls Tryz.prog 61 #[.pointer (some ⟨r,0,none⟩),.pointer (some ⟨q,0,none⟩),.int .i64 (b.1:Int),.int .i64 ((h:Int)+1+1)] w fun e w'=>TkR B w0.heap.size w r lv hv lo hi most F (frm (flB (h+1) b) lo) e w':=by
 obtain ⟨hpg,hit,hcl,hid,hkd⟩:=hon
 have hBw:=nT hB hb.size
 have hidl:(b.2.2.map BT.id).length=b.2.1.length+1:=by rw [List.length_map];exact hcl
 have HLD:=aBd b.1 (h+2) (by omega) (hST.later hb) hBw hlf hpg.lt (by rw [hpg.of];decide) hdn b.2.1 (b.2.2.map BT.id) hpg.pg hidl (by intro x hx;obtain ⟨k,hk,rfl⟩:=List.mem_map.1 hx;exact hid k hk) hit.n1 hit.n4 hit.ok hit.so hpg.ln hpg.bt
 rw [show (((h+2:Nat):Nat):Int)=(h:Int)+1+1 by omega] at HLD
 replace HLD:=zH HLD
 have HIT:=zH hit
 have HSP:=zH hsp
 have HB:=zH hB
 have HBw:=zH hBw
 have HS0:=zH hb.size
 have HB0:=zH hb
 have HIH:=zH hIH
 have hl4:=hit.n4
 have HF:=zH hF
 have HMO:=zH hmo
 obtain ⟨la,lc,hlv,hlb⟩:=hsp.klo
 subst hlv
 have HLB:=zH hlb
 have hcs:(b.2.2.map (flB h)).length=b.2.1.length+1:=by rw [List.length_map];exact hcl
 have HCS:=zH hcs
 have HSR:Hid (Srt (weave b.2.1 (b.2.2.map (flB h)))):=hsr
 have HST0:Hid (frm (flB (h+1) b) lo=rsJ b.2.1 (b.2.2.map (flB h)) lo (fndI b.2.1 lo)):=rsJ_start hsr hcs
 have HKD:=zH hkd
 have HKS:Hid (∀ k∈b.2.2,Srt (flB h k)):=fun k hk=>Srt.kid hsr hcs (List.mem_map_of_mem hk)
 have hfl:=aA1 b.2.1 lo
 have HHS:Hid (hasI b.2.1 lo=true->fndI b.2.1 lo<b.2.1.length):=fun q9=>by
  obtain ⟨x,hx,_⟩:=(hit.so.has lo).1 q9
  exact (lL hx)
 generalize flB (h+1) b=all at *
 clear hST hb hpg hit hsp hF hmo hlb hlf hdn hB hBw hsr hid hkd hcs hIH
 generalize hl:b.2.1=l at *
 generalize hLL:l.length=L at *
 generalize hFi:fndI l lo=Fi at *
 generalize hhb:hasI l lo=hb0 at *
 generalize hB1:w0.heap.size=B1 at *
 have hn2:(b.2.2.map BT.id).length=L+1:=hidl
 go_enter Tryz.func61,Tryz.ntmps61
 go_wp2_with fail
 refine HLD.o.mono ?_
 rintro e w1 ⟨v1,rfl,⟨gb,gi,gc,rfl,z1,z2,z5,z3,z4,z6⟩,hb1⟩
 rw [hLL,hn2] at z3
 have HIO:=zH (aAn z3)
 have HBw1:Hid (B<=w1.heap.size):=nT HBw.o hb1.size
 have HSP1:=zH (HSP.o.later hb1 HBw.o)
 have HLK1:Hid (LkF B1 w w1):=LkF.of hb1 HS0.o
 have HFN:Hid (∀ ww,Below w1.heap.size w1 ww->Calls Tryz.prog 78 #[.slice (some ⟨gi,0,none⟩) L L,.slice la lo.length lc] ww fun e w'=>e=.returned (.tuple #[.int .i64 (Fi:Int),.bool hb0])/\Below ww.heap.size ww w'):=fun ww hbb=>by
  have:=find_ok (z4.later hbb HBw1.o) (nT HBw1.o hbb.size) ((HLB.o.later (hb1.trans (hbb.mono hb1.size)) HBw.o).1) (by omega) HIT.o.so hLL
  rw [hFi,hhb] at this
  exact this
 have r0:w1.cell? ⟨r,0,none⟩=some (.slice la lo.length lc):=HSP1.o.cellsx.1
 have HZ4:=zH z4
 have HZ3:=zH z3
 have HZ6:=zH z6
 clear z3 z4 z6 hb1 HLD
 unfold brP at HIO
 go_wp2_with fail
 refine HIO.o.mono ?_
 rintro e w2 ⟨rfl,rfl⟩
 go_wp2_with fail
 refine (HFN.o _ (Below.refl _ _)).mono ?_
 rintro e w3 ⟨rfl,hb3⟩
 have ta:=aAk (.pointer (some ⟨gb,0,none⟩)) w3
 have HSP3:=zH (HSP1.o.later hb3 HBw1.o)
 have HS1:Hid (B1<=w2.heap.size):=nT HS0.o HLK1.o.1.size
 have HLK3:Hid (LkF B1 w w3):=HLK1.o.trans (LkF.of hb3 HS1.o)
 have HIR3:=zH (HZ4.o.later hb3 HBw1.o)
 have HGB3:=zH ((hb3.block gb (lO HZ3.o)).trans HZ3.o)
 have HGC3:=zH ((hb3.block gc (lO HZ6.o)).trans HZ6.o)
 have HS3:Hid (B1<=w3.heap.size):=nT HS1.o hb3.size
 have HB3:Hid (Below B1 w0 w3):=HB0.o.trans HLK3.o.1
 clear hb3 r0 HFN HIO HZ4 HZ3 HZ6
 go_wp2_with fail
 go_loopw [15] (fun i wx=>∃ j:Nat,Fi<=j/\j<=L+1/\i=.int .i64 j/\LkI B B1 w3 r (.slice la lo.length lc) hv lo hi most F (frm all lo) (rsJ l (b.2.2.map (flB h)) lo j) wx) (fun i _=>L+1-(intOf i).toNat)
 case atStart=>exact ⟨Fi,nR _,by omega,rfl,F,HF.o,by rw [HST0.o],HSP3.o,LkF.refl _ _⟩
 case round =>
  obtain ⟨j,hj0,hj,rfl,hP⟩:=hrel
  obtain ⟨Fj,hFj,hsc,hsp,hlk⟩:=hP
  have HFj:=zH hFj
  have HSC:=zH hsc
  have HSPj:=zH hsp
  have HLKj:=zH hlk
  have HLKw:=zH (HLK3.o.trans hlk)
  clear hFj hsc hsp hlk ta
  by_cases hjn:j<=L
  ·have x1:(j:Int)<=(L:Int):=by omega
   cases hb0 with
   | false =>
    obtain ⟨kb,hkb⟩:∃ kb,b.2.2[j]?=some kb:=⟨_,gE (by omega)⟩
    have hkm:=mG hkb
    have HKR:Hid (rsJ l (b.2.2.map (flB h)) lo j=frm (flB h kb) lo++rstB l (b.2.2.map (flB h)) j):=by
     show _=_
     rw [rsJ_at (by omega),if_neg (fun q9=>by rw [hhb] at q9;exact absurd q9.2 (by decide)),List.getD_eq_getElem?_getD,List.getElem?_map,hkb]
     rfl
    have hgb:=HLKj.o.2 _ _ _ _ HGB3.o (by decide) (by decide)
    have hgc:=HLKj.o.2 _ _ _ _ HGC3.o (by decide) (by decide)
    have g1:wr.cell? ⟨gb,1,none⟩=some (.slice (some ⟨gc,0,none⟩) (L+1) (L+1)):=aAa hgb
    have g2:wr.cell? ⟨gc,j,none⟩=some (.iface 92 (.int .i64 (BT.id kb:Int))):=by
     rw [aAa hgc,List.getElem?_toArray,List.getElem?_map,List.getElem?_map,hkb]
     rfl
    have g3:=aDb (.int .i64 (BT.id kb:Int)) wr
    have xl:(j:Int)<((L+1:Nat):Int):=by omega
    have HCL:=zH (HIH.o wr kb Fj (HB3.o.trans HLKj.o.1) (HKD.o kb hkm) (HKS.o kb hkm) HSPj.o HFj.o)
    clear hgb hgc hkm hkb
    go_wp2_with fail
    refine HCL.o.mono ?_
    rintro e w4 ⟨rfl,hsp4,hlk4⟩
    have HSPc:=zH hsp4
    have HLKc:=zH (HLKj.o.trans hlk4)
    have HLKwc:=zH (HLKw.o.trans hlk4)
    clear hsp4 hlk4 g1 g2 g3 HCL
    cases hsc1:(scan hi most Fj (frm (flB h kb) lo)).2 with
    | false =>
     have HSC1:=zH hsc1
     clear hsc1
     go_wp2
     (try simp only [Exit.inBlock,Exit.then])
     go_ret
     have hq:scan hi most F (frm all lo)=scan hi most Fj (frm (flB h kb) lo):=by rw [HSC.o,HKR.o,aCb HSC1.o]
     unfold TkR
     rw [hq,HSC1.o]
     exact ⟨rfl,HSPc.o,HLKwc.o⟩
    | true =>
     have HFc:Hid ((scan hi most Fj (frm (flB h kb) lo)).1.length<most):=(((aCl hi most (frm (flB h kb) lo) Fj).2 HFj.o).2 hsc1)
     have HSCc:Hid (scan hi most F (frm all lo)=scan hi most (scan hi most Fj (frm (flB h kb) lo)).1 (rstB l (b.2.2.map (flB h)) j)):=by
      show _=_
      rw [HSC.o,HKR.o,aCc hsc1]
     clear hsc1
     generalize (scan hi most Fj (frm (flB h kb) lo)).1=Fc at *
     by_cases hjl:j<L
     ·have x2:(j:Int)<(L:Int):=by omega
      have d2:decide ((j:Int)<(L:Int))=true:=by simp;omega
      obtain ⟨it,hitj⟩:∃ it,l[j]?=some it:=⟨_,gE (by omega)⟩
      have HRS:Hid (rstB l (b.2.2.map (flB h)) j=[it]++rsJ l (b.2.2.map (flB h)) lo (j+1)):=aHs HSR.o (by rw [hLL];exact HCS.o) (by rw [hFi];exact hj0) hitj
      obtain ⟨kf,vf,hg1,hg2⟩:=HIR3.o
      rw [hLL] at hg1
      have hgr:=HLKc.o.2 _ _ _ _ hg1 (by decide) (by decide)
      obtain ⟨hk1,hv1⟩:=hg2 j it hitj
      have hft:=HLKc.o.ft (HB.o)
      have hk1':=hk1.ft hft
      have hv1':=hv1.ft hft
      have y5:w4.cell? ⟨gi,j*2,none⟩=some (kf j):=by rw [aAa hgr,List.getElem?_toArray];exact aAt kf vf j L (by omega)
      have y6:w4.cell? ⟨gi,j*2+1,none⟩=some (vf j):=by rw [aAa hgr,List.getElem?_toArray];exact aA0 kf vf j L (by omega)
      have HTK:=zH (aD0 HSPc.o HB.o (nT HS3.o HLKc.o.1.size) (by have:=HFc.o;have:=HMO.o;omega) it hk1' hv1')
      obtain ⟨ka,kc,hka,hkk⟩:=hk1'
      obtain ⟨va,vc,hva,hvv⟩:=hv1'
      rw [hka] at y5 HTK
      rw [hva] at y6 HTK
      generalize hkn:it.1.length=kn at *
      generalize hvn:it.2.length=vn at *
      clear hg1 hg2 hgr hk1 hv1 hft hkk hvv hka hva hitj
      go_wp2_with fail
      refine HTK.o.mono ?_
      rintro e w5 ⟨rfl,hsp5,hlk5⟩
      have HSP5:=zH hsp5
      have HLK5:=zH hlk5
      clear hsp5 hlk5 y5 y6
      cases hsc2:(scan hi most Fc [it]).2 with
      | true =>
       have HSC2:=zH hsc2
       clear hsc2
       go_wp2_with fail
       go_roundw
       case rel =>
        refine ⟨j+1,by omega,by omega,by go_num,_,(((aCl hi most [it] Fc).2 HFc.o).2 HSC2.o),?_,HSP5.o,HLKc.o.trans HLK5.o⟩
        rw [HSCc.o,HRS.o,aCc HSC2.o]
       case measure=>simp [intOf];omega
      | false =>
       have HSC2:=zH hsc2
       clear hsc2
       go_wp2
       (try simp only [Exit.inBlock,Exit.then])
       go_ret
       have hq:scan hi most F (frm all lo)=scan hi most Fc [it]:=by rw [HSCc.o,HRS.o,aCb HSC2.o]
       unfold TkR
       rw [hq,HSC2.o]
       exact ⟨rfl,HSP5.o,HLKwc.o.trans HLK5.o⟩
     ·have x2:¬ (j:Int)<(L:Int):=by omega
      have d2:decide ((j:Int)<(L:Int))=false:=by simp;omega
      go_wp2_with fail
      go_roundw
      case rel =>
       refine ⟨j+1,by omega,by omega,by go_num,Fc,HFc.o,?_,HSPc.o,HLKc.o⟩
       rw [HSCc.o,rst_end (by omega),rsJ_end (by omega)]
      case measure=>simp [intOf];omega
   | true =>
    by_cases hjf:j=Fi
    ·obtain rfl:Fi=j:=hjf.symm
     have hFL:Fi<L:=HHS.o rfl
     have x2:(Fi:Int)<(L:Int):=by omega
     have d2:decide ((Fi:Int)<(L:Int))=true:=by simp;omega
     have HFc:=HFj
     have HSPc:=HSPj
     have HLKc:=HLKj
     have HLKwc:=HLKw
     have HSCc:Hid (scan hi most F (frm all lo)=scan hi most Fj (rstB l (b.2.2.map (flB h)) Fi)):=by
      show _=_
      rw [HSC.o,rsJ_at (by omega),if_pos ⟨by omega,hhb⟩,List.nil_append]
     obtain ⟨it,hitj⟩:∃ it,l[Fi]?=some it:=⟨_,gE (by omega)⟩
     have HRS:Hid (rstB l (b.2.2.map (flB h)) Fi=[it]++rsJ l (b.2.2.map (flB h)) lo (Fi+1)):=aHs HSR.o (by rw [hLL];exact HCS.o) (by rw [hFi];exact hj0) hitj
     obtain ⟨kf,vf,hg1,hg2⟩:=HIR3.o
     rw [hLL] at hg1
     have hgr:=HLKc.o.2 _ _ _ _ hg1 (by decide) (by decide)
     obtain ⟨hk1,hv1⟩:=hg2 Fi it hitj
     have hft:=HLKc.o.ft (HB.o)
     have hk1':=hk1.ft hft
     have hv1':=hv1.ft hft
     have y5:wr.cell? ⟨gi,Fi*2,none⟩=some (kf Fi):=by rw [aAa hgr,List.getElem?_toArray];exact aAt kf vf Fi L (by omega)
     have y6:wr.cell? ⟨gi,Fi*2+1,none⟩=some (vf Fi):=by rw [aAa hgr,List.getElem?_toArray];exact aA0 kf vf Fi L (by omega)
     have HTK:=zH (aD0 HSPc.o HB.o (nT HS3.o HLKc.o.1.size) (by have:=HFc.o;have:=HMO.o;omega) it hk1' hv1')
     obtain ⟨ka,kc,hka,hkk⟩:=hk1'
     obtain ⟨va,vc,hva,hvv⟩:=hv1'
     rw [hka] at y5 HTK
     rw [hva] at y6 HTK
     generalize hkn:it.1.length=kn at *
     generalize hvn:it.2.length=vn at *
     clear hg1 hg2 hgr hk1 hv1 hft hkk hvv hka hva hitj
     go_wp2_with fail
     refine HTK.o.mono ?_
     rintro e w5 ⟨rfl,hsp5,hlk5⟩
     have HSP5:=zH hsp5
     have HLK5:=zH hlk5
     clear hsp5 hlk5 y5 y6
     cases hsc2:(scan hi most Fj [it]).2 with
     | true =>
      have HSC2:=zH hsc2
      clear hsc2
      go_wp2_with fail
      go_roundw
      case rel =>
       refine ⟨Fi+1,by omega,by omega,by go_num,_,(((aCl hi most [it] Fj).2 HFc.o).2 HSC2.o),?_,HSP5.o,HLKc.o.trans HLK5.o⟩
       rw [HSCc.o,HRS.o,aCc HSC2.o]
      case measure=>simp [intOf];omega
     | false =>
      have HSC2:=zH hsc2
      clear hsc2
      go_wp2
      (try simp only [Exit.inBlock,Exit.then])
      go_ret
      have hq:scan hi most F (frm all lo)=scan hi most Fj [it]:=by rw [HSCc.o,HRS.o,aCb HSC2.o]
      unfold TkR
      rw [hq,HSC2.o]
      exact ⟨rfl,HSP5.o,HLKwc.o.trans HLK5.o⟩
    ·have x3:¬ (j:Int)=(Fi:Int):=by omega
     have d3:((j:Int) == (Fi:Int))=false:=by simp;omega
     obtain ⟨kb,hkb⟩:∃ kb,b.2.2[j]?=some kb:=⟨_,gE (by omega)⟩
     have hkm:=mG hkb
     have HKR:Hid (rsJ l (b.2.2.map (flB h)) lo j=frm (flB h kb) lo++rstB l (b.2.2.map (flB h)) j):=by
      show _=_
      rw [rsJ_at (by omega),if_neg (fun q9=>hjf (by rw [<-hFi];exact q9.1)),List.getD_eq_getElem?_getD,List.getElem?_map,hkb]
      rfl
     have hgb:=HLKj.o.2 _ _ _ _ HGB3.o (by decide) (by decide)
     have hgc:=HLKj.o.2 _ _ _ _ HGC3.o (by decide) (by decide)
     have g1:wr.cell? ⟨gb,1,none⟩=some (.slice (some ⟨gc,0,none⟩) (L+1) (L+1)):=aAa hgb
     have g2:wr.cell? ⟨gc,j,none⟩=some (.iface 92 (.int .i64 (BT.id kb:Int))):=by
      rw [aAa hgc,List.getElem?_toArray,List.getElem?_map,List.getElem?_map,hkb]
      rfl
     have g3:=aDb (.int .i64 (BT.id kb:Int)) wr
     have xl:(j:Int)<((L+1:Nat):Int):=by omega
     have HCL:=zH (HIH.o wr kb Fj (HB3.o.trans HLKj.o.1) (HKD.o kb hkm) (HKS.o kb hkm) HSPj.o HFj.o)
     clear hgb hgc hkm hkb
     go_wp2_with fail
     refine HCL.o.mono ?_
     rintro e w4 ⟨rfl,hsp4,hlk4⟩
     have HSPc:=zH hsp4
     have HLKc:=zH (HLKj.o.trans hlk4)
     have HLKwc:=zH (HLKw.o.trans hlk4)
     clear hsp4 hlk4 g1 g2 g3 HCL
     cases hsc1:(scan hi most Fj (frm (flB h kb) lo)).2 with
     | false =>
      have HSC1:=zH hsc1
      clear hsc1
      go_wp2
      (try simp only [Exit.inBlock,Exit.then])
      go_ret
      have hq:scan hi most F (frm all lo)=scan hi most Fj (frm (flB h kb) lo):=by rw [HSC.o,HKR.o,aCb HSC1.o]
      unfold TkR
      rw [hq,HSC1.o]
      exact ⟨rfl,HSPc.o,HLKwc.o⟩
     | true =>
      have HFc:Hid ((scan hi most Fj (frm (flB h kb) lo)).1.length<most):=(((aCl hi most (frm (flB h kb) lo) Fj).2 HFj.o).2 hsc1)
      have HSCc:Hid (scan hi most F (frm all lo)=scan hi most (scan hi most Fj (frm (flB h kb) lo)).1 (rstB l (b.2.2.map (flB h)) j)):=by
       show _=_
       rw [HSC.o,HKR.o,aCc hsc1]
      clear hsc1
      generalize (scan hi most Fj (frm (flB h kb) lo)).1=Fc at *
      by_cases hjl:j<L
      ·have x2:(j:Int)<(L:Int):=by omega
       have d2:decide ((j:Int)<(L:Int))=true:=by simp;omega
       obtain ⟨it,hitj⟩:∃ it,l[j]?=some it:=⟨_,gE (by omega)⟩
       have HRS:Hid (rstB l (b.2.2.map (flB h)) j=[it]++rsJ l (b.2.2.map (flB h)) lo (j+1)):=aHs HSR.o (by rw [hLL];exact HCS.o) (by rw [hFi];exact hj0) hitj
       obtain ⟨kf,vf,hg1,hg2⟩:=HIR3.o
       rw [hLL] at hg1
       have hgr:=HLKc.o.2 _ _ _ _ hg1 (by decide) (by decide)
       obtain ⟨hk1,hv1⟩:=hg2 j it hitj
       have hft:=HLKc.o.ft (HB.o)
       have hk1':=hk1.ft hft
       have hv1':=hv1.ft hft
       have y5:w4.cell? ⟨gi,j*2,none⟩=some (kf j):=by rw [aAa hgr,List.getElem?_toArray];exact aAt kf vf j L (by omega)
       have y6:w4.cell? ⟨gi,j*2+1,none⟩=some (vf j):=by rw [aAa hgr,List.getElem?_toArray];exact aA0 kf vf j L (by omega)
       have HTK:=zH (aD0 HSPc.o HB.o (nT HS3.o HLKc.o.1.size) (by have:=HFc.o;have:=HMO.o;omega) it hk1' hv1')
       obtain ⟨ka,kc,hka,hkk⟩:=hk1'
       obtain ⟨va,vc,hva,hvv⟩:=hv1'
       rw [hka] at y5 HTK
       rw [hva] at y6 HTK
       generalize hkn:it.1.length=kn at *
       generalize hvn:it.2.length=vn at *
       clear hg1 hg2 hgr hk1 hv1 hft hkk hvv hka hva hitj
       go_wp2_with fail
       refine HTK.o.mono ?_
       rintro e w5 ⟨rfl,hsp5,hlk5⟩
       have HSP5:=zH hsp5
       have HLK5:=zH hlk5
       clear hsp5 hlk5 y5 y6
       cases hsc2:(scan hi most Fc [it]).2 with
       | true =>
        have HSC2:=zH hsc2
        clear hsc2
        go_wp2_with fail
        go_roundw
        case rel =>
         refine ⟨j+1,by omega,by omega,by go_num,_,(((aCl hi most [it] Fc).2 HFc.o).2 HSC2.o),?_,HSP5.o,HLKc.o.trans HLK5.o⟩
         rw [HSCc.o,HRS.o,aCc HSC2.o]
        case measure=>simp [intOf];omega
       | false =>
        have HSC2:=zH hsc2
        clear hsc2
        go_wp2
        (try simp only [Exit.inBlock,Exit.then])
        go_ret
        have hq:scan hi most F (frm all lo)=scan hi most Fc [it]:=by rw [HSCc.o,HRS.o,aCb HSC2.o]
        unfold TkR
        rw [hq,HSC2.o]
        exact ⟨rfl,HSP5.o,HLKwc.o.trans HLK5.o⟩
      ·have x2:¬ (j:Int)<(L:Int):=by omega
       have d2:decide ((j:Int)<(L:Int))=false:=by simp;omega
       go_wp2_with fail
       go_roundw
       case rel =>
        refine ⟨j+1,by omega,by omega,by go_num,Fc,HFc.o,?_,HSPc.o,HLKc.o⟩
        rw [HSCc.o,rst_end (by omega),rsJ_end (by omega)]
       case measure=>simp [intOf];omega
  ·have x1:¬ (j:Int)<=(L:Int):=by omega
   go_wp2
   (try simp only [Exit.inBlock,Exit.then])
   go_ret
   have hq:scan hi most F (frm all lo)=(Fj,true):=by
    rw [HSC.o,rsJ_end (by omega)]
    rfl
   unfold TkR
   rw [hq]
   exact ⟨rfl,HSPj.o,HLKw.o⟩
theorem look_ok [Gd] {B p q r:Nat} {s:DS} {t:PS} {w0:World} {lv hv:Value} {lo hi:List Nat} {most:Nat} (hST:ST B p q s t w0) (hB:B<=w0.heap.size) (hlf:s.life=t.life) (hdn:s.down=false) (hmo:most<100000):∀ h,h<100000->LkC B p q r s t w0.heap.size w0 lv hv lo hi most h
 | 0,_=>fun w b F hb hon _ hsp hF=>look_leaf hST hB hlf hdn hb b hon F hsp hF hmo
 | h+1,hh=>fun w b F hb hon hsr hsp hF=>look_branch hST hB hlf hdn hb b hon hsr F hsp hF hmo (by omega) (look_ok hST hB hlf hdn hmo h (by omega))
def LkB (w:World) (k:Nat):Prop:=∃ cs t fz,w.heap[k]?=some (Obj.cells cs t fz)/\t≠74/\t≠79
theorem LkF.cell {B1 k:Nat} {w w':World} (h:LkF B1 w w') (hk:LkB w k) (o:Nat):w'.cell? ⟨k,o,none⟩=w.cell? ⟨k,o,none⟩:=by
 obtain ⟨cs,t,fz,h1,h2,h3⟩:=hk
 exact World.cell?_of_block ((h.2 k cs t fz h1 h2 h3).trans h1.symm)
theorem pairs1_ok [Gd] {B p q g r rb tb sb gs so h:Nat} {s:DS} {t:PS} {w0 w:World} {lv hv:Value} {lo hi:List Nat} {most:Nat} (hST:ST B p q s t w0) (hB:B<=w0.heap.size) (hlf:s.life=t.life) (hdn:s.down=false) (hb:Below w0.heap.size w0 w) (b:BT h) (hon:OnD s t h b) (hsr:Srt (flB h b)) (hh:h<100000) (hsp:SpV B w0.heap.size w r lv hv lo hi most []) (hm0:0<most) (hmo:most<100000)
  (c1:w.cell? ⟨rb,0,none⟩=some (.pointer (some ⟨r,0,none⟩))) (c2:w.cell? ⟨tb,0,none⟩=some (.pointer (some ⟨g,0,none⟩))) (c3:w.cell? ⟨g,1,none⟩=some (.pointer (some ⟨q,0,none⟩))) (c4:w.cell? ⟨sb,0,none⟩=some (.pointer (some ⟨gs,so,none⟩))) (c5:w.cell? ⟨gs,so,none⟩=some (.int .i64 (BT.id b:Int))) (c6:w.cell? ⟨gs,so+1,none⟩=some (.int .i64 ((h:Int)+1)))
  (k1:LkB w rb) (k2:LkB w tb) (k3:LkB w g) (k4:LkB w sb) (k5:LkB w gs) :
  Calls Tryz.prog 60 #[.pointer (some ⟨rb,0,none⟩),.pointer (some ⟨tb,0,none⟩),.pointer (some ⟨sb,0,none⟩)] w fun e w'=>e=.returned (.int .i64 0)/\SpV B w0.heap.size w' r lv hv lo hi most (scan hi most [] (frm (flB h b) lo)).1/\LkF w0.heap.size w w':=by
 have HBd:=zH (Below.refl w.heap.size w).drew
 have HLK:=zH (look_ok hST hB hlf hdn hmo h hh w.drew b [] (hb.trans (HBd.o.mono hb.size)) hon hsr (hsp.later HBd.o (nT hB hb.size)) hm0)
 have HS0:=zH hb.size
 have HX0:Hid ((fun wx=>wx.cell? ⟨rb,0,none⟩=some (.pointer (some ⟨r,0,none⟩))/\wx.cell? ⟨tb,0,none⟩=some (.pointer (some ⟨g,0,none⟩))/\wx.cell? ⟨g,1,none⟩=some (.pointer (some ⟨q,0,none⟩))/\wx.cell? ⟨sb,0,none⟩=some (.pointer (some ⟨gs,so,none⟩))/\wx.cell? ⟨gs,so,none⟩=some (.int .i64 (BT.id b:Int))/\wx.cell? ⟨gs,so+1,none⟩=some (.int .i64 ((h:Int)+1))) w.drew):=⟨c1,c2,c3,c4,c5,c6⟩
 have HKK:=zH (show ∀ w',LkF w0.heap.size w.drew w'->((fun wx=>wx.cell? ⟨rb,0,none⟩=some (.pointer (some ⟨r,0,none⟩))/\wx.cell? ⟨tb,0,none⟩=some (.pointer (some ⟨g,0,none⟩))/\wx.cell? ⟨g,1,none⟩=some (.pointer (some ⟨q,0,none⟩))/\wx.cell? ⟨sb,0,none⟩=some (.pointer (some ⟨gs,so,none⟩))/\wx.cell? ⟨gs,so,none⟩=some (.int .i64 (BT.id b:Int))/\wx.cell? ⟨gs,so+1,none⟩=some (.int .i64 ((h:Int)+1))) w') from fun w' hl=>⟨(hl.cell k1 0).trans c1,(hl.cell k2 0).trans c2,(hl.cell k3 1).trans c3,(hl.cell k4 0).trans c4,(hl.cell k5 so).trans c5,(hl.cell k5 (so+1)).trans c6⟩)
 clear hST hb hon hsr hsp c1 c2 c3 c4 c5 c6 k1 k2 k3 k4 k5
 go_enter Tryz.func60,Tryz.ntmps60
 go_upto_region 1 with fail
 refine wp_region_noPanic ?_
 refine wp_region_held_drew (S:=fun wx=>wx.cell? ⟨rb,0,none⟩=some (.pointer (some ⟨r,0,none⟩))/\wx.cell? ⟨tb,0,none⟩=some (.pointer (some ⟨g,0,none⟩))/\wx.cell? ⟨g,1,none⟩=some (.pointer (some ⟨q,0,none⟩))/\wx.cell? ⟨sb,0,none⟩=some (.pointer (some ⟨gs,so,none⟩))/\wx.cell? ⟨gs,so,none⟩=some (.int .i64 (BT.id b:Int))/\wx.cell? ⟨gs,so+1,none⟩=some (.int .i64 ((h:Int)+1))) (by kernel_rfl) HX0.o (fun hHeld=>?_)
 refine kT 0 4 ?_
 refine kT 1 5 ?_
 refine kT 2 6 ?_
 refine kT 3 7 ?_
 refine kT 4 8 ?_
 refine kT 5 9 ?_
 refine kT 6 10 ?_
 refine kT 7 11 ?_
 refine kT 8 12 ?_
 refine kT 9 13 ?_
 refine kT 10 14 ?_
 refine kT 11 15 ?_
 refine kT 12 16 ?_
 refine kC 13 ?_;intro K hK
 go_simp
 refine HLK.o.mono ?_
 rintro e w1 ⟨rfl,hs1,hl1⟩
 have HS1:=zH hs1
 have HL1:=zH hl1
 have HX1:=zH (HKK.o w1 hl1)
 clear hs1 hl1 hHeld
 refine hK.out _ _ HX1.o (fun hHeld=>?_)
 clear hK K
 try simp only [Act.put,siT,scZ,scS]
 refine wpAnyH_done (by kernel_rfl) ?_ _
 refine NoPanic.normal ?_
 clear hHeld
 go_wp2
 go_ret
 exact ⟨rfl,HS1.o,(LkF.of HBd.o HS0.o).trans HL1.o⟩
theorem change1_ok [Gd] {B p q g tb hb hf ty1 ty2:Nat} {s:DS} {t:PS} {w:World} {cs:Array Value} {now last:StT} {sv:Value} {left d n:Int} {cap:Array Value} {gone:List Nat} {h:Nat} {e:ED h} (hg0:True) (hST:ST B p q s t w) (hB:B<=w.heap.size) (hgB:B<=g) (hg:w.heap[g]?=some (.cells cs 58 (0,0))) (hT:TV cs p q now last sv left false)
  (htb:w.heap[tb]?=some (.cells #[.pointer (some ⟨g,0,none⟩)] ty1 (0,0))) (hhb:w.heap[hb]?=some (.cells #[.func (Fn.func hf) #[] cap] ty2 (0,0))) (hty1:NT ty1) (hcf:∀ (v:Value) (ww:World),(callFunc hf (#[v]++cap)).run Tryz.prog ww=.ok (.enter hf (#[v]++cap)) ww)
  (hHow:∀ (w1:World) (px:Nat),B<=px->Below w.heap.size w w1->EV B w1 px q (.iface 92 (.int .i64 now.root)) now.depth now.keys []->ST B p q s t w1->B<=w1.heap.size->Calls Tryz.prog hf (#[.pointer (some ⟨px,0,none⟩)]++cap) w1 fun e' w'=>e'=.returned (.bool true)/\∃ rv S,EV B w' px q rv d n gone/\NV B w1.heap.size w' h e S rv/\S.Nodup/\FE B w1 w')
  (hlf:s.life=t.life) (hdn:s.down=false) (haf:s.after<1) (hl1:s.life<100000) (hm:s.m+frE h e<=100000) (hsn:t.st.length=s.n) (hf1:frE h e<=1000) (hfr:frE h e<=cntF t.st) (hon:OnE s t h e) (hgo:∀ x∈gone,x<4096) (hgl:gone.length<100000) :
  Calls Tryz.prog 41 #[.pointer (some ⟨tb,0,none⟩),.pointer (some ⟨hb,0,none⟩)] w fun e' w'=>e'=.returned (.int .i64 0)/\ChR B p q g s t w now last sv d n gone h e w':=by
 have r1:w.cell? ⟨g,1,none⟩=some (.pointer (some ⟨q,0,none⟩)):=(aAa hg).trans hT.c1
 have r2:w.cell? ⟨g,2,none⟩=some (.int .i64 now.root):=(aAa hg).trans hT.n0
 have r3:w.cell? ⟨g,3,none⟩=some (.int .i64 now.depth):=(aAa hg).trans hT.n1
 have r4:w.cell? ⟨g,4,none⟩=some (.int .i64 now.keys):=(aAa hg).trans hT.n2
 have r5:w.cell? ⟨tb,0,none⟩=some (.pointer (some ⟨g,0,none⟩)):=aAa htb
 have r6:w.cell? ⟨hb,0,none⟩=some (.func (Fn.func hf) #[] cap):=aAa hhb
 have hsl:t.st.length<=4096:=by obtain ⟨_,gs,h2⟩:=hST;exact h2.ok.sl
 have HG:=zH hg
 have HT:=zH hT
 have HST:=zH hST
 have HTB:=zH htb
 have HHW:=zH hHow
 have HLP:=zH (fun (ww:World) (px:Nat) (rv:Value) (S:List Nat) (B1:Nat) (a1:ST B p q s t ww) (a2:B<=ww.heap.size) (a3:B<=B1) (a4:EL B ww px q rv d n gone []) (a5:NV B B1 ww h e S rv) (a6:S.Nodup)=>lay_ok hg0 h s t ww [] e S rv (⟨a1,a2,a3,hlf,hdn,haf,hl1,hm,hsn,a4,by simpa using hf1,hfr,hon,a5,a6⟩:LayP B B1 p q px s t ww rv d n gone [] h e S rv))
 have HFR:=zH (fun (B1:Nat) (ww:World) (S:List Nat) (v:Value) (a1:B<=ww.heap.size) (a2:NV B B1 ww h e S v)=>fresh_ok h ww e S v a1 hf1 a2)
 have HGO:=zH hgo
 have HGL:=zH hgl
 have HMM:=zH hm
 have HSM:Hid (∀ (s':DS) (t':PS) (L:List Nat) (a b:Nat),Gw s t s' t' L->L.length<=4096):=fun s' t' L a b hg=>by
  have h1:=hg.nd
  have h2:=gw_lt hg hsl
  have:=List.Nodup.length_le_of_subset (l₂:=List.range 4096) h1 fun x hx=>List.mem_range.2 (h2 x hx)
  simpa using this
 have HNT:=zH hty1
 clear hg hT hST htb hhb hHow hlf hdn haf hl1 hm hsn hon hgo hgl hty1
 go_enter Tryz.func41,Tryz.ntmps41
 go_upto_region 1 with fail
 have HY0:Hid ((fun wx=>wx.cell? ⟨tb,0,none⟩=some (.pointer (some ⟨g,0,none⟩))/\wx.cell? ⟨g,1,none⟩=some (.pointer (some ⟨q,0,none⟩))/\wx.cell? ⟨g,2,none⟩=some (.int .i64 now.root)/\wx.cell? ⟨g,3,none⟩=some (.int .i64 now.depth)/\wx.cell? ⟨g,4,none⟩=some (.int .i64 now.keys)) w.drew):=⟨r5,r1,r2,r3,r4⟩
 have HBQ:=zH ((aAb w (.cells #[.pointer (some ⟨q,0,none⟩),.iface 92 (.int .i64 now.root),.int .i64 now.depth,.int .i64 now.keys,.slice none 0 0,.slice none 0 0] 97)).drew)
 have HX1:Hid ((w.alloc (.cells #[.pointer (some ⟨q,0,none⟩),.iface 92 (.int .i64 now.root),.int .i64 now.depth,.int .i64 now.keys,.slice none 0 0,.slice none 0 0] 97)).drew.heap[w.heap.size]?=some (.cells #[.pointer (some ⟨q,0,none⟩),.iface 92 (.int .i64 now.root),.int .i64 now.depth,.int .i64 now.keys,.slice none 0 0,.slice none 0 0] 97 (0,0))):=heap_alloc_new w _
 have HY1:Hid ((fun wx=>wx.cell? ⟨tb,0,none⟩=some (.pointer (some ⟨g,0,none⟩))/\wx.cell? ⟨g,1,none⟩=some (.pointer (some ⟨q,0,none⟩))/\wx.cell? ⟨g,2,none⟩=some (.int .i64 now.root)/\wx.cell? ⟨g,3,none⟩=some (.int .i64 now.depth)/\wx.cell? ⟨g,4,none⟩=some (.int .i64 now.keys)) ((w.alloc (.cells #[.pointer (some ⟨q,0,none⟩),.iface 92 (.int .i64 now.root),.int .i64 now.depth,.int .i64 now.keys,.slice none 0 0,.slice none 0 0] 97)).drew)):=by
  have k5:=block_lt_of_cell r5
  have k1:=block_lt_of_cell r1
  exact ⟨(HBQ.o.cell (p:=⟨tb,0,none⟩) k5).trans r5,(HBQ.o.cell (p:=⟨g,1,none⟩) k1).trans r1,(HBQ.o.cell (p:=⟨g,2,none⟩) k1).trans r2,(HBQ.o.cell (p:=⟨g,3,none⟩) k1).trans r3,(HBQ.o.cell (p:=⟨g,4,none⟩) k1).trans r4⟩
 have HR5:=zH r5
 have HR6:=zH r6
 clear r1 r2 r3 r4 r5 r6
 refine wp_region_noPanic ?_
 refine wp_region_held_drew (S:=fun wx=>wx.cell? ⟨tb,0,none⟩=some (.pointer (some ⟨g,0,none⟩))/\wx.cell? ⟨g,1,none⟩=some (.pointer (some ⟨q,0,none⟩))/\wx.cell? ⟨g,2,none⟩=some (.int .i64 now.root)/\wx.cell? ⟨g,3,none⟩=some (.int .i64 now.depth)/\wx.cell? ⟨g,4,none⟩=some (.int .i64 now.keys)) (by kernel_rfl) HY0.o (fun hHeld=>?_)
 refine kT 0 6 ?_
 refine kT 1 7 ?_
 refine kT 2 8 ?_
 refine kT 3 9 ?_
 refine kT 4 10 ?_
 refine kT 5 11 ?_
 refine kT 6 12 ?_
 refine kT 7 13 ?_
 refine kT 8 14 ?_
 refine kT 9 15 ?_
 refine kT 10 16 ?_
 refine kT 11 17 ?_
 refine kT 12 18 ?_
 refine kT 13 19 ?_
 refine kT 14 20 ?_
 refine kT 15 21 ?_
 refine kT 16 22 ?_
 refine kT 17 23 ?_
 refine kT 18 24 ?_
 refine kT 19 25 ?_
 refine kT 20 26 ?_
 refine kC 21 ?_;intro K hK
 go_simp
 clear hHeld
 refine hK.out _ _ HY1.o (fun hHeld=>?_)
 clear hK K
 try simp only [Act.put,siT,scZ,scS]
 refine kT 22 3 ?_
 refine wpAnyH_done (by kernel_rfl) ?_ _
 refine NoPanic.normal ?_
 clear hHeld HY0 HY1
 have HB1:=HBQ
 clear HBQ
 generalize ((w.alloc (.cells #[.pointer (some ⟨q,0,none⟩),.iface 92 (.int .i64 now.root),.int .i64 now.depth,.int .i64 now.keys,.slice none 0 0,.slice none 0 0] 97)).drew)=w1 at *
 have r5:=HR5.o
 have r6:=HR6.o
 have t1:w1.cell? ⟨tb,0,none⟩=some (.pointer (some ⟨g,0,none⟩)):=(HB1.o.cell (p:=⟨tb,0,none⟩) (block_lt_of_cell r5)).trans r5
 have h1:w1.cell? ⟨hb,0,none⟩=some (.func (Fn.func hf) #[] cap):=(HB1.o.cell (p:=⟨hb,0,none⟩) (block_lt_of_cell r6)).trans r6
 have c1:=hcf (.pointer (some ⟨w.heap.size,0,none⟩)) w1
 have HF1:=zH (FE.of HB1.o hB)
 have HEV1:Hid (EV B w1 w.heap.size q (.iface 92 (.int .i64 now.root)) now.depth now.keys []):=⟨hB,⟨_,HX1.o,aHw⟩,by simp⟩
 have HCL:=zH (HHW.o w1 w.heap.size hB HB1.o HEV1.o (HST.o.later HB1.o) (nT hB HB1.o.size))
 have HBw1:Hid (B<=w1.heap.size):=nT hB HB1.o.size
 clear r5 r6 hcf HX1 HEV1 HHW HB1 HR5 HR6
 generalize hpx:w.heap.size=px at *
 go_wp2_with fail
 refine HCL.o.mono ?_
 rintro e2 w2 ⟨rfl,rv,S,v1,v2,v3,v4⟩
 obtain ⟨ty,pv,rfl⟩:=v2.form
 have HF2:=zH (HF1.o.trans v4)
 have HBw2:Hid (B<=w2.heap.size):=nT HBw1.o v4.1.size
 have HEV2:=zH v1
 have HNV2:=zH v2
 have HND:=zH v3
 have HST2:=zH (HF2.o.st HST.o hg0)
 have HG2:=zH (HF2.o.nt HG.o (by decide))
 have HMR:=zH (aEc HST2.o HG2.o HT.o v1 (HFR.o _ w2 S _ HBw2.o v2) hfr)
 have t2:w2.cell? ⟨tb,0,none⟩=some (.pointer (some ⟨g,0,none⟩)):=aAa (HF2.o.nt HTB.o HNT.o)
 clear v1 v2 v3 v4 t1 h1 c1 HCL
 go_wp2_with fail
 refine HMR.o.mono ?_
 rintro e3 w3 ⟨rfl,hb3⟩
 have HB3:=zH hb3
 have HB3d:Hid (Below w2.heap.size w2 w3.drew):=hb3.drew
 have HF3:=zH (HF2.o.trans (FE.of HB3d.o HBw2.o))
 have HG3:Hid (w3.heap[g]?=some (.cells cs 58 (0,0))):=HF3.o.nt HG.o (by decide)
 have t3:w3.cell? ⟨tb,0,none⟩=some (.pointer (some ⟨g,0,none⟩)):=aAa (show w3.heap[tb]?=_ from HF3.o.nt HTB.o HNT.o)
 have g3:w3.cell? ⟨g,1,none⟩=some (.pointer (some ⟨q,0,none⟩)):=(aAa HG3.o).trans HT.o.c1
 have p3:w3.cell? ⟨px,1,none⟩=some (.iface ty pv):=((HEV2.o.later hb3).cellsx).2.1
 have HLY:=zH (HLP.o w3.drew px (.iface ty pv) S w1.heap.size (HST2.o.later HB3d.o) (nT HBw2.o HB3d.o.size) HBw1.o (HEV2.o.later HB3d.o).el (NV.lf (T:=[]) (Lf.fe [] (FE.of HB3d.o HBw2.o)) (fun _ _=>List.not_mem_nil) HNV2.o) HND.o)
 clear hb3 t2 HMR
 go_upto_region 6 with fail
 have HX0:Hid ((fun wx=>wx.cell? ⟨tb,0,none⟩=some (.pointer (some ⟨g,0,none⟩))/\wx.cell? ⟨g,1,none⟩=some (.pointer (some ⟨q,0,none⟩))/\wx.cell? ⟨px,1,none⟩=some (.iface ty pv)) w3.drew):=⟨t3,g3,p3⟩
 clear t3 g3 p3
 refine wp_region_noPanic ?_
 refine wp_region_held_drew (S:=fun wx=>wx.cell? ⟨tb,0,none⟩=some (.pointer (some ⟨g,0,none⟩))/\wx.cell? ⟨g,1,none⟩=some (.pointer (some ⟨q,0,none⟩))/\wx.cell? ⟨px,1,none⟩=some (.iface ty pv)) (by kernel_rfl) HX0.o (fun hHeld=>?_)
 refine kT 0 37 ?_
 refine kT 1 38 ?_
 refine kT 2 39 ?_
 refine kT 3 40 ?_
 refine kT 4 41 ?_
 refine kT 5 42 ?_
 refine kT 6 43 ?_
 refine kT 7 44 ?_
 refine kT 8 45 ?_
 refine kC 9 ?_;intro K hK
 go_simp
 refine HLY.o.mono ?_
 rintro e4 w4 ⟨v4,rfl,b,s4,t4,L,rfl,l1,l2,l3,l4,l5,l6⟩
 have HL1:=zH l1
 have HL2:=zH l2
 have HL3:=zH l3
 have HL4:=zH l4
 have HL5:=zH l5
 have HL6:=zH l6
 have HG4:Hid (w4.heap[g]?=some (.cells cs 58 (0,0))):=l6.2.1 g cs _ _ (show w3.drew.heap[g]?=_ from HG3.o) (by decide)
 have HTB4:Hid (w4.heap[tb]?=some (.cells #[.pointer (some ⟨g,0,none⟩)] ty1 (0,0))):=l6.2.1 tb _ _ _ (show w3.drew.heap[tb]?=_ from HF3.o.nt HTB.o HNT.o) HNT.o
 have HX1:Hid ((fun wx=>wx.cell? ⟨tb,0,none⟩=some (.pointer (some ⟨g,0,none⟩))/\wx.cell? ⟨g,1,none⟩=some (.pointer (some ⟨q,0,none⟩))/\wx.cell? ⟨px,1,none⟩=some (.iface ty pv)) w4):=by
  obtain ⟨gv,lv,k1,k2,k3,k4⟩:=l5.hx
  exact ⟨aAa HTB4.o,(aAa HG4.o).trans HT.o.c1,aAa k1⟩
 clear l1 l2 l3 l4 l5 l6 hHeld
 refine hK.out _ _ HX1.o (fun hHeld=>?_)
 clear hK K
 try simp only [Act.put,siT,scZ,scS]
 refine kT 10 36 ?_
 refine kT 11 47 ?_
 refine kT 12 48 ?_
 refine kT 13 4 ?_
 refine kT 14 5 ?_
 refine wpAnyH_done (by kernel_rfl) ?_ _
 refine NoPanic.normal ?_
 clear hHeld HX0 HX1 HLY
 have t4x:w4.cell? ⟨tb,0,none⟩=some (.pointer (some ⟨g,0,none⟩)):=aAa HTB4.o
 have hLn:L.length<100000:=by exact Nat.lt_of_le_of_lt (HSM.o _ _ _ 0 0 HL2.o) (by decide)
 have HTK:=zH (take_ok (root:=BT.id b) hgB HL3.o HG4.o HT.o HL5.o HGO.o (by rw [List.nil_append];exact gw_lt HL2.o hsl) HGL.o (by rw [List.nil_append];exact hLn))
 go_wp2_with fail
 refine HTK.o.mono ?_
 rintro e5 w5 ⟨rfl,cs',k1,k2,k3⟩
 rw [List.nil_append] at k2
 have HK1:=zH k1
 have HK2:=zH k2
 have HK3:=zH k3
 clear k1 k2 k3 t4x HTK
 go_wp2
 go_ret
 refine ⟨rfl,b,s4,t4,L,cs',HL1.o,HL2.o,HL3.o.exT HK3.o HG4.o,HL4.o,HK1.o,HK2.o,((HF3.o.1.trans HL6.o.1).trans HK3.o.1),fun k cs0 t0 fz k1 k2 k3=>?_,(HF3.o.gdk.trans HL6.o.2.2.2).trans (HK3.o.gdk HG4.o (by unfold DTy;decide))⟩
 have m1:=HL6.o.2.1 k cs0 t0 fz (show w3.drew.heap[k]?=_ from HF3.o.nt k1 k2) k2
 rw [HK3.o.2 k (lO m1) (by simpa using k3),m1]
theorem Ex.keepX {B g k:Nat} {w w':World} {cs cs':Array Value} {t T0:TypeId} {fz fz0:Nat×Nat} (h:Ex B [g] w w') (hg:w.heap[g]?=some (.cells cs T0 fz0)) (hk:w.heap[k]?=some (.cells cs' t fz)) (ht:t≠T0):w'.heap[k]?=some (.cells cs' t fz):=by
 rw [h.2 k (lO hk) ?_,hk]
 intro q9
 simp only [List.mem_singleton] at q9
 subst q9
 rw [hg] at hk
 simp only [oI,cI] at hk
 exact ht hk.2.1.symm
theorem ST.exE [Gd] {B p q g:Nat} {s:DS} {t:PS} {w w':World} {cs:Array Value} (h:ST B p q s t w) (f:Ex B [g] w w') (hg:w.heap[g]?=some (.cells cs 33 (0,0))):ST B p q s t w':=by
 obtain ⟨h1,gs,h2⟩:=h
 refine ⟨?_,gs,f.keepX hg h2.hq (by decide),f.keepX hg h2.hs (by decide),h2.qB,h2.gB,h2.ok,h2.hG⟩
 exact h1.of_stay (fun k cs t e ht=>f.keepX hg e (by rcases ht with rfl | rfl | rfl | rfl | rfl | rfl | rfl<;>decide))
theorem aGk [Gd] {B p q g hf:Nat} {s:DS} {t:PS} {w:World} {cs:Array Value} {now last:StT} {sv:Value} {left d n:Int} {cap:Array Value} {gone:List Nat} {h:Nat} {e:ED h} (hg0:True) (hST:ST B p q s t w) (hB:B<=w.heap.size) (hgB:B<=g) (hg:w.heap[g]?=some (.cells cs 58 (0,0))) (hT:TV cs p q now last sv left false)
  (hcf:∀ (v:Value) (ww:World),(callFunc hf (#[v]++cap)).run Tryz.prog ww=.ok (.enter hf (#[v]++cap)) ww)
  (hHow:∀ (w1:World) (px:Nat),B<=px->Below w.heap.size w w1->EV B w1 px q (.iface 92 (.int .i64 now.root)) now.depth now.keys []->ST B p q s t w1->B<=w1.heap.size->Calls Tryz.prog hf (#[.pointer (some ⟨px,0,none⟩)]++cap) w1 fun e' w'=>e'=.returned (.bool true)/\∃ rv S,EV B w' px q rv d n gone/\NV B w1.heap.size w' h e S rv/\S.Nodup/\FE B w1 w')
  (hlf:s.life=t.life) (hdn:s.down=false) (haf:s.after<1) (hl1:s.life<100000) (hm:s.m+frE h e<=100000) (hsn:t.st.length=s.n) (hf1:frE h e<=1000) (hfr:frE h e<=cntF t.st) (hon:OnE s t h e) (hgo:∀ x∈gone,x<4096) (hgl:gone.length<100000) :
  Calls Tryz.prog 18 #[.pointer (some ⟨g,0,none⟩),.func (Fn.func hf) #[] cap] w fun e' w'=>e'=.returned (.int .i64 0)/\ChR B p q g s t w now last sv d n gone h e w':=by
 have hmf:∀ (fn:Fn) (first cap:Array Value) (w:World),(Instr.makeFunc fn first cap).run Tryz.prog w=.ok (.func fn first cap) w:=fun _ _ _ _=>rfl
 have hgl':=(lO hg)
 have x1:Hid ((w.alloc (.cells #[.pointer (some ⟨g,0,none⟩)] 24)).heap[w.heap.size]?=some (.cells #[.pointer (some ⟨g,0,none⟩)] 24 (0,0))):=heap_alloc_new w _
 have b1:=aAb w (.cells #[.pointer (some ⟨g,0,none⟩)] 24)
 have e1:(w.alloc (.cells #[.pointer (some ⟨g,0,none⟩)] 24)).heap.size=w.heap.size+1:=Array.size_push _
 have HCR:Hid (Calls Tryz.prog 40 #[.func (Fn.func 41) #[] #[.pointer (some ⟨w.heap.size,0,none⟩),.pointer (some ⟨w.heap.size+1,0,none⟩)]] ((w.alloc (.cells #[.pointer (some ⟨g,0,none⟩)] 24)).alloc (.cells #[.func (Fn.func hf) #[] cap] 62)) fun e' w'=>e'=.returned (.int .i64 0)/\ChR B p q g s t w now last sv d n gone h e w'):=by
  generalize hw1:(w.alloc (.cells #[.pointer (some ⟨g,0,none⟩)] 24))=w1 at *
  have x2:(w1.alloc (.cells #[.func (Fn.func hf) #[] cap] 62)).heap[w1.heap.size]?=some (.cells #[.func (Fn.func hf) #[] cap] 62 (0,0)):=heap_alloc_new w1 _
  have b2:=aAb w1 (.cells #[.func (Fn.func hf) #[] cap] 62)
  generalize hw2:(w1.alloc (.cells #[.func (Fn.func hf) #[] cap] 62))=w2 at *
  have x3:(w2.alloc (.cells #[.int .i64 0] 33)).heap[w2.heap.size]?=some (.cells #[.int .i64 0] 33 (0,0)):=heap_alloc_new w2 _
  have b3:=aAb w2 (.cells #[.int .i64 0] 33)
  have b12:Below w.heap.size w w2:=b1.trans (b2.mono b1.size)
  have b13:Below w.heap.size w (w2.alloc (.cells #[.int .i64 0] 33)):=b12.trans (b3.mono b12.size)
  have hbx:B<=w2.heap.size:=nT hB b12.size
  have y1:=((b2.block w.heap.size (by omega)).trans x1.out)
  have y1':=((b3.block w.heap.size (lO y1)).trans y1)
  have y2':=((b3.block w1.heap.size (lO x2)).trans x2)
  rw [e1] at y2'
  have hC:=change1_ok (w:=w2.alloc (.cells #[.int .i64 0] 33)) hg0 (hST.later b13) (nT hB b13.size) hgB ((b13.block g hgl').trans hg) hT y1' y2' (by decide) hcf (fun wx px k1 k2=>hHow wx px k1 (b13.trans (k2.mono b13.size))) hlf hdn haf hl1 hm hsn hf1 hfr hon hgo hgl
  have hgs:g<w2.heap.size:=Nat.lt_of_lt_of_le hgl' b12.size
  refine (aB8 (w:=w2) (P:=fun r ww=>r=0/\ChR B p q g s t (w2.alloc (.cells #[.int .i64 0] 33)) now last sv d n gone h e ww) (fun ww=>by rfl) (hC.mono ?_)).mono ?_
  ·rintro e9 w9 ⟨rfl,hc⟩
   refine ⟨0,rfl,⟨rfl,hc⟩,?_⟩
   obtain ⟨b,s',t',L,cs',k1,k2,k3,k4,k5,k6,k7⟩:=hc
   exact k7.2 _ _ _ _ x3 (by decide) (by omega)
  ·rintro e9 w9 ⟨r,w8,rfl,⟨rfl,hc⟩,rfl⟩
   refine ⟨rfl,?_⟩
   obtain ⟨b,s',t',L,cs',k1,k2,k3,k4,k5,k6,k7⟩:=hc
   have x9:=k7.2 _ _ _ _ x3 (by decide) (by omega)
   have hex:Ex B [w2.heap.size] w8 (w8.setCell ⟨w2.heap.size,0,none⟩ (.int .i64 0)):=Ex.set hbx
   refine ⟨b,s',t',L,cs',k1,k2,k3.exE hex x9,k4,hex.keepX x9 k5 (by decide),k6,(b13.mono hB).trans (k7.1.trans hex.1),fun k cs0 t0 fz m1 m2 m3=>?_,(GdK.of b13).trans (k7.gd.trans (hex.gdk x9 (by unfold DTy;decide)))⟩
   have m4:=k7.2 k cs0 t0 fz ((b13.block k (lO m1)).trans m1) m2 m3
   have hkl:=(lO m1)
   have hs2:=b12.size
   rw [hex.2 k (lO m4) (by simp;omega),m4]
 clear hST hg hT hcf hHow hlf hdn haf hl1 hm hsn hf1 hfr hon hgo hgl x1 b1
 go_enter Tryz.func18,Tryz.ntmps18
 go_wp2_with fail
 refine HCR.o.mono ?_
 rintro e9 w9 ⟨rfl,hc⟩
 have HC:=zH hc
 clear hc
 go_wp2
 go_ret
 exact ⟨rfl,HC.o⟩
structure TM [Gd] (B p q g:Nat) (s:DS) (t:PS) (now last:StT) (sv:Value) (left:Int) (w:World):Prop where
 st:ST B p q s t w
 bw:B<=w.heap.size
 bg:B<=g
 tv:∃ cs,w.heap[g]?=some (.cells cs 58 (0,0))/\TV cs p q now last sv left false
 lf:s.life=t.life
 dn:s.down=false
 af:s.after<1
 l1:s.life<100000
 sn:t.st.length=s.n
 hd:t.st.getD 0 0=0/\t.st.getD 1 0=0
theorem TM.later [Gd] {B p q g:Nat} {s:DS} {t:PS} {now last:StT} {sv:Value} {left:Int} {w w':World} (h:TM B p q g s t now last sv left w) (hb:Below w.heap.size w w'):TM B p q g s t now last sv left w':=by
 obtain ⟨cs,h1,h2⟩:=h.tv
 exact ⟨h.st.later hb,nT h.bw hb.size,h.bg,⟨cs,(hb.block g (lO h1)).trans h1,h2⟩,h.lf,h.dn,h.af,h.l1,h.sn,h.hd⟩
theorem TM.sl [Gd] {B p q g:Nat} {s:DS} {t:PS} {now last:StT} {sv:Value} {left:Int} {w:World} (h:TM B p q g s t now last sv left w):t.st.length<=4096:=by
 obtain ⟨_,gs,h2⟩:=h.st
 exact h2.ok.sl
theorem Gw.heads {s s':DS} {t t':PS} {L:List Nat} (g:Gw s t s' t' L) (h:t.st.getD 0 0=0/\t.st.getD 1 0=0):t'.st.getD 0 0=0/\t'.st.getD 1 0=0 :=
 ⟨(g.old 0 fun q=>by have:=(g.new 0 q).1;omega).trans h.1,(g.old 1 fun q=>by have:=(g.new 1 q).1;omega).trans h.2⟩
theorem aGb:∀ {h:Nat} (b:BT h),BT.id b∈pgB h b
 | 0,_=>List.mem_singleton.2 rfl
 | _+1,_=>List.mem_cons_self
theorem ChR.tm [Gd] {B p q g:Nat} {s:DS} {t:PS} {w w':World} {now last:StT} {sv:Value} {left d n:Int} {gone:List Nat} {h:Nat} {e:ED h} (hM:TM B p q g s t now last sv left w) (hc:ChR B p q g s t w now last sv d n gone h e w') :
  ∃ (b:BT h) (s':DS) (t':PS) (L:List Nat),LdR h e b L/\Gw s t s' t' L/\OnD s' t' h b/\TM B p q g s' t' ⟨(BT.id b:Nat),d,n,L.foldl adP (gone.foldl drP now.pgs)⟩ last sv (cntF t'.st:Nat) w'/\ChF B g w w':=by
 obtain ⟨b,s',t',L,cs',k1,k2,k3,k4,k5,k6,k7⟩:=hc
 exact ⟨b,s',t',L,k1,k2,k4,⟨k3,nT hM.bw k7.1.size,hM.bg,⟨cs',k5,k6⟩,by rw [k2.life,k2.tlife];exact hM.lf,by rw [k2.down];exact hM.dn,by rw [k2.after];exact hM.af,by rw [k2.life];exact hM.l1,by rw [k2.len,k2.n];exact hM.sn,k2.heads hM.hd⟩,k7⟩
def PutT [Gd] (B p q g:Nat) (s:DS) (t:PS) (now last:StT) (sv:Value) (l:List It) (it:It) (w w':World):Prop :=
 ∃ (s':DS) (t':PS) (now':StT) (L:List Nat),Gw s t s' t' L/\TM B p q g s' t' now' last sv (cntF t'.st:Nat) w'/\Tr s' t' now' (putL l it)/\(L.length:Int)<=2*now.depth+1/\ChF B g w w'
theorem put_change [Gd] {B p q g kb vb:Nat} {s:DS} {t:PS} {w:World} {now last:StT} {sv:Value} {left:Int} {l:List It} (hg0:True) (hM:TM B p q g s t now last sv left w) (hTr:Tr s t now l) (hl:l.length<100000) (it:It) (hit:ItOk it) {ka va:Option Addr} {kn kc vn vc:Nat} (hkn:it.1.length=kn) (hvn:it.2.length=vn) (hk:BK B w ka kn kc it.1) (hv:BK B w va vn vc it.2) (hroom:2*now.depth+1<=((cntF t.st:Nat):Int)) (hdep:now.depth<=400) (hm:s.m+1000<=100000)
  (hkb:w.heap[kb]?=some (.cells #[.slice ka kn kc] 27 (0,0))) (hvb:w.heap[vb]?=some (.cells #[.slice va vn vc] 27 (0,0))) :
  Calls Tryz.prog 18 #[.pointer (some ⟨g,0,none⟩),.func (Fn.func 28) #[] #[.pointer (some ⟨kb,0,none⟩),.pointer (some ⟨vb,0,none⟩)]] w fun e w'=>e=.returned (.int .i64 0)/\PutT B p q g s t now last sv l it w w':=by
 obtain ⟨cs,hg,hT⟩:=hM.tv
 have hcf:∀ (v:Value) (ww:World),(callFunc 28 (#[v]++#[.pointer (some ⟨kb,0,none⟩),.pointer (some ⟨vb,0,none⟩)])).run Tryz.prog ww=.ok (.enter 28 (#[v]++#[.pointer (some ⟨kb,0,none⟩),.pointer (some ⟨vb,0,none⟩)])) ww:=fun v ww=>by rfl
 have hcell:∀ w1,Below w.heap.size w w1->w1.cell? ⟨kb,0,none⟩=some (.slice ka kn kc)/\w1.cell? ⟨vb,0,none⟩=some (.slice va vn vc):=fun w1 hb=>⟨(hb.cell (p:=⟨kb,0,none⟩) (lO hkb)).trans (aAa hkb),(hb.cell (p:=⟨vb,0,none⟩) (lO hvb)).trans (aAa hvb)⟩
 rcases hTr with ⟨r1,r2,r3,rfl,r5⟩ | ⟨h,b,e1,e2,e3,e4,e5,e6,e7,e8,e9⟩
 ·have hr:rootE 0 (Sum.inr [it]:ED 0)=⟨0,Sum.inr [it]⟩:=if_neg (show ¬ 4<1 by decide)
  have hits:ItsOk [it]:=⟨nR _,show 1<=4 by decide,fun x hx=>by rw [List.mem_singleton] at hx;rw [hx];exact hit,List.pairwise_singleton _ _⟩
  have hfr:frE 0 (Sum.inr [it]:ED 0)=1:=rfl
  have hC:=aGk (B:=B) (h:=0) (e:=(Sum.inr [it]:ED 0)) (d:=1) (n:=1) (gone:=[]) (hf:=28) (cap:=#[.pointer (some ⟨kb,0,none⟩),.pointer (some ⟨vb,0,none⟩)]) hg0 hM.st hM.bw hM.bg hg hT hcf (fun w1 px k1 k2 k3 k4 k5=>by
   have c:=hcell w1 k2
   rw [r1,r2,r3] at k3
   have hP:=put_none (w:=w1) (n:=0) k3 k5 (Int.le_refl _) (by decide) it hkn hvn (hk.later k2 hM.bw) (hv.later k2 hM.bw)
   refine (put1_any c.1 c.2 hP).mono ?_
   rintro e9 w9 ⟨rfl,rv,S,m1,m2,m3,m4⟩
   rw [hr] at m2
   exact ⟨rfl,rv,S,m1,m2,m3,m4⟩) hM.lf hM.dn hM.af hM.l1 (by rw [hfr];omega) hM.sn (by rw [hfr];decide) (by rw [hfr];omega) hits (fun x hx=>by simp at hx) (by simp)
  refine hC.mono ?_
  rintro e9 w9 ⟨rfl,hc⟩
  obtain ⟨b,s',t',L,k1,k2,k3,k4,k5⟩:=hc.tm hM
  have hlen:=k1.len
  refine ⟨rfl,s',t',_,L,k2,k4,Or.inr ⟨0,b,rfl,rfl,rfl,?_,List.pairwise_singleton _ _,k3,?_,?_,?_⟩,?_,k5⟩
  ·exact k1.fl
  ·exact k1.sh (show (1:Nat)<=4 by decide)
  ·rw [k1.it];exact nR 1
  ·refine r5.step (gone:=[]) (old:=[]) (List.Perm.refl _) ?_ k2.nd (gw_lt k2 hM.sl) fun x _=>List.not_mem_nil
   exact k1.pg
  ·rw [hlen,hfr];omega
 ·have ho:=on_put it hit e4 e5 e6 e7
  have hfr:=fr_put2 (b:=b) it
  have hpl:=pth_len b it.1
  have hh:h<=399:=by omega
  have hC:=aGk (B:=B) (h:=(rootE h (putE h (old b) it)).1) (e:=(rootE h (putE h (old b) it)).2) (d:=(if 4<(itE (putE h (old b) it)).length then ((h+1:Nat):Int)+1 else ((h+1:Nat):Int))) (n:=cntN ((l.length:Nat):Int) (nwB h b it.1)) (gone:=pthB h b it.1) (hf:=28) (cap:=#[.pointer (some ⟨kb,0,none⟩),.pointer (some ⟨vb,0,none⟩)]) hg0 hM.st hM.bw hM.bg hg hT hcf (fun w1 px k1 k2 k3 k4 k5=>by
   have c:=hcell w1 k2
   rw [e1,e2,e3] at k3
   have hP:=put_some (w:=w1) (gone:=[]) hg0 hM.lf hM.dn b k3 rfl k4 k5 (by simp;omega) (by omega) (by omega) e6 e7 it hkn hvn (hk.later k2 hM.bw) (hv.later k2 hM.bw)
   refine (put1_any c.1 c.2 hP).mono ?_
   rintro e9 w9 ⟨rfl,rv,S,m1,m2,m3,m4⟩
   exact ⟨rfl,rv,S,m1,m2,m3,m4⟩) hM.lf hM.dn hM.af hM.l1 (by omega) hM.sn (by omega) (by omega) ho.2.2.2 (fun x hx=>Nat.lt_of_lt_of_le (e6.pth it.1 x hx) (by rw [<-hM.sn];exact hM.sl)) (by omega)
  refine hC.mono ?_
  rintro e9 w9 ⟨rfl,hc⟩
  obtain ⟨b',s',t',L,k1,k2,k3,k4,k5⟩:=hc.tm hM
  have hlen:=k1.len
  exact ⟨rfl,s',t',_,L,k2,k4,Tr.put hit e4 e5 e6 e7 e9 hM.sl k1 k2 k3,by omega,k5⟩
theorem Put_ok [Gd] {B p q g:Nat} {s:DS} {t:PS} {w:World} {now last:StT} {sv:Value} {left:Int} {l:List It} (hg0:True) (hM:TM B p q g s t now last sv left w) (hTr:Tr s t now l) (hl:l.length<100000) (it:It) (hit:ItOk it) {ka va:Option Addr} {kn kc vn vc:Nat} (hkn:it.1.length=kn) (hvn:it.2.length=vn) (hk:BK B w ka kn kc it.1) (hv:BK B w va vn vc it.2) (hroom:2*now.depth+1<=((cntF t.st:Nat):Int)) (hdep:now.depth<=400) (hm:s.m+1000<=100000) :
  Calls Tryz.prog 8 #[.pointer (some ⟨g,0,none⟩),.slice ka kn kc,.slice va vn vc] w fun e w'=>e=.returned (.int .i64 0)/\PutT B p q g s t now last sv l it w w':=by
 have hmf:∀ (fn:Fn) (first cap:Array Value) (w:World),(Instr.makeFunc fn first cap).run Tryz.prog w=.ok (.func fn first cap) w:=fun _ _ _ _=>rfl
 have hk0:¬ (kn:Int)=0:=by
  intro q9
  have:it.1.length=0:=by omega
  exact hit.k0 (List.eq_nil_of_length_eq_zero this)
 have hk6:=hit.k1
 have hv1:=hit.v1
 rw [hkn] at hk6
 rw [hvn] at hv1
 have xv:¬ (1800:Int)<(vn:Int):=by omega
 have b1:=aAb w (.cells #[.slice ka kn kc] 27)
 have b2:=aAb (w.alloc (.cells #[.slice ka kn kc] 27)) (.cells #[.slice va vn vc] 27)
 have x1:(w.alloc (.cells #[.slice ka kn kc] 27)).heap[w.heap.size]?=some (.cells #[.slice ka kn kc] 27 (0,0)):=heap_alloc_new w _
 have x2:=heap_alloc_new (w.alloc (.cells #[.slice ka kn kc] 27)) (.cells #[.slice va vn vc] 27)
 have e1:(w.alloc (.cells #[.slice ka kn kc] 27)).heap.size=w.heap.size+1:=Array.size_push _
 have b12:=b1.trans (b2.mono b1.size)
 have x1':=(b2.block w.heap.size (by omega)).trans x1
 rw [e1] at x2
 have HM:=zH hM
 have HTR:=zH hTr
 have HK:=zH hk
 have HV:=zH hv
 have HBB:=zH b12
 have HX1:=zH x1'
 have HX2:=zH x2
 have HRF:=zH (fun (ww:World) (hb:Below w.heap.size w ww)=>by
  obtain ⟨cs,hg,hT⟩:=(hM.later hb).tv
  have hr:=aCd (hM.later hb).st hM.lf hg hT ka kn kc
  rw [if_neg (by omega),if_neg (by omega)] at hr
  exact hr)
 have HPC:=zH (fun (ww:World) (hb:Below w.heap.size w ww) (y1:ww.heap[w.heap.size]?=some (.cells #[.slice ka kn kc] 27 (0,0))) (y2:ww.heap[w.heap.size+1]?=some (.cells #[.slice va vn vc] 27 (0,0)))=>put_change hg0 (hM.later hb) hTr hl it hit hkn hvn (hk.later hb hM.bw) (hv.later hb hM.bw) hroom hdep hm y1 y2)
 have c1:((w.alloc (.cells #[.slice ka kn kc] 27)).alloc (.cells #[.slice va vn vc] 27)).cell? ⟨w.heap.size,0,none⟩=some (.slice ka kn kc):=aAa x1'
 clear hM hTr hk hv hl hit hroom hdep hm b1 b2 x1 x2 b12 x1' hk6 hv1 hkn hvn
 go_enter Tryz.func8,Tryz.ntmps8
 go_wp2_with fail
 refine (HRF.o _ HBB.o).mono ?_
 rintro e9 w1 ⟨rfl,hb1⟩
 have HB1:=zH (HBB.o.trans (hb1.mono HBB.o.size))
 have y1:=(hb1.block _ (lO HX1.o)).trans HX1.o
 have y2:=(hb1.block _ (lO HX2.o)).trans HX2.o
 have HCH:=zH (HPC.o w1 HB1.o y1 y2)
 have c2:w1.cell? ⟨w.heap.size+1,0,none⟩=some (.slice va vn vc):=aAa y2
 clear hb1 y1 y2 c1
 go_wp2_with fail
 refine HCH.o.mono ?_
 rintro e9 w2 ⟨rfl,hp⟩
 have HP:=zH hp
 clear hp
 go_wp2
 go_ret
 refine ⟨rfl,?_⟩
 obtain ⟨s',t',now',L,k1,k2,k3,k4,k5⟩:=HP.o
 refine ⟨s',t',now',L,k1,k2,k3,k4,(HB1.o.mono HM.o.bw).trans k5.1,fun k cs0 t0 fz m1 m2 m3=>?_,(GdK.of HB1.o).trans k5.gd⟩
 exact k5.2 k cs0 t0 fz ((HB1.o.block k (lO m1)).trans m1) m2 m3
theorem Ex.ftE {B g:Nat} {w w':World} {cs:Array Value} (f:Ex B [g] w w') (hg:w.heap[g]?=some (.cells cs 33 (0,0))):FT B w w':=⟨f.1,fun k cs' fz e=>f.keepX hg e (by decide)⟩
theorem PRW.exE {B B1 b0:Nat} {w w':World} {v:Value} {F:List It} {cs:Array Value} (h:PRW B B1 w v F) (f:Ex B [b0] w w') (hg:w.heap[b0]?=some (.cells cs 33 (0,0))):PRW B B1 w' v F :=
 h.stay (f.ftE hg) fun k cs' _ e=>f.keepX hg e (by decide)
theorem SpV.exE {B B1 r b0:Nat} {w w':World} {lv hv:Value} {lo hi:List Nat} {most:Nat} {F:List It} {cs:Array Value} (h:SpV B B1 w r lv hv lo hi most F) (f:Ex B [b0] w w') (hg:w.heap[b0]?=some (.cells cs 33 (0,0))):SpV B B1 w' r lv hv lo hi most F:=by
 obtain ⟨fv,h1,h2⟩:=h.hx
 exact ⟨h.hr,h.klo.ft (f.ftE hg),h.khi.ft (f.ftE hg),fv,f.keepX hg h1 (by decide),h2.exE f hg⟩
theorem aIm {a b c:List Nat} (h1:0<=cmpB a b) (h2:0<=cmpB b c):0<=cmpB a c:=by
 apply Classical.byContradiction
 intro q9
 have h3:cmpB a c<0:=by omega
 by_cases h4:cmpB b c=0
 ·have:=aDo h4
  subst this
  omega
 ·have h5:cmpB c b<0:=by rw [aBc];omega
  have:=aA9 h3 h5
  omega
theorem scan_none {hi lo:List Nat} {most:Nat} (l:List It) (h:endB hi lo=true):(scan hi most [] (frm l lo)).1=[]:=by
 cases hf:frm l lo with
 | nil=>rfl
 | cons x r =>
  have hx:x∈frm l lo:=by rw [hf];exact List.mem_cons_self
  have hx2:0<=cmpB x.1 lo:=by
   have:=(List.mem_filter.1 hx).2
   simpa using this
  simp only [endB,Bool.and_eq_true,decide_eq_true_eq] at h
  have he:endB hi x.1=true:=by
   simp only [endB,Bool.and_eq_true,decide_eq_true_eq]
   exact ⟨h.1,aIm hx2 h.2⟩
  simp [scan,he]
def rngL (l:List It) (lo hi:List Nat) (most:Nat):List It:=(scan hi most [] (frm l lo)).1
theorem pairsC_ok [Gd] {B p q g r n0 gs so h:Nat} {s:DS} {t:PS} {w0 w:World} {now last:StT} {sv:Value} {left:Int} {lv hv:Value} {lo hi:List Nat} {most:Nat} (hM:TM B p q g s t now last sv left w0) (hb:Below w0.heap.size w0 w) (b:BT h) (hon:OnD s t h b) (hsr:Srt (flB h b)) (hh:h<100000) (hsp:SpV B w0.heap.size w r lv hv lo hi most []) (hm0:0<most) (hmo:most<100000) (hgs:LkB w0 gs) (hr0:w0.cell? ⟨gs,so,none⟩=some (.int .i64 (BT.id b:Int))) (hd0:w0.cell? ⟨gs,so+1,none⟩=some (.int .i64 ((h:Int)+1)))
  (x0:w.heap[n0]?=some (.cells #[.pointer (some ⟨g,0,none⟩)] 24 (0,0))) (x1:w.heap[n0+1]?=some (.cells #[.pointer (some ⟨gs,so,none⟩)] 71 (0,0))) (x2:w.heap[n0+2]?=some (.cells #[.pointer (some ⟨r,0,none⟩)] 72 (0,0))) :
  Calls Tryz.prog 40 #[.func (Fn.func 60) #[] #[.pointer (some ⟨n0+2,0,none⟩),.pointer (some ⟨n0,0,none⟩),.pointer (some ⟨n0+1,0,none⟩)]] w fun e w'=>e=.returned (.int .i64 0)/\SpV B w0.heap.size w' r lv hv lo hi most (scan hi most [] (frm (flB h b) lo)).1/\LkF w0.heap.size w w':=by
 have b3:=aAb w (.cells #[.int .i64 0] 33)
 have x3:(w.alloc (.cells #[.int .i64 0] 33)).heap[w.heap.size]?=some (.cells #[.int .i64 0] 33 (0,0)):=heap_alloc_new w _
 have hbx:w0.heap.size<=w.heap.size:=hb.size
 have hBw:B<=w.heap.size:=nT hM.bw hbx
 have b4:=hb.trans (b3.mono hbx)
 generalize hw1:(w.alloc (.cells #[.int .i64 0] 33))=w1 at *
 obtain ⟨cs,hg,hT⟩:=hM.tv
 have lt:∀ {k:Nat} {o:Obj} {ww:World},ww.heap[k]?=some o->k<ww.heap.size:=fun e=>(lO e)
 have y0:=(b3.block _ (lt x0)).trans x0
 have y1:=(b3.block _ (lt x1)).trans x1
 have y2:=(b3.block _ (lt x2)).trans x2
 have yg:=(b4.block _ (lt hg)).trans hg
 obtain ⟨cs2,t2,fz2,hgs1,hgs2,hgs3⟩:=hgs
 have ygs:=(b4.block _ (lt hgs1)).trans hgs1
 have hC:=pairs1_ok (w:=w1) (w0:=w0) hM.st hM.bw hM.lf hM.dn b4 b hon hsr hh (hsp.later b3 hBw) hm0 hmo (aAa y2) (aAa y0) ((aAa yg).trans hT.c1) (aAa y1) ((b4.cell (p:=⟨gs,so,none⟩) (lt hgs1)).trans hr0) ((b4.cell (p:=⟨gs,so+1,none⟩) (lt hgs1)).trans hd0) ⟨_,_,_,y2,by decide,by decide⟩ ⟨_,_,_,y0,by decide,by decide⟩ ⟨_,_,_,yg,by decide,by decide⟩ ⟨_,_,_,y1,by decide,by decide⟩ ⟨_,_,_,ygs,hgs2,hgs3⟩
 subst hw1
 refine (aB8 (w:=w) (P:=fun r' ww=>r'=0/\SpV B w0.heap.size ww r lv hv lo hi most (scan hi most [] (frm (flB h b) lo)).1/\LkF w0.heap.size (w.alloc (.cells #[.int .i64 0] 33)) ww) (fun ww=>by rfl) (hC.mono ?_)).mono ?_
 ·rintro e9 w9 ⟨rfl,h1,h2⟩
  exact ⟨0,rfl,⟨rfl,h1,h2⟩,h2.2 _ _ _ _ x3 (by decide) (by decide)⟩
 ·rintro e9 w9 ⟨r',w8,rfl,⟨rfl,h1,h2⟩,rfl⟩
  have x9:=h2.2 _ _ _ _ x3 (by decide) (by decide)
  have hex:Ex B [w.heap.size] w8 (w8.setCell ⟨w.heap.size,0,none⟩ (.int .i64 0)):=Ex.set hBw
  refine ⟨rfl,h1.exE hex x9,?_,fun k cs0 t0 fz m1 m2 m3=>?_⟩
  ·exact (b3.mono hbx).trans (h2.1.trans ((Below.refl _ w8).setCell (p:=⟨w.heap.size,0,none⟩) hbx _))
  ·have m4:=h2.2 k cs0 t0 fz ((b3.block k (lt m1)).trans m1) m2 m3
   have hkl:=lt m1
   rw [hex.2 k (lt m4) (by simp;omega),m4]
theorem pairs_any [Gd] {B p q g r gs so:Nat} {s:DS} {t:PS} {w0 w:World} {now last st:StT} {sv:Value} {left:Int} {lv hv:Value} {lo hi:List Nat} {most:Nat} {l:List It} (hM:TM B p q g s t now last sv left w0) (hb:Below w0.heap.size w0 w) (hTr:Tr s t st l) (hdp:st.depth<100000) (hlo:lo.length<=64) (hhi:hi.length<=64) (hsp:SpV B w0.heap.size w r lv hv lo hi most []) (hm0:0<most) (hmo:most<100000) (hgs:LkB w0 gs) (hr0:w0.cell? ⟨gs,so,none⟩=some (.int .i64 st.root)) (hd0:w0.cell? ⟨gs,so+1,none⟩=some (.int .i64 st.depth)) :
  Calls Tryz.prog 31 #[.pointer (some ⟨g,0,none⟩),.pointer (some ⟨gs,so,none⟩),.pointer (some ⟨r,0,none⟩)] w fun e w'=>∃ fv,e=.returned (.tuple #[fv,.int .i64 0])/\PRW B w0.heap.size w' fv (rngL l lo hi most)/\LkF w0.heap.size w w':=by
 have hmf:∀ (fn:Fn) (first cap:Array Value) (w:World),(Instr.makeFunc fn first cap).run Tryz.prog w=.ok (.func fn first cap) w:=fun _ _ _ _=>rfl
 have hbs:=hb.size
 have hBw:B<=w.heap.size:=nT hM.bw hbs
 have lt:∀ {k:Nat} {o:Obj} {ww:World},ww.heap[k]?=some o->k<ww.heap.size:=fun e=>(lO e)
 have HB1:Hid (Below w.heap.size w (((w.alloc (.cells #[.pointer (some ⟨g,0,none⟩)] 24)).alloc (.cells #[.pointer (some ⟨gs,so,none⟩)] 71)).alloc (.cells #[.pointer (some ⟨r,0,none⟩)] 72))):=by
  have a1:=aAb w (.cells #[.pointer (some ⟨g,0,none⟩)] 24)
  have a2:=aAb (w.alloc (.cells #[.pointer (some ⟨g,0,none⟩)] 24)) (.cells #[.pointer (some ⟨gs,so,none⟩)] 71)
  have a3:=aAb ((w.alloc (.cells #[.pointer (some ⟨g,0,none⟩)] 24)).alloc (.cells #[.pointer (some ⟨gs,so,none⟩)] 71)) (.cells #[.pointer (some ⟨r,0,none⟩)] 72)
  exact (a1.trans (a2.mono a1.size)).trans (a3.mono (nT a1.size a2.size))
 have e1:(w.alloc (.cells #[.pointer (some ⟨g,0,none⟩)] 24)).heap.size=w.heap.size+1:=Array.size_push _
 have e2:((w.alloc (.cells #[.pointer (some ⟨g,0,none⟩)] 24)).alloc (.cells #[.pointer (some ⟨gs,so,none⟩)] 71)).heap.size=w.heap.size+2:=(Array.size_push _).trans (by rw [e1])
 have HX:Hid ((((w.alloc (.cells #[.pointer (some ⟨g,0,none⟩)] 24)).alloc (.cells #[.pointer (some ⟨gs,so,none⟩)] 71)).alloc (.cells #[.pointer (some ⟨r,0,none⟩)] 72)).heap[w.heap.size]?=some (.cells #[.pointer (some ⟨g,0,none⟩)] 24 (0,0))/\(((w.alloc (.cells #[.pointer (some ⟨g,0,none⟩)] 24)).alloc (.cells #[.pointer (some ⟨gs,so,none⟩)] 71)).alloc (.cells #[.pointer (some ⟨r,0,none⟩)] 72)).heap[w.heap.size+1]?=some (.cells #[.pointer (some ⟨gs,so,none⟩)] 71 (0,0))/\(((w.alloc (.cells #[.pointer (some ⟨g,0,none⟩)] 24)).alloc (.cells #[.pointer (some ⟨gs,so,none⟩)] 71)).alloc (.cells #[.pointer (some ⟨r,0,none⟩)] 72)).heap[w.heap.size+2]?=some (.cells #[.pointer (some ⟨r,0,none⟩)] 72 (0,0))):=by
  have a2:=aAb (w.alloc (.cells #[.pointer (some ⟨g,0,none⟩)] 24)) (.cells #[.pointer (some ⟨gs,so,none⟩)] 71)
  have a3:=aAb ((w.alloc (.cells #[.pointer (some ⟨g,0,none⟩)] 24)).alloc (.cells #[.pointer (some ⟨gs,so,none⟩)] 71)) (.cells #[.pointer (some ⟨r,0,none⟩)] 72)
  have x0:(w.alloc (.cells #[.pointer (some ⟨g,0,none⟩)] 24)).heap[w.heap.size]?=_:=heap_alloc_new w _
  have x1:((w.alloc (.cells #[.pointer (some ⟨g,0,none⟩)] 24)).alloc (.cells #[.pointer (some ⟨gs,so,none⟩)] 71)).heap[(w.alloc (.cells #[.pointer (some ⟨g,0,none⟩)] 24)).heap.size]?=_:=heap_alloc_new _ _
  have x2:(((w.alloc (.cells #[.pointer (some ⟨g,0,none⟩)] 24)).alloc (.cells #[.pointer (some ⟨gs,so,none⟩)] 71)).alloc (.cells #[.pointer (some ⟨r,0,none⟩)] 72)).heap[((w.alloc (.cells #[.pointer (some ⟨g,0,none⟩)] 24)).alloc (.cells #[.pointer (some ⟨gs,so,none⟩)] 71)).heap.size]?=_:=heap_alloc_new _ _
  rw [e1] at x1
  rw [e2] at x2
  refine ⟨?_,?_,x2⟩
  ·rw [a3.block _ (by omega),a2.block _ (by omega),x0]
  ·rw [a3.block _ (by omega),x1]
 have HM:=zH hM
 have HTR:=zH hTr
 have HB0:=zH hb
 have HSP:=zH hsp
 have HGS:=zH hgs
 have HR0:=zH hr0
 have HD0:=zH hd0
 have HDP:=zH hdp
 obtain ⟨la,lc,hlv,hlb⟩:=hsp.klo
 obtain ⟨ha,hc,hhv,hhb⟩:=hsp.khi
 subst hlv hhv
 have HLB:=zH hlb
 have c0:(((w.alloc (.cells #[.pointer (some ⟨g,0,none⟩)] 24)).alloc (.cells #[.pointer (some ⟨gs,so,none⟩)] 71)).alloc (.cells #[.pointer (some ⟨r,0,none⟩)] 72)).cell? ⟨w.heap.size,0,none⟩=some (.pointer (some ⟨g,0,none⟩)):=aAa HX.o.1
 clear hM hTr hb hsp hgs hr0 hd0 hdp hlb hhb e1 e2
 have xl:¬ (64:Int)<(lo.length:Int):=by omega
 have xh:¬ (64:Int)<(hi.length:Int):=by omega
 have dl:decide ((64:Int)<(lo.length:Int))=false:=by simp;omega
 have xm:¬ (most:Int)<0:=by omega
 have xm2:¬ (most:Int)=0:=by omega
 have dm2:((most:Int) == 0)=false:=by simp;omega
 generalize hln:lo.length=ln at *
 generalize hhn:hi.length=hn at *
 generalize hn0:w.heap.size=n0 at *
 generalize hW1:(((w.alloc (.cells #[.pointer (some ⟨g,0,none⟩)] 24)).alloc (.cells #[.pointer (some ⟨gs,so,none⟩)] 71)).alloc (.cells #[.pointer (some ⟨r,0,none⟩)] 72))=w1 at *
 have HDD:Hid (Calls Tryz.prog 21 #[.pointer (some ⟨g,0,none⟩)] w1 fun e w'=>e=.returned (.bool false)/\Below w1.heap.size w1 w'):=by
  have h1:=(HM.o.later (HB0.o.trans (HB1.o.mono hbs)))
  obtain ⟨cs,hg,hT⟩:=h1.tv
  exact aDe h1.st HM.o.lf hg hT
 go_enter Tryz.func31,Tryz.ntmps31
 go_upto_region 1 with fail
 go_wp2_with fail
 refine HDD.o.mono ?_
 rintro e w2 ⟨rfl,hb2⟩
 have HB2:Hid (Below n0 w w2):=HB1.o.trans (hb2.mono (by have:=HB1.o.size;omega))
 have HY:Hid (w2.heap[n0]?=some (.cells #[.pointer (some ⟨g,0,none⟩)] 24 (0,0))/\w2.heap[n0+1]?=some (.cells #[.pointer (some ⟨gs,so,none⟩)] 71 (0,0))/\w2.heap[n0+2]?=some (.cells #[.pointer (some ⟨r,0,none⟩)] 72 (0,0))):=⟨(hb2.block _ (lt HX.o.1)).trans HX.o.1,(hb2.block _ (lt HX.o.2.1)).trans HX.o.2.1,(hb2.block _ (lt HX.o.2.2)).trans HX.o.2.2⟩
 have HSP2:Hid (SpV B w0.heap.size w2 r (.slice la ln lc) (.slice ha hn hc) lo hi most []):=HSP.o.later (by rw [hn0];exact HB2.o) (by rw [hn0];exact hBw)
 have HB02:Hid (Below w0.heap.size w0 w2):=HB0.o.trans (HB2.o.mono hbs)
 have HR2:Hid (w2.cell? ⟨gs,so,none⟩=some (.int .i64 st.root)):=by
  obtain ⟨cs2,t2,fz2,k1,k2,k3⟩:=HGS.o
  exact (HB02.o.cell (p:=⟨gs,so,none⟩) (lt k1)).trans HR0.o
 have b0:w2.cell? ⟨n0,0,none⟩=some (.pointer (some ⟨g,0,none⟩)):=aAa HY.o.1
 have b1:w2.cell? ⟨n0+1,0,none⟩=some (.pointer (some ⟨gs,so,none⟩)):=aAa HY.o.2.1
 have b2:w2.cell? ⟨n0+2,0,none⟩=some (.pointer (some ⟨r,0,none⟩)):=aAa HY.o.2.2
 have s0:w2.cell? ⟨r,0,none⟩=some (.slice la ln lc):=HSP2.o.cellsx.1
 have s1:w2.cell? ⟨r,1,none⟩=some (.slice ha hn hc):=HSP2.o.cellsx.2.1
 have s2:w2.cell? ⟨r,2,none⟩=some (.int .i64 (most:Int)):=HSP2.o.cellsx.2.2
 have HLB2:Hid (BK B w2 la ln lc lo):=HLB.o.later (by rw [hn0];exact HB2.o) (by rw [hn0];exact hBw)
 have HBW2:Hid (B<=w2.heap.size):=by
  have h1:=HB2.o.size
  show B<=w2.heap.size
  omega
 clear hb2 c0 HDD HX HB1
 go_upto_region 7 with fail
 generalize hrt:st.root=root at *
 have HX0:Hid ((fun wx=>wx.cell? ⟨n0+2,0,none⟩=some (.pointer (some ⟨r,0,none⟩))/\wx.cell? ⟨r,2,none⟩=some (.int .i64 (most:Int))/\wx.cell? ⟨r,0,none⟩=some (.slice la ln lc)/\wx.cell? ⟨n0+1,0,none⟩=some (.pointer (some ⟨gs,so,none⟩))/\wx.cell? ⟨gs,so,none⟩=some (.int .i64 root)) w2.drew):=⟨b2,s2,s0,b1,HR2.o⟩
 have HEN:=zH (ends_any (HSP2.o.later (Below.refl _ _).drew HBW2.o) (HLB2.o.later (Below.refl _ _).drew HBW2.o).1)
 clear b1 b2 s0 s1 s2
 have HBd:=zH ((Below.refl w2.heap.size w2).drew)
 rcases HTR.o with ⟨r1,r2,r3,r4,r5⟩ | ⟨h,b,q1,q2,q3,q4,q5,q6,q7,q8,q9⟩
 ·obtain rfl:root=0:=by rw [<-hrt];exact r1
  subst r4
  have HRG:Hid (rngL [] lo hi most=[]):=rfl
  refine wp_region_noPanic ?_
  refine wp_region_held_drew (S:=fun wx=>wx.cell? ⟨n0+2,0,none⟩=some (.pointer (some ⟨r,0,none⟩))/\wx.cell? ⟨r,2,none⟩=some (.int .i64 (most:Int))/\wx.cell? ⟨r,0,none⟩=some (.slice la ln lc)/\wx.cell? ⟨n0+1,0,none⟩=some (.pointer (some ⟨gs,so,none⟩))/\wx.cell? ⟨gs,so,none⟩=some (.int .i64 0)) (by kernel_rfl) HX0.o (fun hHeld=>?_)
  refine kT 0 34 ?_
  refine kT 1 35 ?_
  refine kT 2 36 ?_
  refine kT 3 37 ?_
  refine kT 4 38 ?_
  refine kT 5 39 ?_
  refine kT 6 40 ?_
  refine kT 7 41 ?_
  refine kT 8 42 ?_
  refine kT 9 43 ?_
  refine kT 10 44 ?_
  refine kT 11 45 ?_
  refine kT 12 46 ?_
  refine aAd (i:=13) (d:=47) (v:=undef) (by kernel_rfl) (by kernel_rfl) (by kernel_rfl) (by kernel_rfl) (fun _ _ _ h=>h) ?hyn13 (by assumption) ?restn13
  case hyn13 =>
   intro oi ho
   simp only [List.getElem?_toArray,List.getElem?_cons_succ,List.getElem?_cons_zero,oI] at ho
   subst ho
   exact Or.inr ⟨by rfl,rfl⟩
  try simp only [Act.put,siT,scZ,scS]
  refine aAd (i:=14) (d:=48) (v:=undef) (by kernel_rfl) (by kernel_rfl) (by kernel_rfl) (by kernel_rfl) (fun _ _ _ h=>h) ?hyn14 (by assumption) ?restn14
  case hyn14 =>
   intro oi ho
   simp only [List.getElem?_toArray,List.getElem?_cons_succ,List.getElem?_cons_zero,oI] at ho
   subst ho
   exact Or.inr ⟨by rfl,rfl⟩
  try simp only [Act.put,siT,scZ,scS]
  refine aAd (i:=15) (d:=49) (v:=undef) (by kernel_rfl) (by kernel_rfl) (by kernel_rfl) (by kernel_rfl) (fun _ _ _ h=>h) ?hyn15 (by assumption) ?restn15
  case hyn15 =>
   intro oi ho
   simp only [List.getElem?_toArray,List.getElem?_cons_succ,List.getElem?_cons_zero,oI] at ho
   subst ho
   exact Or.inr ⟨by rfl,rfl⟩
  try simp only [Act.put,siT,scZ,scS]
  refine aAd (i:=16) (d:=50) (v:=undef) (by kernel_rfl) (by kernel_rfl) (by kernel_rfl) (by kernel_rfl) (fun _ _ _ h=>h) ?hyn16 (by assumption) ?restn16
  case hyn16 =>
   intro oi ho
   simp only [List.getElem?_toArray,List.getElem?_cons_succ,List.getElem?_cons_zero,oI] at ho
   subst ho
   exact Or.inr ⟨by rfl,rfl⟩
  try simp only [Act.put,siT,scZ,scS]
  refine aAd (i:=17) (d:=51) (v:=undef) (by kernel_rfl) (by kernel_rfl) (by kernel_rfl) (by kernel_rfl) (fun _ _ _ h=>h) ?hyn17 (by assumption) ?restn17
  case hyn17 =>
   intro oi ho
   simp only [List.getElem?_toArray,List.getElem?_cons_succ,List.getElem?_cons_zero,oI] at ho
   subst ho
   exact Or.inr ⟨by rfl,rfl⟩
  try simp only [Act.put,siT,scZ,scS]
  refine aAd (i:=18) (d:=52) (v:=undef) (by kernel_rfl) (by kernel_rfl) (by kernel_rfl) (by kernel_rfl) (fun _ _ _ h=>h) ?hyn18 (by assumption) ?restn18
  case hyn18 =>
   intro oi ho
   simp only [List.getElem?_toArray,List.getElem?_cons_succ,List.getElem?_cons_zero,oI] at ho
   subst ho
   exact Or.inr ⟨by rfl,rfl⟩
  try simp only [Act.put,siT,scZ,scS]
  refine kT 19 53 ?_
  refine kT 20 33 ?_
  refine wpAnyH_done (by kernel_rfl) ?_ _
  refine NoPanic.normal ?_
  clear hHeld
  go_wp2
  go_ret2
  refine ⟨_,rfl,?_,?_⟩
  ·rw [HRG.o];exact PRW.nil _ _ _
  ·exact LkF.of (by rw [hn0];exact HB2.o.trans (HBd.o.mono (by have:=HB2.o.size;omega))) (by rw [hn0];exact hbs)
 ·have hid:=q6.idlt
  have hid1:0<BT.id b:=by
   have k1:=(q6.held _ (aGb b)).1
   have k2:=HM.o.hd.1
   apply Classical.byContradiction
   intro k3
   rw [show BT.id b=0 by omega,k2] at k1
   exact absurd k1 (by decide)
  have xr:¬ root=0:=by rw [<-hrt,q1];omega
  have dr:(root == 0)=false:=by simp;exact xr
  refine wp_region_noPanic ?_
  refine wp_region_held_drew (S:=fun wx=>wx.cell? ⟨n0+2,0,none⟩=some (.pointer (some ⟨r,0,none⟩))/\wx.cell? ⟨r,2,none⟩=some (.int .i64 (most:Int))/\wx.cell? ⟨r,0,none⟩=some (.slice la ln lc)/\wx.cell? ⟨n0+1,0,none⟩=some (.pointer (some ⟨gs,so,none⟩))/\wx.cell? ⟨gs,so,none⟩=some (.int .i64 root)) (by kernel_rfl) HX0.o (fun hHeld=>?_)
  refine kT 0 34 ?_
  refine kT 1 35 ?_
  refine kT 2 36 ?_
  refine kT 3 37 ?_
  refine kT 4 38 ?_
  refine kT 5 39 ?_
  refine kT 6 40 ?_
  refine kT 7 41 ?_
  refine kT 8 42 ?_
  refine kT 9 43 ?_
  refine kT 10 44 ?_
  refine kT 11 45 ?_
  refine kT 12 46 ?_
  refine kT 13 47 ?_
  refine kT 14 48 ?_
  refine kT 15 49 ?_
  refine kT 16 50 ?_
  refine kT 17 51 ?_
  refine kC 18 ?_;intro K hK
  go_simp
  refine HEN.o.mono ?_
  rintro e w3 ⟨rfl,rfl⟩
  refine hK.out _ _ HX0.o (fun hHeld=>?_)
  clear hK K
  try simp only [Act.put,siT,scZ,scS]
  refine kT 19 53 ?_
  refine kT 20 33 ?_
  refine wpAnyH_done (by kernel_rfl) ?_ _
  refine NoPanic.normal ?_
  clear hHeld
  have HEQ:Hid (flB h b=l):=q4
  cases hen:endB hi lo with
  | true =>
   have HRG:Hid (rngL l lo hi most=[]):=scan_none l hen
   clear hen
   go_wp2
   go_ret2
   refine ⟨_,rfl,?_,?_⟩
   ·rw [HRG.o];exact PRW.nil _ _ _
   ·exact LkF.of (by rw [hn0];exact HB2.o.trans (HBd.o.mono (by have:=HB2.o.size;omega))) (by rw [hn0];exact hbs)
  | false =>
   have HCC:=zH (pairsC_ok (w:=w2.drew) HM.o (HB02.o.trans (HBd.o.mono HB02.o.size)) b q6 (by rw [q4];exact q5) (by have:=HDP.o;omega) (HSP2.o.later HBd.o HBW2.o) hm0 hmo HGS.o (by rw [HR0.o,<-hrt,q1]) (by rw [HD0.o,q2];simp) HY.o.1 HY.o.2.1 HY.o.2.2)
   clear hen q1 q2 q3 q4 q5 q6 q7 q8 q9
   go_wp2_with fail
   refine HCC.o.mono ?_
   rintro e w4 ⟨rfl,h1,h2⟩
   rw [HEQ.o] at h1
   have HL4:=zH h2
   obtain ⟨fv,k1,k2⟩:=h1.hx
   have HP4:=zH k2
   have HY4:=zH (h2.2 _ _ _ _ (show w2.drew.heap[n0+2]?=_ from HY.o.2.2) (by decide) (by decide))
   obtain ⟨fa,fc,hfv⟩:=k2.form
   subst hfv
   have z2:w4.cell? ⟨n0+2,0,none⟩=some (.pointer (some ⟨r,0,none⟩)):=aAa HY4.o
   have z3:w4.cell? ⟨r,3,none⟩=some (.slice fa (scan hi most [] (frm l lo)).1.length fc):=aAa k1
   clear h1 h2 k1 k2 HCC
   go_wp2
   go_ret2
   refine ⟨_,rfl,HP4.o,?_⟩
   exact (LkF.of (by rw [hn0];exact HB2.o.trans (HBd.o.mono (by have:=HB2.o.size;omega))) (by rw [hn0];exact hbs)).trans HL4.o
theorem span_new {B:Nat} {w:World} {la ha:Option Addr} {lc hc:Nat} {lo hi:List Nat} {ln hn most:Nat} (hB:B<=w.heap.size) (hln:lo.length=ln) (hhn:hi.length=hn) (hlo:BK B w la ln lc lo) (hhi:BK B w ha hn hc hi) :
  SpV B w.heap.size (w.alloc (.cells #[.slice la ln lc,.slice ha hn hc,.int .i64 (most:Int),.slice none 0 0] 74)) w.heap.size (.slice la ln lc) (.slice ha hn hc) lo hi most []:=by
 have hb:=aAb w (.cells #[.slice la ln lc,.slice ha hn hc,.int .i64 (most:Int),.slice none 0 0] 74)
 refine ⟨nR _,⟨la,lc,by rw [hln],by rw [hln];exact hlo.later hb hB⟩,⟨ha,hc,by rw [hhn],by rw [hhn];exact hhi.later hb hB⟩,_,heap_alloc_new w _,PRW.nil _ _ _⟩
theorem Range_ok [Gd] {B p q g:Nat} {s:DS} {t:PS} {w:World} {now last:StT} {sv:Value} {left:Int} {lo hi:List Nat} {most:Nat} {l:List It} (hM:TM B p q g s t now last sv left w) (hTr:Tr s t now l) (hdp:now.depth<100000) {la ha:Option Addr} {ln lc hn hc:Nat} (hln:lo.length=ln) (hhn:hi.length=hn) (hlo:BK B w la ln lc lo) (hhi:BK B w ha hn hc hi) (h1:ln<=64) (h2:hn<=64) (hm0:0<most) (hmo:most<100000) :
  Calls Tryz.prog 11 #[.pointer (some ⟨g,0,none⟩),.slice la ln lc,.slice ha hn hc,.int .i64 (most:Int)] w fun e w'=>∃ fv,e=.returned (.tuple #[fv,.int .i64 0])/\PRW B w.heap.size w' fv (rngL l lo hi most)/\Below w.heap.size w w':=by
 obtain ⟨cs,hg,hT⟩:=hM.tv
 have HSB:=zH (aAb w (.cells #[.slice la ln lc,.slice ha hn hc,.int .i64 (most:Int),.slice none 0 0] 74))
 have HPA:=zH (pairs_any (w0:=w) (gs:=g) (so:=2) hM HSB.o hTr hdp (by omega) (by omega) (span_new hM.bw hln hhn hlo hhi) hm0 hmo ⟨_,_,_,hg,by decide,by decide⟩ ((aAa hg).trans hT.n0) ((aAa hg).trans hT.n1))
 clear hM hTr hdp hlo hhi hg hT
 go_enter Tryz.func11,Tryz.ntmps11
 go_wp2_with fail
 refine HPA.o.mono ?_
 rintro e w1 ⟨fv,rfl,k1,k2⟩
 have HK1:=zH k1
 have HK2:=zH k2
 obtain ⟨fa,fc,hfv⟩:=k1.form
 subst hfv
 clear k1 k2
 go_wp2
 go_ret2
 exact ⟨_,rfl,HK1.o,HSB.o.trans HK2.o.1⟩
theorem SnapRange_ok [Gd] {B p q g gn:Nat} {s:DS} {t:PS} {w:World} {now last st:StT} {sv:Value} {left:Int} {lo hi:List Nat} {most:Nat} {l:List It} {cn:Array Value} (hM:TM B p q g s t now last sv left w) (hTr:Tr s t st l) (hdp:st.depth<100000) (hn0:w.heap[gn]?=some (.cells cn 124 (0,0))) (c0:cn[0]?=some (.pointer (some ⟨g,0,none⟩))) (c1:cn[1]?=some (.int .i64 st.root)) (c2:cn[2]?=some (.int .i64 st.depth)) {la ha:Option Addr} {ln lc hn hc:Nat} (hln:lo.length=ln) (hhn:hi.length=hn) (hlo:BK B w la ln lc lo) (hhi:BK B w ha hn hc hi) (h1:ln<=64) (h2:hn<=64) (hm0:0<most) (hmo:most<100000) :
  Calls Tryz.prog 33 #[.pointer (some ⟨gn,0,none⟩),.slice la ln lc,.slice ha hn hc,.int .i64 (most:Int)] w fun e w'=>∃ fv,e=.returned (.tuple #[fv,.int .i64 0])/\PRW B w.heap.size w' fv (rngL l lo hi most)/\Below w.heap.size w w':=by
 have HSB:=zH (aAb w (.cells #[.slice la ln lc,.slice ha hn hc,.int .i64 (most:Int),.slice none 0 0] 74))
 have HSD:=zH (HSB.o.drew)
 have HPA:=zH (pairs_any (w0:=w) (w:=(w.alloc (.cells #[.slice la ln lc,.slice ha hn hc,.int .i64 (most:Int),.slice none 0 0] 74)).drew) (gs:=gn) (so:=1) hM HSD.o hTr hdp (by omega) (by omega) ((span_new hM.bw hln hhn hlo hhi).later (Below.refl _ _).drew (nT hM.bw HSB.o.size)) hm0 hmo ⟨_,_,_,hn0,by decide,by decide⟩ ((aAa hn0).trans c1) ((aAa hn0).trans c2))
 have r0:w.cell? ⟨gn,0,none⟩=some (.pointer (some ⟨g,0,none⟩)):=(aAa hn0).trans c0
 have hgl:=(lO hn0)
 have HX0:Hid ((fun wx=>wx.cell? ⟨gn,0,none⟩=some (.pointer (some ⟨g,0,none⟩))) w.drew):=r0
 have HX1:Hid ((fun wx=>wx.cell? ⟨gn,0,none⟩=some (.pointer (some ⟨g,0,none⟩))) (w.alloc (.cells #[.slice la ln lc,.slice ha hn hc,.int .i64 (most:Int),.slice none 0 0] 74)).drew):=(HSD.o.cell (p:=⟨gn,0,none⟩) hgl).trans r0
 clear hM hTr hdp hlo hhi hn0 c0 c1 c2
 go_enter Tryz.func33,Tryz.ntmps33
 go_upto_region 3 with fail
 refine wp_region_noPanic ?_
 refine wp_region_held_drew (S:=fun wx=>wx.cell? ⟨gn,0,none⟩=some (.pointer (some ⟨g,0,none⟩))) (by kernel_rfl) HX0.o (fun hHeld=>?_)
 refine kT 0 15 ?_
 refine kT 1 16 ?_
 refine kT 2 17 ?_
 refine kT 3 18 ?_
 refine kT 4 19 ?_
 refine kT 5 20 ?_
 refine kT 6 21 ?_
 refine kT 7 22 ?_
 refine kT 8 23 ?_
 refine kT 9 24 ?_
 refine kT 10 25 ?_
 refine kC 11 ?_;intro K hK
 go_simp
 clear hHeld
 refine hK.out _ _ HX1.o (fun hHeld=>?_)
 clear hK K
 try simp only [Act.put,siT,scZ,scS]
 refine kC 12 ?_;intro K hK
 go_simp
 refine HPA.o.mono ?_
 rintro e w1 ⟨fv,rfl,k1,k2⟩
 have HK1:=zH k1
 have HK2:=zH k2
 obtain ⟨fa,fc,hfv⟩:=k1.form
 subst hfv
 have HX2:Hid ((fun wx=>wx.cell? ⟨gn,0,none⟩=some (.pointer (some ⟨g,0,none⟩))) w1):=(k2.1.cell (p:=⟨gn,0,none⟩) hgl).trans HX1.o
 clear k1 k2 hHeld
 refine hK.out _ _ HX2.o (fun hHeld=>?_)
 clear hK K
 try simp only [Act.put,siT,scZ,scS]
 refine kT 13 28 ?_
 refine kT 14 29 ?_
 refine kT 15 8 ?_
 refine kT 16 9 ?_
 refine wpAnyH_done (by kernel_rfl) ?_ _
 refine NoPanic.normal ?_
 clear hHeld
 go_wp2
 go_ret2
 exact ⟨_,rfl,HK1.o,HSD.o.trans HK2.o.1⟩
end Go.Proofs.YtfobcelkmopohaaGreat
