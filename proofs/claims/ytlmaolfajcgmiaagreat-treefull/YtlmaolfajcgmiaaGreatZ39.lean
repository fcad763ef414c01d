import Derived.Test.YtlmaolfajcgmiaaGreatZ38
set_option maxRecDepth 100000
set_option maxHeartbeats 16000000
set_option linter.unusedVariables false
namespace Go.Proofs.YtlmaolfajcgmiaaGreat
open Go.RowKit
def LkI (B B1:Nat) (w:World) (r:Nat) (lv hv:Value) (lo hi:List Nat) (most:Nat) (F:List It) (all rest:List It) (wx:World):Prop :=
 ∃ Fj:List It,Fj.length<most∧scan hi most F all=scan hi most Fj rest∧SpV B B1 wx r lv hv lo hi most Fj∧LkF B1 w wx
theorem aBz {hi:List Nat} {most:Nat} {F a b:List It} (h:(scan hi most F a).2=true):scan hi most F (a++b)=scan hi most (scan hi most F a).1 b:=by rw [aGn,if_pos h]
theorem aBy {hi:List Nat} {most:Nat} {F a b:List It} (h:(scan hi most F a).2=false):scan hi most F (a++b)=scan hi most F a:=by rw [aGn,h];simp
theorem look_leaf [Gd] {B p q r:Nat} {s:DS} {t:PS} {w0 w:World} {lv hv:Value} {lo hi:List Nat} {most:Nat} (hST:ST B p q s t w0) (hB:B≤w0.heap.size) (hlf:s.life=t.life) (hdn:s.down=false) (hb:Below w0.heap.size w0 w) (b:BT 0) (hon:OnD s t 0 b) (F:List It) (hsp:SpV B w0.heap.size w r lv hv lo hi most F) (hF:F.length<most) (hmo:most<100000) :
  Calls Tryz.prog 98 #[.pointer (some ⟨r,0,none⟩),.pointer (some ⟨q,0,none⟩),.int .i64 (b.1:Int),.int .i64 1] w fun e w'=>TkR B w0.heap.size w r lv hv lo hi most F (frm b.2 lo) e w':=by
 obtain ⟨hpg,hit⟩:=hon
 have hBw:=nT hB hb.size
 have HLD:=hide (aCh b.1 (hST.later hb) hBw hlf hpg.lt (by rw [hpg.of];decide) hdn b.2 hpg.pg hit.n1 hit.n4 hit.ok hit.so hpg.ln hpg.bt)
 have HIT:=hide hit
 have HSP:=hide hsp
 have HB:=hide hB
 have HBw:=hide hBw
 have HS0:=hide hb.size
 have hl4:=hit.n4
 have HF:=hide hF
 have HMO:=hide hmo
 obtain ⟨la,lc,hlv,hlb⟩:=hsp.klo
 subst hlv
 have HLB:=hide hlb
 have HFD:=hide (frm_drop hit.so lo)
 have hfl:=aA4 b.2 lo
 clear hST hb hpg hit hsp hF hmo hlb hlf hdn hB hBw
 generalize hl:b.2=l at *
 generalize hLL:l.length=L at *
 generalize hFi:fndI l lo=Fi at *
 generalize hhb:hasI l lo=hb0 at *
 generalize hB1:w0.heap.size=B1 at *
 go_enter Tryz.func98,Tryz.ntmps98
 go_wp2_with fail
 refine HLD.out.mono ?_
 rintro e w1 ⟨v1,rfl,⟨gl,gi,rfl,z1,z2,z3,z4⟩,hb1⟩
 rw [hLL] at z3
 have HIO:=hide (aBe z3)
 have HBw1:Hid (B≤w1.heap.size):=nT HBw.out hb1.size
 have HSP1:=hide (HSP.out.later hb1 HBw.out)
 have HLK1:Hid (LkF B1 w w1):=LkF.of hb1 HS0.out
 have HFN:Hid (∀ ww,Below w1.heap.size w1 ww→Calls Tryz.prog 108 #[.slice (some ⟨gi,0,none⟩) L L,.slice la lo.length lc] ww fun e w'=>e=.returned (.tuple #[.int .i64 (Fi:Int),.bool hb0])∧Below ww.heap.size ww w'):=fun ww hbb=>by
  have:=find_ok (z4.later hbb HBw1.out) (nT HBw1.out hbb.size) ((HLB.out.later (hb1.trans (hbb.mono hb1.size)) HBw.out).1) (by omega) HIT.out.so hLL
  rw [hFi,hhb] at this
  exact this
 have r0:w1.cell? ⟨r,0,none⟩=some (.slice la lo.length lc):=HSP1.out.cellsx.1
 have HZ4:=hide z4
 clear z3 z4 hb1 HLD
 unfold lfP at HIO
 go_wp2_with fail
 refine HIO.out.mono ?_
 rintro e w2 ⟨rfl,rfl⟩
 go_wp2_with fail
 refine (HFN.out _ (Below.refl _ _)).mono ?_
 rintro e w3 ⟨rfl,hb3⟩
 have ta:=aAu (.pointer (some ⟨gl,0,none⟩)) w3
 have HSP3:=hide (HSP1.out.later hb3 HBw1.out)
 have HS1:Hid (B1≤w2.heap.size):=nT HS0.out HLK1.out.1.size
 have HLK3:Hid (LkF B1 w w3):=HLK1.out.trans (LkF.of hb3 HS1.out)
 have HIR3:=hide (HZ4.out.later hb3 HBw1.out)
 have HS3:Hid (B1≤w3.heap.size):=nT HS1.out hb3.size
 clear hb3 r0 HFN HIO HZ4
 go_wp2_with fail
 go_loopw [15] (fun i wx=>∃ j:Nat,Fi≤j∧j≤L+1∧i=.int .i64 j∧LkI B B1 w3 r (.slice la lo.length lc) hv lo hi most F (frm l lo) (l.drop j) wx) (fun i _=>L+1-(intOf i).toNat)
 case atStart=>exact ⟨Fi,nR _,by omega,rfl,F,HF.out,by rw [HFD.out],HSP3.out,LkF.refl _ _⟩
 case round =>
  obtain ⟨j,hj0,hj,rfl,hP⟩:=hrel
  obtain ⟨Fj,hFj,hsc,hsp,hlk⟩:=hP
  have HFj:=hide hFj
  have HSC:=hide hsc
  have HSPj:=hide hsp
  have HLKj:=hide hlk
  have HLKw:=hide (HLK3.out.trans hlk)
  clear hFj hsc hsp hlk
  by_cases hjn:j<L
  ·have x1:(j:Int)≤(L:Int):=by omega
   have x2:(j:Int)<(L:Int):=by omega
   have d2:decide ((j:Int)<(L:Int))=true:=by simp;omega
   obtain ⟨it,hitj⟩:∃ it,l[j]?=some it:=⟨_,gE (by omega)⟩
   obtain ⟨kf,vf,hg1,hg2⟩:=HIR3.out
   rw [hLL] at hg1
   have hgr:=HLKj.out.2 _ _ _ _ hg1 (by decide) (by decide)
   obtain ⟨hk1,hv1⟩:=hg2 j it hitj
   have hft:=HLKj.out.ft (HB.out)
   have hk1':=hk1.ft hft
   have hv1':=hv1.ft hft
   have y5:wr.cell? ⟨gi,j*2,none⟩=some (kf j):=by rw [aAa hgr,List.getElem?_toArray];exact aAp kf vf j L hjn
   have y6:wr.cell? ⟨gi,j*2+1,none⟩=some (vf j):=by rw [aAa hgr,List.getElem?_toArray];exact aAx kf vf j L hjn
   have HTK:=hide (aDd HSPj.out HB.out (nT HS3.out HLKj.out.1.size) (by have:=HFj.out;have:=HMO.out;omega) it hk1' hv1')
   obtain ⟨ka,kc,hka,hkk⟩:=hk1'
   obtain ⟨va,vc,hva,hvv⟩:=hv1'
   rw [hka] at y5 HTK
   rw [hva] at y6 HTK
   have hd:l.drop j=[it]++l.drop (j+1):=by
    rw [←(List.getElem?_eq_some_iff.1 hitj).2]
    simp
   have HD:=hide hd
   generalize hkn:it.1.length=kn at *
   generalize hvn:it.2.length=vn at *
   clear hg1 hg2 hgr hk1 hv1 hft hkk hvv hka hva hd hitj ta
   cases hb0 with
   | false =>
    go_wp2_with fail
    refine HTK.out.mono ?_
    rintro e w5 ⟨rfl,hsp5,hlk5⟩
    have HSP5:=hide hsp5
    have HLK5:=hide hlk5
    clear hsp5 hlk5 y5 y6
    cases hsc2:(scan hi most Fj [it]).2 with
    | true =>
     have HSC2:=hide hsc2
     clear hsc2
     go_wp2_with fail
     go_roundw
     case rel =>
      refine ⟨j+1,by omega,by omega,by go_num,_,(((aB4 hi most [it] Fj).2 HFj.out).2 HSC2.out),?_,HSP5.out,HLKj.out.trans HLK5.out⟩
      rw [HSC.out,HD.out,aBz HSC2.out]
     case measure=>simp [intOf];omega
    | false =>
     have HSC2:=hide hsc2
     clear hsc2
     go_wp2
     (try simp only [Exit.inBlock,Exit.then])
     go_ret
     have hq:scan hi most F (frm l lo)=scan hi most Fj [it]:=by rw [HSC.out,HD.out,aBy HSC2.out]
     unfold TkR
     rw [hq,HSC2.out]
     exact ⟨rfl,HSP5.out,HLKw.out.trans HLK5.out⟩
   | true =>
    go_wp2_with fail
    refine HTK.out.mono ?_
    rintro e w5 ⟨rfl,hsp5,hlk5⟩
    have HSP5:=hide hsp5
    have HLK5:=hide hlk5
    clear hsp5 hlk5 y5 y6
    cases hsc2:(scan hi most Fj [it]).2 with
    | true =>
     have HSC2:=hide hsc2
     clear hsc2
     go_wp2_with fail
     go_roundw
     case rel =>
      refine ⟨j+1,by omega,by omega,by go_num,_,(((aB4 hi most [it] Fj).2 HFj.out).2 HSC2.out),?_,HSP5.out,HLKj.out.trans HLK5.out⟩
      rw [HSC.out,HD.out,aBz HSC2.out]
     case measure=>simp [intOf];omega
    | false =>
     have HSC2:=hide hsc2
     clear hsc2
     go_wp2
     (try simp only [Exit.inBlock,Exit.then])
     go_ret
     have hq:scan hi most F (frm l lo)=scan hi most Fj [it]:=by rw [HSC.out,HD.out,aBy HSC2.out]
     unfold TkR
     rw [hq,HSC2.out]
     exact ⟨rfl,HSP5.out,HLKw.out.trans HLK5.out⟩
  ·by_cases hje:j=L
   ·have x1:(j:Int)≤(L:Int):=by omega
    have x2:¬ (j:Int)<(L:Int):=by omega
    have d2:decide ((j:Int)<(L:Int))=false:=by simp;omega
    clear ta
    cases hb0 with
    | false =>
     go_wp2_with fail
     go_roundw
     case rel =>
      refine ⟨j+1,by omega,by omega,by go_num,Fj,HFj.out,?_,HSPj.out,HLKj.out⟩
      rw [HSC.out,List.drop_eq_nil_of_le (by omega),List.drop_eq_nil_of_le (by omega)]
     case measure=>simp [intOf];omega
    | true =>
     go_wp2_with fail
     go_roundw
     case rel =>
      refine ⟨j+1,by omega,by omega,by go_num,Fj,HFj.out,?_,HSPj.out,HLKj.out⟩
      rw [HSC.out,List.drop_eq_nil_of_le (by omega),List.drop_eq_nil_of_le (by omega)]
     case measure=>simp [intOf];omega
   ·have x1:¬ (j:Int)≤(L:Int):=by omega
    clear ta
    go_wp2
    (try simp only [Exit.inBlock,Exit.then])
    go_ret
    have hq:scan hi most F (frm l lo)=(Fj,true):=by
     rw [HSC.out,List.drop_eq_nil_of_le (by omega)]
     rfl
    unfold TkR
    rw [hq]
    exact ⟨rfl,HSPj.out,HLKw.out⟩
def rsJ (l:List It) (cs:List (List It)) (lo:List Nat) (j:Nat):List It:=if j≤l.length then (if j=fndI l lo∧hasI l lo=true then [] else frm (cs.getD j []) lo)++rstB l cs j else []
section
variable {l:List It} {cs:List (List It)} {lo:List Nat}
theorem rsJ_at {j:Nat} (hj:j≤l.length):rsJ l cs lo j=(if j=fndI l lo∧hasI l lo=true then [] else frm (cs.getD j []) lo)++rstB l cs j:=if_pos hj
theorem rsJ_end {j:Nat} (hj:l.length<j):rsJ l cs lo j=[]:=if_neg (by omega)
theorem rsJ_start (hs:Srt (weave l cs)) (hl:cs.length=l.length+1):frm (weave l cs) lo=rsJ l cs lo (fndI l lo):=by
 have hle:=aA4 l lo
 obtain ⟨c,hc⟩:∃ c,cs[fndI l lo]?=some c:=⟨_,gE (by omega)⟩
 rw [frm_weave hs hl hc,rsJ_at hle,List.getD_eq_getElem?_getD,hc]
 by_cases hh:hasI l lo=true
 ·rw [if_pos hh,if_pos ⟨rfl,hh⟩];rfl
 ·rw [if_neg hh,if_neg (fun q=>hh q.2)];rfl
theorem aGo (hs:Srt (weave l cs)) (hl:cs.length=l.length+1) {j:Nat} {x:It} (hj:fndI l lo≤j) (hx:l[j]?=some x):rstB l cs j=[x]++rsJ l cs lo (j+1):=by
 have hjl:=(lL hx)
 obtain ⟨c,hc⟩:∃ c,cs[j+1]?=some c:=⟨_,gE (by omega)⟩
 rw [rsJ_at (by omega),if_neg (by omega),List.getD_eq_getElem?_getD,hc,Option.getD_some,frm_kid hs hl (show fndI l lo<j+1 by omega) hc]
 unfold rstB
 rw [aC3 hx hc]
 rfl
theorem rst_end {j:Nat} (hj:l.length≤j):rstB l cs j=[]:=wvR_end hj
end
def LkC [Gd] (B p q r:Nat) (s:DS) (t:PS) (B1:Nat) (w0:World) (lv hv:Value) (lo hi:List Nat) (most:Nat) (h:Nat):Prop :=
 ∀ (w:World) (b:BT h) (F:List It),Below B1 w0 w→OnD s t h b→Srt (flB h b)→SpV B B1 w r lv hv lo hi most F→F.length<most →
  Calls Tryz.prog 98 #[.pointer (some ⟨r,0,none⟩),.pointer (some ⟨q,0,none⟩),.int .i64 (BT.id b:Int),.int .i64 ((h:Int)+1)] w fun e w'=>TkR B B1 w r lv hv lo hi most F (frm (flB h b) lo) e w'
theorem look_branch [Gd] {B p q r h:Nat} {s:DS} {t:PS} {w0 w:World} {lv hv:Value} {lo hi:List Nat} {most:Nat} (hST:ST B p q s t w0) (hB:B≤w0.heap.size) (hlf:s.life=t.life) (hdn:s.down=false) (hb:Below w0.heap.size w0 w) (b:BT (h+1)) (hon:OnD s t (h+1) b) (hsr:Srt (flB (h+1) b)) (F:List It) (hsp:SpV B w0.heap.size w r lv hv lo hi most F) (hF:F.length<most) (hmo:most<100000) (hh:h<100000)
  (hIH:LkC B p q r s t w0.heap.size w0 lv hv lo hi most h) :
  Calls Tryz.prog 98 #[.pointer (some ⟨r,0,none⟩),.pointer (some ⟨q,0,none⟩),.int .i64 (b.1:Int),.int .i64 ((h:Int)+1+1)] w fun e w'=>TkR B w0.heap.size w r lv hv lo hi most F (frm (flB (h+1) b) lo) e w':=by
 obtain ⟨hpg,hit,hcl,hid,hkd⟩:=hon
 have hBw:=nT hB hb.size
 have hidl:(b.2.2.map BT.id).length=b.2.1.length+1:=by rw [List.length_map];exact hcl
 have HLD:=aB2 b.1 (h+2) (by omega) (hST.later hb) hBw hlf hpg.lt (by rw [hpg.of];decide) hdn b.2.1 (b.2.2.map BT.id) hpg.pg hidl (by intro x hx;obtain ⟨k,hk,rfl⟩:=List.mem_map.1 hx;exact hid k hk) hit.n1 hit.n4 hit.ok hit.so hpg.ln hpg.bt
 rw [show (((h+2:Nat):Nat):Int)=(h:Int)+1+1 by omega] at HLD
 replace HLD:=hide HLD
 have HIT:=hide hit
 have HSP:=hide hsp
 have HB:=hide hB
 have HBw:=hide hBw
 have HS0:=hide hb.size
 have HB0:=hide hb
 have HIH:=hide hIH
 have hl4:=hit.n4
 have HF:=hide hF
 have HMO:=hide hmo
 obtain ⟨la,lc,hlv,hlb⟩:=hsp.klo
 subst hlv
 have HLB:=hide hlb
 have hcs:(b.2.2.map (flB h)).length=b.2.1.length+1:=by rw [List.length_map];exact hcl
 have HCS:=hide hcs
 have HSR:Hid (Srt (weave b.2.1 (b.2.2.map (flB h)))):=hsr
 have HST0:Hid (frm (flB (h+1) b) lo=rsJ b.2.1 (b.2.2.map (flB h)) lo (fndI b.2.1 lo)):=rsJ_start hsr hcs
 have HKD:=hide hkd
 have HKS:Hid (∀ k∈b.2.2,Srt (flB h k)):=fun k hk=>Srt.kid hsr hcs (List.mem_map_of_mem hk)
 have hfl:=aA4 b.2.1 lo
 have HHS:Hid (hasI b.2.1 lo=true→fndI b.2.1 lo<b.2.1.length):=fun q9=>by
  obtain ⟨x,hx,_⟩:=(hit.so.has lo).1 q9
  exact (lL hx)
 generalize flB (h+1) b=all at *
 clear hST hb hpg hit hsp hF hmo hlb hlf hdn hB hBw hsr hid hkd hcs hIH
 generalize hl:b.2.1=l at *
 generalize hLL:l.length=L at *
 generalize hFi:fndI l lo=Fi at *
 generalize hhb:hasI l lo=hb0 at *
 generalize hB1:w0.heap.size=B1 at *
 have hn2:(b.2.2.map BT.id).length=L+1:=hidl
 go_enter Tryz.func98,Tryz.ntmps98
 go_wp2_with fail
 refine HLD.out.mono ?_
 rintro e w1 ⟨v1,rfl,⟨gb,gi,gc,rfl,z1,z2,z5,z3,z4,z6⟩,hb1⟩
 rw [hLL,hn2] at z3
 have HIO:=hide (aA6 z3)
 have HBw1:Hid (B≤w1.heap.size):=nT HBw.out hb1.size
 have HSP1:=hide (HSP.out.later hb1 HBw.out)
 have HLK1:Hid (LkF B1 w w1):=LkF.of hb1 HS0.out
 have HFN:Hid (∀ ww,Below w1.heap.size w1 ww→Calls Tryz.prog 108 #[.slice (some ⟨gi,0,none⟩) L L,.slice la lo.length lc] ww fun e w'=>e=.returned (.tuple #[.int .i64 (Fi:Int),.bool hb0])∧Below ww.heap.size ww w'):=fun ww hbb=>by
  have:=find_ok (z4.later hbb HBw1.out) (nT HBw1.out hbb.size) ((HLB.out.later (hb1.trans (hbb.mono hb1.size)) HBw.out).1) (by omega) HIT.out.so hLL
  rw [hFi,hhb] at this
  exact this
 have r0:w1.cell? ⟨r,0,none⟩=some (.slice la lo.length lc):=HSP1.out.cellsx.1
 have HZ4:=hide z4
 have HZ3:=hide z3
 have HZ6:=hide z6
 clear z3 z4 z6 hb1 HLD
 unfold brP at HIO
 go_wp2_with fail
 refine HIO.out.mono ?_
 rintro e w2 ⟨rfl,rfl⟩
 go_wp2_with fail
 refine (HFN.out _ (Below.refl _ _)).mono ?_
 rintro e w3 ⟨rfl,hb3⟩
 have ta:=aAt (.pointer (some ⟨gb,0,none⟩)) w3
 have HSP3:=hide (HSP1.out.later hb3 HBw1.out)
 have HS1:Hid (B1≤w2.heap.size):=nT HS0.out HLK1.out.1.size
 have HLK3:Hid (LkF B1 w w3):=HLK1.out.trans (LkF.of hb3 HS1.out)
 have HIR3:=hide (HZ4.out.later hb3 HBw1.out)
 have HGB3:=hide ((hb3.block gb (lO HZ3.out)).trans HZ3.out)
 have HGC3:=hide ((hb3.block gc (lO HZ6.out)).trans HZ6.out)
 have HS3:Hid (B1≤w3.heap.size):=nT HS1.out hb3.size
 have HB3:Hid (Below B1 w0 w3):=HB0.out.trans HLK3.out.1
 clear hb3 r0 HFN HIO HZ4 HZ3 HZ6
 go_wp2_with fail
 go_loopw [15] (fun i wx=>∃ j:Nat,Fi≤j∧j≤L+1∧i=.int .i64 j∧LkI B B1 w3 r (.slice la lo.length lc) hv lo hi most F (frm all lo) (rsJ l (b.2.2.map (flB h)) lo j) wx) (fun i _=>L+1-(intOf i).toNat)
 case atStart=>exact ⟨Fi,nR _,by omega,rfl,F,HF.out,by rw [HST0.out],HSP3.out,LkF.refl _ _⟩
 case round =>
  obtain ⟨j,hj0,hj,rfl,hP⟩:=hrel
  obtain ⟨Fj,hFj,hsc,hsp,hlk⟩:=hP
  have HFj:=hide hFj
  have HSC:=hide hsc
  have HSPj:=hide hsp
  have HLKj:=hide hlk
  have HLKw:=hide (HLK3.out.trans hlk)
  clear hFj hsc hsp hlk ta
  by_cases hjn:j≤L
  ·have x1:(j:Int)≤(L:Int):=by omega
   cases hb0 with
   | false =>
    obtain ⟨kb,hkb⟩:∃ kb,b.2.2[j]?=some kb:=⟨_,gE (by omega)⟩
    have hkm:=mG hkb
    have HKR:Hid (rsJ l (b.2.2.map (flB h)) lo j=frm (flB h kb) lo++rstB l (b.2.2.map (flB h)) j):=by
     show _=_
     rw [rsJ_at (by omega),if_neg (fun q9=>by rw [hhb] at q9;exact absurd q9.2 (by decide)),List.getD_eq_getElem?_getD,List.getElem?_map,hkb]
     rfl
    have hgb:=HLKj.out.2 _ _ _ _ HGB3.out (by decide) (by decide)
    have hgc:=HLKj.out.2 _ _ _ _ HGC3.out (by decide) (by decide)
    have g1:wr.cell? ⟨gb,1,none⟩=some (.slice (some ⟨gc,0,none⟩) (L+1) (L+1)):=aAa hgb
    have g2:wr.cell? ⟨gc,j,none⟩=some (.iface 119 (.int .i64 (BT.id kb:Int))):=by
     rw [aAa hgc,List.getElem?_toArray,List.getElem?_map,List.getElem?_map,hkb]
     rfl
    have g3:=aCp (.int .i64 (BT.id kb:Int)) wr
    have xl:(j:Int)<((L+1:Nat):Int):=by omega
    have HCL:=hide (HIH.out wr kb Fj (HB3.out.trans HLKj.out.1) (HKD.out kb hkm) (HKS.out kb hkm) HSPj.out HFj.out)
    clear hgb hgc hkm hkb
    go_wp2_with fail
    refine HCL.out.mono ?_
    rintro e w4 ⟨rfl,hsp4,hlk4⟩
    have HSPc:=hide hsp4
    have HLKc:=hide (HLKj.out.trans hlk4)
    have HLKwc:=hide (HLKw.out.trans hlk4)
    clear hsp4 hlk4 g1 g2 g3 HCL
    cases hsc1:(scan hi most Fj (frm (flB h kb) lo)).2 with
    | false =>
     have HSC1:=hide hsc1
     clear hsc1
     go_wp2
     (try simp only [Exit.inBlock,Exit.then])
     go_ret
     have hq:scan hi most F (frm all lo)=scan hi most Fj (frm (flB h kb) lo):=by rw [HSC.out,HKR.out,aBy HSC1.out]
     unfold TkR
     rw [hq,HSC1.out]
     exact ⟨rfl,HSPc.out,HLKwc.out⟩
    | true =>
     have HFc:Hid ((scan hi most Fj (frm (flB h kb) lo)).1.length<most):=(((aB4 hi most (frm (flB h kb) lo) Fj).2 HFj.out).2 hsc1)
     have HSCc:Hid (scan hi most F (frm all lo)=scan hi most (scan hi most Fj (frm (flB h kb) lo)).1 (rstB l (b.2.2.map (flB h)) j)):=by
      show _=_
      rw [HSC.out,HKR.out,aBz hsc1]
     clear hsc1
     generalize (scan hi most Fj (frm (flB h kb) lo)).1=Fc at *
     by_cases hjl:j<L
     ·have x2:(j:Int)<(L:Int):=by omega
      have d2:decide ((j:Int)<(L:Int))=true:=by simp;omega
      obtain ⟨it,hitj⟩:∃ it,l[j]?=some it:=⟨_,gE (by omega)⟩
      have HRS:Hid (rstB l (b.2.2.map (flB h)) j=[it]++rsJ l (b.2.2.map (flB h)) lo (j+1)):=aGo HSR.out (by rw [hLL];exact HCS.out) (by rw [hFi];exact hj0) hitj
      obtain ⟨kf,vf,hg1,hg2⟩:=HIR3.out
      rw [hLL] at hg1
      have hgr:=HLKc.out.2 _ _ _ _ hg1 (by decide) (by decide)
      obtain ⟨hk1,hv1⟩:=hg2 j it hitj
      have hft:=HLKc.out.ft (HB.out)
      have hk1':=hk1.ft hft
      have hv1':=hv1.ft hft
      have y5:w4.cell? ⟨gi,j*2,none⟩=some (kf j):=by rw [aAa hgr,List.getElem?_toArray];exact aAp kf vf j L (by omega)
      have y6:w4.cell? ⟨gi,j*2+1,none⟩=some (vf j):=by rw [aAa hgr,List.getElem?_toArray];exact aAx kf vf j L (by omega)
      have HTK:=hide (aDd HSPc.out HB.out (nT HS3.out HLKc.out.1.size) (by have:=HFc.out;have:=HMO.out;omega) it hk1' hv1')
      obtain ⟨ka,kc,hka,hkk⟩:=hk1'
      obtain ⟨va,vc,hva,hvv⟩:=hv1'
      rw [hka] at y5 HTK
      rw [hva] at y6 HTK
      generalize hkn:it.1.length=kn at *
      generalize hvn:it.2.length=vn at *
      clear hg1 hg2 hgr hk1 hv1 hft hkk hvv hka hva hitj
      go_wp2_with fail
      refine HTK.out.mono ?_
      rintro e w5 ⟨rfl,hsp5,hlk5⟩
      have HSP5:=hide hsp5
      have HLK5:=hide hlk5
      clear hsp5 hlk5 y5 y6
      cases hsc2:(scan hi most Fc [it]).2 with
      | true =>
       have HSC2:=hide hsc2
       clear hsc2
       go_wp2_with fail
       go_roundw
       case rel =>
        refine ⟨j+1,by omega,by omega,by go_num,_,(((aB4 hi most [it] Fc).2 HFc.out).2 HSC2.out),?_,HSP5.out,HLKc.out.trans HLK5.out⟩
        rw [HSCc.out,HRS.out,aBz HSC2.out]
       case measure=>simp [intOf];omega
      | false =>
       have HSC2:=hide hsc2
       clear hsc2
       go_wp2
       (try simp only [Exit.inBlock,Exit.then])
       go_ret
       have hq:scan hi most F (frm all lo)=scan hi most Fc [it]:=by rw [HSCc.out,HRS.out,aBy HSC2.out]
       unfold TkR
       rw [hq,HSC2.out]
       exact ⟨rfl,HSP5.out,HLKwc.out.trans HLK5.out⟩
     ·have x2:¬ (j:Int)<(L:Int):=by omega
      have d2:decide ((j:Int)<(L:Int))=false:=by simp;omega
      go_wp2_with fail
      go_roundw
      case rel =>
       refine ⟨j+1,by omega,by omega,by go_num,Fc,HFc.out,?_,HSPc.out,HLKc.out⟩
       rw [HSCc.out,rst_end (by omega),rsJ_end (by omega)]
      case measure=>simp [intOf];omega
   | true =>
    by_cases hjf:j=Fi
    ·obtain rfl:Fi=j:=hjf.symm
     have hFL:Fi<L:=HHS.out rfl
     have x2:(Fi:Int)<(L:Int):=by omega
     have d2:decide ((Fi:Int)<(L:Int))=true:=by simp;omega
     have HFc:=HFj
     have HSPc:=HSPj
     have HLKc:=HLKj
     have HLKwc:=HLKw
     have HSCc:Hid (scan hi most F (frm all lo)=scan hi most Fj (rstB l (b.2.2.map (flB h)) Fi)):=by
      show _=_
      rw [HSC.out,rsJ_at (by omega),if_pos ⟨by omega,hhb⟩,List.nil_append]
     obtain ⟨it,hitj⟩:∃ it,l[Fi]?=some it:=⟨_,gE (by omega)⟩
     have HRS:Hid (rstB l (b.2.2.map (flB h)) Fi=[it]++rsJ l (b.2.2.map (flB h)) lo (Fi+1)):=aGo HSR.out (by rw [hLL];exact HCS.out) (by rw [hFi];exact hj0) hitj
     obtain ⟨kf,vf,hg1,hg2⟩:=HIR3.out
     rw [hLL] at hg1
     have hgr:=HLKc.out.2 _ _ _ _ hg1 (by decide) (by decide)
     obtain ⟨hk1,hv1⟩:=hg2 Fi it hitj
     have hft:=HLKc.out.ft (HB.out)
     have hk1':=hk1.ft hft
     have hv1':=hv1.ft hft
     have y5:wr.cell? ⟨gi,Fi*2,none⟩=some (kf Fi):=by rw [aAa hgr,List.getElem?_toArray];exact aAp kf vf Fi L (by omega)
     have y6:wr.cell? ⟨gi,Fi*2+1,none⟩=some (vf Fi):=by rw [aAa hgr,List.getElem?_toArray];exact aAx kf vf Fi L (by omega)
     have HTK:=hide (aDd HSPc.out HB.out (nT HS3.out HLKc.out.1.size) (by have:=HFc.out;have:=HMO.out;omega) it hk1' hv1')
     obtain ⟨ka,kc,hka,hkk⟩:=hk1'
     obtain ⟨va,vc,hva,hvv⟩:=hv1'
     rw [hka] at y5 HTK
     rw [hva] at y6 HTK
     generalize hkn:it.1.length=kn at *
     generalize hvn:it.2.length=vn at *
     clear hg1 hg2 hgr hk1 hv1 hft hkk hvv hka hva hitj
     go_wp2_with fail
     refine HTK.out.mono ?_
     rintro e w5 ⟨rfl,hsp5,hlk5⟩
     have HSP5:=hide hsp5
     have HLK5:=hide hlk5
     clear hsp5 hlk5 y5 y6
     cases hsc2:(scan hi most Fj [it]).2 with
     | true =>
      have HSC2:=hide hsc2
      clear hsc2
      go_wp2_with fail
      go_roundw
      case rel =>
       refine ⟨Fi+1,by omega,by omega,by go_num,_,(((aB4 hi most [it] Fj).2 HFc.out).2 HSC2.out),?_,HSP5.out,HLKc.out.trans HLK5.out⟩
       rw [HSCc.out,HRS.out,aBz HSC2.out]
      case measure=>simp [intOf];omega
     | false =>
      have HSC2:=hide hsc2
      clear hsc2
      go_wp2
      (try simp only [Exit.inBlock,Exit.then])
      go_ret
      have hq:scan hi most F (frm all lo)=scan hi most Fj [it]:=by rw [HSCc.out,HRS.out,aBy HSC2.out]
      unfold TkR
      rw [hq,HSC2.out]
      exact ⟨rfl,HSP5.out,HLKwc.out.trans HLK5.out⟩
    ·have x3:¬ (j:Int)=(Fi:Int):=by omega
     have d3:((j:Int) == (Fi:Int))=false:=by simp;omega
     obtain ⟨kb,hkb⟩:∃ kb,b.2.2[j]?=some kb:=⟨_,gE (by omega)⟩
     have hkm:=mG hkb
     have HKR:Hid (rsJ l (b.2.2.map (flB h)) lo j=frm (flB h kb) lo++rstB l (b.2.2.map (flB h)) j):=by
      show _=_
      rw [rsJ_at (by omega),if_neg (fun q9=>hjf (by rw [←hFi];exact q9.1)),List.getD_eq_getElem?_getD,List.getElem?_map,hkb]
      rfl
     have hgb:=HLKj.out.2 _ _ _ _ HGB3.out (by decide) (by decide)
     have hgc:=HLKj.out.2 _ _ _ _ HGC3.out (by decide) (by decide)
     have g1:wr.cell? ⟨gb,1,none⟩=some (.slice (some ⟨gc,0,none⟩) (L+1) (L+1)):=aAa hgb
     have g2:wr.cell? ⟨gc,j,none⟩=some (.iface 119 (.int .i64 (BT.id kb:Int))):=by
      rw [aAa hgc,List.getElem?_toArray,List.getElem?_map,List.getElem?_map,hkb]
      rfl
     have g3:=aCp (.int .i64 (BT.id kb:Int)) wr
     have xl:(j:Int)<((L+1:Nat):Int):=by omega
     have HCL:=hide (HIH.out wr kb Fj (HB3.out.trans HLKj.out.1) (HKD.out kb hkm) (HKS.out kb hkm) HSPj.out HFj.out)
     clear hgb hgc hkm hkb
     go_wp2_with fail
     refine HCL.out.mono ?_
     rintro e w4 ⟨rfl,hsp4,hlk4⟩
     have HSPc:=hide hsp4
     have HLKc:=hide (HLKj.out.trans hlk4)
     have HLKwc:=hide (HLKw.out.trans hlk4)
     clear hsp4 hlk4 g1 g2 g3 HCL
     cases hsc1:(scan hi most Fj (frm (flB h kb) lo)).2 with
     | false =>
      have HSC1:=hide hsc1
      clear hsc1
      go_wp2
      (try simp only [Exit.inBlock,Exit.then])
      go_ret
      have hq:scan hi most F (frm all lo)=scan hi most Fj (frm (flB h kb) lo):=by rw [HSC.out,HKR.out,aBy HSC1.out]
      unfold TkR
      rw [hq,HSC1.out]
      exact ⟨rfl,HSPc.out,HLKwc.out⟩
     | true =>
      have HFc:Hid ((scan hi most Fj (frm (flB h kb) lo)).1.length<most):=(((aB4 hi most (frm (flB h kb) lo) Fj).2 HFj.out).2 hsc1)
      have HSCc:Hid (scan hi most F (frm all lo)=scan hi most (scan hi most Fj (frm (flB h kb) lo)).1 (rstB l (b.2.2.map (flB h)) j)):=by
       show _=_
       rw [HSC.out,HKR.out,aBz hsc1]
      clear hsc1
      generalize (scan hi most Fj (frm (flB h kb) lo)).1=Fc at *
      by_cases hjl:j<L
      ·have x2:(j:Int)<(L:Int):=by omega
       have d2:decide ((j:Int)<(L:Int))=true:=by simp;omega
       obtain ⟨it,hitj⟩:∃ it,l[j]?=some it:=⟨_,gE (by omega)⟩
       have HRS:Hid (rstB l (b.2.2.map (flB h)) j=[it]++rsJ l (b.2.2.map (flB h)) lo (j+1)):=aGo HSR.out (by rw [hLL];exact HCS.out) (by rw [hFi];exact hj0) hitj
       obtain ⟨kf,vf,hg1,hg2⟩:=HIR3.out
       rw [hLL] at hg1
       have hgr:=HLKc.out.2 _ _ _ _ hg1 (by decide) (by decide)
       obtain ⟨hk1,hv1⟩:=hg2 j it hitj
       have hft:=HLKc.out.ft (HB.out)
       have hk1':=hk1.ft hft
       have hv1':=hv1.ft hft
       have y5:w4.cell? ⟨gi,j*2,none⟩=some (kf j):=by rw [aAa hgr,List.getElem?_toArray];exact aAp kf vf j L (by omega)
       have y6:w4.cell? ⟨gi,j*2+1,none⟩=some (vf j):=by rw [aAa hgr,List.getElem?_toArray];exact aAx kf vf j L (by omega)
       have HTK:=hide (aDd HSPc.out HB.out (nT HS3.out HLKc.out.1.size) (by have:=HFc.out;have:=HMO.out;omega) it hk1' hv1')
       obtain ⟨ka,kc,hka,hkk⟩:=hk1'
       obtain ⟨va,vc,hva,hvv⟩:=hv1'
       rw [hka] at y5 HTK
       rw [hva] at y6 HTK
       generalize hkn:it.1.length=kn at *
       generalize hvn:it.2.length=vn at *
       clear hg1 hg2 hgr hk1 hv1 hft hkk hvv hka hva hitj
       go_wp2_with fail
       refine HTK.out.mono ?_
       rintro e w5 ⟨rfl,hsp5,hlk5⟩
       have HSP5:=hide hsp5
       have HLK5:=hide hlk5
       clear hsp5 hlk5 y5 y6
       cases hsc2:(scan hi most Fc [it]).2 with
       | true =>
        have HSC2:=hide hsc2
        clear hsc2
        go_wp2_with fail
        go_roundw
        case rel =>
         refine ⟨j+1,by omega,by omega,by go_num,_,(((aB4 hi most [it] Fc).2 HFc.out).2 HSC2.out),?_,HSP5.out,HLKc.out.trans HLK5.out⟩
         rw [HSCc.out,HRS.out,aBz HSC2.out]
        case measure=>simp [intOf];omega
       | false =>
        have HSC2:=hide hsc2
        clear hsc2
        go_wp2
        (try simp only [Exit.inBlock,Exit.then])
        go_ret
        have hq:scan hi most F (frm all lo)=scan hi most Fc [it]:=by rw [HSCc.out,HRS.out,aBy HSC2.out]
        unfold TkR
        rw [hq,HSC2.out]
        exact ⟨rfl,HSP5.out,HLKwc.out.trans HLK5.out⟩
      ·have x2:¬ (j:Int)<(L:Int):=by omega
       have d2:decide ((j:Int)<(L:Int))=false:=by simp;omega
       go_wp2_with fail
       go_roundw
       case rel =>
        refine ⟨j+1,by omega,by omega,by go_num,Fc,HFc.out,?_,HSPc.out,HLKc.out⟩
        rw [HSCc.out,rst_end (by omega),rsJ_end (by omega)]
       case measure=>simp [intOf];omega
  ·have x1:¬ (j:Int)≤(L:Int):=by omega
   go_wp2
   (try simp only [Exit.inBlock,Exit.then])
   go_ret
   have hq:scan hi most F (frm all lo)=(Fj,true):=by
    rw [HSC.out,rsJ_end (by omega)]
    rfl
   unfold TkR
   rw [hq]
   exact ⟨rfl,HSPj.out,HLKw.out⟩
theorem look_ok [Gd] {B p q r:Nat} {s:DS} {t:PS} {w0:World} {lv hv:Value} {lo hi:List Nat} {most:Nat} (hST:ST B p q s t w0) (hB:B≤w0.heap.size) (hlf:s.life=t.life) (hdn:s.down=false) (hmo:most<100000):∀ h,h<100000→LkC B p q r s t w0.heap.size w0 lv hv lo hi most h
 | 0,_=>fun w b F hb hon _ hsp hF=>look_leaf hST hB hlf hdn hb b hon F hsp hF hmo
 | h+1,hh=>fun w b F hb hon hsr hsp hF=>look_branch hST hB hlf hdn hb b hon hsr F hsp hF hmo (by omega) (look_ok hST hB hlf hdn hmo h (by omega))
def LkB (w:World) (k:Nat):Prop:=∃ cs t fz,w.heap[k]?=some (Obj.cells cs t fz)∧t≠109∧t≠69
theorem LkF.cell {B1 k:Nat} {w w':World} (h:LkF B1 w w') (hk:LkB w k) (o:Nat):w'.cell? ⟨k,o,none⟩=w.cell? ⟨k,o,none⟩:=by
 obtain ⟨cs,t,fz,h1,h2,h3⟩:=hk
 exact World.cell?_of_block ((h.2 k cs t fz h1 h2 h3).trans h1.symm)
theorem pairs1_ok [Gd] {B p q g r rb tb sb gs so h:Nat} {s:DS} {t:PS} {w0 w:World} {lv hv:Value} {lo hi:List Nat} {most:Nat} (hST:ST B p q s t w0) (hB:B≤w0.heap.size) (hlf:s.life=t.life) (hdn:s.down=false) (hb:Below w0.heap.size w0 w) (b:BT h) (hon:OnD s t h b) (hsr:Srt (flB h b)) (hh:h<100000) (hsp:SpV B w0.heap.size w r lv hv lo hi most []) (hm0:0<most) (hmo:most<100000)
  (c1:w.cell? ⟨rb,0,none⟩=some (.pointer (some ⟨r,0,none⟩))) (c2:w.cell? ⟨tb,0,none⟩=some (.pointer (some ⟨g,0,none⟩))) (c3:w.cell? ⟨g,1,none⟩=some (.pointer (some ⟨q,0,none⟩))) (c4:w.cell? ⟨sb,0,none⟩=some (.pointer (some ⟨gs,so,none⟩))) (c5:w.cell? ⟨gs,so,none⟩=some (.int .i64 (BT.id b:Int))) (c6:w.cell? ⟨gs,so+1,none⟩=some (.int .i64 ((h:Int)+1)))
  (k1:LkB w rb) (k2:LkB w tb) (k3:LkB w g) (k4:LkB w sb) (k5:LkB w gs) :
  Calls Tryz.prog 97 #[.pointer (some ⟨rb,0,none⟩),.pointer (some ⟨tb,0,none⟩),.pointer (some ⟨sb,0,none⟩)] w fun e w'=>e=.returned (.int .i64 0)∧SpV B w0.heap.size w' r lv hv lo hi most (scan hi most [] (frm (flB h b) lo)).1∧LkF w0.heap.size w w':=by
 have HBd:=hide (Below.refl w.heap.size w).drew
 have HLK:=hide (look_ok hST hB hlf hdn hmo h hh w.drew b [] (hb.trans (HBd.out.mono hb.size)) hon hsr (hsp.later HBd.out (nT hB hb.size)) hm0)
 have HS0:=hide hb.size
 have HX0:Hid ((fun wx=>wx.cell? ⟨rb,0,none⟩=some (.pointer (some ⟨r,0,none⟩))∧wx.cell? ⟨tb,0,none⟩=some (.pointer (some ⟨g,0,none⟩))∧wx.cell? ⟨g,1,none⟩=some (.pointer (some ⟨q,0,none⟩))∧wx.cell? ⟨sb,0,none⟩=some (.pointer (some ⟨gs,so,none⟩))∧wx.cell? ⟨gs,so,none⟩=some (.int .i64 (BT.id b:Int))∧wx.cell? ⟨gs,so+1,none⟩=some (.int .i64 ((h:Int)+1))) w.drew):=⟨c1,c2,c3,c4,c5,c6⟩
 have HKK:=hide (show ∀ w',LkF w0.heap.size w.drew w'→((fun wx=>wx.cell? ⟨rb,0,none⟩=some (.pointer (some ⟨r,0,none⟩))∧wx.cell? ⟨tb,0,none⟩=some (.pointer (some ⟨g,0,none⟩))∧wx.cell? ⟨g,1,none⟩=some (.pointer (some ⟨q,0,none⟩))∧wx.cell? ⟨sb,0,none⟩=some (.pointer (some ⟨gs,so,none⟩))∧wx.cell? ⟨gs,so,none⟩=some (.int .i64 (BT.id b:Int))∧wx.cell? ⟨gs,so+1,none⟩=some (.int .i64 ((h:Int)+1))) w') from fun w' hl=>⟨(hl.cell k1 0).trans c1,(hl.cell k2 0).trans c2,(hl.cell k3 1).trans c3,(hl.cell k4 0).trans c4,(hl.cell k5 so).trans c5,(hl.cell k5 (so+1)).trans c6⟩)
 clear hST hb hon hsr hsp c1 c2 c3 c4 c5 c6 k1 k2 k3 k4 k5
 go_enter Tryz.func97,Tryz.ntmps97
 go_upto_region 1 with fail
 refine wp_region_noPanic ?_
 refine wp_region_held_drew (S:=fun wx=>wx.cell? ⟨rb,0,none⟩=some (.pointer (some ⟨r,0,none⟩))∧wx.cell? ⟨tb,0,none⟩=some (.pointer (some ⟨g,0,none⟩))∧wx.cell? ⟨g,1,none⟩=some (.pointer (some ⟨q,0,none⟩))∧wx.cell? ⟨sb,0,none⟩=some (.pointer (some ⟨gs,so,none⟩))∧wx.cell? ⟨gs,so,none⟩=some (.int .i64 (BT.id b:Int))∧wx.cell? ⟨gs,so+1,none⟩=some (.int .i64 ((h:Int)+1))) (by kernel_rfl) HX0.out (fun hHeld=>?_)
 refine wpAnyH_tk 0 4 ?_
 refine wpAnyH_tk 1 5 ?_
 refine wpAnyH_tk 2 6 ?_
 refine wpAnyH_tk 3 7 ?_
 refine wpAnyH_tk 4 8 ?_
 refine wpAnyH_tk 5 9 ?_
 refine wpAnyH_tk 6 10 ?_
 refine wpAnyH_tk 7 11 ?_
 refine wpAnyH_tk 8 12 ?_
 refine wpAnyH_tk 9 13 ?_
 refine wpAnyH_tk 10 14 ?_
 refine wpAnyH_tk 11 15 ?_
 refine wpAnyH_tk 12 16 ?_
 refine wpAnyH_cm 13 ?_;intro K hK
 go_simp
 refine HLK.out.mono ?_
 rintro e w1 ⟨rfl,hs1,hl1⟩
 have HS1:=hide hs1
 have HL1:=hide hl1
 have HX1:=hide (HKK.out w1 hl1)
 clear hs1 hl1 hHeld
 refine hK.out _ _ HX1.out (fun hHeld=>?_)
 clear hK K
 try simp only [Act.put,siT,scZ,scS]
 refine wpAnyH_done (by kernel_rfl) ?_ _
 refine NoPanic.normal ?_
 clear hHeld
 go_wp2
 go_ret
 exact ⟨rfl,HS1.out,(LkF.of HBd.out HS0.out).trans HL1.out⟩
structure TM [Gd] (B p q g:Nat) (s:DS) (t:PS) (now last:StT) (sv:Value) (left:Int) (w:World):Prop where
 st:ST B p q s t w
 bw:B≤w.heap.size
 bg:B≤g
 tv:∃ cs,w.heap[g]?=some (.cells cs 87 (0,0))∧TV cs p q now last sv left false
 lf:s.life=t.life
 dn:s.down=false
 af:s.after<1
 l1:s.life<100000
 sn:t.st.length=s.n
 hd:t.st.getD 0 0=0∧t.st.getD 1 0=0
theorem TM.later [Gd] {B p q g:Nat} {s:DS} {t:PS} {now last:StT} {sv:Value} {left:Int} {w w':World} (h:TM B p q g s t now last sv left w) (hb:Below w.heap.size w w'):TM B p q g s t now last sv left w':=by
 obtain ⟨cs,h1,h2⟩:=h.tv
 exact ⟨h.st.later hb,nT h.bw hb.size,h.bg,⟨cs,(hb.block g (lO h1)).trans h1,h2⟩,h.lf,h.dn,h.af,h.l1,h.sn,h.hd⟩
theorem TM.sl [Gd] {B p q g:Nat} {s:DS} {t:PS} {now last:StT} {sv:Value} {left:Int} {w:World} (h:TM B p q g s t now last sv left w):t.st.length≤4096:=by
 obtain ⟨_,gs,h2⟩:=h.st
 exact h2.ok.sl
theorem Gw.heads {s s':DS} {t t':PS} {L:List Nat} (g:Gw s t s' t' L) (h:t.st.getD 0 0=0∧t.st.getD 1 0=0):t'.st.getD 0 0=0∧t'.st.getD 1 0=0 :=
 ⟨(g.old 0 fun q=>by have:=(g.new 0 q).1;omega).trans h.1,(g.old 1 fun q=>by have:=(g.new 1 q).1;omega).trans h.2⟩
theorem aFc:∀ {h:Nat} (b:BT h),BT.id b∈pgB h b
 | 0,_=>List.mem_singleton.2 rfl
 | _+1,_=>List.mem_cons_self
theorem ChR.tm [Gd] {B p q g:Nat} {s:DS} {t:PS} {w w':World} {now last:StT} {sv:Value} {left d n:Int} {gone:List Nat} {h:Nat} {e:ED h} (hM:TM B p q g s t now last sv left w) (hc:ChR B p q g s t w now last sv d n gone h e w') :
  ∃ (b:BT h) (s':DS) (t':PS) (L:List Nat),LdR h e b L∧Gw s t s' t' L∧OnD s' t' h b∧TM B p q g s' t' ⟨(BT.id b:Nat),d,n,L.foldl adP (gone.foldl drP now.pgs)⟩ last sv (cntF t'.st:Nat) w'∧ChF B g w w':=by
 obtain ⟨b,s',t',L,cs',k1,k2,k3,k4,k5,k6,k7⟩:=hc
 exact ⟨b,s',t',L,k1,k2,k4,⟨k3,nT hM.bw k7.1.size,hM.bg,⟨cs',k5,k6⟩,by rw [k2.life,k2.tlife];exact hM.lf,by rw [k2.down];exact hM.dn,by rw [k2.after];exact hM.af,by rw [k2.life];exact hM.l1,by rw [k2.len,k2.n];exact hM.sn,k2.heads hM.hd⟩,k7⟩
def PutT [Gd] (B p q g:Nat) (s:DS) (t:PS) (now last:StT) (sv:Value) (l:List It) (it:It) (w w':World):Prop :=
 ∃ (s':DS) (t':PS) (now':StT) (L:List Nat),Gw s t s' t' L∧TM B p q g s' t' now' last sv (cntF t'.st:Nat) w'∧Tr s' t' now' (putL l it)∧(L.length:Int)≤2*now.depth+1∧ChF B g w w'
theorem put_change [Gd] {B p q g kb vb:Nat} {s:DS} {t:PS} {w:World} {now last:StT} {sv:Value} {left:Int} {l:List It} (hg0:Gd.g=none) (hM:TM B p q g s t now last sv left w) (hTr:Tr s t now l) (hl:l.length<100000) (it:It) (hit:ItOk it) {ka va:Option Addr} {kn kc vn vc:Nat} (hkn:it.1.length=kn) (hvn:it.2.length=vn) (hk:BK B w ka kn kc it.1) (hv:BK B w va vn vc it.2) (hroom:2*now.depth+1≤((cntF t.st:Nat):Int)) (hdep:now.depth≤400) (hm:s.m+1000≤100000)
  (hkb:w.heap[kb]?=some (.cells #[.slice ka kn kc] 30 (0,0))) (hvb:w.heap[vb]?=some (.cells #[.slice va vn vc] 30 (0,0))) :
  Calls Tryz.prog 39 #[.pointer (some ⟨g,0,none⟩),.func (Fn.func 40) #[] #[.pointer (some ⟨kb,0,none⟩),.pointer (some ⟨vb,0,none⟩)]] w fun e w'=>e=.returned (.int .i64 0)∧PutT B p q g s t now last sv l it w w':=by
 obtain ⟨cs,hg,hT⟩:=hM.tv
 have hcf:∀ (v:Value) (ww:World),(callFunc 40 (#[v]++#[.pointer (some ⟨kb,0,none⟩),.pointer (some ⟨vb,0,none⟩)])).run Tryz.prog ww=.ok (.enter 40 (#[v]++#[.pointer (some ⟨kb,0,none⟩),.pointer (some ⟨vb,0,none⟩)])) ww:=fun v ww=>by rfl
 have hcell:∀ w1,Below w.heap.size w w1→w1.cell? ⟨kb,0,none⟩=some (.slice ka kn kc)∧w1.cell? ⟨vb,0,none⟩=some (.slice va vn vc):=fun w1 hb=>⟨(hb.cell (p:=⟨kb,0,none⟩) (lO hkb)).trans (aAa hkb),(hb.cell (p:=⟨vb,0,none⟩) (lO hvb)).trans (aAa hvb)⟩
 rcases hTr with ⟨r1,r2,r3,rfl,r5⟩ | ⟨h,b,e1,e2,e3,e4,e5,e6,e7,e8,e9⟩
 ·have hr:rootE 0 (Sum.inr [it]:ED 0)=⟨0,Sum.inr [it]⟩:=if_neg (show ¬ 4<1 by decide)
  have hits:ItsOk [it]:=⟨nR _,show 1≤4 by decide,fun x hx=>by rw [List.mem_singleton] at hx;rw [hx];exact hit,List.pairwise_singleton _ _⟩
  have hfr:frE 0 (Sum.inr [it]:ED 0)=1:=rfl
  have hC:=aDv (B:=B) (h:=0) (e:=(Sum.inr [it]:ED 0)) (d:=1) (n:=1) (gone:=[]) (hf:=40) (cap:=#[.pointer (some ⟨kb,0,none⟩),.pointer (some ⟨vb,0,none⟩)]) hg0 hM.st hM.bw hM.bg hg hT hcf (fun w1 px k1 k2 k3 k4 k5=>by
   have c:=hcell w1 k2
   rw [r1,r2,r3] at k3
   have hP:=put_none (w:=w1) (n:=0) k3 k5 (Int.le_refl _) (by decide) it hkn hvn (hk.later k2 hM.bw) (hv.later k2 hM.bw)
   refine (aEp c.1 c.2 hP).mono ?_
   rintro e9 w9 ⟨rfl,rv,S,m1,m2,m3,m4⟩
   rw [hr] at m2
   exact ⟨rfl,rv,S,m1,m2,m3,m4⟩) hM.lf hM.dn hM.af hM.l1 (by rw [hfr];omega) hM.sn (by rw [hfr];decide) (by rw [hfr];omega) hits (fun x hx=>by simp at hx) (by simp)
  refine hC.mono ?_
  rintro e9 w9 ⟨rfl,hc⟩
  obtain ⟨b,s',t',L,k1,k2,k3,k4,k5⟩:=hc.tm hM
  have hlen:=k1.len
  refine ⟨rfl,s',t',_,L,k2,k4,Or.inr ⟨0,b,rfl,rfl,rfl,?_,List.pairwise_singleton _ _,k3,?_,?_,?_⟩,?_,k5⟩
  ·exact k1.fl
  ·exact k1.sh (show (1:Nat)≤4 by decide)
  ·rw [k1.it];exact nR 1
  ·refine r5.step (gone:=[]) (old:=[]) (List.Perm.refl _) ?_ k2.nd (gw_lt k2 hM.sl) fun x _=>List.not_mem_nil
   exact k1.pg
  ·rw [hlen,hfr];omega
 ·have ho:=on_put it hit e4 e5 e6 e7
  have hfr:=fr_put2 (b:=b) it
  have hpl:=pth_len b it.1
  have hh:h≤399:=by omega
  have hC:=aDv (B:=B) (h:=(rootE h (putE h (old b) it)).1) (e:=(rootE h (putE h (old b) it)).2) (d:=(if 4<(itE (putE h (old b) it)).length then ((h+1:Nat):Int)+1 else ((h+1:Nat):Int))) (n:=cntN ((l.length:Nat):Int) (nwB h b it.1)) (gone:=pthB h b it.1) (hf:=40) (cap:=#[.pointer (some ⟨kb,0,none⟩),.pointer (some ⟨vb,0,none⟩)]) hg0 hM.st hM.bw hM.bg hg hT hcf (fun w1 px k1 k2 k3 k4 k5=>by
   have c:=hcell w1 k2
   rw [e1,e2,e3] at k3
   have hP:=put_some (w:=w1) (gone:=[]) hg0 hM.lf hM.dn b k3 rfl k4 k5 (by simp;omega) (by omega) (by omega) e6 e7 it hkn hvn (hk.later k2 hM.bw) (hv.later k2 hM.bw)
   refine (aEp c.1 c.2 hP).mono ?_
   rintro e9 w9 ⟨rfl,rv,S,m1,m2,m3,m4⟩
   exact ⟨rfl,rv,S,m1,m2,m3,m4⟩) hM.lf hM.dn hM.af hM.l1 (by omega) hM.sn (by omega) (by omega) ho.2.2.2 (fun x hx=>Nat.lt_of_lt_of_le (e6.pth it.1 x hx) (by rw [←hM.sn];exact hM.sl)) (by omega)
  refine hC.mono ?_
  rintro e9 w9 ⟨rfl,hc⟩
  obtain ⟨b',s',t',L,k1,k2,k3,k4,k5⟩:=hc.tm hM
  have hlen:=k1.len
  exact ⟨rfl,s',t',_,L,k2,k4,Tr.put hit e4 e5 e6 e7 e9 hM.sl k1 k2 k3,by omega,k5⟩
theorem Put_ok [Gd] {B p q g:Nat} {s:DS} {t:PS} {w:World} {now last:StT} {sv:Value} {left:Int} {l:List It} (hg0:Gd.g=none) (hM:TM B p q g s t now last sv left w) (hTr:Tr s t now l) (hl:l.length<100000) (it:It) (hit:ItOk it) {ka va:Option Addr} {kn kc vn vc:Nat} (hkn:it.1.length=kn) (hvn:it.2.length=vn) (hk:BK B w ka kn kc it.1) (hv:BK B w va vn vc it.2) (hroom:2*now.depth+1≤((cntF t.st:Nat):Int)) (hdep:now.depth≤400) (hm:s.m+1000≤100000) :
  Calls Tryz.prog 11 #[.pointer (some ⟨g,0,none⟩),.slice ka kn kc,.slice va vn vc] w fun e w'=>e=.returned (.int .i64 0)∧PutT B p q g s t now last sv l it w w':=by
 have hmf:∀ (fn:Fn) (first cap:Array Value) (w:World),(Instr.makeFunc fn first cap).run Tryz.prog w=.ok (.func fn first cap) w:=fun _ _ _ _=>rfl
 have hk0:¬ (kn:Int)=0:=by
  intro q9
  have:it.1.length=0:=by omega
  exact hit.k0 (List.eq_nil_of_length_eq_zero this)
 have hk6:=hit.k1
 have hv1:=hit.v1
 rw [hkn] at hk6
 rw [hvn] at hv1
 have xv:¬ (1800:Int)<(vn:Int):=by omega
 have b1:=aAb w (.cells #[.slice ka kn kc] 30)
 have b2:=aAb (w.alloc (.cells #[.slice ka kn kc] 30)) (.cells #[.slice va vn vc] 30)
 have x1:(w.alloc (.cells #[.slice ka kn kc] 30)).heap[w.heap.size]?=some (.cells #[.slice ka kn kc] 30 (0,0)):=heap_alloc_new w _
 have x2:=heap_alloc_new (w.alloc (.cells #[.slice ka kn kc] 30)) (.cells #[.slice va vn vc] 30)
 have e1:(w.alloc (.cells #[.slice ka kn kc] 30)).heap.size=w.heap.size+1:=Array.size_push _
 have b12:=b1.trans (b2.mono b1.size)
 have x1':=(b2.block w.heap.size (by omega)).trans x1
 rw [e1] at x2
 have HM:=hide hM
 have HTR:=hide hTr
 have HK:=hide hk
 have HV:=hide hv
 have HBB:=hide b12
 have HX1:=hide x1'
 have HX2:=hide x2
 have HRF:=hide (fun (ww:World) (hb:Below w.heap.size w ww)=>by
  obtain ⟨cs,hg,hT⟩:=(hM.later hb).tv
  have hr:=aCe (hM.later hb).st hM.lf hg hT ka kn kc
  rw [if_neg (by omega),if_neg (by omega)] at hr
  exact hr)
 have HPC:=hide (fun (ww:World) (hb:Below w.heap.size w ww) (y1:ww.heap[w.heap.size]?=some (.cells #[.slice ka kn kc] 30 (0,0))) (y2:ww.heap[w.heap.size+1]?=some (.cells #[.slice va vn vc] 30 (0,0)))=>put_change hg0 (hM.later hb) hTr hl it hit hkn hvn (hk.later hb hM.bw) (hv.later hb hM.bw) hroom hdep hm y1 y2)
 have c1:((w.alloc (.cells #[.slice ka kn kc] 30)).alloc (.cells #[.slice va vn vc] 30)).cell? ⟨w.heap.size,0,none⟩=some (.slice ka kn kc):=aAa x1'
 clear hM hTr hk hv hl hit hroom hdep hm b1 b2 x1 x2 b12 x1' hk6 hv1 hkn hvn
 go_enter Tryz.func11,Tryz.ntmps11
 go_wp2_with fail
 refine (HRF.out _ HBB.out).mono ?_
 rintro e9 w1 ⟨rfl,hb1⟩
 have HB1:=hide (HBB.out.trans (hb1.mono HBB.out.size))
 have y1:=(hb1.block _ (lO HX1.out)).trans HX1.out
 have y2:=(hb1.block _ (lO HX2.out)).trans HX2.out
 have HCH:=hide (HPC.out w1 HB1.out y1 y2)
 have c2:w1.cell? ⟨w.heap.size+1,0,none⟩=some (.slice va vn vc):=aAa y2
 clear hb1 y1 y2 c1
 go_wp2_with fail
 refine HCH.out.mono ?_
 rintro e9 w2 ⟨rfl,hp⟩
 have HP:=hide hp
 clear hp
 go_wp2
 go_ret
 refine ⟨rfl,?_⟩
 obtain ⟨s',t',now',L,k1,k2,k3,k4,k5⟩:=HP.out
 refine ⟨s',t',now',L,k1,k2,k3,k4,(HB1.out.mono HM.out.bw).trans k5.1,fun k cs0 t0 fz m1 m2 m3=>?_⟩
 exact k5.2 k cs0 t0 fz ((HB1.out.block k (lO m1)).trans m1) m2 m3
theorem Ex.ftE {B g:Nat} {w w':World} {cs:Array Value} (f:Ex B [g] w w') (hg:w.heap[g]?=some (.cells cs 37 (0,0))):FT B w w':=⟨f.1,fun k cs' fz e=>f.keepX hg e (by decide)⟩
theorem PRW.exE {B B1 b0:Nat} {w w':World} {v:Value} {F:List It} {cs:Array Value} (h:PRW B B1 w v F) (f:Ex B [b0] w w') (hg:w.heap[b0]?=some (.cells cs 37 (0,0))):PRW B B1 w' v F :=
 h.stay (f.ftE hg) fun k cs' _ e=>f.keepX hg e (by decide)
theorem SpV.exE {B B1 r b0:Nat} {w w':World} {lv hv:Value} {lo hi:List Nat} {most:Nat} {F:List It} {cs:Array Value} (h:SpV B B1 w r lv hv lo hi most F) (f:Ex B [b0] w w') (hg:w.heap[b0]?=some (.cells cs 37 (0,0))):SpV B B1 w' r lv hv lo hi most F:=by
 obtain ⟨fv,h1,h2⟩:=h.hx
 exact ⟨h.hr,h.klo.ft (f.ftE hg),h.khi.ft (f.ftE hg),fv,f.keepX hg h1 (by decide),h2.exE f hg⟩
theorem aG7 {a b c:List Nat} (h1:0≤cmpB a b) (h2:0≤cmpB b c):0≤cmpB a c:=by
 apply Classical.byContradiction
 intro q9
 have h3:cmpB a c<0:=by omega
 by_cases h4:cmpB b c=0
 ·have:=aD6 h4
  subst this
  omega
 ·have h5:cmpB c b<0:=by rw [aBs];omega
  have:=aA9 h3 h5
  omega
theorem scan_none {hi lo:List Nat} {most:Nat} (l:List It) (h:endB hi lo=true):(scan hi most [] (frm l lo)).1=[]:=by
 cases hf:frm l lo with
 | nil=>rfl
 | cons x r =>
  have hx:x∈frm l lo:=by rw [hf];exact List.mem_cons_self
  have hx2:0≤cmpB x.1 lo:=by
   have:=(List.mem_filter.1 hx).2
   simpa using this
  simp only [endB,Bool.and_eq_true,decide_eq_true_eq] at h
  have he:endB hi x.1=true:=by
   simp only [endB,Bool.and_eq_true,decide_eq_true_eq]
   exact ⟨h.1,aG7 hx2 h.2⟩
  simp [scan,he]
def rngL (l:List It) (lo hi:List Nat) (most:Nat):List It:=(scan hi most [] (frm l lo)).1
theorem pairsC_ok [Gd] {B p q g r n0 gs so h:Nat} {s:DS} {t:PS} {w0 w:World} {now last:StT} {sv:Value} {left:Int} {lv hv:Value} {lo hi:List Nat} {most:Nat} (hM:TM B p q g s t now last sv left w0) (hb:Below w0.heap.size w0 w) (b:BT h) (hon:OnD s t h b) (hsr:Srt (flB h b)) (hh:h<100000) (hsp:SpV B w0.heap.size w r lv hv lo hi most []) (hm0:0<most) (hmo:most<100000) (hgs:LkB w0 gs) (hr0:w0.cell? ⟨gs,so,none⟩=some (.int .i64 (BT.id b:Int))) (hd0:w0.cell? ⟨gs,so+1,none⟩=some (.int .i64 ((h:Int)+1)))
  (x0:w.heap[n0]?=some (.cells #[.pointer (some ⟨g,0,none⟩)] 24 (0,0))) (x1:w.heap[n0+1]?=some (.cells #[.pointer (some ⟨gs,so,none⟩)] 106 (0,0))) (x2:w.heap[n0+2]?=some (.cells #[.pointer (some ⟨r,0,none⟩)] 107 (0,0))) :
  Calls Tryz.prog 67 #[.func (Fn.func 97) #[] #[.pointer (some ⟨n0+2,0,none⟩),.pointer (some ⟨n0,0,none⟩),.pointer (some ⟨n0+1,0,none⟩)]] w fun e w'=>e=.returned (.int .i64 0)∧SpV B w0.heap.size w' r lv hv lo hi most (scan hi most [] (frm (flB h b) lo)).1∧LkF w0.heap.size w w':=by
 have b3:=aAb w (.cells #[.int .i64 0] 37)
 have x3:(w.alloc (.cells #[.int .i64 0] 37)).heap[w.heap.size]?=some (.cells #[.int .i64 0] 37 (0,0)):=heap_alloc_new w _
 have hbx:w0.heap.size≤w.heap.size:=hb.size
 have hBw:B≤w.heap.size:=nT hM.bw hbx
 have b4:=hb.trans (b3.mono hbx)
 generalize hw1:(w.alloc (.cells #[.int .i64 0] 37))=w1 at *
 obtain ⟨cs,hg,hT⟩:=hM.tv
 have lt:∀ {k:Nat} {o:Obj} {ww:World},ww.heap[k]?=some o→k<ww.heap.size:=fun e=>(lO e)
 have y0:=(b3.block _ (lt x0)).trans x0
 have y1:=(b3.block _ (lt x1)).trans x1
 have y2:=(b3.block _ (lt x2)).trans x2
 have yg:=(b4.block _ (lt hg)).trans hg
 obtain ⟨cs2,t2,fz2,hgs1,hgs2,hgs3⟩:=hgs
 have ygs:=(b4.block _ (lt hgs1)).trans hgs1
 have hC:=pairs1_ok (w:=w1) (w0:=w0) hM.st hM.bw hM.lf hM.dn b4 b hon hsr hh (hsp.later b3 hBw) hm0 hmo (aAa y2) (aAa y0) ((aAa yg).trans hT.c1) (aAa y1) ((b4.cell (p:=⟨gs,so,none⟩) (lt hgs1)).trans hr0) ((b4.cell (p:=⟨gs,so+1,none⟩) (lt hgs1)).trans hd0) ⟨_,_,_,y2,by decide,by decide⟩ ⟨_,_,_,y0,by decide,by decide⟩ ⟨_,_,_,yg,by decide,by decide⟩ ⟨_,_,_,y1,by decide,by decide⟩ ⟨_,_,_,ygs,hgs2,hgs3⟩
 subst hw1
 refine (aCa (w:=w) (P:=fun r' ww=>r'=0∧SpV B w0.heap.size ww r lv hv lo hi most (scan hi most [] (frm (flB h b) lo)).1∧LkF w0.heap.size (w.alloc (.cells #[.int .i64 0] 37)) ww) (fun ww=>by rfl) (hC.mono ?_)).mono ?_
 ·rintro e9 w9 ⟨rfl,h1,h2⟩
  exact ⟨0,rfl,⟨rfl,h1,h2⟩,h2.2 _ _ _ _ x3 (by decide) (by decide)⟩
 ·rintro e9 w9 ⟨r',w8,rfl,⟨rfl,h1,h2⟩,rfl⟩
  have x9:=h2.2 _ _ _ _ x3 (by decide) (by decide)
  have hex:Ex B [w.heap.size] w8 (w8.setCell ⟨w.heap.size,0,none⟩ (.int .i64 0)):=Ex.set hBw
  refine ⟨rfl,h1.exE hex x9,?_,fun k cs0 t0 fz m1 m2 m3=>?_⟩
  ·exact (b3.mono hbx).trans (h2.1.trans ((Below.refl _ w8).setCell (p:=⟨w.heap.size,0,none⟩) hbx _))
  ·have m4:=h2.2 k cs0 t0 fz ((b3.block k (lt m1)).trans m1) m2 m3
   have hkl:=lt m1
   rw [hex.2 k (lt m4) (by simp;omega),m4]
theorem pairs_any [Gd] {B p q g r gs so:Nat} {s:DS} {t:PS} {w0 w:World} {now last st:StT} {sv:Value} {left:Int} {lv hv:Value} {lo hi:List Nat} {most:Nat} {l:List It} (hM:TM B p q g s t now last sv left w0) (hb:Below w0.heap.size w0 w) (hTr:Tr s t st l) (hdp:st.depth<100000) (hlo:lo.length≤64) (hhi:hi.length≤64) (hsp:SpV B w0.heap.size w r lv hv lo hi most []) (hm0:0<most) (hmo:most<100000) (hgs:LkB w0 gs) (hr0:w0.cell? ⟨gs,so,none⟩=some (.int .i64 st.root)) (hd0:w0.cell? ⟨gs,so+1,none⟩=some (.int .i64 st.depth)) :
  Calls Tryz.prog 63 #[.pointer (some ⟨g,0,none⟩),.pointer (some ⟨gs,so,none⟩),.pointer (some ⟨r,0,none⟩)] w fun e w'=>∃ fv,e=.returned (.tuple #[fv,.int .i64 0])∧PRW B w0.heap.size w' fv (rngL l lo hi most)∧LkF w0.heap.size w w':=by
 have hmf:∀ (fn:Fn) (first cap:Array Value) (w:World),(Instr.makeFunc fn first cap).run Tryz.prog w=.ok (.func fn first cap) w:=fun _ _ _ _=>rfl
 have hbs:=hb.size
 have hBw:B≤w.heap.size:=nT hM.bw hbs
 have lt:∀ {k:Nat} {o:Obj} {ww:World},ww.heap[k]?=some o→k<ww.heap.size:=fun e=>(lO e)
 have HB1:Hid (Below w.heap.size w (((w.alloc (.cells #[.pointer (some ⟨g,0,none⟩)] 24)).alloc (.cells #[.pointer (some ⟨gs,so,none⟩)] 106)).alloc (.cells #[.pointer (some ⟨r,0,none⟩)] 107))):=by
  have a1:=aAb w (.cells #[.pointer (some ⟨g,0,none⟩)] 24)
  have a2:=aAb (w.alloc (.cells #[.pointer (some ⟨g,0,none⟩)] 24)) (.cells #[.pointer (some ⟨gs,so,none⟩)] 106)
  have a3:=aAb ((w.alloc (.cells #[.pointer (some ⟨g,0,none⟩)] 24)).alloc (.cells #[.pointer (some ⟨gs,so,none⟩)] 106)) (.cells #[.pointer (some ⟨r,0,none⟩)] 107)
  exact (a1.trans (a2.mono a1.size)).trans (a3.mono (nT a1.size a2.size))
 have e1:(w.alloc (.cells #[.pointer (some ⟨g,0,none⟩)] 24)).heap.size=w.heap.size+1:=Array.size_push _
 have e2:((w.alloc (.cells #[.pointer (some ⟨g,0,none⟩)] 24)).alloc (.cells #[.pointer (some ⟨gs,so,none⟩)] 106)).heap.size=w.heap.size+2:=(Array.size_push _).trans (by rw [e1])
 have HX:Hid ((((w.alloc (.cells #[.pointer (some ⟨g,0,none⟩)] 24)).alloc (.cells #[.pointer (some ⟨gs,so,none⟩)] 106)).alloc (.cells #[.pointer (some ⟨r,0,none⟩)] 107)).heap[w.heap.size]?=some (.cells #[.pointer (some ⟨g,0,none⟩)] 24 (0,0))∧(((w.alloc (.cells #[.pointer (some ⟨g,0,none⟩)] 24)).alloc (.cells #[.pointer (some ⟨gs,so,none⟩)] 106)).alloc (.cells #[.pointer (some ⟨r,0,none⟩)] 107)).heap[w.heap.size+1]?=some (.cells #[.pointer (some ⟨gs,so,none⟩)] 106 (0,0))∧(((w.alloc (.cells #[.pointer (some ⟨g,0,none⟩)] 24)).alloc (.cells #[.pointer (some ⟨gs,so,none⟩)] 106)).alloc (.cells #[.pointer (some ⟨r,0,none⟩)] 107)).heap[w.heap.size+2]?=some (.cells #[.pointer (some ⟨r,0,none⟩)] 107 (0,0))):=by
  have a2:=aAb (w.alloc (.cells #[.pointer (some ⟨g,0,none⟩)] 24)) (.cells #[.pointer (some ⟨gs,so,none⟩)] 106)
  have a3:=aAb ((w.alloc (.cells #[.pointer (some ⟨g,0,none⟩)] 24)).alloc (.cells #[.pointer (some ⟨gs,so,none⟩)] 106)) (.cells #[.pointer (some ⟨r,0,none⟩)] 107)
  have x0:(w.alloc (.cells #[.pointer (some ⟨g,0,none⟩)] 24)).heap[w.heap.size]?=_:=heap_alloc_new w _
  have x1:((w.alloc (.cells #[.pointer (some ⟨g,0,none⟩)] 24)).alloc (.cells #[.pointer (some ⟨gs,so,none⟩)] 106)).heap[(w.alloc (.cells #[.pointer (some ⟨g,0,none⟩)] 24)).heap.size]?=_:=heap_alloc_new _ _
  have x2:(((w.alloc (.cells #[.pointer (some ⟨g,0,none⟩)] 24)).alloc (.cells #[.pointer (some ⟨gs,so,none⟩)] 106)).alloc (.cells #[.pointer (some ⟨r,0,none⟩)] 107)).heap[((w.alloc (.cells #[.pointer (some ⟨g,0,none⟩)] 24)).alloc (.cells #[.pointer (some ⟨gs,so,none⟩)] 106)).heap.size]?=_:=heap_alloc_new _ _
  rw [e1] at x1
  rw [e2] at x2
  refine ⟨?_,?_,x2⟩
  ·rw [a3.block _ (by omega),a2.block _ (by omega),x0]
  ·rw [a3.block _ (by omega),x1]
 have HM:=hide hM
 have HTR:=hide hTr
 have HB0:=hide hb
 have HSP:=hide hsp
 have HGS:=hide hgs
 have HR0:=hide hr0
 have HD0:=hide hd0
 have HDP:=hide hdp
 obtain ⟨la,lc,hlv,hlb⟩:=hsp.klo
 obtain ⟨ha,hc,hhv,hhb⟩:=hsp.khi
 subst hlv hhv
 have HLB:=hide hlb
 have c0:(((w.alloc (.cells #[.pointer (some ⟨g,0,none⟩)] 24)).alloc (.cells #[.pointer (some ⟨gs,so,none⟩)] 106)).alloc (.cells #[.pointer (some ⟨r,0,none⟩)] 107)).cell? ⟨w.heap.size,0,none⟩=some (.pointer (some ⟨g,0,none⟩)):=aAa HX.out.1
 clear hM hTr hb hsp hgs hr0 hd0 hdp hlb hhb e1 e2
 have xl:¬ (64:Int)<(lo.length:Int):=by omega
 have xh:¬ (64:Int)<(hi.length:Int):=by omega
 have dl:decide ((64:Int)<(lo.length:Int))=false:=by simp;omega
 have xm:¬ (most:Int)<0:=by omega
 have xm2:¬ (most:Int)=0:=by omega
 have dm2:((most:Int) == 0)=false:=by simp;omega
 generalize hln:lo.length=ln at *
 generalize hhn:hi.length=hn at *
 generalize hn0:w.heap.size=n0 at *
 generalize hW1:(((w.alloc (.cells #[.pointer (some ⟨g,0,none⟩)] 24)).alloc (.cells #[.pointer (some ⟨gs,so,none⟩)] 106)).alloc (.cells #[.pointer (some ⟨r,0,none⟩)] 107))=w1 at *
 have HDD:Hid (Calls Tryz.prog 45 #[.pointer (some ⟨g,0,none⟩)] w1 fun e w'=>e=.returned (.bool false)∧Below w1.heap.size w1 w'):=by
  have h1:=(HM.out.later (HB0.out.trans (HB1.out.mono hbs)))
  obtain ⟨cs,hg,hT⟩:=h1.tv
  exact aCt h1.st HM.out.lf hg hT
 go_enter Tryz.func63,Tryz.ntmps63
 go_upto_region 1 with fail
 go_wp2_with fail
 refine HDD.out.mono ?_
 rintro e w2 ⟨rfl,hb2⟩
 have HB2:Hid (Below n0 w w2):=HB1.out.trans (hb2.mono (by have:=HB1.out.size;omega))
 have HY:Hid (w2.heap[n0]?=some (.cells #[.pointer (some ⟨g,0,none⟩)] 24 (0,0))∧w2.heap[n0+1]?=some (.cells #[.pointer (some ⟨gs,so,none⟩)] 106 (0,0))∧w2.heap[n0+2]?=some (.cells #[.pointer (some ⟨r,0,none⟩)] 107 (0,0))):=⟨(hb2.block _ (lt HX.out.1)).trans HX.out.1,(hb2.block _ (lt HX.out.2.1)).trans HX.out.2.1,(hb2.block _ (lt HX.out.2.2)).trans HX.out.2.2⟩
 have HSP2:Hid (SpV B w0.heap.size w2 r (.slice la ln lc) (.slice ha hn hc) lo hi most []):=HSP.out.later (by rw [hn0];exact HB2.out) (by rw [hn0];exact hBw)
 have HB02:Hid (Below w0.heap.size w0 w2):=HB0.out.trans (HB2.out.mono hbs)
 have HR2:Hid (w2.cell? ⟨gs,so,none⟩=some (.int .i64 st.root)):=by
  obtain ⟨cs2,t2,fz2,k1,k2,k3⟩:=HGS.out
  exact (HB02.out.cell (p:=⟨gs,so,none⟩) (lt k1)).trans HR0.out
 have b0:w2.cell? ⟨n0,0,none⟩=some (.pointer (some ⟨g,0,none⟩)):=aAa HY.out.1
 have b1:w2.cell? ⟨n0+1,0,none⟩=some (.pointer (some ⟨gs,so,none⟩)):=aAa HY.out.2.1
 have b2:w2.cell? ⟨n0+2,0,none⟩=some (.pointer (some ⟨r,0,none⟩)):=aAa HY.out.2.2
 have s0:w2.cell? ⟨r,0,none⟩=some (.slice la ln lc):=HSP2.out.cellsx.1
 have s1:w2.cell? ⟨r,1,none⟩=some (.slice ha hn hc):=HSP2.out.cellsx.2.1
 have s2:w2.cell? ⟨r,2,none⟩=some (.int .i64 (most:Int)):=HSP2.out.cellsx.2.2
 have HLB2:Hid (BK B w2 la ln lc lo):=HLB.out.later (by rw [hn0];exact HB2.out) (by rw [hn0];exact hBw)
 have HBW2:Hid (B≤w2.heap.size):=by
  have h1:=HB2.out.size
  show B≤w2.heap.size
  omega
 clear hb2 c0 HDD HX HB1
 go_upto_region 7 with fail
 generalize hrt:st.root=root at *
 have HX0:Hid ((fun wx=>wx.cell? ⟨n0+2,0,none⟩=some (.pointer (some ⟨r,0,none⟩))∧wx.cell? ⟨r,2,none⟩=some (.int .i64 (most:Int))∧wx.cell? ⟨r,0,none⟩=some (.slice la ln lc)∧wx.cell? ⟨n0+1,0,none⟩=some (.pointer (some ⟨gs,so,none⟩))∧wx.cell? ⟨gs,so,none⟩=some (.int .i64 root)) w2.drew):=⟨b2,s2,s0,b1,HR2.out⟩
 have HEN:=hide (ends_any (HSP2.out.later (Below.refl _ _).drew HBW2.out) (HLB2.out.later (Below.refl _ _).drew HBW2.out).1)
 clear b1 b2 s0 s1 s2
 have HBd:=hide ((Below.refl w2.heap.size w2).drew)
 rcases HTR.out with ⟨r1,r2,r3,r4,r5⟩ | ⟨h,b,q1,q2,q3,q4,q5,q6,q7,q8,q9⟩
 ·obtain rfl:root=0:=by rw [←hrt];exact r1
  subst r4
  have HRG:Hid (rngL [] lo hi most=[]):=rfl
  refine wp_region_noPanic ?_
  refine wp_region_held_drew (S:=fun wx=>wx.cell? ⟨n0+2,0,none⟩=some (.pointer (some ⟨r,0,none⟩))∧wx.cell? ⟨r,2,none⟩=some (.int .i64 (most:Int))∧wx.cell? ⟨r,0,none⟩=some (.slice la ln lc)∧wx.cell? ⟨n0+1,0,none⟩=some (.pointer (some ⟨gs,so,none⟩))∧wx.cell? ⟨gs,so,none⟩=some (.int .i64 0)) (by kernel_rfl) HX0.out (fun hHeld=>?_)
  refine wpAnyH_tk 0 34 ?_
  refine wpAnyH_tk 1 35 ?_
  refine wpAnyH_tk 2 36 ?_
  refine wpAnyH_tk 3 37 ?_
  refine wpAnyH_tk 4 38 ?_
  refine wpAnyH_tk 5 39 ?_
  refine wpAnyH_tk 6 40 ?_
  refine wpAnyH_tk 7 41 ?_
  refine wpAnyH_tk 8 42 ?_
  refine wpAnyH_tk 9 43 ?_
  refine wpAnyH_tk 10 44 ?_
  refine wpAnyH_tk 11 45 ?_
  refine wpAnyH_tk 12 46 ?_
  refine aAg (i:=13) (d:=47) (v:=undef) (by kernel_rfl) (by kernel_rfl) (by kernel_rfl) (by kernel_rfl) (fun _ _ _ h=>h) ?hyn13 (by assumption) ?restn13
  case hyn13 =>
   intro oi ho
   simp only [List.getElem?_toArray,List.getElem?_cons_succ,List.getElem?_cons_zero,oI] at ho
   subst ho
   exact Or.inr ⟨by rfl,rfl⟩
  try simp only [Act.put,siT,scZ,scS]
  refine aAg (i:=14) (d:=48) (v:=undef) (by kernel_rfl) (by kernel_rfl) (by kernel_rfl) (by kernel_rfl) (fun _ _ _ h=>h) ?hyn14 (by assumption) ?restn14
  case hyn14 =>
   intro oi ho
   simp only [List.getElem?_toArray,List.getElem?_cons_succ,List.getElem?_cons_zero,oI] at ho
   subst ho
   exact Or.inr ⟨by rfl,rfl⟩
  try simp only [Act.put,siT,scZ,scS]
  refine aAg (i:=15) (d:=49) (v:=undef) (by kernel_rfl) (by kernel_rfl) (by kernel_rfl) (by kernel_rfl) (fun _ _ _ h=>h) ?hyn15 (by assumption) ?restn15
  case hyn15 =>
   intro oi ho
   simp only [List.getElem?_toArray,List.getElem?_cons_succ,List.getElem?_cons_zero,oI] at ho
   subst ho
   exact Or.inr ⟨by rfl,rfl⟩
  try simp only [Act.put,siT,scZ,scS]
  refine aAg (i:=16) (d:=50) (v:=undef) (by kernel_rfl) (by kernel_rfl) (by kernel_rfl) (by kernel_rfl) (fun _ _ _ h=>h) ?hyn16 (by assumption) ?restn16
  case hyn16 =>
   intro oi ho
   simp only [List.getElem?_toArray,List.getElem?_cons_succ,List.getElem?_cons_zero,oI] at ho
   subst ho
   exact Or.inr ⟨by rfl,rfl⟩
  try simp only [Act.put,siT,scZ,scS]
  refine aAg (i:=17) (d:=51) (v:=undef) (by kernel_rfl) (by kernel_rfl) (by kernel_rfl) (by kernel_rfl) (fun _ _ _ h=>h) ?hyn17 (by assumption) ?restn17
  case hyn17 =>
   intro oi ho
   simp only [List.getElem?_toArray,List.getElem?_cons_succ,List.getElem?_cons_zero,oI] at ho
   subst ho
   exact Or.inr ⟨by rfl,rfl⟩
  try simp only [Act.put,siT,scZ,scS]
  refine aAg (i:=18) (d:=52) (v:=undef) (by kernel_rfl) (by kernel_rfl) (by kernel_rfl) (by kernel_rfl) (fun _ _ _ h=>h) ?hyn18 (by assumption) ?restn18
  case hyn18 =>
   intro oi ho
   simp only [List.getElem?_toArray,List.getElem?_cons_succ,List.getElem?_cons_zero,oI] at ho
   subst ho
   exact Or.inr ⟨by rfl,rfl⟩
  try simp only [Act.put,siT,scZ,scS]
  refine wpAnyH_tk 19 53 ?_
  refine wpAnyH_tk 20 33 ?_
  refine wpAnyH_done (by kernel_rfl) ?_ _
  refine NoPanic.normal ?_
  clear hHeld
  go_wp2
  go_ret2
  refine ⟨_,rfl,?_,?_⟩
  ·rw [HRG.out];exact PRW.nil _ _ _
  ·exact LkF.of (by rw [hn0];exact HB2.out.trans (HBd.out.mono (by have:=HB2.out.size;omega))) (by rw [hn0];exact hbs)
 ·have hid:=q6.idlt
  have hid1:0<BT.id b:=by
   have k1:=(q6.held _ (aFc b)).1
   have k2:=HM.out.hd.1
   apply Classical.byContradiction
   intro k3
   rw [show BT.id b=0 by omega,k2] at k1
   exact absurd k1 (by decide)
  have xr:¬ root=0:=by rw [←hrt,q1];omega
  have dr:(root == 0)=false:=by simp;exact xr
  refine wp_region_noPanic ?_
  refine wp_region_held_drew (S:=fun wx=>wx.cell? ⟨n0+2,0,none⟩=some (.pointer (some ⟨r,0,none⟩))∧wx.cell? ⟨r,2,none⟩=some (.int .i64 (most:Int))∧wx.cell? ⟨r,0,none⟩=some (.slice la ln lc)∧wx.cell? ⟨n0+1,0,none⟩=some (.pointer (some ⟨gs,so,none⟩))∧wx.cell? ⟨gs,so,none⟩=some (.int .i64 root)) (by kernel_rfl) HX0.out (fun hHeld=>?_)
  refine wpAnyH_tk 0 34 ?_
  refine wpAnyH_tk 1 35 ?_
  refine wpAnyH_tk 2 36 ?_
  refine wpAnyH_tk 3 37 ?_
  refine wpAnyH_tk 4 38 ?_
  refine wpAnyH_tk 5 39 ?_
  refine wpAnyH_tk 6 40 ?_
  refine wpAnyH_tk 7 41 ?_
  refine wpAnyH_tk 8 42 ?_
  refine wpAnyH_tk 9 43 ?_
  refine wpAnyH_tk 10 44 ?_
  refine wpAnyH_tk 11 45 ?_
  refine wpAnyH_tk 12 46 ?_
  refine wpAnyH_tk 13 47 ?_
  refine wpAnyH_tk 14 48 ?_
  refine wpAnyH_tk 15 49 ?_
  refine wpAnyH_tk 16 50 ?_
  refine wpAnyH_tk 17 51 ?_
  refine wpAnyH_cm 18 ?_;intro K hK
  go_simp
  refine HEN.out.mono ?_
  rintro e w3 ⟨rfl,rfl⟩
  refine hK.out _ _ HX0.out (fun hHeld=>?_)
  clear hK K
  try simp only [Act.put,siT,scZ,scS]
  refine wpAnyH_tk 19 53 ?_
  refine wpAnyH_tk 20 33 ?_
  refine wpAnyH_done (by kernel_rfl) ?_ _
  refine NoPanic.normal ?_
  clear hHeld
  have HEQ:Hid (flB h b=l):=q4
  cases hen:endB hi lo with
  | true =>
   have HRG:Hid (rngL l lo hi most=[]):=scan_none l hen
   clear hen
   go_wp2
   go_ret2
   refine ⟨_,rfl,?_,?_⟩
   ·rw [HRG.out];exact PRW.nil _ _ _
   ·exact LkF.of (by rw [hn0];exact HB2.out.trans (HBd.out.mono (by have:=HB2.out.size;omega))) (by rw [hn0];exact hbs)
  | false =>
   have HCC:=hide (pairsC_ok (w:=w2.drew) HM.out (HB02.out.trans (HBd.out.mono HB02.out.size)) b q6 (by rw [q4];exact q5) (by have:=HDP.out;omega) (HSP2.out.later HBd.out HBW2.out) hm0 hmo HGS.out (by rw [HR0.out,←hrt,q1]) (by rw [HD0.out,q2];simp) HY.out.1 HY.out.2.1 HY.out.2.2)
   clear hen q1 q2 q3 q4 q5 q6 q7 q8 q9
   go_wp2_with fail
   refine HCC.out.mono ?_
   rintro e w4 ⟨rfl,h1,h2⟩
   rw [HEQ.out] at h1
   have HL4:=hide h2
   obtain ⟨fv,k1,k2⟩:=h1.hx
   have HP4:=hide k2
   have HY4:=hide (h2.2 _ _ _ _ (show w2.drew.heap[n0+2]?=_ from HY.out.2.2) (by decide) (by decide))
   obtain ⟨fa,fc,hfv⟩:=k2.form
   subst hfv
   have z2:w4.cell? ⟨n0+2,0,none⟩=some (.pointer (some ⟨r,0,none⟩)):=aAa HY4.out
   have z3:w4.cell? ⟨r,3,none⟩=some (.slice fa (scan hi most [] (frm l lo)).1.length fc):=aAa k1
   clear h1 h2 k1 k2 HCC
   go_wp2
   go_ret2
   refine ⟨_,rfl,HP4.out,?_⟩
   exact (LkF.of (by rw [hn0];exact HB2.out.trans (HBd.out.mono (by have:=HB2.out.size;omega))) (by rw [hn0];exact hbs)).trans HL4.out
theorem span_new {B:Nat} {w:World} {la ha:Option Addr} {lc hc:Nat} {lo hi:List Nat} {ln hn most:Nat} (hB:B≤w.heap.size) (hln:lo.length=ln) (hhn:hi.length=hn) (hlo:BK B w la ln lc lo) (hhi:BK B w ha hn hc hi) :
  SpV B w.heap.size (w.alloc (.cells #[.slice la ln lc,.slice ha hn hc,.int .i64 (most:Int),.slice none 0 0] 109)) w.heap.size (.slice la ln lc) (.slice ha hn hc) lo hi most []:=by
 have hb:=aAb w (.cells #[.slice la ln lc,.slice ha hn hc,.int .i64 (most:Int),.slice none 0 0] 109)
 refine ⟨nR _,⟨la,lc,by rw [hln],by rw [hln];exact hlo.later hb hB⟩,⟨ha,hc,by rw [hhn],by rw [hhn];exact hhi.later hb hB⟩,_,heap_alloc_new w _,PRW.nil _ _ _⟩
theorem Range_ok [Gd] {B p q g:Nat} {s:DS} {t:PS} {w:World} {now last:StT} {sv:Value} {left:Int} {lo hi:List Nat} {most:Nat} {l:List It} (hM:TM B p q g s t now last sv left w) (hTr:Tr s t now l) (hdp:now.depth<100000) {la ha:Option Addr} {ln lc hn hc:Nat} (hln:lo.length=ln) (hhn:hi.length=hn) (hlo:BK B w la ln lc lo) (hhi:BK B w ha hn hc hi) (h1:ln≤64) (h2:hn≤64) (hm0:0<most) (hmo:most<100000) :
  Calls Tryz.prog 33 #[.pointer (some ⟨g,0,none⟩),.slice la ln lc,.slice ha hn hc,.int .i64 (most:Int)] w fun e w'=>∃ fv,e=.returned (.tuple #[fv,.int .i64 0])∧PRW B w.heap.size w' fv (rngL l lo hi most)∧Below w.heap.size w w':=by
 obtain ⟨cs,hg,hT⟩:=hM.tv
 have HSB:=hide (aAb w (.cells #[.slice la ln lc,.slice ha hn hc,.int .i64 (most:Int),.slice none 0 0] 109))
 have HPA:=hide (pairs_any (w0:=w) (gs:=g) (so:=2) hM HSB.out hTr hdp (by omega) (by omega) (span_new hM.bw hln hhn hlo hhi) hm0 hmo ⟨_,_,_,hg,by decide,by decide⟩ ((aAa hg).trans hT.n0) ((aAa hg).trans hT.n1))
 clear hM hTr hdp hlo hhi hg hT
 go_enter Tryz.func33,Tryz.ntmps33
 go_wp2_with fail
 refine HPA.out.mono ?_
 rintro e w1 ⟨fv,rfl,k1,k2⟩
 have HK1:=hide k1
 have HK2:=hide k2
 obtain ⟨fa,fc,hfv⟩:=k1.form
 subst hfv
 clear k1 k2
 go_wp2
 go_ret2
 exact ⟨_,rfl,HK1.out,HSB.out.trans HK2.out.1⟩
theorem SnapRange_ok [Gd] {B p q g gn:Nat} {s:DS} {t:PS} {w:World} {now last st:StT} {sv:Value} {left:Int} {lo hi:List Nat} {most:Nat} {l:List It} {cn:Array Value} (hM:TM B p q g s t now last sv left w) (hTr:Tr s t st l) (hdp:st.depth<100000) (hn0:w.heap[gn]?=some (.cells cn 91 (0,0))) (c0:cn[0]?=some (.pointer (some ⟨g,0,none⟩))) (c1:cn[1]?=some (.int .i64 st.root)) (c2:cn[2]?=some (.int .i64 st.depth)) {la ha:Option Addr} {ln lc hn hc:Nat} (hln:lo.length=ln) (hhn:hi.length=hn) (hlo:BK B w la ln lc lo) (hhi:BK B w ha hn hc hi) (h1:ln≤64) (h2:hn≤64) (hm0:0<most) (hmo:most<100000) :
  Calls Tryz.prog 51 #[.pointer (some ⟨gn,0,none⟩),.slice la ln lc,.slice ha hn hc,.int .i64 (most:Int)] w fun e w'=>∃ fv,e=.returned (.tuple #[fv,.int .i64 0])∧PRW B w.heap.size w' fv (rngL l lo hi most)∧Below w.heap.size w w':=by
 have HSB:=hide (aAb w (.cells #[.slice la ln lc,.slice ha hn hc,.int .i64 (most:Int),.slice none 0 0] 109))
 have HSD:=hide (HSB.out.drew)
 have HPA:=hide (pairs_any (w0:=w) (w:=(w.alloc (.cells #[.slice la ln lc,.slice ha hn hc,.int .i64 (most:Int),.slice none 0 0] 109)).drew) (gs:=gn) (so:=1) hM HSD.out hTr hdp (by omega) (by omega) ((span_new hM.bw hln hhn hlo hhi).later (Below.refl _ _).drew (nT hM.bw HSB.out.size)) hm0 hmo ⟨_,_,_,hn0,by decide,by decide⟩ ((aAa hn0).trans c1) ((aAa hn0).trans c2))
 have r0:w.cell? ⟨gn,0,none⟩=some (.pointer (some ⟨g,0,none⟩)):=(aAa hn0).trans c0
 have hgl:=(lO hn0)
 have HX0:Hid ((fun wx=>wx.cell? ⟨gn,0,none⟩=some (.pointer (some ⟨g,0,none⟩))) w.drew):=r0
 have HX1:Hid ((fun wx=>wx.cell? ⟨gn,0,none⟩=some (.pointer (some ⟨g,0,none⟩))) (w.alloc (.cells #[.slice la ln lc,.slice ha hn hc,.int .i64 (most:Int),.slice none 0 0] 109)).drew):=(HSD.out.cell (p:=⟨gn,0,none⟩) hgl).trans r0
 clear hM hTr hdp hlo hhi hn0 c0 c1 c2
 go_enter Tryz.func51,Tryz.ntmps51
 go_upto_region 3 with fail
 refine wp_region_noPanic ?_
 refine wp_region_held_drew (S:=fun wx=>wx.cell? ⟨gn,0,none⟩=some (.pointer (some ⟨g,0,none⟩))) (by kernel_rfl) HX0.out (fun hHeld=>?_)
 refine wpAnyH_tk 0 15 ?_
 refine wpAnyH_tk 1 16 ?_
 refine wpAnyH_tk 2 17 ?_
 refine wpAnyH_tk 3 18 ?_
 refine wpAnyH_tk 4 19 ?_
 refine wpAnyH_tk 5 20 ?_
 refine wpAnyH_tk 6 21 ?_
 refine wpAnyH_tk 7 22 ?_
 refine wpAnyH_tk 8 23 ?_
 refine wpAnyH_tk 9 24 ?_
 refine wpAnyH_tk 10 25 ?_
 refine wpAnyH_cm 11 ?_;intro K hK
 go_simp
 clear hHeld
 refine hK.out _ _ HX1.out (fun hHeld=>?_)
 clear hK K
 try simp only [Act.put,siT,scZ,scS]
 refine wpAnyH_cm 12 ?_;intro K hK
 go_simp
 refine HPA.out.mono ?_
 rintro e w1 ⟨fv,rfl,k1,k2⟩
 have HK1:=hide k1
 have HK2:=hide k2
 obtain ⟨fa,fc,hfv⟩:=k1.form
 subst hfv
 have HX2:Hid ((fun wx=>wx.cell? ⟨gn,0,none⟩=some (.pointer (some ⟨g,0,none⟩))) w1):=(k2.1.cell (p:=⟨gn,0,none⟩) hgl).trans HX1.out
 clear k1 k2 hHeld
 refine hK.out _ _ HX2.out (fun hHeld=>?_)
 clear hK K
 try simp only [Act.put,siT,scZ,scS]
 refine wpAnyH_tk 13 28 ?_
 refine wpAnyH_tk 14 29 ?_
 refine wpAnyH_tk 15 8 ?_
 refine wpAnyH_tk 16 9 ?_
 refine wpAnyH_done (by kernel_rfl) ?_ _
 refine NoPanic.normal ?_
 clear hHeld
 go_wp2
 go_ret2
 exact ⟨_,rfl,HK1.out,HSD.out.trans HK2.out.1⟩
def valL (L:List It) (k:List Nat):Option (List Nat):=(L.find? fun y=>decide (y.1=k)).map (·.2)
theorem Srt.inj {L:List It} (hs:Srt L) {x y:It} (hx:x∈L) (hy:y∈L) (h:x.1=y.1):x=y:=by
 obtain ⟨i,hi,rfl⟩:=List.getElem_of_mem hx
 obtain ⟨j,hj,rfl⟩:=List.getElem_of_mem hy
 have hp:=List.pairwise_iff_getElem.1 hs
 rcases Nat.lt_trichotomy i j with q | q | q
 ·have:=hp i j hi hj q
  rw [h,aBb] at this
  omega
 ·subst q;rfl
 ·have:=hp j i hj hi q
  rw [h,aBb] at this
  omega
theorem aEm {L:List It} (hs:Srt L) {x:It} (hx:x∈L):valL L x.1=some x.2:=by
 unfold valL
 cases h:L.find? fun y=>decide (y.1=x.1) with
 | none =>
  have:=List.find?_eq_none.1 h x hx
  simp at this
 | some y =>
  have h1:=List.mem_of_find?_eq_some h
  have h2:=List.find?_some h
  simp only [decide_eq_true_eq] at h2
  rw [hs.inj h1 hx h2]
  rfl
theorem aEw {L:List It} {k:List Nat} (h:∀ x∈L,x.1≠k):valL L k=none:=by
 unfold valL
 rw [List.find?_eq_none.2 fun x hx=>by simpa using h x hx]
 rfl
theorem valL_same {L M:List It} (hs:Srt L) (hsm:Srt M) {k:List Nat} (h1:∀ x∈M,x∈L) (h2:∀ x∈L,x.1=k→x∈M):valL L k=valL M k:=by
 by_cases c:∃ x∈M,x.1=k
 ·obtain ⟨x,hx,rfl⟩:=c
  rw [aEm hs (h1 x hx),aEm hsm hx]
 ·rw [aEw (L:=M) fun x hx q=>c ⟨x,hx,q⟩,aEw fun x hx q=>c ⟨x,h2 x hx q,q⟩]
theorem aEv:∀ (l:List It) (c:List (List It)),c.length=l.length+1→∀ x∈l,x∈weave l c:=fun l c h x hx=>(aB7 l c h).subset hx
theorem valL_kid {l:List It} {cs:List (List It)} {c:List It} {k:List Nat} (hs:Srt (weave l cs)) (hl:cs.length=l.length+1) (hc:cs[fndI l k]?=some c) (hh:hasI l k=false):valL (weave l cs) k=valL c k:=by
 refine valL_same hs (Srt.kid hs hl (mG hc)) (fun x hx=>(aCk l cs c hl (mG hc)).subset hx) fun x hx ek=>?_
 have e0:0≤cmpB x.1 k:=by rw [ek,aBb];omega
 have hf:x∈frm (weave l cs) k:=List.mem_filter.2 ⟨hx,by simpa using e0⟩
 rw [frm_weave hs hl hc,hh] at hf
 simp only [Bool.false_eq_true,if_false] at hf
 rcases List.mem_append.1 hf with q | q
 ·exact (List.mem_filter.1 q).1
 ·exfalso
  have hsl:Srt l:=List.Pairwise.sublist (aB7 l cs hl) hs
  have hle:=aA4 l k
  by_cases e:fndI l k=l.length
  ·rw [wvR_end (by omega)] at q
   simp at q
  ·obtain ⟨z,hz⟩:∃ z,l[fndI l k]?=some z:=⟨_,gE (by omega)⟩
   obtain ⟨c2,hc2⟩:∃ c2,cs[fndI l k+1]?=some c2:=⟨_,gE (by omega)⟩
   have hw:=aA2 l cs (fndI l k) c hl hc
   rw [hw] at hs
   have p5:=hs.app.2.1.app.2.1
   have hz0:=(hsl.part k).2 z (by
    have hd:l.drop (fndI l k)=z::l.drop (fndI l k+1):=by rw [←(List.getElem?_eq_some_iff.1 hz).2,List.getElem_cons_drop]
    rw [hd];simp)
   have hzk:cmpB z.1 k≠0:=fun q3=>by
    have:=(hsl.has k).2 ⟨z,hz,aD6 q3⟩
    rw [hh] at this
    cases this
   rw [aC3 hz hc2] at q p5
   rcases List.mem_cons.1 q with q | q
   ·rw [q] at ek
    rw [ek,aBb] at hzk
    exact hzk rfl
   ·have h1:=(List.pairwise_cons.1 p5).1 x q
    rw [ek] at h1
    omega
def VlR (B:Nat) (o:Option (List Nat)) (e:Ending) (w':World):Prop:=match o with
 | some x=>∃ v,e=.returned (.tuple #[v,.bool true])∧KV B w' v x
 | none=>e=.returned (.tuple #[.slice none 0 0,.bool false])
def VlI (s:DS) (t:PS) (o:Option (List Nat)) (k:List Nat) (a d:Value):Prop :=
 (d=.int .i64 0∧o=none∧∃ i:Nat,a=.int .i64 (i:Int))∨∃ (h:Nat) (b:BT h),a=.int .i64 (BT.id b:Int)∧d=.int .i64 ((h:Int)+1)∧h<100000∧OnD s t h b∧Srt (flB h b)∧valL (flB h b) k=o
theorem valueIn_any [Gd] {B p q gs so:Nat} {s:DS} {t:PS} {w:World} {st:StT} {l:List It} (hST:ST B p q s t w) (hB:B≤w.heap.size) (hlf:s.life=t.life) (hdn:s.down=false) (hTr:Tr s t st l) (hdp:st.depth<100000) (hr0:w.cell? ⟨gs,so,none⟩=some (.int .i64 st.root)) (hd0:w.cell? ⟨gs,so+1,none⟩=some (.int .i64 st.depth)) {ka:Option Addr} {kn kc:Nat} {key:List Nat} (hk:BK B w ka kn kc key) :
  Calls Tryz.prog 100 #[.pointer (some ⟨q,0,none⟩),.pointer (some ⟨gs,so,none⟩),.slice ka kn kc] w fun e w'=>VlR B (valL l key) e w'∧Below w.heap.size w w':=by
 have HST:=hide hST
 have HB:=hide hB
 have HK:=hide hk
 have HI0:Hid (VlI s t (valL l key) key (.int .i64 st.root) (.int .i64 st.depth)):=by
  rcases hTr with ⟨r1,r2,r3,r4,r5⟩ | ⟨h,b,q1,q2,q3,q4,q5,q6,q7,q8,q9⟩
  ·subst r4
   exact Or.inl ⟨by rw [r2],rfl,0,by rw [r1];rfl⟩
  ·exact Or.inr ⟨h,b,by rw [q1],by rw [q2];simp,by omega,q6,by rw [q4];exact q5,by rw [q4]⟩
 clear hST hB hTr hdp hk
 generalize st.root=rt at *
 generalize st.depth=dp at *
 generalize valL l key=o at *
 go_enter Tryz.func100,Tryz.ntmps100
 go_wp2_with fail
 go_loopw [8,9] (fun a d wx=>VlI s t o key a d∧Below w.heap.size w wx) (fun _ d _=>(intOf d).toNat)
 case atStart=>exact ⟨HI0.out,Below.refl _ _⟩
 case round =>
  obtain ⟨hI,hbr⟩:=hrel
  have HBR:=hide hbr
  have HBw:Hid (B≤wr.heap.size):=nT HB.out hbr.size
  rcases hI with ⟨rfl,rfl,i0,rfl⟩ | ⟨h,b,rfl,rfl,hh,hon,hsr,hvl⟩
  ·clear hbr
   go_wp2
   (try simp only [Exit.inBlock,Exit.then])
   go_ret2
   exact ⟨rfl,HBR.out⟩
  ·have HVL:=hide hvl
   have HSR:=hide hsr
   cases h with
   | zero =>
    obtain ⟨hpg,hit⟩:=hon
    have HLD:=hide (aCh b.1 (HST.out.later hbr) HBw.out hlf hpg.lt (by rw [hpg.of];decide) hdn b.2 hpg.pg hit.n1 hit.n4 hit.ok hit.so hpg.ln hpg.bt)
    have HIT:=hide hit
    have hl4:=hit.n4
    clear hpg hit hvl hsr hbr
    generalize hl:b.2=l0 at *
    generalize hLL:l0.length=L at *
    generalize hFi:fndI l0 key=Fi at *
    generalize hhb:hasI l0 key=hb0 at *
    have HBI:Hid (flB 0 b=l0):=hl
    have x0:(0:Int)<((0:Nat):Int)+1:=by omega
    have x1:((0:Nat):Int)+1=1:=rfl
    rw [x1]
    go_wp2_with fail
    refine HLD.out.mono ?_
    rintro e w1 ⟨v1,rfl,⟨gl,gi,rfl,z1,z2,z3,z4⟩,hb1⟩
    rw [hLL] at z3
    have HZ3:=hide z3
    have HIO:=hide (aBe z3)
    have HBw1:Hid (B≤w1.heap.size):=nT HBw.out hb1.size
    have HB1:Hid (Below w.heap.size w w1):=HBR.out.trans (hb1.mono HBR.out.size)
    have HFN:Hid (Calls Tryz.prog 108 #[.slice (some ⟨gi,0,none⟩) L L,.slice ka kn kc] w1 fun e w'=>e=.returned (.tuple #[.int .i64 (Fi:Int),.bool hb0])∧Below w1.heap.size w1 w'):=by
     have:=find_ok z4 HBw1.out ((HK.out.later HB1.out HB.out).1) (by omega) HIT.out.so hLL
     rw [hFi,hhb] at this
     exact this
    have HZ4:=hide z4
    clear z3 z4 hb1 HLD
    unfold lfP at HIO
    go_wp2_with fail
    refine HIO.out.mono ?_
    rintro e w1' ⟨rfl,rfl⟩
    go_wp2_with fail
    refine HFN.out.mono ?_
    rintro e w2 ⟨rfl,hb2⟩
    have HIR2:=hide (HZ4.out.later hb2 HBw1.out)
    have HB2:Hid (Below w.heap.size w w2):=HB1.out.trans (hb2.mono HB1.out.size)
    have HG2:=hide ((hb2.block gl (lO HZ3.out)).trans HZ3.out)
    have ta:=aAu (.pointer (some ⟨gl,0,none⟩)) w2
    clear hb2 HFN HIO HZ4 HZ3
    cases hb0 with
    | true =>
     obtain ⟨x,hx,hxk⟩:=(HIT.out.so.has key).1 hhb
     have hFL:Fi<L:=by
      rw [hFi] at hx
      have:=(lL hx)
      omega
     rw [hFi] at hx
     obtain ⟨kf,vf,hg1,hg2⟩:=HIR2.out
     rw [hLL] at hg1
     obtain ⟨hk1,hv1⟩:=hg2 Fi x hx
     have HVV:=hide hv1
     have y6:w2.cell? ⟨gi,Fi*2+1,none⟩=some (vf Fi):=by rw [aAa hg1,List.getElem?_toArray];exact aAx kf vf Fi L hFL
     have xF:(Fi:Int)<(L:Int):=by omega
     have HOV:Hid (o=some x.2):=by
      show _=_
      rw [←HVL.out,←hxk]
      exact aEm HSR.out (by rw [HBI.out];exact mG hx)
     have HIO2:=hide (by have h9:=aBe HG2.out;unfold lfP at h9;exact h9)
     obtain ⟨va,vc,hva,_⟩:=hv1
     rw [hva] at y6 HVV
     generalize hvn:x.2.length=vn at *
     clear hg1 hg2 hk1 hva
     go_wp2_with fail
     refine HIO2.out.mono ?_
     rintro e w4 ⟨rfl,rfl⟩
     go_wp2
     (try simp only [Exit.inBlock,Exit.then])
     go_ret2
     refine ⟨?_,HB2.out⟩
     rw [HOV.out]
     exact ⟨_,rfl,HVV.out⟩
    | false =>
     have HOV:Hid (o=none):=by
      show _=_
      rw [←HVL.out,HBI.out]
      refine aEw fun x hx q9=>?_
      have:hasI l0 key=true:=by
       simp only [hasI,List.contains_eq_mem,List.mem_map,decide_eq_true_eq]
       exact ⟨x,hx,q9⟩
      rw [hhb] at this
      cases this
     go_wp2_with fail
     go_roundw
     case rel=>exact ⟨Or.inl ⟨by go_num,HOV.out,b.1,rfl⟩,HB2.out⟩
     case measure=>simp [intOf]
   | succ h =>
    obtain ⟨hpg,hit,hcl,hid,hkd⟩:=hon
    have hidl:(b.2.2.map BT.id).length=b.2.1.length+1:=by rw [List.length_map];exact hcl
    have HLD:=aB2 b.1 (h+2) (by omega) (HST.out.later hbr) HBw.out hlf hpg.lt (by rw [hpg.of];decide) hdn b.2.1 (b.2.2.map BT.id) hpg.pg hidl (by intro x hx;obtain ⟨k,hk,rfl⟩:=List.mem_map.1 hx;exact hid k hk) hit.n1 hit.n4 hit.ok hit.so hpg.ln hpg.bt
    rw [show (((h+2:Nat):Nat):Int)=(h:Int)+1+1 by omega] at HLD
    replace HLD:=hide HLD
    have HIT:=hide hit
    have hl4:=hit.n4
    have HKD:=hide hkd
    have HCL:=hide hcl
    have hfl:=aA4 b.2.1 key
    have HSW:Hid (Srt (weave b.2.1 (b.2.2.map (flB h)))):=hsr
    have HBI:Hid (flB (h+1) b=weave b.2.1 (b.2.2.map (flB h))):=rfl
    have HCS:Hid ((b.2.2.map (flB h)).length=b.2.1.length+1):=by rw [List.length_map];exact hcl
    clear hpg hit hvl hsr hbr hid hkd
    have hn2:(b.2.2.map BT.id).length=b.2.1.length+1:=hidl
    generalize hl:b.2.1=l0 at *
    generalize hLL:l0.length=L at *
    generalize hFi:fndI l0 key=Fi at *
    generalize hhb:hasI l0 key=hb0 at *
    have x0:(0:Int)<(((h+1:Nat):Nat):Int)+1:=by omega
    have x1:(((h+1:Nat):Nat):Int)+1=(h:Int)+1+1:=by omega
    rw [x1]
    rw [x1] at x0
    go_wp2_with fail
    refine HLD.out.mono ?_
    rintro e w1 ⟨v1,rfl,⟨gb,gi,gc,rfl,z1,z2,z5,z3,z4,z6⟩,hb1⟩
    rw [hLL,hn2] at z3
    have HZ3:=hide z3
    have HIO:=hide (aA6 z3)
    have HBw1:Hid (B≤w1.heap.size):=nT HBw.out hb1.size
    have HB1:Hid (Below w.heap.size w w1):=HBR.out.trans (hb1.mono HBR.out.size)
    have HFN:Hid (Calls Tryz.prog 108 #[.slice (some ⟨gi,0,none⟩) L L,.slice ka kn kc] w1 fun e w'=>e=.returned (.tuple #[.int .i64 (Fi:Int),.bool hb0])∧Below w1.heap.size w1 w'):=by
     have:=find_ok z4 HBw1.out ((HK.out.later HB1.out HB.out).1) (by omega) HIT.out.so hLL
     rw [hFi,hhb] at this
     exact this
    have HZ4:=hide z4
    have HZ6:=hide z6
    clear z3 z4 z6 hb1 HLD
    unfold brP at HIO
    go_wp2_with fail
    refine HIO.out.mono ?_
    rintro e w1' ⟨rfl,rfl⟩
    go_wp2_with fail
    refine HFN.out.mono ?_
    rintro e w2 ⟨rfl,hb2⟩
    have HIR2:=hide (HZ4.out.later hb2 HBw1.out)
    have HB2:Hid (Below w.heap.size w w2):=HB1.out.trans (hb2.mono HB1.out.size)
    have HG2:=hide ((hb2.block gb (lO HZ3.out)).trans HZ3.out)
    have HGC2:=hide ((hb2.block gc (lO HZ6.out)).trans HZ6.out)
    have ta:=aAt (.pointer (some ⟨gb,0,none⟩)) w2
    clear hb2 HFN HIO HZ4 HZ3 HZ6
    cases hb0 with
    | true =>
     obtain ⟨x,hx,hxk⟩:=(HIT.out.so.has key).1 hhb
     have hFL:Fi<L:=by
      rw [hFi] at hx
      have:=(lL hx)
      omega
     rw [hFi] at hx
     obtain ⟨kf,vf,hg1,hg2⟩:=HIR2.out
     rw [hLL] at hg1
     obtain ⟨hk1,hv1⟩:=hg2 Fi x hx
     have HVV:=hide hv1
     have y6:w2.cell? ⟨gi,Fi*2+1,none⟩=some (vf Fi):=by rw [aAa hg1,List.getElem?_toArray];exact aAx kf vf Fi L hFL
     have xF:(Fi:Int)<(L:Int):=by omega
     have HOV:Hid (o=some x.2):=by
      show _=_
      rw [←HVL.out,←hxk]
      exact aEm HSR.out (by rw [HBI.out];exact aEv _ _ (by rw [hLL];exact HCS.out) _ (mG hx))
     have HIO2:=hide (by have h9:=aA6 HG2.out;unfold brP at h9;exact h9)
     obtain ⟨va,vc,hva,_⟩:=hv1
     rw [hva] at y6 HVV
     generalize hvn:x.2.length=vn at *
     clear hg1 hg2 hk1 hva
     go_wp2_with fail
     refine HIO2.out.mono ?_
     rintro e w4 ⟨rfl,rfl⟩
     go_wp2
     (try simp only [Exit.inBlock,Exit.then])
     go_ret2
     refine ⟨?_,HB2.out⟩
     rw [HOV.out]
     exact ⟨_,rfl,HVV.out⟩
    | false =>
     obtain ⟨kb,hkb⟩:∃ kb,b.2.2[Fi]?=some kb:=⟨_,gE (by have:=HCL.out;omega)⟩
     have hkm:=mG hkb
     have HOV:Hid (valL (flB h kb) key=o):=by
      show _=_
      rw [←HVL.out,HBI.out]
      exact (valL_kid HSW.out (by rw [hLL];exact HCS.out) (by rw [hFi,List.getElem?_map,hkb];rfl) hhb).symm
     have HKS:Hid (Srt (flB h kb)):=Srt.kid HSW.out (by rw [hLL];exact HCS.out) (List.mem_map_of_mem hkm)
     have HKO:=hide (HKD.out kb hkm)
     have g1:w2.cell? ⟨gb,1,none⟩=some (.slice (some ⟨gc,0,none⟩) (L+1) (L+1)):=aAa HG2.out
     have g2:w2.cell? ⟨gc,Fi,none⟩=some (.iface 119 (.int .i64 (BT.id kb:Int))):=by
      rw [aAa HGC2.out,List.getElem?_toArray,List.getElem?_map,List.getElem?_map,hkb]
      rfl
     have g3:=aCp (.int .i64 (BT.id kb:Int)) w2
     have xl:(Fi:Int)<((L+1:Nat):Int):=by omega
     clear hkb hkm
     go_wp2_with fail
     go_roundw
     case rel=>exact ⟨Or.inr ⟨h,kb,rfl,by go_num,by omega,HKO.out,HKS.out,HOV.out⟩,HB2.out⟩
     case measure=>simp [intOf];omega
end Go.Proofs.YtlmaolfajcgmiaaGreat
