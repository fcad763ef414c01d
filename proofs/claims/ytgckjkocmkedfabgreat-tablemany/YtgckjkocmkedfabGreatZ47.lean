import Derived.Test.YtgckjkocmkedfabGreatZ46
set_option maxRecDepth 100000
set_option maxHeartbeats 16000000
set_option linter.unusedVariables false
namespace Go.Proofs.YtgckjkocmkedfabGreat
open Go.RowKit
theorem kid_bounds {l:List It} {cs:List (List It)} {c:List It} {j:Nat} (hs:Srt (weave l cs)) (hl:cs.length=l.length+1) (hc:cs[j]?=some c):(∀ z,0<j→l[j-1]?=some z→∀ x∈c,0<cmpB x.1 z.1)∧(∀ z,l[j]?=some z→∀ x∈c,cmpB x.1 z.1<0):=by
 have hjl:=(lL hc)
 have hw:=aCs l cs j c hl hc
 rw [hw] at hs
 obtain ⟨p1,p2,p3⟩:=hs.app
 obtain ⟨p4,p5,p6⟩:=p2.app
 constructor
 ·intro z h0 hz x hx
  obtain ⟨a,ha⟩:=wvL_end (l.take j) (cs.take j) z (by simp;omega) (by
   rw [List.getLast?_eq_getElem?,List.length_take,Nat.min_eq_left (by omega),List.getElem?_take_of_lt (by omega)]
   exact hz)
  have h1:=p3 z (by rw [ha];simp) x (List.mem_append_left _ hx)
  rw [aC3] at h1
  omega
 ·intro z hz x hx
  obtain ⟨c2,hc2⟩:∃ c2,cs[j+1]?=some c2:=⟨_,gE (by have:=(lL hz);omega)⟩
  rw [aF4 hz hc2] at p6
  exact p6 x hx z (by simp)
theorem Ex.wk {B fb:Nat} {a b c:World} (h:Ex B [fb] a b) (k:Ex B [fb] b c):Ex B [fb] a c:=h.trans k
theorem walk_branch [Gd] {B p q fb h:Nat} {s:DS} {t:PS} (hlf:s.life=t.life) (hdn:s.down=false) (hsn:s.n≤4096) (hh:h<100000) (hIH:WkC B p q fb s t h):WkC B p q fb s t (h+1):=by
 intro w b cs root dp k ps lo hi la ln lc ha hn hc hST hB hBf hfb hsv hon hsh hsr hro hk0 hk1 hlo hhi hln hhn hbd
 obtain ⟨hpg,hit,hcl,hid,hkd⟩:=hon
 obtain ⟨s1,s2,s3⟩:=hsh
 have hidl:(b.2.2.map BT.id).length=b.2.1.length+1:=by rw [List.length_map];exact hcl
 have hcs:(b.2.2.map (flB h)).length=b.2.1.length+1:=by rw [List.length_map];exact hcl
 have HIH:=hide hIH
 have HBD:=hide hbd
 have HSR:Hid (Srt (weave b.2.1 (b.2.2.map (flB h)))):=hsr
 have HCS:=hide hcs
 have HLN:Hid ((flB (h+1) b).length=b.2.1.length+((b.2.2.map (flB h)).map List.length).sum):=aDc _ _ hcs
 have HPG:Hid (pgB (h+1) b=b.1::(b.2.2.map (pgB h)).flatten):=rfl
 have HK1:=hide hk1
 have HFL:Hid (flB (h+1) b=weave b.2.1 (b.2.2.map (flB h))):=rfl
 rw [HPG.out]
 show Calls Tryz.prog 183 #[.pointer (some ⟨fb,0,none⟩),.pointer (some ⟨q,0,none⟩),.int .i64 (b.1:Int),.slice la ln lc,.slice ha hn hc] w fun e w'=>e=.returned (.int .i64 ((((h+1:Nat):Nat):Int)+1))∧WkR B fb root dp k ps (flB (h+1) b).length (b.1::(b.2.2.map (pgB h)).flatten) w w'
 rw [show (((h+1:Nat):Nat):Int)+1=(h:Int)+1+1 by omega]
 have hkk:k+(b.2.1.length:Int)≤1000000:=by have:=HLN.out;omega
 clear hIH hsr hk1
 generalize hALL:flB (h+1) b=all at *
 have HLD:=hide (aE0 b.1 hST hB hlf hpg.lt hpg.of hdn b.2.1 (b.2.2.map BT.id) hpg.pg hidl (by intro x hx;obtain ⟨k,hk,rfl⟩:=List.mem_map.1 hx;exact hid k hk) hit.n1 hit.n4 hit.ok hit.so hpg.ln hpg.bt)
 have HST:=hide hST
 have HIT:=hide hit
 have hl4:=hit.n4
 have hl1:=hit.n1
 have HB:=hide hB
 have HFB:=hide hfb
 have HSV:=hide hsv
 have HBF:=hide hBf
 have hfl:=(lO hfb)
 have HLO:=hide hlo
 have HHI:=hide hhi
 have HID:Hid (b.1<4096):=Nat.lt_of_lt_of_le hpg.lt hsn
 have HKD:=hide hkd
 have HS3:=hide s3
 have HBI:Hid (∀ x∈b.2.1,0<cmpB x.1 lo∧(hi=[]∨cmpB x.1 hi<0)):=fun x hx=>hbd x (by rw [HFL.out];exact aGk _ _ hcs _ hx)
 clear hST hfb hsv hpg hit hlo hhi hB hBf hsn hlf hdn hbd
 generalize hl:b.2.1=l at *
 generalize hLL:l.length=L at *
 have hn2:(b.2.2.map BT.id).length=L+1:=hidl
 go_enter Tryz.func183,Tryz.ntmps183
 go_wp2_with fail
 refine HLD.out.mono ?_
 rintro e w1 ⟨v1,rfl,⟨gb,gi,gc,rfl,z1,z2,z5,z3,z4,z6⟩,hb1⟩
 rw [hLL,hn2] at z3
 have HIO:=hide (aCe z3)
 unfold brP at HIO
 have HZ6:=hide z6
 have HZ3:=hide z3
 have HB1:=hide hb1
 have HBw1:Hid (B≤w1.heap.size):=nT HB.out hb1.size
 obtain ⟨kf,vf,hg1,hg2⟩:=z4
 rw [hLL] at hg1
 have HG1:=hide hg1
 have HG2:=hide hg2
 have HFB1:=hide ((hb1.block fb hfl).trans HFB.out)
 have r0:w1.cell? ⟨fb,0,none⟩=some (.int .i64 root):=(aAc HFB1.out).trans HSV.out.c0
 have HF1:=hide (FT.of hb1 HB.out)
 clear z3 hb1 HLD hg1 hg2
 go_wp2_with fail
 refine HIO.out.mono ?_
 rintro e w1' ⟨rfl,rfl⟩
 go_upto_region 3 with fail
 go_cut [] from 26 to 37 (fun wx=>wx=w1')
 case first =>
  by_cases hrt:(b.1:Int)=root
  ·have drt:((b.1:Int) == root)=true:=by simp;exact hrt
   subst hrt
   go_wp2_with fail
   refine (aAw _).mono ?_
   rintro e w2 ⟨rfl,rfl⟩
   go_wp2
   go_meet
   rfl
  ·have drt:((b.1:Int) == root)=false:=by simp;exact hrt
   have x2:(2:Int)≤(L:Int):=by
    rcases hro with h9 | h9
    ·exact absurd h9 hrt
    ·have h9:2≤b.2.1.length:=h9
     rw [hl,hLL] at h9
     omega
   go_wp2_with fail
   refine (aAw _).mono ?_
   rintro e w2 ⟨rfl,rfl⟩
   go_wp2
   go_meet
   rfl
 case rest =>
  subst hcut
  obtain ⟨x0,hx0⟩:∃ x,l[0]?=some x:=⟨_,gE (by omega)⟩
  obtain ⟨x9,hx9⟩:∃ x,l[L-1]?=some x:=⟨_,gE (by omega)⟩
  obtain ⟨ka0,kc0,hk0,hb0⟩:=(HG2.out 0 x0 hx0).1
  obtain ⟨ka9,kc9,hk9,hb9⟩:=(HG2.out (L-1) x9 hx9).1
  have y0:wc.cell? ⟨gi,0,none⟩=some (.slice ka0 x0.1.length kc0):=by rw [aAc HG1.out,List.getElem?_toArray,←hk0];exact aBa kf vf 0 L (by omega)
  have y9:wc.cell? ⟨gi,(L-1)*2,none⟩=some (.slice ka9 x9.1.length kc9):=by rw [aAc HG1.out,List.getElem?_toArray,←hk9];exact aBa kf vf (L-1) L (by omega)
  have HC0:=hide (aA3 ka0 la x0.1.length kc0 ln lc x0.1 lo wc hb0.1 (HLO.out.ft HF1.out).1)
  have HC9:=hide (aA3 ka9 ha x9.1.length kc9 hn hc x9.1 hi wc hb9.1 (HHI.out.ft HF1.out).1)
  have xc0:(0:Int)<cmpB x0.1 lo:=(HBI.out x0 (mG hx0)).1
  have HX9:=hide (HBI.out x9 (mG hx9)).2
  clear hx0 hx9 hb0 hb9 hk0 hk9
  generalize cmpB x0.1 lo=cc0 at *
  generalize cmpB x9.1 hi=cc9 at *
  generalize x0.1.length=n00 at *
  generalize x9.1.length=n99 at *
  have xL0:(0:Int)<(L:Int):=by omega
  have xL1:((L:Int)-1)=((L-1:Nat):Int):=by omega
  have xL2:((L-1:Nat):Int)<(L:Int):=by omega
  go_wp2_with fail
  refine HC0.out.mono ?_
  rintro e w2 ⟨rfl,rfl⟩
  go_wp2_with fail
  refine (aAw _).mono ?_
  rintro e w3 ⟨rfl,rfl⟩
  go_upto_region 5 with fail
  go_cut [] from 46 to 61 (fun wx=>wx=w3)
  case first =>
   by_cases hhe:hn=0
   ·subst hhe
    go_wp2_with fail
    refine (aAw _).mono ?_
    rintro e w4 ⟨rfl,rfl⟩
    go_wp2
    go_meet
    rfl
   ·have xh:¬ (hn:Int)=0:=by omega
    have dh:((hn:Int) == 0)=false:=by simp;omega
    have xc9:cc9<0:=by
     rcases HX9.out with h9 | h9
     ·rw [h9] at hhn
      simp at hhn
      omega
     ·exact h9
    go_wp2_with fail
    refine HC9.out.mono ?_
    rintro e w4 ⟨rfl,rfl⟩
    go_wp2_with fail
    refine (aAw _).mono ?_
    rintro e w5 ⟨rfl,rfl⟩
    go_wp2
    go_meet
    rfl
  case rest =>
   subst hcut
   have r2:wc.cell? ⟨fb,2,none⟩=some (.int .i64 k):=(aAc HFB1.out).trans HSV.out.c2
   have f2:wc.frozen? ⟨fb,2,none⟩=false:=aAj HFB1.out
   have HFB2:Hid ((wc.setCell ⟨fb,2,none⟩ (.int .i64 (k+(L:Int)))).heap[fb]?=some (.cells (cs.setIfInBounds 2 (.int .i64 (k+(L:Int)))) 221 (0,0))):=heap_setCell_same _ _ _ _ _ _ HFB1.out
   have HSV2:=hide (HSV.out.keys (k':=k+(L:Int)))
   have HEX2:Hid (Ex B [fb] wc (wc.setCell ⟨fb,2,none⟩ (.int .i64 (k+(L:Int))))):=Ex.set HBF.out
   have HAD:=hide (add_ok (B:=B) (o:=3) HBF.out HFB2.out HSV2.out.wd HID.out)
   clear y0 y9 r0 HC0 HC9 HX9
   go_wp2_with fail
   refine HAD.out.mono ?_
   rintro e w4 ⟨rfl,cs4,p1,p2,p3,p4⟩
   have HFB4:=hide p1
   have HSV4:=hide (HSV2.out.words p2 p3)
   have HEX4:=hide (HEX2.out.trans p4)
   have HEXw:Hid (Ex B [fb] w w4):=⟨(HB1.out.mono HB.out).trans HEX4.out.1,fun k9 h8 h9=>by rw [HEX4.out.2 k9 (Nat.lt_of_lt_of_le h8 HB1.out.size) h9,HB1.out.block k9 h8]⟩
   have ta:=aCf (.pointer (some ⟨gb,0,none⟩)) w4
   clear p1 p2 p3 p4 r2 f2 HAD
   have hm:∀ (ds:List (BT h)),((ds.map (flB h)).map List.length).sum=(ds.map fun d=>(flB h d).length).sum:=fun ds=>by rw [List.map_map];rfl
   have HSUM:Hid (all.length=L+(b.2.2.map fun d=>(flB h d).length).sum):=by
    show _=_
    rw [HLN.out,hm]
   have HG1':=hide ((HEX4.out.2 gi (lO HG1.out) (by
    intro q9
    simp only [List.mem_singleton] at q9
    have h9:=HG1.out
    rw [q9,HFB1.out] at h9
    simp only [oI,cI] at h9
    exact absurd h9.2.1 (by decide))).trans HG1.out)
   have HGB4:=hide (HEX4.out.keepX HFB1.out HZ3.out (by decide))
   have HGC4:=hide (HEX4.out.keepX HFB1.out HZ6.out (by decide))
   have HF4:Hid (FT B wc w4):=HEX4.out.ftX HFB1.out (by decide)
   have g1:w4.cell? ⟨gb,1,none⟩=some (.slice (some ⟨gc,0,none⟩) (L+1) (L+1)):=aAc HGB4.out
   have HST4:Hid (ST B p q s t w4):=HST.out.exS HEXw.out HFB.out
   have HBw4:Hid (B≤w4.heap.size):=nT HB.out HEXw.out.1.size
   go_wp2_with fail
   go_loopw [88,15] (fun i hgt wx=>∃ j:Nat,j≤L+1∧i=.int .i64 j∧hgt=.int .i64 (if j=0 then 0 else (h:Int)+1)∧∃ csj,wx.heap[fb]?=some (.cells csj 221 (0,0))∧StV csj root dp (k+(L:Int)+(((b.2.2.take j).map fun d=>(flB h d).length).sum:Nat)) (((b.2.2.take j).map (pgB h)).flatten.foldl adP (adP ps b.1))∧Ex B [fb] w4 wx) (fun i _ _=>L+1-(intOf i).toNat)
   case atStart=>exact ⟨0,by omega,rfl,rfl,cs4,HFB4.out,by simpa using HSV4.out,Ex.refl _ _ _⟩
   case round =>
    obtain ⟨j,hj,rfl,rfl,csj,hfj,hsj,hej⟩:=hrel
    have HFBj:=hide hfj
    have HSVj:=hide hsj
    have HEXj:=hide hej
    have HEWj:=hide (HEXw.out.wk hej)
    clear hfj hsj hej g1 ta
    by_cases hjn:j<L+1
    ·have xj:(j:Int)<((L+1:Nat):Int):=by omega
     obtain ⟨kb,hkb⟩:∃ kb,b.2.2[j]?=some kb:=⟨_,gE (by omega)⟩
     have hkm:=mG hkb
     have hkc:(b.2.2.map (flB h))[j]?=some (flB h kb):=by rw [List.getElem?_map,hkb];rfl
     have HKB:=hide (kid_bounds HSR.out (by rw [hLL];exact HCS.out) hkc)
     have HKS:Hid (Srt (flB h kb)):=Srt.kid HSR.out (by rw [hLL];exact HCS.out) (mG hkc)
     have HCB:Hid (∀ x∈flB h kb,0<cmpB x.1 lo∧(hi=[]∨cmpB x.1 hi<0)):=fun x hx=>HBD.out x (by rw [HFL.out];exact (aEe l _ _ (by rw [hLL];exact HCS.out) (mG hkc)).subset hx)
     have HGR:=hide (HEXj.out.keepX HFB4.out HG1'.out (by decide))
     have HFT:Hid (FT B wc wr):=HF4.out.trans (HEXj.out.ftX HFB4.out (by decide))
     have HSTr:Hid (ST B p q s t wr):=HST4.out.exS HEXj.out HFB4.out
     have HBr:Hid (B≤wr.heap.size):=nT HBw4.out HEXj.out.1.size
     have hgc:=HEXj.out.keepX HFB4.out HGC4.out (by decide)
     have g2:wr.cell? ⟨gc,j,none⟩=some (.iface 285 (.int .i64 (BT.id kb:Int))):=by
      rw [aAc hgc,List.getElem?_toArray,List.getElem?_map,List.getElem?_map,hkb]
      rfl
     have g3:=asr_place (.int .i64 (BT.id kb:Int)) wr
     have htk:(b.2.2.take (j+1)).map (fun d=>(flB h d).length)=(b.2.2.take j).map (fun d=>(flB h d).length)++[(flB h kb).length]:=by
      rw [List.take_add_one,hkb];simp
     have htp:((b.2.2.take (j+1)).map (pgB h)).flatten=((b.2.2.take j).map (pgB h)).flatten++pgB h kb:=by
      rw [List.take_add_one,hkb];simp
     have hle:((b.2.2.take (j+1)).map fun d=>(flB h d).length).sum≤(b.2.2.map fun d=>(flB h d).length).sum:=by
      conv=>rhs;rw [←List.take_append_drop (j+1) b.2.2,List.map_append,List.sum_append]
      omega
     rw [htk,List.sum_append] at hle
     simp only [List.sum_cons,List.sum_nil,Nat.add_zero] at hle
     generalize hkj:k+(L:Int)+(((b.2.2.take j).map fun d=>(flB h d).length).sum:Nat)=kj at *
     generalize hpj:((b.2.2.take j).map (pgB h)).flatten.foldl adP (adP ps b.1)=psj at *
     have HKJ0:Hid (0≤kj):=by show 0≤kj;omega
     have HKJ1:Hid (kj+((flB h kb).length:Int)≤1000000):=by
      have h1:=HK1.out
      have h2:=HSUM.out
      show kj+((flB h kb).length:Int)≤1000000
      omega
     have HNX:Hid (∀ (csn:Array Value) (wn:World),wn.heap[fb]?=some (.cells csn 221 (0,0))→StV csn root dp (kj+((flB h kb).length:Int)) ((pgB h kb).foldl adP psj)→Ex B [fb] w4 wn→∃ j':Nat,j'≤L+1∧Value.int .i64 (j+1)=.int .i64 j'∧Value.int .i64 ((h:Int)+1)=.int .i64 (if j'=0 then 0 else (h:Int)+1)∧∃ csj,wn.heap[fb]?=some (.cells csj 221 (0,0))∧StV csj root dp (k+(L:Int)+(((b.2.2.take j').map fun d=>(flB h d).length).sum:Nat)) (((b.2.2.take j').map (pgB h)).flatten.foldl adP (adP ps b.1))∧Ex B [fb] w4 wn):=by
      intro csn wn a1 a2 a3
      refine ⟨j+1,by omega,by simp,by simp,csn,a1,?_,a3⟩
      rw [htk,htp,List.sum_append,List.foldl_append,hpj]
      rw [←hkj] at a2
      have:k+(L:Int)+((((b.2.2.take j).map fun d=>(flB h d).length).sum+[(flB h kb).length].sum:Nat):Int)=k+(L:Int)+(((b.2.2.take j).map fun d=>(flB h d).length).sum:Nat)+((flB h kb).length:Int):=by
       simp only [List.sum_cons,List.sum_nil,Nat.add_zero]
       omega
      rw [this]
      exact a2
     clear hgc htk htp hle hkb hkc hkj hpj
     by_cases hj00:j=0
     ·obtain ⟨x1,hx1⟩:∃ x,l[j]?=some x:=⟨_,gE (by omega)⟩
      obtain ⟨ka1,kc1,hka1,hkb1⟩:=(HG2.out j x1 hx1).1
      have y1:wr.cell? ⟨gi,j*2,none⟩=some (.slice ka1 x1.1.length kc1):=by rw [aAc HGR.out,List.getElem?_toArray,←hka1];exact aBa kf vf j L (by omega)
      have hb1':=hkb1.ft HFT.out
      have hx11:=HKB.out.2 x1 hx1
      have HCW:=hide (HIH.out wr kb csj root dp kj psj lo x1.1 la ln lc ka1 x1.1.length kc1 HSTr.out HBr.out HBF.out HFBj.out HSVj.out (HKD.out kb hkm) (HS3.out kb hkm).1 HKS.out (Or.inr (HS3.out kb hkm).2) HKJ0.out HKJ1.out ((HLO.out.ft HF1.out).ft HFT.out) (hb1') hln rfl (fun x hx=>⟨(HCB.out x hx).1,Or.inr (hx11 x hx)⟩))
      generalize x1.1.length=n1 at *
      subst hj00
      clear hkb1 hb1' hka1 hx1 hx11
      go_wp2_with fail
      refine HCW.out.mono ?_
      rintro e w5 ⟨rfl,csn,p1,p2,p3⟩
      have HFBn:=hide p1
      have HSVn:=hide p2
      have HEXn:=hide (HEXj.out.wk p3)
      clear p1 p2 p3 HCW
      go_wp2_with fail
      refine (aAw _).mono ?_
      rintro e w6 ⟨rfl,rfl⟩
      go_wp2_with fail
      go_roundw
      case rel=>exact HNX.out _ _ HFBn.out HSVn.out HEXn.out
      case measure=>simp [intOf]
     ·have xj0:(0:Int)<(j:Int):=by omega
      have xj00:¬ (j:Int)=0:=by omega
      have dj00:((j:Int) == 0)=false:=by simp;omega
      simp only [if_neg hj00]
      by_cases hjl:j<L
      ·have xjl:(j:Int)<(L:Int):=by omega
       obtain ⟨x0,hx0⟩:∃ x,l[j-1]?=some x:=⟨_,gE (by omega)⟩
       obtain ⟨ka0,kc0,hka0,hkb0⟩:=(HG2.out (j-1) x0 hx0).1
       have y0:wr.cell? ⟨gi,(j-1)*2,none⟩=some (.slice ka0 x0.1.length kc0):=by rw [aAc HGR.out,List.getElem?_toArray,←hka0];exact aBa kf vf (j-1) L (by omega)
       have xj1:((j:Int)-1)=((j-1:Nat):Int):=by omega
       have xj2:((j-1:Nat):Int)<(L:Int):=by omega
       have hb0':=hkb0.ft HFT.out
       have hx01:=HKB.out.1 x0 (by omega) hx0
       obtain ⟨x1,hx1⟩:∃ x,l[j]?=some x:=⟨_,gE (by omega)⟩
       obtain ⟨ka1,kc1,hka1,hkb1⟩:=(HG2.out j x1 hx1).1
       have y1:wr.cell? ⟨gi,j*2,none⟩=some (.slice ka1 x1.1.length kc1):=by rw [aAc HGR.out,List.getElem?_toArray,←hka1];exact aBa kf vf j L (by omega)
       have hb1':=hkb1.ft HFT.out
       have hx11:=HKB.out.2 x1 hx1
       have HCW:=hide (HIH.out wr kb csj root dp kj psj x0.1 x1.1 ka0 x0.1.length kc0 ka1 x1.1.length kc1 HSTr.out HBr.out HBF.out HFBj.out HSVj.out (HKD.out kb hkm) (HS3.out kb hkm).1 HKS.out (Or.inr (HS3.out kb hkm).2) HKJ0.out HKJ1.out (hb0') (hb1') rfl rfl (fun x hx=>⟨hx01 x hx,Or.inr (hx11 x hx)⟩))
       generalize x0.1.length=n0 at *
       generalize x1.1.length=n1 at *
       clear hkb0 hb0' hka0 hx0 hx01
       clear hkb1 hb1' hka1 hx1 hx11
       go_wp2_with fail
       refine HCW.out.mono ?_
       rintro e w5 ⟨rfl,csn,p1,p2,p3⟩
       have HFBn:=hide p1
       have HSVn:=hide p2
       have HEXn:=hide (HEXj.out.wk p3)
       clear p1 p2 p3 HCW
       go_wp2_with fail
       refine (aAw _).mono ?_
       rintro e w6 ⟨rfl,rfl⟩
       go_wp2_with fail
       go_roundw
       case rel=>exact HNX.out _ _ HFBn.out HSVn.out HEXn.out
       case measure=>simp [intOf];omega
      ·have xjl:¬ (j:Int)<(L:Int):=by omega
       obtain ⟨x0,hx0⟩:∃ x,l[j-1]?=some x:=⟨_,gE (by omega)⟩
       obtain ⟨ka0,kc0,hka0,hkb0⟩:=(HG2.out (j-1) x0 hx0).1
       have y0:wr.cell? ⟨gi,(j-1)*2,none⟩=some (.slice ka0 x0.1.length kc0):=by rw [aAc HGR.out,List.getElem?_toArray,←hka0];exact aBa kf vf (j-1) L (by omega)
       have xj1:((j:Int)-1)=((j-1:Nat):Int):=by omega
       have xj2:((j-1:Nat):Int)<(L:Int):=by omega
       have hb0':=hkb0.ft HFT.out
       have hx01:=HKB.out.1 x0 (by omega) hx0
       have HCW:=hide (HIH.out wr kb csj root dp kj psj x0.1 hi ka0 x0.1.length kc0 ha hn hc HSTr.out HBr.out HBF.out HFBj.out HSVj.out (HKD.out kb hkm) (HS3.out kb hkm).1 HKS.out (Or.inr (HS3.out kb hkm).2) HKJ0.out HKJ1.out (hb0') ((HHI.out.ft HF1.out).ft HFT.out) rfl hhn (fun x hx=>⟨hx01 x hx,(HCB.out x hx).2⟩))
       generalize x0.1.length=n0 at *
       clear hkb0 hb0' hka0 hx0 hx01
       go_wp2_with fail
       refine HCW.out.mono ?_
       rintro e w5 ⟨rfl,csn,p1,p2,p3⟩
       have HFBn:=hide p1
       have HSVn:=hide p2
       have HEXn:=hide (HEXj.out.wk p3)
       clear p1 p2 p3 HCW
       go_wp2_with fail
       refine (aAw _).mono ?_
       rintro e w6 ⟨rfl,rfl⟩
       go_wp2_with fail
       go_roundw
       case rel=>exact HNX.out _ _ HFBn.out HSVn.out HEXn.out
       case measure=>simp [intOf];omega
    ·have xj:¬ (j:Int)<((L+1:Nat):Int):=by omega
     obtain rfl:j=L+1:=by omega
     have htt:b.2.2.take (L+1)=b.2.2:=List.take_of_length_le (by omega)
     rw [htt] at HSVj
     have hjz:¬ L+1=0:=by omega
     simp only [if_neg hjz]
     go_wp2
     go_ret
     refine ⟨rfl,csj,HFBj.out,?_,HEWj.out⟩
     rw [HSUM.out,List.foldl_cons]
     have:k+((L+(b.2.2.map fun d=>(flB h d).length).sum:Nat):Int)=k+(L:Int)+((b.2.2.map fun d=>(flB h d).length).sum:Nat):=by omega
     rw [this]
     exact HSVj.out
theorem walk_ok [Gd] {B p q fb:Nat} {s:DS} {t:PS} (hlf:s.life=t.life) (hdn:s.down=false) (hsn:s.n≤4096):∀ h,h<100000→WkC B p q fb s t h
 | 0,_=>walk_leaf hlf hdn hsn
 | h+1,hh=>walk_branch hlf hdn hsn (by omega) (walk_ok hlf hdn hsn h (by omega))
end Go.Proofs.YtgckjkocmkedfabGreat
set_option linter.unusedVariables false
namespace Go.Proofs.YtgckjkocmkedfabGreat
def mk8 (c:Nat):Nat→Nat
 | 0=>0
 | n+1=>c+256*mk8 c n
def st2 (n x:Nat):Nat:=(x / 4 &&& mk8 51 n)+(x &&& mk8 51 n)
def y1 (b:Nat):Nat:=(b / 2 &&& 85)+(b &&& 85)
def y2 (b:Nat):Nat:=(b / 4 &&& 51)+(b &&& 51)
end Go.Proofs.YtgckjkocmkedfabGreat
