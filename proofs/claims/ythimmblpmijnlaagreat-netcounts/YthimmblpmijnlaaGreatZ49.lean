import Derived.Test.YthimmblpmijnlaaGreatZ48
set_option maxRecDepth 100000
set_option maxHeartbeats 16000000
set_option linter.unusedVariables false
namespace Go.Proofs.YthimmblpmijnlaaGreat
open Go.RowKit
theorem set5o {w:World} {g o:Nat} {cs:Array Value} {b0 b1 b2 b3 b4:Value} {t:TypeId} (h:w.heap[g]?=some (.cells cs t (0,0))):(((((w.setCell ⟨g,o,none⟩ b0).setCell ⟨g,o+1,none⟩ b1).setCell ⟨g,o+2,none⟩ b2).setCell ⟨g,o+3,none⟩ b3).setCell ⟨g,o+4,none⟩ b4).heap[g]?=some (.cells (((((cs.setIfInBounds o b0).setIfInBounds (o+1) b1).setIfInBounds (o+2) b2).setIfInBounds (o+3) b3).setIfInBounds (o+4) b4) t (0,0)):=(heap_setCell_same _ _ _ _ _ _ (heap_setCell_same _ _ _ _ _ _ (heap_setCell_same _ _ _ _ _ _ (heap_setCell_same _ _ _ _ _ _ (heap_setCell_same _ _ _ _ _ _ h)))))
theorem bel5o {w0 w:World} {B g o:Nat} {b0 b1 b2 b3 b4:Value} (hb:Below B w0 w) (hg:B≤g):Below B w0 (((((w.setCell ⟨g,o,none⟩ b0).setCell ⟨g,o+1,none⟩ b1).setCell ⟨g,o+2,none⟩ b2).setCell ⟨g,o+3,none⟩ b3).setCell ⟨g,o+4,none⟩ b4):=((((hb.setCell (p:=⟨g,o,none⟩) hg _).setCell (p:=⟨g,o+1,none⟩) hg _).setCell (p:=⟨g,o+2,none⟩) hg _).setCell (p:=⟨g,o+3,none⟩) hg _).setCell (p:=⟨g,o+4,none⟩) hg _
theorem oth5o {w:World} {g k o:Nat} {b0 b1 b2 b3 b4:Value} (hne:k≠g):(((((w.setCell ⟨g,o,none⟩ b0).setCell ⟨g,o+1,none⟩ b1).setCell ⟨g,o+2,none⟩ b2).setCell ⟨g,o+3,none⟩ b3).setCell ⟨g,o+4,none⟩ b4).heap[k]?=w.heap[k]?:=by
 rw [heap_setCell_other _ _ _ _ hne,heap_setCell_other _ _ _ _ hne,heap_setCell_other _ _ _ _ hne,heap_setCell_other _ _ _ _ hne,heap_setCell_other _ _ _ _ hne]
theorem at5o {cs:Array Value} {o k:Nat} {b0 b1 b2 b3 b4:Value} (hk:k<o∨o+5≤k):(((((cs.setIfInBounds o b0).setIfInBounds (o+1) b1).setIfInBounds (o+2) b2).setIfInBounds (o+3) b3).setIfInBounds (o+4) b4)[k]?=cs[k]?:=by
 rw [Array.getElem?_setIfInBounds_ne (by omega),Array.getElem?_setIfInBounds_ne (by omega),Array.getElem?_setIfInBounds_ne (by omega),Array.getElem?_setIfInBounds_ne (by omega),Array.getElem?_setIfInBounds_ne (by omega)]
theorem at5o3 {cs:Array Value} {o:Nat} {b0 b1 b2 b3 b4:Value} (hk:o+5≤cs.size):(((((cs.setIfInBounds o b0).setIfInBounds (o+1) b1).setIfInBounds (o+2) b2).setIfInBounds (o+3) b3).setIfInBounds (o+4) b4)[o+3]?=some b3:=by
 rw [Array.getElem?_setIfInBounds_ne (by omega),Array.getElem?_setIfInBounds_self_of_lt (by simp only [Array.size_setIfInBounds];omega)]
theorem made_all {w:World} {B g n sz:Nat} {e:TypeId} {xs:List Value} (h:w.ownsRow B e sz (.slice (some ⟨g,0,none⟩) n n) n xs):∃ cs,w.heap[g]?=some (.cells cs e (0,0))∧cs.size=n*sz∧B≤g:=by
 rcases h.2 with ⟨e,_⟩ | ⟨g',cap,cur,e,h1,h2,h3,h4,h5,h6⟩
 ·cases e
 ·simp only [Value.slice.injEq,oI,Addr.mk.injEq,and_true,true_and] at e
  obtain ⟨rfl,rfl⟩:=e
  exact ⟨cur,h2,h5,h1⟩
theorem nlate_ok {B nt gh M:Nat} {wv lv:Value} {l:List LR} {w:World} (h:NTM w nt gh M wv lv) (hBw:B≤w.heap.size) (hl:LTV B w lv l) (hl6:l.length≤64) (hvl:∀ x∈l,x.val.length≤100000) :
  Calls Tryz.prog 8 #[.pointer (some ⟨nt,0,none⟩)] w fun e w'=>∃ g cs,e=.returned (.slice (some ⟨g,0,none⟩) l.length l.length)∧w'.heap[g]?=some (.cells cs 40 (0,0))∧cs.size=l.length*5∧(∀ j x,l[j]?=some x→cs[j*5+3]?=some (.int .i64 x.at_))∧Below w.heap.size w w':=by
 obtain ⟨i0,hi,hz0,hz1,hz2⟩:=info_parts aDj
 have lt:∀ {k:Nat} {o:Obj} {ww:World},ww.heap[k]?=some o→k<ww.heap.size:=fun e=>(lO e)
 obtain ⟨vs,q1,q2,q3⟩:=hl
 obtain ⟨la,lc,rfl⟩:=aAg q2
 have HEL:Hid (∀ j x,l[j]?=some x→∃ gl cl a c,la=some ⟨gl,0,none⟩∧w.heap[gl]?=some (.cells cl 40 (0,0))∧(∀ q u,q<5→(lrC x (.slice a x.val.length c))[q]?=some u→cl[j*5+q]?=some u)∧BK B w a x.val.length c x.val∧l.length≤lc∧lc≤9223372036854775807):=fun j x hx=>by
  have hjl:j<l.length:=(lL hx)
  obtain ⟨v,hv⟩:∃ v,vs[j]?=some v:=⟨_,gE (by omega)⟩
  obtain ⟨a,c,rfl,hbk⟩:=q3 j x v hx hv
  rcases q2.2 with ⟨_,e0⟩ | ⟨g,C,cur,e9,hgB,hg,hnc,hcm,hcs,ht⟩
  ·omega
  ·simp only [Value.slice.injEq] at e9
   obtain ⟨rfl,_,rfl⟩:=e9
   refine ⟨g,cur,a,c,rfl,hg,fun q u hq hu=>?_,hbk,hnc,by unfold maxLen at hcm;omega⟩
   have h9:=lrF_get q1 hx hv q hq
   rw [hu,←ht,List.getElem?_take_of_lt (by omega)] at h9
   simpa using h9
 have HVL:=hide hvl
 have HBW:=hide hBw
 have HT:=hide h
 have c2:w.cell? ⟨nt,2,none⟩=some (.slice la l.length lc):=aAa h
 generalize hL:l.length=L at *
 clear h hBw q1 q2 q3 hvl
 go_enter Tryz.func8,Tryz.ntmps8
 go_wp2_with (refine wpList_make_full w rfl _ _ 35 rfl w.heap.size 40 i0 (.agg #[.int .i64 0,.int .i64 0,.int .i64 0,.int .i64 0,.slice none 0 0]) 5 Tryz.underlying35 hi hz0 hz1 .i64 .i64 L L L rfl rfl rfl rfl (by rw [hz2];omega) (by unfold maxLen;omega) (nR _) ?_;intro w1 ho1 hg1;have HO1:=hide (made_all ho1);have HG1:=hide ((Below.refl w.heap.size w).grown hg1 (nR _) (fun k hk=>by cases hk));clear ho1 hg1;have c3:w1.cell? ⟨nt,2,none⟩=some (.slice la L lc):=aAa ((HG1.out.block nt (lt HT.out)).trans HT.out);clear c2)
 generalize hn0:w.heap.size=g at *
 go_loopw [17] (fun i wx=>∃ j:Nat,j≤L∧i=.int .i64 j∧∃ cs,wx.heap[g]?=some (.cells cs 40 (0,0))∧cs.size=L*5∧(∀ q x,q<j→l[q]?=some x→cs[q*5+3]?=some (.int .i64 x.at_))∧Below g w wx) (fun i _=>L-(intOf i).toNat)
 case atStart =>
  obtain ⟨cs,k1,k2,_⟩:=HO1.out
  exact ⟨0,by omega,rfl,cs,k1,k2,fun q x hq=>absurd hq (by omega),HG1.out⟩
 case round =>
  obtain ⟨j,hj,rfl,cs,k1,k2,k3,k4⟩:=hrel
  have HK1:=hide k1
  have HK2:=hide k2
  have HK3:=hide k3
  have HK4:=hide k4
  clear k1 k2 k3 k4 HO1 HG1
  by_cases hjn:j<L
  ·have i1:(j:Int)<(L:Int):=by omega
   have i2:(0:Int)≤(j:Int):=by omega
   obtain ⟨x,hx⟩:∃ x,l[j]?=some x:=⟨_,gE (by omega)⟩
   obtain ⟨gl,cl,a,c,rfl,p1,p2,p3,p4,p5⟩:=HEL.out j x hx
   have HX:=hide hx
   have p1:=(HK4.out.block gl (by have:=lt p1;omega)).trans p1
   have e00:wr.cell? ⟨gl,j*5,none⟩=some (.int .i64 (x.nd:Int)):=(aAa p1).trans (p2 0 _ (by decide) rfl)
   have e1:wr.cell? ⟨gl,j*5+1,none⟩=some (.int .i64 x.k):=(aAa p1).trans (p2 1 _ (by decide) rfl)
   have e2:wr.cell? ⟨gl,j*5+2,none⟩=some (.int .i64 x.lg):=(aAa p1).trans (p2 2 _ (by decide) rfl)
   have e3:wr.cell? ⟨gl,j*5+3,none⟩=some (.int .i64 x.at_):=(aAa p1).trans (p2 3 _ (by decide) rfl)
   have e4:wr.cell? ⟨gl,j*5+4,none⟩=some (.slice a x.val.length c):=(aAa p1).trans (p2 4 _ (by decide) rfl)
   have HBX:=hide (aAc wr (.cells #[.int .i64 (x.nd:Int),.int .i64 x.k,.int .i64 x.lg,.int .i64 x.at_,.slice a x.val.length c] 40))
   have HX2:Hid ((wr.alloc (.cells #[.int .i64 (x.nd:Int),.int .i64 x.k,.int .i64 x.lg,.int .i64 x.at_,.slice a x.val.length c] 40)).heap[wr.heap.size]?=some (.cells #[.int .i64 (x.nd:Int),.int .i64 x.k,.int .i64 x.lg,.int .i64 x.at_,.slice a x.val.length c] 40 (0,0))):=heap_alloc_new wr _
   have hgr:g<wr.heap.size:=lt HK1.out
   have HBR:Hid (B≤wr.heap.size):=by show B≤_;have:=HBW.out;omega
   have HD2:=hide ((HBX.out.block g hgr).trans HK1.out)
   have HB2:Hid (Below g w (wr.alloc (.cells #[.int .i64 (x.nd:Int),.int .i64 x.k,.int .i64 x.lg,.int .i64 x.at_,.slice a x.val.length c] 40))):=HK4.out.trans (HBX.out.mono (by omega))
   have HV2:=hide ((p3.later (by rw [hn0];exact HK4.out) (by rw [hn0];exact HBW.out)).later HBX.out HBR.out)
   have HXL:Hid (x.val.length≤100000):=HVL.out x (mG hx)
   have HNG:Hid (g<wr.heap.size):=hgr
   clear p1 p2 p3 hx hgr
   go_upto_region 5 with fail
   clear e00 e1 e2 e3 e4
   generalize wr.alloc (.cells #[.int .i64 (x.nd:Int),.int .i64 x.k,.int .i64 x.lg,.int .i64 x.at_,.slice a x.val.length c] 40)=w2 at *
   generalize wr.heap.size=n1 at *
   have hbd:Below w2.heap.size w2 w2.drew:=(Below.refl _ _).drew
   have HBS:Hid (B≤w2.heap.size):=by show B≤_;have:=lt HD2.out;have:=HBW.out;omega
   have HOW:=hide (own_req (B:=B) (k:=x.k) (lg:=x.lg) (at_:=x.at_) (w:=w2.drew) (HV2.out.later hbd HBS.out).1 HXL.out HBS.out)
   have HX1:Hid ((fun wx=>wx.cell? ⟨n1,0,none⟩=some (.int .i64 (x.nd:Int))∧wx.cell? ⟨n1,1,none⟩=some (.int .i64 x.k)∧wx.cell? ⟨n1,2,none⟩=some (.int .i64 x.lg)∧wx.cell? ⟨n1,3,none⟩=some (.int .i64 x.at_)∧wx.cell? ⟨n1,4,none⟩=some (.slice a x.val.length c)) w2.drew):=⟨aAa (show w2.drew.heap[n1]?=_ from HX2.out),aAa (show w2.drew.heap[n1]?=_ from HX2.out),aAa (show w2.drew.heap[n1]?=_ from HX2.out),aAa (show w2.drew.heap[n1]?=_ from HX2.out),aAa (show w2.drew.heap[n1]?=_ from HX2.out)⟩
   have HB3:Hid (Below g w w2.drew):=HB2.out.trans (hbd.mono (by have:=lt HD2.out;omega))
   clear hbd HBX
   refine wp_region_noPanic ?_
   refine wp_region_held_drew (S:=fun wx=>wx.cell? ⟨n1,0,none⟩=some (.int .i64 (x.nd:Int))∧wx.cell? ⟨n1,1,none⟩=some (.int .i64 x.k)∧wx.cell? ⟨n1,2,none⟩=some (.int .i64 x.lg)∧wx.cell? ⟨n1,3,none⟩=some (.int .i64 x.at_)∧wx.cell? ⟨n1,4,none⟩=some (.slice a x.val.length c)) (by kernel_rfl) HX1.out (fun hHeld=>?_)
   refine wpAnyH_tk 0 22 ?_
   refine wpAnyH_tk 1 23 ?_
   refine wpAnyH_tk 2 24 ?_
   refine wpAnyH_tk 3 25 ?_
   refine wpAnyH_tk 4 26 ?_
   refine wpAnyH_tk 5 27 ?_
   refine wpAnyH_cm 6 ?_;intro K hK
   go_simp
   refine HOW.out.mono ?_
   rintro e w3 ⟨a9,d9,rfl,hk9,hb9⟩
   have HX4:Hid (w3.heap[n1]?=_):=(hb9.block n1 (lt HX2.out)).trans HX2.out
   have HD4:Hid (w3.heap[g]?=_):=(hb9.block g (lt HD2.out)).trans HD2.out
   have HB4:Hid (Below g w w3):=HB3.out.trans (hb9.mono (by have h9:g<w2.drew.heap.size:=lt HD2.out;omega))
   have HX5:Hid ((fun wx=>wx.cell? ⟨n1,0,none⟩=some (.int .i64 (x.nd:Int))∧wx.cell? ⟨n1,1,none⟩=some (.int .i64 x.k)∧wx.cell? ⟨n1,2,none⟩=some (.int .i64 x.lg)∧wx.cell? ⟨n1,3,none⟩=some (.int .i64 x.at_)∧wx.cell? ⟨n1,4,none⟩=some (.slice a x.val.length c)) w3):=⟨aAa HX4.out,aAa HX4.out,aAa HX4.out,aAa HX4.out,aAa HX4.out⟩
   clear hk9 hb9 hHeld HOW
   refine hK.out _ _ HX5.out (fun hHeld=>?_)
   clear hK K
   try simp only [Act.put,siT,scZ,scS]
   refine wpAnyH_tk 7 29 ?_
   refine wpAnyH_tk 8 30 ?_
   have hcs9:j*5+5≤cs.size:=by rw [HK2.out];omega
   have zc0:w3.cell? ⟨g,j*5,none⟩=some (cs[j*5]'(by omega)):=(aAa HD4.out).trans (Array.getElem?_eq_getElem _)
   have zf0:w3.frozen? ⟨g,j*5,none⟩=false:=aAb HD4.out
   have zc1:w3.cell? ⟨g,j*5+1,none⟩=some (cs[j*5+1]'(by omega)):=(aAa HD4.out).trans (Array.getElem?_eq_getElem _)
   have zf1:w3.frozen? ⟨g,j*5+1,none⟩=false:=aAb HD4.out
   have zc2:w3.cell? ⟨g,j*5+2,none⟩=some (cs[j*5+2]'(by omega)):=(aAa HD4.out).trans (Array.getElem?_eq_getElem _)
   have zf2:w3.frozen? ⟨g,j*5+2,none⟩=false:=aAb HD4.out
   have zc3:w3.cell? ⟨g,j*5+3,none⟩=some (cs[j*5+3]'(by omega)):=(aAa HD4.out).trans (Array.getElem?_eq_getElem _)
   have zf3:w3.frozen? ⟨g,j*5+3,none⟩=false:=aAb HD4.out
   have zc4:w3.cell? ⟨g,j*5+4,none⟩=some (cs[j*5+4]'(by omega)):=(aAa HD4.out).trans (Array.getElem?_eq_getElem _)
   have zf4:w3.frozen? ⟨g,j*5+4,none⟩=false:=aAb HD4.out
   generalize cs[j*5]'(by omega)=y0 at zc0
   generalize cs[j*5+1]'(by omega)=y1 at zc1
   generalize cs[j*5+2]'(by omega)=y2 at zc2
   generalize cs[j*5+3]'(by omega)=y3 at zc3
   generalize cs[j*5+4]'(by omega)=y4 at zc4
   refine wpAnyH_cm 9 ?_;intro K hK
   go_simp
   have HD6:=hide (set5o (o:=j*5) (b0:=.int .i64 (x.nd:Int)) (b1:=.int .i64 x.k) (b2:=.int .i64 x.lg) (b3:=.int .i64 x.at_) (b4:=.slice a9 x.val.length d9) HD4.out)
   have HB6:=hide (bel5o (o:=j*5) (b0:=.int .i64 (x.nd:Int)) (b1:=.int .i64 x.k) (b2:=.int .i64 x.lg) (b3:=.int .i64 x.at_) (b4:=.slice a9 x.val.length d9) HB4.out (nR g))
   have HX6:Hid ((fun wx=>wx.cell? ⟨n1,0,none⟩=some (.int .i64 (x.nd:Int))∧wx.cell? ⟨n1,1,none⟩=some (.int .i64 x.k)∧wx.cell? ⟨n1,2,none⟩=some (.int .i64 x.lg)∧wx.cell? ⟨n1,3,none⟩=some (.int .i64 x.at_)∧wx.cell? ⟨n1,4,none⟩=some (.slice a x.val.length c)) (((((w3.setCell ⟨g,j*5,none⟩ (.int .i64 (x.nd:Int))).setCell ⟨g,j*5+1,none⟩ (.int .i64 x.k)).setCell ⟨g,j*5+2,none⟩ (.int .i64 x.lg)).setCell ⟨g,j*5+3,none⟩ (.int .i64 x.at_)).setCell ⟨g,j*5+4,none⟩ (.slice a9 x.val.length d9))):=⟨aAa ((oth5o (by have:=HNG.out;omega)).trans HX4.out),aAa ((oth5o (by have:=HNG.out;omega)).trans HX4.out),aAa ((oth5o (by have:=HNG.out;omega)).trans HX4.out),aAa ((oth5o (by have:=HNG.out;omega)).trans HX4.out),aAa ((oth5o (by have:=HNG.out;omega)).trans HX4.out)⟩
   clear hHeld zc0 zf0 zc1 zf1 zc2 zf2 zc3 zf3 zc4 zf4
   generalize (((((w3.setCell ⟨g,j*5,none⟩ (.int .i64 (x.nd:Int))).setCell ⟨g,j*5+1,none⟩ (.int .i64 x.k)).setCell ⟨g,j*5+2,none⟩ (.int .i64 x.lg)).setCell ⟨g,j*5+3,none⟩ (.int .i64 x.at_)).setCell ⟨g,j*5+4,none⟩ (.slice a9 x.val.length d9))=w5 at *
   refine hK.out _ _ HX6.out (fun hHeld=>?_)
   clear hK K
   try simp only [Act.put,siT,scZ,scS]
   refine wpAnyH_done (by kernel_rfl) ?_ _
   refine NoPanic.normal ?_
   clear hHeld
   have i3:(j:Int)<1000:=by omega
   go_wp2_with fail
   go_roundw
   case rel =>
    refine ⟨j+1,by omega,by go_num,_,HD6.out,by simp only [Array.size_setIfInBounds];exact HK2.out,fun q y hq hy=>?_,HB6.out⟩
    by_cases e:q=j
    ·subst e
     rw [HX.out] at hy
     cases hy
     exact at5o3 hcs9
    ·rw [at5o (by omega)]
     exact HK3.out q y (by omega) hy
   case measure=>simp [intOf];omega
  ·have i1:¬ (j:Int)<(L:Int):=by omega
   have hjL:j=L:=by omega
   subst hjL
   go_wp2
   go_ret
   exact ⟨g,rfl,cs,HK1.out,HK2.out,fun q x hx=>HK3.out q x (by have:=(lL hx);omega) hx,HK4.out⟩
theorem aF8 {w:World} {nt gh M ga B:Nat} {zs:List Int} {lv:Value} {a:Option Addr} (h:NTM w nt gh M (.slice a 0 0) lv) (hB:B≤nt) (hBw:B≤w.heap.size) (hz:w.heap[ga]?=some (.cells (zs.map (Value.int .i64)).toArray 3 (0,0))) (h1:1≤zs.length) (h2:zs.length≤1000) :
  Calls Tryz.prog 5 #[.pointer (some ⟨nt,0,none⟩),.slice (some ⟨ga,0,none⟩) zs.length zs.length] w fun e w'=>e=.returned (.tuple #[])∧∃ (g c:Nat) (cs:Array Value),w.heap.size≤g∧NTM w' nt gh M (.slice (some ⟨g,0,none⟩) zs.length c) lv∧w'.heap[g]?=some (.cells cs 3 (0,0))∧(∀ (j:Nat) (z:Int),zs[j]?=some z→cs[j]?=some (Value.int .i64 z))∧zs.length≤c∧c≤cs.size∧c≤9223372036854775807∧Below B w w'∧∀ k,k<w.heap.size→k≠nt→w'.heap[k]?=w.heap[k]?:=by
 obtain ⟨i0,hi,hz0,hz1,hz2⟩:=info_parts aGp
 have lt:∀ {k:Nat} {o:Obj} {ww:World},ww.heap[k]?=some o→k<ww.heap.size:=fun e=>(lO e)
 have c1:w.cell? ⟨nt,1,none⟩=some (.slice a 0 0):=aAa h
 have HCL:Hid (∀ j u,(zs.map (Value.int .i64))[j]?=some u→w.cell? ((⟨ga,0,none⟩:Addr).add j)=some u):=fun j u hj=>by
  rw [add_plain]
  exact (aAa hz).trans (by simpa using hj)
 have HH:=hide h
 have HB:=hide hB
 have HBW:=hide hBw
 have HZL:Hid ((zs.map (Value.int .i64)).length=zs.length):=List.length_map _
 have HON:Hid (∀ u∈zs.map (Value.int .i64),u.oneCell'=true):=fun u hu=>by
  obtain ⟨z,_,rfl⟩:=List.mem_map.1 hu
  rfl
 have HGM:Hid (∀ (j:Nat) (z:Int),zs[j]?=some z→(zs.map (Value.int .i64))[j]?=some (.int .i64 z)):=fun j z hj=>by
  rw [List.getElem?_map,hj]
  rfl
 generalize hN:zs.map (Value.int .i64)=news at *
 generalize hk:zs.length=k at *
 clear h hB hBw hz hN
 go_enter Tryz.func5,Tryz.ntmps5
 go_wp2_with (at_builtin;refine wpList_append_grows _ rfl (.tmp 8) (.tmp 9) 22 rfl 3 i0 (.int .i64 0) 1 8 Tryz.underlying22 hi hz0 hz1 hz2 rfl (by omega) a 0 0 [] rfl (fun _=>⟨rfl,rfl⟩) rfl (fun _ _ j u h=>by simp at h) ⟨ga,0,none⟩ k k news rfl (by rw [HZL.out];omega) HCL.out HON.out (by omega) (by unfold maxLen;omega) (by omega) ?_;intro v2 w2 ho2 hg2;have HO:=hide ho2;have HG:=hide hg2;clear ho2 hg2;obtain ⟨a2,c2,hv2⟩:=aAg HO.out;subst hv2;have c3:w2.cell? ⟨nt,1,none⟩=some (.slice a 0 0):=(World.cell?_of_block (HG.out.block nt (lt HH.out) (by simp))).trans c1;have f3:w2.frozen? ⟨nt,1,none⟩=false:=aAb ((HG.out.block nt (lt HH.out) (by simp)).trans HH.out);clear c1)
 (try simp only [Exit.inBlock,Exit.then])
 refine bodyPost_end (results_none rfl _ _ _) rfl ⟨rfl,?_⟩
 have hN2:w2.heap[nt]?=_:=(HG.out.block nt (lt HH.out) (by simp)).trans HH.out
 rcases HO.out.2 with ⟨e,h9⟩ | ⟨g,cap,cur,e,hgB,hg,hnc,hcm,hcs,ht⟩
 ·omega
 ·simp only [Value.slice.injEq] at e
  obtain ⟨rfl,_,rfl⟩:=e
  have hne:g≠nt:=by have:=lt HH.out;omega
  have hm:c2≤9223372036854775807:=by unfold maxLen at hcm;omega
  have ek:0+k=k:=by omega
  refine ⟨g,c2,cur,hgB,heap_setCell_same _ _ _ _ _ _ hN2,(heap_setCell_other _ _ _ _ hne).trans hg,fun j z hj=>?_,by omega,by omega,hm,?_,fun i hi hin=>(heap_setCell_other _ _ _ _ hin).trans (HG.out.block i hi (by simp))⟩
  ·have h9:=HGM.out j z hj
   have hjk:j<k:=by rw [←hk];exact (lL hj)
   have ht':cur.toList.take ((0+k)*1)=news:=by simpa using ht
   rw [←ht',List.getElem?_take_of_lt (by omega)] at h9
   simpa using h9
  ·exact Below.setCell (p:=⟨nt,1,none⟩) ⟨HG.out.os,HG.out.tape,HG.out.output,HG.out.size,fun i hi=>HG.out.block i (by have:=HBW.out;omega) (by simp)⟩ HB.out _
section
variable {B N M nt gh:Nat} {P:Nat→NdP} {A:Nat→NdS} {E:Nat→Prop} {wv:Value} {F:List Int} {l:List LR} {W w w':World}
theorem MND.gain (h:MND B N M P A E W w) (T:Nat→Prop) (hT:∀ k,T k→∃ cs t fz,w.heap[k]?=some (Obj.cells cs t fz)∧¬ DTy t∧t≠5∧t≠155∧t≠104∧t≠89∧t≠109) (hs:∀ k,k<w.heap.size→¬ T k→w'.heap[k]?=w.heap[k]?) (hb:Below B w w') {g:Nat} (hg:w.heap.size≤g) (hf:FBk w' g):MND B N M P A (fun k=>k=g) W w':=by
 obtain ⟨F,⟨k1,hE⟩,k2⟩:=h
 have h1:MND B N M P A E W w':=MND.oth ⟨F,⟨k1,hE⟩,k2⟩ T hT hs hb
 have nt:∀ {k:Nat},FBk w k→¬ T k:=fun hf hk=>by
  obtain ⟨cs,t,fz,e,h0,_⟩:=hT _ hk
  exact hf.ne e h0 rfl
 have st:∀ {k:Nat} {cs:Array Value} {t:TypeId} {fz:Nat×Nat},w.heap[k]?=some (Obj.cells cs t fz)→(t=5∨t=155∨t=104∨t=89∨t=109)→w'.heap[k]?=w.heap[k]?:=fun e ht=>by
  refine hs _ (lO e) (fun hk=>?_)
  obtain ⟨cs,t,fz,e',_,h1,h2,h3,h4,h5⟩:=hT _ hk
  rw [e] at e'
  simp only [oI,cI] at e'
  rcases ht with q | q | q | q | q
  ·exact h1 (e'.2.1.symm.trans q)
  ·exact h2 (e'.2.1.symm.trans q)
  ·exact h3 (e'.2.1.symm.trans q)
  ·exact h4 (e'.2.1.symm.trans q)
  ·exact h5 (e'.2.1.symm.trans q)
 refine ⟨F,⟨fun i hi=>?_,fun k hk=>?_⟩,k2⟩
 ·obtain ⟨⟨d1,⟨c1,d2⟩,⟨c2,d3⟩,⟨c3,d4⟩⟩,⟨_,c5,d5,_⟩,_⟩:=k1 i hi
  exact (k1 i hi).keep (fun k hk=>hs k (d1 k hk).lt (nt (d1 k hk))) (fun k cs fz e=>(st e (Or.inl rfl)).trans e) (st d2 (by simp)) (st d3 (by simp)) (st d4 (by simp)) hb (st d5 (by simp))
 ·subst hk
  exact ⟨hf,fun i hi hk=>by have:=((k1 i hi).1.1 k hk).lt;omega⟩
theorem ntT {lv:Value} (h1:NTM w nt gh M wv lv):∀ k,k=nt→∃ cs t fz,w.heap[k]?=some (Obj.cells cs t fz)∧¬ DTy t∧t≠5∧t≠155∧t≠104∧t≠89∧t≠109:=fun k hk=>by
 subst hk
 exact ⟨_,_,_,h1,by unfold DTy;decide,by decide,by decide,by decide,by decide,by decide⟩
theorem NSw.grown {a:Option Addr} (h:NSw B N M nt gh P A (.slice a 0 0) [] l W w) {ga:Nat} {zs:List Int} (hz:w.heap[ga]?=some (.cells (zs.map (Value.int .i64)).toArray 3 (0,0))) (h1:1≤zs.length) (h2:zs.length≤1000) :
  Calls Tryz.prog 5 #[.pointer (some ⟨nt,0,none⟩),.slice (some ⟨ga,0,none⟩) zs.length zs.length] w fun e w'=>e=.returned (.tuple #[])∧∃ wv',NSw B N M nt gh P A wv' zs l W w'∧NsF B w w':=by
 obtain ⟨lv,k1,k2⟩:=h.n
 obtain ⟨hc,k3,k4⟩:=h.h
 refine (aF8 k1 h.b h.bw hz h1 h2).mono ?_
 rintro e w' ⟨rfl,g,c,cs,q1,q2,q3,q4,q5,q6,q7,q8,q9⟩
 have ne:∀ {k:Nat} {cs:Array Value} {t:TypeId} {fz:Nat×Nat},w.heap[k]?=some (Obj.cells cs t fz)→t≠46→k≠nt:=by
  intro k cs t fz e ht e3
  subst e3
  have h9:w.heap[k]?=_:=k1
  rw [h9] at e
  simp only [oI,cI] at e
  exact ht e.2.1.symm
 have st:∀ {k:Nat} {cs:Array Value} {t:TypeId} {fz:Nat×Nat},w.heap[k]?=some (Obj.cells cs t fz)→t≠46→w'.heap[k]?=some (Obj.cells cs t fz):=fun e ht=>(q9 _ (lO e) (ne e ht)).trans e
 have hm:=h.m.gain (fun k=>k=nt) (ntT k1) (fun k a b=>q9 k a b) q8 q1 ⟨cs,_,q3,by unfold DTy;decide⟩
 refine ⟨rfl,.slice (some ⟨g,0,none⟩) zs.length c,⟨hm.less (fun k hk=>by
  have hk:some g=some k:=hk
  cases hk
  rfl),⟨_,c,rfl,q5,q7,fun _=>⟨g,0,cs,rfl,nT h.bw q1,q3,by omega,fun j z hj=>by rw [Nat.zero_add];exact q4 j z hj⟩⟩,⟨lv,q2,k2.keep (fun k cs e=>st e (by decide)) ⟨q8,fun k cs fz e=>st e (by decide)⟩⟩,⟨hc,st k3 (by decide),k4⟩,h.b,nT h.bw q8.size⟩,q8,fun k cs t fz e _ _ _ _ n5=>st e n5.1⟩
theorem NSw.weather1 (h:NSw B N M nt gh P A wv [] l W w) {ga:Nat} {z:Int} (hz:w.heap[ga]?=some (.cells #[.int .i64 z] 3 (0,0))) :
  Calls Tryz.prog 5 #[.pointer (some ⟨nt,0,none⟩),.slice (some ⟨ga,0,none⟩) 1 1] w fun e w'=>e=.returned (.tuple #[])∧∃ wv',NSw B N M nt gh P A wv' [z] l W w'∧NsF B w w':=by
 obtain ⟨a,c,rfl,r1,r2,r3⟩:=h.f
 by_cases hc0:c=0
 ·subst hc0
  exact h.grown (zs:=[z]) hz (nR _) (by show 1≤1000;decide)
 obtain ⟨g,o,cs,rfl,hgB,r4,r5,r6⟩:=r3 hc0
 obtain ⟨lv,k1,k2⟩:=h.n
 obtain ⟨hc,k3,k4⟩:=h.h
 have hgn:nt≠g:=fun e=>by
  subst e
  have h9:w.heap[nt]?=_:=k1
  rw [r4] at h9
  simp only [oI,cI] at h9
  exact absurd h9.2.1 (by decide)
 clear r1 r3 r6
 have hc1:1≤c:=by omega
 have ho:o<cs.size:=by omega
 have k1:NTM w nt gh M (.slice (some ⟨g,o,none⟩) 0 c) lv:=k1
 refine (weather_room (x:=cs[o]) k1 hgn hc1 ((aAa r4).trans (Array.getElem?_eq_getElem ho)) (aAb r4) (aAa hz)).mono ?_
 rintro e w' ⟨rfl,rfl⟩
 have hm1:=h.m.wrE (g:=g) (o:=o) (u:=.int .i64 z) rfl hgB
 have k1':NTM (w.setCell ⟨g,o,none⟩ (.int .i64 z)) nt gh M (.slice (some ⟨g,o,none⟩) 0 c) lv:=(heap_setCell_other _ _ _ _ hgn).trans k1
 have hb1:Below B w (w.setCell ⟨g,o,none⟩ (.int .i64 z)):=(Below.refl _ _).setCell (p:=⟨g,o,none⟩) hgB _
 have hb2:Below B (w.setCell ⟨g,o,none⟩ (.int .i64 z)) ((w.setCell ⟨g,o,none⟩ (.int .i64 z)).setCell ⟨nt,1,none⟩ (.slice (some ⟨g,o,none⟩) 1 c)):=(Below.refl _ _).setCell (p:=⟨nt,1,none⟩) h.b _
 have hm2:=hm1.oth (fun k=>k=nt) (ntT k1') (fun k _ hk=>heap_setCell_other _ _ _ _ hk) hb2
 have ne:∀ {k:Nat} {cs':Array Value} {t:TypeId} {fz:Nat×Nat},w.heap[k]?=some (Obj.cells cs' t fz)→t≠46→t≠3→k≠nt∧k≠g:=by
  intro k cs' t fz e ht hi
  refine ⟨fun e3=>?_,fun e3=>?_⟩
  ·subst e3
   have h9:w.heap[k]?=_:=k1
   rw [h9] at e
   simp only [oI,cI] at e
   exact ht e.2.1.symm
  ·subst e3
   rw [r4] at e
   simp only [oI,cI] at e
   exact hi e.2.1.symm
 have st:∀ {k:Nat} {cs':Array Value} {t:TypeId} {fz:Nat×Nat},w.heap[k]?=some (Obj.cells cs' t fz)→t≠46→t≠3→((w.setCell ⟨g,o,none⟩ (.int .i64 z)).setCell ⟨nt,1,none⟩ (.slice (some ⟨g,o,none⟩) 1 c)).heap[k]?=some (Obj.cells cs' t fz):=fun e ht hi=>((heap_setCell_other _ _ _ _ (ne e ht hi).1).trans (heap_setCell_other _ _ _ _ (ne e ht hi).2)).trans e
 refine ⟨rfl,.slice (some ⟨g,o,none⟩) 1 c,⟨hm2.less (fun k hk=>hk),⟨_,c,rfl,by show 1≤c;omega,r2,fun _=>⟨g,o,cs.setIfInBounds o (.int .i64 z),rfl,hgB,(heap_setCell_other _ _ _ _ (Ne.symm hgn)).trans (heap_setCell_same _ _ _ _ _ _ r4),by rw [Array.size_setIfInBounds];exact r5,fun j z' hj=>?_⟩⟩,⟨lv,heap_setCell_same _ _ _ _ _ _ k1',k2.keep (fun k cs e=>st e (by decide) (by decide)) ⟨hb1.trans hb2,fun k cs fz e=>st e (by decide) (by decide)⟩⟩,⟨hc,st k3 (by decide) (by decide),k4⟩,h.b,nT h.bw (hb1.trans hb2).size⟩,hb1.trans hb2,fun k cs' t fz e n1 _ _ _ n5=>st e n5.1 (fun q=>by rw [q] at n1;exact absurd n1 (by decide))⟩
 have hj0:j=0:=by
  have:=(lL hj)
  simp at this
  omega
 subst hj0
 simp only [List.getElem?_cons_zero,oI] at hj
 subst hj
 exact Array.getElem?_setIfInBounds_self_of_lt (by omega)
theorem NSw.look4 (h:NSw B N M nt gh P A wv F l W w) {i n cp vn:Nat} {lg at_ e0 tl tr bl:Int} {sl:Bool} {va:Option Addr} {val:List Nat} {y:NdS} (hM:i<M) (hM6:M≤64) (he:¬ e0=20) (hdo:∀ ww,FT B w ww→DoT B N (P i) W 4 lg at_ va n cp (A i) y e0 tl sl tr bl vn val ww) :
  Calls Tryz.prog 7 #[.pointer (some ⟨nt,0,none⟩),.int .i64 (i:Int),.agg #[.int .i64 4,.int .i64 lg,.int .i64 at_,.slice va n cp]] w fun e w'=>(∃ sa sc,e=.returned (.tuple #[.agg #[.int .i64 e0,.int .i64 tl,.bool sl,.int .i64 tr,.int .i64 bl,.slice sa vn sc],.bool true])∧BK B w' sa vn sc val)∧NSw B N M nt gh P (upS A i y) wv F l W w'∧NsF B w w':=by
 obtain ⟨lv,h1,h2⟩:=h.n
 obtain ⟨hc,h3,h4⟩:=h.h
 refine (nlook4_ok h.m h1 h.b h.bw hM hM6 h3 (h4 i hM) he (fun k hk=>(h.m.El k hk).lt) (fun ww hw=>hdo ww (NsF.of hw h.bw).ft)).mono ?_
 rintro e w' ⟨q1,q2,q3,q4,q5⟩
 exact ⟨q1,h.did q2 q3 q4 q5,NsF.nd q3 q4⟩
theorem NSw.look5 (h:NSw B N M nt gh P A wv F l W w) {i n cp vn:Nat} {lg at_ e0 tl tr bl:Int} {sl:Bool} {va:Option Addr} {val:List Nat} {y:NdS} (hM:i<M) (hM6:M≤64) (he:¬ e0=20) (hdo:∀ ww,FT B w ww→DoT B N (P i) W 5 lg at_ va n cp (A i) y e0 tl sl tr bl vn val ww) :
  Calls Tryz.prog 7 #[.pointer (some ⟨nt,0,none⟩),.int .i64 (i:Int),.agg #[.int .i64 5,.int .i64 lg,.int .i64 at_,.slice va n cp]] w fun e w'=>(∃ sa sc,e=.returned (.tuple #[.agg #[.int .i64 e0,.int .i64 tl,.bool sl,.int .i64 tr,.int .i64 bl,.slice sa vn sc],.bool true])∧BK B w' sa vn sc val)∧NSw B N M nt gh P (upS A i y) wv F l W w'∧NsF B w w':=by
 obtain ⟨lv,h1,h2⟩:=h.n
 obtain ⟨hc,h3,h4⟩:=h.h
 refine (nlook5_ok h.m h1 h.b h.bw hM hM6 h3 (h4 i hM) he (fun k hk=>(h.m.El k hk).lt) (fun ww hw=>hdo ww (NsF.of hw h.bw).ft)).mono ?_
 rintro e w' ⟨q1,q2,q3,q4,q5⟩
 exact ⟨q1,h.did q2 q3 q4 q5,NsF.nd q3 q4⟩
theorem NSw.late (h:NSw B N M nt gh P A wv F l W w) (hl6:l.length≤64) (hvl:∀ x∈l,x.val.length≤100000) :
  Calls Tryz.prog 8 #[.pointer (some ⟨nt,0,none⟩)] w fun e w'=>∃ g cs,e=.returned (.slice (some ⟨g,0,none⟩) l.length l.length)∧w'.heap[g]?=some (.cells cs 40 (0,0))∧cs.size=l.length*5∧(∀ j x,l[j]?=some x→cs[j*5+3]?=some (.int .i64 x.at_))∧Below w.heap.size w w':=by
 obtain ⟨lv,h1,h2⟩:=h.n
 exact nlate_ok h1 h.bw h2 hl6 hvl
theorem NSw.ahead (h:NSw B N M nt gh P A wv F l W w):Calls Tryz.prog 9 #[.pointer (some ⟨nt,0,none⟩)] w fun e w'=>e=.returned (.int .i64 (F.length:Int))∧w'=w:=by
 obtain ⟨lv,h1,h2⟩:=h.n
 obtain ⟨a,c,rfl,_⟩:=h.f
 exact ahead_any h1
theorem NSw.deliver (h:NSw B N M nt gh P A wv F l W w) {i:Nat} {x:LR} {y:NdS} {e0 tl tr bl:Int} {sl:Bool} {vn:Nat} {val:List Nat} (hl6:l.length≤64) (hx:l[i]?=some x) (hM:x.nd<M) (hM6:M≤64) (he:¬ e0=20) (hdo:∀ ww va cp,Below B w ww→BK B ww va x.val.length cp x.val→DoT B N (P x.nd) W x.k x.lg x.at_ va x.val.length cp (A x.nd) y e0 tl sl tr bl vn val ww) :
  Calls Tryz.prog 10 #[.pointer (some ⟨nt,0,none⟩),.int .i64 (i:Int)] w fun e w'=>e=.returned (.int .i64 0)∧NSw B N M nt gh P (upS A x.nd y) wv F (l.eraseIdx i) W w'∧NsF B w w':=by
 obtain ⟨lv,h1,h2⟩:=h.n
 obtain ⟨hc,h3,h4⟩:=h.h
 have hl:=h2
 obtain ⟨vs,q1,q2,q3⟩:=h2
 refine (deliver_ok h.m h1 h.b h.bw hl hl6 hx hM hM6 h3 (h4 _ hM) he (fun k hk=>⟨(h.m.El k hk).ne h1 (by unfold DTy;decide),fun e=>?_,(h.m.El k hk).lt⟩) hdo).mono ?_
 ·obtain ⟨_,cur,h9⟩:=aAl q2 e
  exact (h.m.El k hk).ne h9 (by unfold DTy;decide) rfl
 ·rintro e w' ⟨rfl,lv',r1,r2,r3,r4,r5,r6,r7⟩
  exact ⟨rfl,⟨r1,h.f.same r6,⟨lv',r2,r3⟩,⟨hc,r4,h4⟩,h.b,nT h.bw r5.size⟩,r7⟩
end
def StK (g:Nat) (w w':World):Prop:=∀ (k:Nat) (cs:Array Value) (t:TypeId) (fz:Nat×Nat),w.heap[k]?=some (Obj.cells cs t fz)→NT t→k≠g→w'.heap[k]?=some (Obj.cells cs t fz)
theorem StK.trans {g:Nat} {a b c:World} (h:StK g a b) (k:StK g b c):StK g a c:=fun i cs t fz e n1 n2=>k i cs t fz (h i cs t fz e n1 n2) n1 n2
theorem host_start {B n M:Nat} {P:Nat→NdP} {A:Nat→NdS} {E:Nat→Prop} {W w:World} {p gh i:Nat} {hc:Array Value} (h:MNE B n M P A E W p (DS.new n) w) (hB:B≤w.heap.size) (hW:Below B W w) (h3:3≤n) (h4:n≤4096) (hh:w.heap[gh]?=some (.cells hc 52 (0,0))) (hgB:B≤gh) (hc0:hc[i*2]?=some (.pointer (some ⟨p,0,none⟩))) (hc1:i*2+1<hc.size) :
  Calls Tryz.prog 13 #[.pointer (some ⟨gh,i*2,none⟩)] w fun e w'=>∃ x:NdP,e=.returned (.int .i64 0)∧MND B n (M+1) (upS P M x) (upS A M ⟨0,[],fun _=>(0,0,false)⟩) E W w'∧w'.heap[gh]?=some (.cells (hc.setIfInBounds (i*2+1) (.pointer (some ⟨x.nd,0,none⟩))) 52 (0,0))∧Below B w w'∧StK gh w w':=by
 have lt:∀ {k:Nat} {o:Obj} {ww:World},ww.heap[k]?=some o→k<ww.heap.size:=fun e=>(lO e)
 have HC1:=hide (h.call (s':=(DS.new n).restart) (fun S hd=>@restart_any ⟨S⟩ B p (DS.new n) w hd hB))
 have HB:=hide hB
 have HW:=hide hW
 have H3:=hide h3
 have H4:=hide h4
 have HH:=hide hh
 have HG:=hide hgB
 have HC0:=hide hc0
 have HCS:=hide hc1
 have c0:w.cell? ⟨gh,i*2,none⟩=some (.pointer (some ⟨p,0,none⟩)):=(aAa hh).trans hc0
 clear h hB hW h3 h4 hh hgB hc0 hc1
 go_enter Tryz.func13,Tryz.ntmps13
 go_wp2_with fail
 refine HC1.out.mono ?_
 rintro e w1 ⟨rfl,h1,hb1,hs1⟩
 have HM1:Hid (MNE B n M P A E W p (DS.new n) w1):=h1
 have HH1:Hid (w1.heap[gh]?=_):=hs1 _ _ _ _ HH.out (by decide)
 have HB1:Hid (Below B w w1):=hb1
 have HS1:Hid (StK gh w w1):=fun k cs t fz e ht _=>hs1 k cs t fz e ht
 have hB1:B≤w1.heap.size:=nT HB.out hb1.size
 have HC2:=hide (HM1.out.call (s':=(DS.new n).arm 0 0 0 0) (fun S hd=>@arm_any ⟨S⟩ B p (DS.new n) 0 0 0 0 w1 hd hB1 (by decide) (by decide)))
 have c1:w1.cell? ⟨gh,i*2,none⟩=some (.pointer (some ⟨p,0,none⟩)):=(aAa HH1.out).trans HC0.out
 clear h1 hb1 hs1 hB1 HC1 c0 HM1
 go_wp2_with fail
 refine HC2.out.mono ?_
 rintro e w2 ⟨rfl,h2,hb2,hs2⟩
 have HM2:Hid (MNE B n M P A E W p (DS.new n) w2):=h2
 have HH2:Hid (w2.heap[gh]?=_):=hs2 _ _ _ _ HH1.out (by decide)
 have HB2:Hid (Below B w w2):=HB1.out.trans hb2
 have HS2:Hid (StK gh w w2):=HS1.out.trans fun k cs t fz e ht _=>hs2 k cs t fz e ht
 have HC3:=hide (HM2.out.open (nT HB.out HB2.out.size) (HW.out.trans HB2.out) H3.out H4.out)
 have c2:w2.cell? ⟨gh,i*2,none⟩=some (.pointer (some ⟨p,0,none⟩)):=(aAa HH2.out).trans HC0.out
 clear h2 hb2 hs2 HC2 c1 HM2 HH1 HB1 HS1
 go_wp2_with fail
 refine HC3.out.mono ?_
 rintro e w3 ⟨x,rfl,_,h3,hb3,hs3⟩
 have HM3:=hide h3
 have HH3:Hid (w3.heap[gh]?=_):=hs3 _ _ _ _ HH2.out (by decide)
 have HB3:Hid (Below B w w3):=HB2.out.trans hb3
 have HS3:Hid (StK gh w w3):=HS2.out.trans fun k cs t fz e ht _=>hs3 k cs t fz e ht
 have c3:w3.cell? ⟨gh,i*2+1,none⟩=some (hc[i*2+1]'HCS.out):=(aAa HH3.out).trans (Array.getElem?_eq_getElem _)
 have f3:w3.frozen? ⟨gh,i*2+1,none⟩=false:=aAb HH3.out
 clear h3 hb3 hs3 HC3 c2 HH2 HB2 HS2
 generalize hc[i*2+1]'HCS.out=old at *
 go_wp2
 go_ret
 refine ⟨x,rfl,HM3.out.wrO HH3.out HG.out (by unfold DTy;decide) (by decide) (by decide) (by decide) (by decide),heap_setCell_same _ _ _ _ _ _ HH3.out,HB3.out.setCell (p:=⟨gh,i*2+1,none⟩) HG.out _,fun k cs t fz e n1 n2=>(heap_setCell_other _ _ _ _ n2).trans (HS3.out k cs t fz e n1 n2)⟩
def nd0:Nat→NdS:=fun _=>⟨0,[],fun _=>(0,0,false)⟩
theorem nd0_up (M:Nat):upS nd0 M ⟨0,[],fun _=>(0,0,false)⟩=nd0:=by
 funext j
 unfold upS nd0
 split<;>rfl
structure NWI (B n j M nt gh:Nat) (P:Nat→NdP) (hc:Array Value) (W w wx:World):Prop where
 m:MND B n j P nd0 (fun _=>False) W wx
 h:wx.heap[gh]?=some (.cells hc 52 (0,0))
 z:hc.size=M*2
 c:∀ q,q<j→hc[q*2+1]?=some (.pointer (some ⟨(P q).nd,0,none⟩))
 n:NTM wx nt gh M (.slice none 0 0) (.slice none 0 0)
 b:Below B w wx
 s:∀ (k:Nat) (cs:Array Value) (t:TypeId) (fz:Nat×Nat),w.heap[k]?=some (Obj.cells cs t fz)→NT t→wx.heap[k]?=some (Obj.cells cs t fz)
theorem MNE.wrH {B N M:Nat} {P:Nat→NdP} {A:Nat→NdS} {E:Nat→Prop} {W w:World} {p g o:Nat} {s:DS} {u:Value} {cs:Array Value} (h:MNE B N M P A E W p s w) (hg:w.heap[g]?=some (.cells cs 52 (0,0))) (hB:B≤g):MNE B N M P A E W p s (w.setCell ⟨g,o,none⟩ u):=by
 obtain ⟨F,⟨⟨k1,hE⟩,k2⟩,hD⟩:=h
 have h0:¬ DTy 52:=by unfold DTy;decide
 have oth:∀ k,k≠g→(w.setCell ⟨g,o,none⟩ u).heap[k]?=w.heap[k]?:=fun k hk=>heap_setCell_other _ _ _ _ hk
 have ne:∀ {k:Nat} {cs':Array Value} {t':TypeId} {fz:Nat×Nat},w.heap[k]?=some (Obj.cells cs' t' fz)→52≠t'→k≠g:=by
  intro k cs' t' fz e ht e3
  subst e3
  rw [hg] at e
  simp only [oI,cI] at e
  exact ht e.2.1
 refine ⟨F,⟨⟨fun i hi=>?_,fun k hk=>⟨(hE k hk).1.same (oth k ((hE k hk).1.ne hg h0)),(hE k hk).2⟩⟩,k2⟩,?_⟩
 ·obtain ⟨⟨d1,⟨c1,d2⟩,⟨c2,d3⟩,⟨c3,d4⟩⟩,⟨_,c5,d5,_⟩,_⟩:=k1 i hi
  exact (k1 i hi).keep (fun k hk=>oth k ((d1 k hk).ne hg h0)) (fun k cs fz e=>(oth k (ne e (by decide))).trans e) (oth _ (ne d2 (by decide))) (oth _ (ne d3 (by decide))) (oth _ (ne d4 (by decide))) ((Below.refl _ _).setCell (p:=⟨g,o,none⟩) hB u) (oth _ (ne d5 (by decide)))
 ·letI:Gd:=⟨fun k=>E k∨∃ j,j<M∧F j k⟩
  refine hD.other hg (by decide) (by decide) (by decide) (by decide) (by decide) (fun hk=>?_)
  rcases hk with hk | ⟨i,hi,hk⟩
  ·exact (hE g hk).1.ne hg h0 rfl
  ·exact ((k1 i hi).1.1 g hk).ne hg h0 rfl
theorem info_host:(Tryz.prog.info? 52).map (fun i=>(i.zero,i.size,i.bytes))=some (some (.agg #[.pointer none,.pointer none]),2,16):=by kernel_rfl
theorem net_new {B n M:Nat} {W w:World} (hB:B≤w.heap.size) (hW:Below B W w) (hM1:1≤M) (hM5:M≤5) (h3:3≤n) (h4:n≤4096) :
  Calls Tryz.prog 4 #[.int .i64 (M:Int),.int .i64 (n:Int)] w fun e w'=>∃ nt gh P,e=.returned (.tuple #[.pointer (some ⟨nt,0,none⟩),.int .i64 0])∧NSw B n M nt gh P nd0 (.slice none 0 0) [] [] W w'∧NsF B w w':=by
 obtain ⟨i0,hi,hz0,hz1,hz2⟩:=info_parts info_host
 have lt:∀ {k:Nat} {o:Obj} {ww:World},ww.heap[k]?=some o→k<ww.heap.size:=fun e=>(lO e)
 have HB:=hide hB
 have HW:=hide hW
 have H3:=hide h3
 have H4:=hide h4
 have d1:decide ((M:Int)<1)=false:=decide_eq_false (by omega)
 have d2:decide ((5:Int)<(M:Int))=false:=decide_eq_false (by omega)
 have d3:decide ((n:Int)<3)=false:=decide_eq_false (by omega)
 have d4:decide ((4096:Int)<(n:Int))=false:=decide_eq_false (by omega)
 clear hB hW h3 h4
 go_enter Tryz.func4,Tryz.ntmps4
 go_wp2_with (refine wpList_make_full w rfl _ _ 44 rfl w.heap.size 52 i0 (.agg #[.pointer none,.pointer none]) 2 Tryz.underlying44 hi hz0 hz1 .i64 .i64 M M M rfl rfl rfl rfl (by rw [hz2];omega) (by unfold maxLen;omega) (nR _) ?_;intro w1 ho1 hg1;have HO1:=hide (aFu ho1);have HG1:=hide ((Below.refl w.heap.size w).grown hg1 (nR _) (fun k hk=>by cases hk));clear ho1 hg1)
 have HN2:Hid (NTM (w1.alloc (.cells #[.slice (some ⟨w.heap.size,0,none⟩) M M,.slice none 0 0,.slice none 0 0] 46)) w1.heap.size w.heap.size M (.slice none 0 0) (.slice none 0 0)):=heap_alloc_new w1 _
 have HBX:=hide (aAc w1 (.cells #[.slice (some ⟨w.heap.size,0,none⟩) M M,.slice none 0 0,.slice none 0 0] 46))
 have HH2:=hide ((HBX.out.block _ (lt HO1.out.1)).trans HO1.out.1)
 have HSZ:Hid ((madeCells (Value.agg #[Value.pointer none,Value.pointer none]).cells (M*2)).toList.toArray.size=M*2):=by show _=_;simp [size_madeCells]
 have HB2:Hid (Below w.heap.size w (w1.alloc (.cells #[.slice (some ⟨w.heap.size,0,none⟩) M M,.slice none 0 0,.slice none 0 0] 46))):=HG1.out.trans (HBX.out.mono HG1.out.size)
 have HNT:Hid (w.heap.size<w1.heap.size):=lt HO1.out.1
 clear HO1 HG1 HBX
 generalize (madeCells (Value.agg #[Value.pointer none,Value.pointer none]).cells (M*2)).toList.toArray=hc0 at *
 generalize w1.alloc (.cells #[.slice (some ⟨w.heap.size,0,none⟩) M M,.slice none 0 0,.slice none 0 0] 46)=w2 at *
 generalize w1.heap.size=nt at *
 generalize hgh:w.heap.size=gh at *
 go_loopw [34] (fun i wx=>∃ j:Nat,j≤M∧i=.int .i64 j∧∃ P hc,NWI B n j M nt gh P hc W w wx) (fun i _=>M-(intOf i).toNat)
 case atStart=>exact ⟨0,by omega,rfl,fun _=>⟨0,0,0,0,0,0⟩,hc0,⟨MND.nil _ _ _ _ _ _,HH2.out,HSZ.out,fun q hq=>absurd hq (by omega),HN2.out,HB2.out.mono HB.out,fun k cs t fz e _=>(HB2.out.block k (by rw [←hgh];exact lt e)).trans e⟩⟩
 case round =>
  obtain ⟨j,hj,rfl,P,hc,hI⟩:=hrel
  have HI:=hide hI
  clear hI HN2 HH2 HSZ HB2
  have c0:wr.cell? ⟨nt,0,none⟩=some (.slice (some ⟨gh,0,none⟩) M M):=aAa HI.out.n
  by_cases hjn:j<M
  ·have i1:(j:Int)<(M:Int):=by omega
   have i2:(0:Int)≤(j:Int):=by omega
   have i3:(j:Int)<1000:=by omega
   have hBr:B≤wr.heap.size:=nT (by rw [hgh];exact HB.out) HI.out.b.size
   have HDK:=hide (HI.out.m.disk hBr (n:=n) (by have:=H3.out;omega) H4.out)
   clear hBr
   go_wp2_with fail
   refine HDK.out.mono ?_
   rintro e w3 ⟨p,rfl,h3,hb3⟩
   have HM3:=hide h3
   have HH3:Hid (w3.heap[gh]?=_):=(hb3.block gh (lt HI.out.h)).trans HI.out.h
   have HN3:Hid (w3.heap[nt]?=_):=(hb3.block nt (lt HI.out.n)).trans HI.out.n
   have HB3:Hid (Below B w w3):=HI.out.b.trans (hb3.mono (nT (by rw [hgh];exact HB.out) HI.out.b.size))
   have HS3:Hid (∀ (k:Nat) (cs:Array Value) (t:TypeId) (fz:Nat×Nat),w.heap[k]?=some (Obj.cells cs t fz)→NT t→w3.heap[k]?=some (Obj.cells cs t fz)):=fun k cs t fz e ht=>(hb3.block k (lt (HI.out.s k cs t fz e ht))).trans (HI.out.s k cs t fz e ht)
   have hz9:hc.size=M*2:=HI.out.z
   have d0:w3.cell? ⟨nt,0,none⟩=some (.slice (some ⟨gh,0,none⟩) M M):=aAa HN3.out
   have d1:w3.cell? ⟨gh,j*2,none⟩=some (hc[j*2]'(by omega)):=(aAa HH3.out).trans (Array.getElem?_eq_getElem _)
   have f1:w3.frozen? ⟨gh,j*2,none⟩=false:=aAb HH3.out
   generalize hc[j*2]'(by omega)=old at d1
   have HGB:Hid (B≤gh):=HB.out
   have HM4:=hide (HM3.out.wrH (o:=j*2) (u:=.pointer (some ⟨p,0,none⟩)) HH3.out HGB.out)
   have HH4:=hide (heap_setCell_same w3 gh (j*2) hc 52 (.pointer (some ⟨p,0,none⟩)) HH3.out)
   have HN4:Hid ((w3.setCell ⟨gh,j*2,none⟩ (.pointer (some ⟨p,0,none⟩))).heap[nt]?=_):=(heap_setCell_other _ _ _ _ (show nt≠gh by have:=HNT.out;omega)).trans HN3.out
   have HB4:Hid (Below B w (w3.setCell ⟨gh,j*2,none⟩ (.pointer (some ⟨p,0,none⟩)))):=HB3.out.setCell (p:=⟨gh,j*2,none⟩) HGB.out _
   have HS4:Hid (∀ (k:Nat) (cs:Array Value) (t:TypeId) (fz:Nat×Nat),w.heap[k]?=some (Obj.cells cs t fz)→NT t→(w3.setCell ⟨gh,j*2,none⟩ (.pointer (some ⟨p,0,none⟩))).heap[k]?=some (Obj.cells cs t fz)):=fun k cs t fz e ht=>(heap_setCell_other _ _ _ _ (show k≠gh by have:=lt e;omega)).trans (HS3.out k cs t fz e ht)
   have HZ:=hide hz9
   clear h3 hb3 hz9 HDK c0 HH3 HN3 HB3 HS3 HM3
   go_upto_region 11 with fail
   clear d0 d1 f1
   generalize w3.setCell ⟨gh,j*2,none⟩ (.pointer (some ⟨p,0,none⟩))=w4 at *
   have d0:w4.cell? ⟨nt,0,none⟩=some (.slice (some ⟨gh,0,none⟩) M M):=aAa HN4.out
   have HST:=hide (host_start (i:=j) HM4.out (nT (by rw [hgh];exact HB.out) HB4.out.size) (HW.out.trans HB4.out) H3.out H4.out HH4.out HGB.out (Array.getElem?_setIfInBounds_self_of_lt (by have:=HZ.out;omega)) (by rw [Array.size_setIfInBounds];have:=HZ.out;omega))
   go_wp2_with fail
   refine HST.out.mono ?_
   rintro e w5 ⟨x,rfl,h5,hh5,hb5,hs5⟩
   have HX:Hid (∃ P hc,NWI B n (j+1) M nt gh P hc W w w5):=by
    rw [nd0_up] at h5
    refine ⟨upS P j x,_,⟨h5,hh5,by simp only [Array.size_setIfInBounds];exact HZ.out,fun q hq=>?_,hs5 _ _ _ _ HN4.out (by decide) (by have:=HNT.out;omega),HB4.out.trans hb5,fun k cs t fz e ht=>hs5 k cs t fz (HS4.out k cs t fz e ht) ht (by have:=lt e;omega)⟩⟩
    by_cases e:q=j
    ·subst e
     rw [aBp]
     exact Array.getElem?_setIfInBounds_self_of_lt (by rw [Array.size_setIfInBounds];have:=HZ.out;omega)
    ·rw [aBd _ _ e,Array.getElem?_setIfInBounds_ne (by omega),Array.getElem?_setIfInBounds_ne (by omega)]
     exact HI.out.c q (by omega)
   clear h5 hh5 hb5 hs5 HST
   go_wp2_with fail
   go_roundw
   case rel=>exact ⟨j+1,by omega,by go_num,HX.out⟩
   case measure=>simp [intOf];omega
  ·have i1:¬ (j:Int)<(M:Int):=by omega
   have hjM:j=M:=by omega
   subst hjM
   go_wp2
   go_ret2
   refine ⟨nt,rfl,⟨gh,P,⟨HI.out.m.less (fun k hk=>?_),WV.nil _ _,⟨_,HI.out.n,LTV.nil _ _⟩,⟨hc,HI.out.h,HI.out.c⟩,by have:=HNT.out;have:=HB.out;omega,nT (by rw [hgh];exact HB.out) HI.out.b.size⟩⟩,HI.out.b,fun k cs t fz e n1 _ _ _ _=>HI.out.s k cs t fz e n1⟩
   have hk:(none:Option Nat)=some k:=hk
   cases hk
theorem net_six (w:World):Calls Tryz.prog 4 #[.int .i64 6,.int .i64 64] w fun e w'=>e=.returned (.tuple #[.pointer none,.int .i64 1])∧w'=w:=by
 go_enter Tryz.func4,Tryz.ntmps4
 go_wp2
 go_ret2
 exact ⟨rfl,rfl⟩
theorem major3 {w:World} {nt gh:Nat} {wv lv:Value} (h:NTM w nt gh 3 wv lv):Calls Tryz.prog 20 #[.pointer (some ⟨nt,0,none⟩)] w fun e w'=>e=.returned (.int .i64 2)∧w'=w:=by
 have c0:w.cell? ⟨nt,0,none⟩=some (.slice (some ⟨gh,0,none⟩) 3 3):=aAa h
 go_enter Tryz.func20,Tryz.ntmps20
 go_wp2
 go_ret
 exact ⟨rfl,rfl⟩
theorem nodes3 {w:World} {nt gh:Nat} {wv lv:Value} (h:NTM w nt gh 3 wv lv):Calls Tryz.prog 21 #[.pointer (some ⟨nt,0,none⟩)] w fun e w'=>e=.returned (.int .i64 3)∧w'=w:=by
 have c0:w.cell? ⟨nt,0,none⟩=some (.slice (some ⟨gh,0,none⟩) 3 3):=aAa h
 go_enter Tryz.func21,Tryz.ntmps21
 go_wp2
 go_ret
 exact ⟨rfl,rfl⟩
def t9a:NdS:=⟨1,putL [] ([0,0,0],[7]),upL (fun _=>(0,0,false)) 0 (1,0,false)⟩
theorem told9 (w:World):Calls Tryz.prog 11 #[] w fun e w'=>e=.returned (.bool true)∧Below w.heap.size w w':=by
 have lt:∀ {k:Nat} {o:Obj} {ww:World},ww.heap[k]?=some o→k<ww.heap.size:=fun e=>(lO e)
 generalize hB:w.heap.size=B
 have HNN:Hid (Calls Tryz.prog 4 #[.int .i64 3,.int .i64 64] w fun e w'=>∃ nt gh P,e=.returned (.tuple #[.pointer (some ⟨nt,0,none⟩),.int .i64 0])∧NSw B 64 3 nt gh P nd0 (.slice none 0 0) [] [] w w'∧NsF B w w'):=net_new (n:=64) (M:=3) (by omega) (Below.refl _ _) (by decide) (by decide) (by decide) (by decide)
 go_enter Tryz.func11,Tryz.ntmps11
 go_wp2_with fail
 refine HNN.out.mono ?_
 rintro e x1 ⟨nt,gh,P,rfl,h1,hf1⟩
 have HN6:=hide (net_six x1)
 clear HNN
 go_wp2_with fail
 refine HN6.out.mono ?_
 rintro e x1' ⟨rfl,hw⟩
 have hw:=hw.symm
 subst hw
 have HBY:=hide (aAr x1 (.cells #[.int .u8 7] 5) (.cells #[.int .i64 1,.int .i64 0,.int .i64 0,.slice (some ⟨x1.heap.size,0,none⟩) 1 1] 34))
 obtain ⟨oa,oc,ov,ok⟩:=BK.owned (B:=B) (xs:=[7]) (aGi x1 7) (by simp) (by intro n hn;simp at hn;omega)
 simp only [Value.slice.injEq] at ov
 obtain ⟨rfl,ho,rfl⟩:=ov
 clear ho
 have HRQ:Hid (((x1.alloc (.cells #[.int .u8 7] 5)).alloc (.cells #[.int .i64 1,.int .i64 0,.int .i64 0,.slice (some ⟨x1.heap.size,0,none⟩) 1 1] 34)).heap[x1.heap.size+1]?=some (.cells #[.int .i64 1,.int .i64 0,.int .i64 0,.slice (some ⟨x1.heap.size,0,none⟩) 1 1] 34 (0,0))):=aAd [Obj.cells #[.int .u8 7] 5,Obj.cells #[.int .i64 1,.int .i64 0,.int .i64 0,.slice (some ⟨x1.heap.size,0,none⟩) 1 1] 34] x1 1 _ rfl
 have HK:=hide (ok.later (aAc (x1.alloc (.cells #[.int .u8 7] 5)) (.cells #[.int .i64 1,.int .i64 0,.int .i64 0,.slice (some ⟨x1.heap.size,0,none⟩) 1 1] 34)) (nT h1.bw (aAc x1 _).size))
 have HS:=hide (h1.later HBY.out)
 have HBE:Hid (Below B w ((x1.alloc (.cells #[.int .u8 7] 5)).alloc (.cells #[.int .i64 1,.int .i64 0,.int .i64 0,.slice (some ⟨x1.heap.size,0,none⟩) 1 1] 34))):=hf1.1.trans (HBY.out.mono h1.bw)
 clear h1 hf1 ok HBY HN6
 go_upto_region 6 with fail
 generalize ((x1.alloc (.cells #[.int .u8 7] 5)).alloc (.cells #[.int .i64 1,.int .i64 0,.int .i64 0,.slice (some ⟨x1.heap.size,0,none⟩) 1 1] 34))=x2 at *
 generalize x1.heap.size=n0 at *
 generalize n0+1=n1 at *
 have HB3:=hide (aAc x2 (.cells #[.int .i64 5,.int .i64 4,.int .i64 14] 3))
 have HZ3:Hid ((x2.alloc (.cells #[.int .i64 5,.int .i64 4,.int .i64 14] 3)).heap[x2.heap.size]?=some (.cells #[.int .i64 5,.int .i64 4,.int .i64 14] 3 (0,0))):=heap_alloc_new x2 _
 have HW:Hid (Calls Tryz.prog 5 #[.pointer (some ⟨nt,0,none⟩),.slice (some ⟨x2.heap.size,0,none⟩) 3 3] (x2.alloc (.cells #[.int .i64 5,.int .i64 4,.int .i64 14] 3)) fun e w'=>e=.returned (.tuple #[])∧∃ wv',NSw B 64 3 nt gh P nd0 wv' [5,4,14] [] w w'∧NsF B (x2.alloc (.cells #[.int .i64 5,.int .i64 4,.int .i64 14] 3)) w'):=(HS.out.later HB3.out).grown (zs:=[5,4,14]) HZ3.out (by decide) (by decide)
 go_wp2_with fail
 refine HW.out.mono ?_
 rintro e x3 ⟨rfl,wv1,h3,hf3⟩
 have HRQw:=hide (hf3.2 _ _ _ _ ((HB3.out.block _ (lt HRQ.out)).trans HRQ.out) (by decide) (by decide) (by decide) (by decide) (by decide))
 have HKw:=hide ((HK.out.later HB3.out HS.out.bw).ft hf3.ft)
 have HBEw:Hid (Below B w x3):=(HBE.out.trans (HB3.out.mono HS.out.bw)).trans hf3.1
 clear HS HRQ HK HBE HB3 HZ3 HW hf3
 have HS:=hide h3
 have HRQ:=hide HRQw.out
 have HK:=hide HKw.out
 have HBE:=hide HBEw.out
 clear h3 HRQw HKw HBEw
 have HD:Hid (Calls Tryz.prog 6 #[.pointer (some ⟨nt,0,none⟩),.int .i64 0,.agg #[.int .i64 1,.int .i64 0,.int .i64 0,.slice (some ⟨n0,0,none⟩) 1 1]] x3 fun e w'=>e=.returned (.tuple #[.agg #[.int .i64 0,.int .i64 0,.bool false,.int .i64 0,.int .i64 0,.slice none 0 0],.bool false])∧∃ wv',NSw B 64 3 nt gh P (upS nd0 0 t9a) wv' [4,14] [] w w'∧NsF B x3 w'):=HS.out.call2 (i:=0) (x:=t9a) (by decide) (by decide) rfl (by decide) (fun ww hf=>dt_w (lg:=0) (tl:=0) (tr:=0) (by decide) rfl (by decide) (by decide) (by decide) (HK.out.ft hf) (by decide))
 have r0:x3.cell? ⟨n1,0,none⟩=some (.int .i64 1):=aAa HRQ.out
 have r1:x3.cell? ⟨n1,1,none⟩=some (.int .i64 0):=aAa HRQ.out
 have r2:x3.cell? ⟨n1,2,none⟩=some (.int .i64 0):=aAa HRQ.out
 have r3:x3.cell? ⟨n1,3,none⟩=some (.slice (some ⟨n0,0,none⟩) 1 1):=aAa HRQ.out
 go_wp2_with fail
 refine HD.out.mono ?_
 rintro e w4 ⟨rfl,wv4,h,hf⟩
 clear r0 r1 r2 r3
 have HBA:=hide (aAc w4 (.cells #[.int .i64 0,.int .i64 0,.bool false,.int .i64 0,.int .i64 0,.slice none 0 0] 30))
 have HAN4:Hid ((w4.alloc (.cells #[.int .i64 0,.int .i64 0,.bool false,.int .i64 0,.int .i64 0,.slice none 0 0] 30)).heap[w4.heap.size]?=some (.cells #[.int .i64 0,.int .i64 0,.bool false,.int .i64 0,.int .i64 0,.slice none 0 0] 30 (0,0))):=heap_alloc_new w4 _
 have HRQw:=hide ((HBA.out.block _ (lt (hf.2 _ _ _ _ HRQ.out (by decide) (by decide) (by decide) (by decide) (by decide)))).trans (hf.2 _ _ _ _ HRQ.out (by decide) (by decide) (by decide) (by decide) (by decide)))
 have HKw:=hide ((HK.out.ft hf.ft).later HBA.out h.bw)
 have HBEw:Hid (Below B w (w4.alloc (.cells #[.int .i64 0,.int .i64 0,.bool false,.int .i64 0,.int .i64 0,.slice none 0 0] 30))):=(HBE.out.trans hf.1).trans (HBA.out.mono h.bw)
 have HSw:=hide (h.later HBA.out)
 clear HD HS HRQ HK HBE h hf HBA
 have HS:=hide HSw.out
 have HRQ:=hide HRQw.out
 have HK:=hide HKw.out
 have HBE:=hide HBEw.out
 clear HSw HRQw HKw HBEw
 go_upto_region 8 with fail
 generalize w4.alloc (.cells #[.int .i64 0,.int .i64 0,.bool false,.int .i64 0,.int .i64 0,.slice none 0 0] 30)=x4 at *
 generalize w4.heap.size=m4 at *
 have HD:Hid (Calls Tryz.prog 6 #[.pointer (some ⟨nt,0,none⟩),.int .i64 1,.agg #[.int .i64 1,.int .i64 0,.int .i64 0,.slice (some ⟨n0,0,none⟩) 1 1]] x4 fun e w'=>e=.returned (.tuple #[.agg #[.int .i64 0,.int .i64 0,.bool false,.int .i64 0,.int .i64 0,.slice none 0 0],.bool false])∧∃ wv',NSw B 64 3 nt gh P (upS nd0 0 t9a) wv' [14] [] w w'∧NsF B x4 w'):=HS.out.call1 (i:=1) (by decide) (by decide) rfl
 have r0:x4.cell? ⟨n1,0,none⟩=some (.int .i64 1):=aAa HRQ.out
 have r1:x4.cell? ⟨n1,1,none⟩=some (.int .i64 0):=aAa HRQ.out
 have r2:x4.cell? ⟨n1,2,none⟩=some (.int .i64 0):=aAa HRQ.out
 have r3:x4.cell? ⟨n1,3,none⟩=some (.slice (some ⟨n0,0,none⟩) 1 1):=aAa HRQ.out
 go_wp2_with fail
 refine HD.out.mono ?_
 rintro e w5 ⟨rfl,wv5,h,hf⟩
 clear r0 r1 r2 r3
 have HBA:=hide (aAc w5 (.cells #[.int .i64 0,.int .i64 0,.bool false,.int .i64 0,.int .i64 0,.slice none 0 0] 30))
 have HAN5:Hid ((w5.alloc (.cells #[.int .i64 0,.int .i64 0,.bool false,.int .i64 0,.int .i64 0,.slice none 0 0] 30)).heap[w5.heap.size]?=some (.cells #[.int .i64 0,.int .i64 0,.bool false,.int .i64 0,.int .i64 0,.slice none 0 0] 30 (0,0))):=heap_alloc_new w5 _
 have HAN4w:=hide ((HBA.out.block _ (lt (hf.2 _ _ _ _ HAN4.out (by decide) (by decide) (by decide) (by decide) (by decide)))).trans (hf.2 _ _ _ _ HAN4.out (by decide) (by decide) (by decide) (by decide) (by decide)))
 have HRQw:=hide ((HBA.out.block _ (lt (hf.2 _ _ _ _ HRQ.out (by decide) (by decide) (by decide) (by decide) (by decide)))).trans (hf.2 _ _ _ _ HRQ.out (by decide) (by decide) (by decide) (by decide) (by decide)))
 have HKw:=hide ((HK.out.ft hf.ft).later HBA.out h.bw)
 have HBEw:Hid (Below B w (w5.alloc (.cells #[.int .i64 0,.int .i64 0,.bool false,.int .i64 0,.int .i64 0,.slice none 0 0] 30))):=(HBE.out.trans hf.1).trans (HBA.out.mono h.bw)
 have HSw:=hide (h.later HBA.out)
 clear HD HS HRQ HK HBE h hf HBA HAN4
 have HS:=hide HSw.out
 have HRQ:=hide HRQw.out
 have HK:=hide HKw.out
 have HBE:=hide HBEw.out
 have HAN4:=hide HAN4w.out
 clear HSw HRQw HKw HBEw HAN4w
 go_upto_region 9 with fail
 generalize w5.alloc (.cells #[.int .i64 0,.int .i64 0,.bool false,.int .i64 0,.int .i64 0,.slice none 0 0] 30)=x5 at *
 generalize w5.heap.size=m5 at *
 have HD:Hid (Calls Tryz.prog 6 #[.pointer (some ⟨nt,0,none⟩),.int .i64 2,.agg #[.int .i64 1,.int .i64 0,.int .i64 0,.slice (some ⟨n0,0,none⟩) 1 1]] x5 fun e w'=>e=.returned (.tuple #[.agg #[.int .i64 0,.int .i64 0,.bool false,.int .i64 0,.int .i64 0,.slice none 0 0],.bool false])∧∃ wv',NSw B 64 3 nt gh P (upS nd0 0 t9a) wv' [] [⟨2,1,0,0,[7]⟩] w w'∧NsF B x5 w'):=HS.out.call3 (i:=2) (val:=[7]) (by decide) (by decide) rfl (by decide) (fun ww hf=>(HK.out.ft hf).1) (by decide)
 have r0:x5.cell? ⟨n1,0,none⟩=some (.int .i64 1):=aAa HRQ.out
 have r1:x5.cell? ⟨n1,1,none⟩=some (.int .i64 0):=aAa HRQ.out
 have r2:x5.cell? ⟨n1,2,none⟩=some (.int .i64 0):=aAa HRQ.out
 have r3:x5.cell? ⟨n1,3,none⟩=some (.slice (some ⟨n0,0,none⟩) 1 1):=aAa HRQ.out
 go_wp2_with fail
 refine HD.out.mono ?_
 rintro e w6 ⟨rfl,wv6,h,hf⟩
 clear r0 r1 r2 r3
 have HBA:=hide (aAc w6 (.cells #[.int .i64 0,.int .i64 0,.bool false,.int .i64 0,.int .i64 0,.slice none 0 0] 30))
 have HAN6:Hid ((w6.alloc (.cells #[.int .i64 0,.int .i64 0,.bool false,.int .i64 0,.int .i64 0,.slice none 0 0] 30)).heap[w6.heap.size]?=some (.cells #[.int .i64 0,.int .i64 0,.bool false,.int .i64 0,.int .i64 0,.slice none 0 0] 30 (0,0))):=heap_alloc_new w6 _
 have HAN4w:=hide ((HBA.out.block _ (lt (hf.2 _ _ _ _ HAN4.out (by decide) (by decide) (by decide) (by decide) (by decide)))).trans (hf.2 _ _ _ _ HAN4.out (by decide) (by decide) (by decide) (by decide) (by decide)))
 have HAN5w:=hide ((HBA.out.block _ (lt (hf.2 _ _ _ _ HAN5.out (by decide) (by decide) (by decide) (by decide) (by decide)))).trans (hf.2 _ _ _ _ HAN5.out (by decide) (by decide) (by decide) (by decide) (by decide)))
 have HRQw:=hide ((HBA.out.block _ (lt (hf.2 _ _ _ _ HRQ.out (by decide) (by decide) (by decide) (by decide) (by decide)))).trans (hf.2 _ _ _ _ HRQ.out (by decide) (by decide) (by decide) (by decide) (by decide)))
 have HKw:=hide ((HK.out.ft hf.ft).later HBA.out h.bw)
 have HBEw:Hid (Below B w (w6.alloc (.cells #[.int .i64 0,.int .i64 0,.bool false,.int .i64 0,.int .i64 0,.slice none 0 0] 30))):=(HBE.out.trans hf.1).trans (HBA.out.mono h.bw)
 have HSw:=hide (h.later HBA.out)
 clear HD HS HRQ HK HBE h hf HBA HAN4 HAN5
 have HS:=hide HSw.out
 have HRQ:=hide HRQw.out
 have HK:=hide HKw.out
 have HBE:=hide HBEw.out
 have HAN4:=hide HAN4w.out
 have HAN5:=hide HAN5w.out
 clear HSw HRQw HKw HBEw HAN4w HAN5w
 go_upto_region 10 with fail
 generalize w6.alloc (.cells #[.int .i64 0,.int .i64 0,.bool false,.int .i64 0,.int .i64 0,.slice none 0 0] 30)=x6 at *
 generalize w6.heap.size=m6 at *
 have HD:Hid (Calls Tryz.prog 7 #[.pointer (some ⟨nt,0,none⟩),.int .i64 0,.agg #[.int .i64 5,.int .i64 0,.int .i64 0,.slice none 0 0]] x6 fun e w'=>(∃ sa sc,e=.returned (.tuple #[.agg #[.int .i64 0,.int .i64 1,.bool false,.int .i64 0,.int .i64 0,.slice sa 1 sc],.bool true])∧BK B w' sa 1 sc [7])∧NSw B 64 3 nt gh P (upS (upS nd0 0 t9a) 0 t9a) wv6 [] [⟨2,1,0,0,[7]⟩] w w'∧NsF B x6 w'):=HS.out.look5 (i:=0) (y:=t9a) (by decide) (by decide) (by decide) (fun ww hf=>dt_r (lg:=0) (at_:=0) (tl:=1) (tr:=0) (val:=[7]) (by decide) rfl (by decide) (by decide) (by decide) rfl (by decide))
 go_wp2_with fail
 refine HD.out.mono ?_
 rintro e w7 ⟨⟨s7,c7,rfl,hk⟩,h,hf⟩
 have HBA:=hide (aAc w7 (.cells #[.int .i64 0,.int .i64 1,.bool false,.int .i64 0,.int .i64 0,.slice s7 1 c7] 30))
 have HAN7:Hid ((w7.alloc (.cells #[.int .i64 0,.int .i64 1,.bool false,.int .i64 0,.int .i64 0,.slice s7 1 c7] 30)).heap[w7.heap.size]?=some (.cells #[.int .i64 0,.int .i64 1,.bool false,.int .i64 0,.int .i64 0,.slice s7 1 c7] 30 (0,0))):=heap_alloc_new w7 _
 have HAN4w:=hide ((HBA.out.block _ (lt (hf.2 _ _ _ _ HAN4.out (by decide) (by decide) (by decide) (by decide) (by decide)))).trans (hf.2 _ _ _ _ HAN4.out (by decide) (by decide) (by decide) (by decide) (by decide)))
 have HAN5w:=hide ((HBA.out.block _ (lt (hf.2 _ _ _ _ HAN5.out (by decide) (by decide) (by decide) (by decide) (by decide)))).trans (hf.2 _ _ _ _ HAN5.out (by decide) (by decide) (by decide) (by decide) (by decide)))
 have HAN6w:=hide ((HBA.out.block _ (lt (hf.2 _ _ _ _ HAN6.out (by decide) (by decide) (by decide) (by decide) (by decide)))).trans (hf.2 _ _ _ _ HAN6.out (by decide) (by decide) (by decide) (by decide) (by decide)))
 have HRQw:=hide ((HBA.out.block _ (lt (hf.2 _ _ _ _ HRQ.out (by decide) (by decide) (by decide) (by decide) (by decide)))).trans (hf.2 _ _ _ _ HRQ.out (by decide) (by decide) (by decide) (by decide) (by decide)))
 have HKw:=hide ((HK.out.ft hf.ft).later HBA.out h.bw)
 have HBEw:Hid (Below B w (w7.alloc (.cells #[.int .i64 0,.int .i64 1,.bool false,.int .i64 0,.int .i64 0,.slice s7 1 c7] 30))):=(HBE.out.trans hf.1).trans (HBA.out.mono h.bw)
 have HSw:=hide (h.later HBA.out)
 have HVw:=hide (hk.later HBA.out h.bw)
 clear HD HS HRQ HK HBE h hf HBA hk HAN4 HAN5 HAN6
 have HS:=hide HSw.out
 have HRQ:=hide HRQw.out
 have HK:=hide HKw.out
 have HBE:=hide HBEw.out
 have HAN4:=hide HAN4w.out
 have HAN5:=hide HAN5w.out
 have HAN6:=hide HAN6w.out
 clear HSw HRQw HKw HBEw HAN4w HAN5w HAN6w
 have HV:=hide HVw.out
 clear HVw
 go_upto_region 11 with fail
 generalize w7.alloc (.cells #[.int .i64 0,.int .i64 1,.bool false,.int .i64 0,.int .i64 0,.slice s7 1 c7] 30)=x7 at *
 generalize w7.heap.size=m7 at *
 have HD:Hid (Calls Tryz.prog 7 #[.pointer (some ⟨nt,0,none⟩),.int .i64 1,.agg #[.int .i64 4,.int .i64 0,.int .i64 0,.slice none 0 0]] x7 fun e w'=>(∃ sa sc,e=.returned (.tuple #[.agg #[.int .i64 0,.int .i64 0,.bool false,.int .i64 0,.int .i64 0,.slice sa 0 sc],.bool true])∧BK B w' sa 0 sc ([]:List Nat))∧NSw B 64 3 nt gh P (upS (upS (upS nd0 0 t9a) 0 t9a) 1 (nd0 1)) wv6 [] [⟨2,1,0,0,[7]⟩] w w'∧NsF B x7 w'):=HS.out.look4 (i:=1) (y:=nd0 1) (by decide) (by decide) (by decide) (fun ww hf=>dt_st (lg:=0) (tl:=0) (tr:=0) (by decide) rfl (by decide))
 go_wp2_with fail
 refine HD.out.mono ?_
 rintro e w8 ⟨⟨s8,c8,rfl,hk⟩,h,hf⟩
 have HBA:=hide (aAc w8 (.cells #[.int .i64 0,.int .i64 0,.bool false,.int .i64 0,.int .i64 0,.slice s8 0 c8] 30))
 have HAN8:Hid ((w8.alloc (.cells #[.int .i64 0,.int .i64 0,.bool false,.int .i64 0,.int .i64 0,.slice s8 0 c8] 30)).heap[w8.heap.size]?=some (.cells #[.int .i64 0,.int .i64 0,.bool false,.int .i64 0,.int .i64 0,.slice s8 0 c8] 30 (0,0))):=heap_alloc_new w8 _
 have HAN4w:=hide ((HBA.out.block _ (lt (hf.2 _ _ _ _ HAN4.out (by decide) (by decide) (by decide) (by decide) (by decide)))).trans (hf.2 _ _ _ _ HAN4.out (by decide) (by decide) (by decide) (by decide) (by decide)))
 have HAN5w:=hide ((HBA.out.block _ (lt (hf.2 _ _ _ _ HAN5.out (by decide) (by decide) (by decide) (by decide) (by decide)))).trans (hf.2 _ _ _ _ HAN5.out (by decide) (by decide) (by decide) (by decide) (by decide)))
 have HAN6w:=hide ((HBA.out.block _ (lt (hf.2 _ _ _ _ HAN6.out (by decide) (by decide) (by decide) (by decide) (by decide)))).trans (hf.2 _ _ _ _ HAN6.out (by decide) (by decide) (by decide) (by decide) (by decide)))
 have HAN7w:=hide ((HBA.out.block _ (lt (hf.2 _ _ _ _ HAN7.out (by decide) (by decide) (by decide) (by decide) (by decide)))).trans (hf.2 _ _ _ _ HAN7.out (by decide) (by decide) (by decide) (by decide) (by decide)))
 have HRQw:=hide ((HBA.out.block _ (lt (hf.2 _ _ _ _ HRQ.out (by decide) (by decide) (by decide) (by decide) (by decide)))).trans (hf.2 _ _ _ _ HRQ.out (by decide) (by decide) (by decide) (by decide) (by decide)))
 have HKw:=hide ((HK.out.ft hf.ft).later HBA.out h.bw)
 have HBEw:Hid (Below B w (w8.alloc (.cells #[.int .i64 0,.int .i64 0,.bool false,.int .i64 0,.int .i64 0,.slice s8 0 c8] 30))):=(HBE.out.trans hf.1).trans (HBA.out.mono h.bw)
 have HSw:=hide (h.later HBA.out)
 have HVw:=hide ((HV.out.ft hf.ft).later HBA.out h.bw)
 clear HD HS HRQ HK HBE h hf HBA hk HAN4 HAN5 HAN6 HAN7 HV
 have HS:=hide HSw.out
 have HRQ:=hide HRQw.out
 have HK:=hide HKw.out
 have HBE:=hide HBEw.out
 have HAN4:=hide HAN4w.out
 have HAN5:=hide HAN5w.out
 have HAN6:=hide HAN6w.out
 have HAN7:=hide HAN7w.out
 clear HSw HRQw HKw HBEw HAN4w HAN5w HAN6w HAN7w
 have HV:=hide HVw.out
 clear HVw
 go_upto_region 12 with fail
 generalize w8.alloc (.cells #[.int .i64 0,.int .i64 0,.bool false,.int .i64 0,.int .i64 0,.slice s8 0 c8] 30)=x8 at *
 generalize w8.heap.size=m8 at *
 have HD:Hid (Calls Tryz.prog 8 #[.pointer (some ⟨nt,0,none⟩)] x8 fun e w'=>∃ g cs,e=.returned (.slice (some ⟨g,0,none⟩) 1 1)∧w'.heap[g]?=some (.cells cs 40 (0,0))∧cs.size=1*5∧(∀ j x,([⟨2,1,0,0,[7]⟩]:List LR)[j]?=some x→cs[j*5+3]?=some (.int .i64 x.at_))∧Below x8.heap.size x8 w'):=HS.out.late (by decide) (by intro x hx;simp only [List.mem_singleton] at hx;subst hx;decide)
 go_wp2_with fail
 refine HD.out.mono ?_
 rintro e y1 ⟨g9,cs9,rfl,_,_,_,hb9⟩
 have HAN4w:=hide ((hb9.block _ (lt HAN4.out)).trans HAN4.out)
 have HAN5w:=hide ((hb9.block _ (lt HAN5.out)).trans HAN5.out)
 have HAN6w:=hide ((hb9.block _ (lt HAN6.out)).trans HAN6.out)
 have HAN7w:=hide ((hb9.block _ (lt HAN7.out)).trans HAN7.out)
 have HAN8w:=hide ((hb9.block _ (lt HAN8.out)).trans HAN8.out)
 have HVw:=hide (HV.out.later hb9 HS.out.bw)
 have HBEw:Hid (Below B w y1):=HBE.out.trans (hb9.mono HS.out.bw)
 have HSw:=hide (HS.out.later hb9)
 clear HD HRQ HK HBE HV HS hb9 HAN4 HAN5 HAN6 HAN7 HAN8
 have HDD:Hid (Calls Tryz.prog 10 #[.pointer (some ⟨nt,0,none⟩),.int .i64 0] y1 fun e w'=>e=.returned (.int .i64 0)∧NSw B 64 3 nt gh P (upS (upS (upS (upS nd0 0 t9a) 0 t9a) 1 (nd0 1)) 2 t9a) wv6 [] [] w w'∧NsF B y1 w'):=HSw.out.deliver (i:=0) (x:=⟨2,1,0,0,[7]⟩) (y:=t9a) (by decide) rfl (by decide) (by decide) (by decide) (fun ww va cp _ hk=>dt_w (lg:=0) (tl:=0) (tr:=0) (by decide) rfl (by decide) (by decide) (by decide) hk (by decide))
 go_wp2_with fail
 refine HDD.out.mono ?_
 rintro e y2 ⟨rfl,h,hf⟩
 have HAN4:=hide (hf.2 _ _ _ _ HAN4w.out (by decide) (by decide) (by decide) (by decide) (by decide))
 have HAN5:=hide (hf.2 _ _ _ _ HAN5w.out (by decide) (by decide) (by decide) (by decide) (by decide))
 have HAN6:=hide (hf.2 _ _ _ _ HAN6w.out (by decide) (by decide) (by decide) (by decide) (by decide))
 have HAN7:=hide (hf.2 _ _ _ _ HAN7w.out (by decide) (by decide) (by decide) (by decide) (by decide))
 have HAN8:=hide (hf.2 _ _ _ _ HAN8w.out (by decide) (by decide) (by decide) (by decide) (by decide))
 have HV:=hide (HVw.out.ft hf.ft)
 have HBE:Hid (Below B w y2):=HBEw.out.trans hf.1
 have HS:=hide h
 clear HDD HSw HVw HBEw h hf HAN4w HAN5w HAN6w HAN7w HAN8w
 have HD:Hid (Calls Tryz.prog 7 #[.pointer (some ⟨nt,0,none⟩),.int .i64 2,.agg #[.int .i64 4,.int .i64 0,.int .i64 0,.slice none 0 0]] y2 fun e w'=>(∃ sa sc,e=.returned (.tuple #[.agg #[.int .i64 0,.int .i64 1,.bool false,.int .i64 0,.int .i64 0,.slice sa 0 sc],.bool true])∧BK B w' sa 0 sc ([]:List Nat))∧NSw B 64 3 nt gh P (upS (upS (upS (upS (upS nd0 0 t9a) 0 t9a) 1 (nd0 1)) 2 t9a) 2 t9a) wv6 [] [] w w'∧NsF B y2 w'):=HS.out.look4 (i:=2) (y:=t9a) (by decide) (by decide) (by decide) (fun ww hf=>dt_st (lg:=0) (tl:=1) (tr:=0) (by decide) rfl (by decide))
 go_wp2_with fail
 refine HD.out.mono ?_
 rintro e y3 ⟨⟨s9,c9,rfl,hk⟩,h,hf⟩
 have HBA:=hide (aAc y3 (.cells #[.int .i64 0,.int .i64 1,.bool false,.int .i64 0,.int .i64 0,.slice s9 0 c9] 30))
 have HAN9:Hid ((y3.alloc (.cells #[.int .i64 0,.int .i64 1,.bool false,.int .i64 0,.int .i64 0,.slice s9 0 c9] 30)).heap[y3.heap.size]?=some (.cells #[.int .i64 0,.int .i64 1,.bool false,.int .i64 0,.int .i64 0,.slice s9 0 c9] 30 (0,0))):=heap_alloc_new y3 _
 have HAN4w:=hide ((HBA.out.block _ (lt (hf.2 _ _ _ _ HAN4.out (by decide) (by decide) (by decide) (by decide) (by decide)))).trans (hf.2 _ _ _ _ HAN4.out (by decide) (by decide) (by decide) (by decide) (by decide)))
 have HAN5w:=hide ((HBA.out.block _ (lt (hf.2 _ _ _ _ HAN5.out (by decide) (by decide) (by decide) (by decide) (by decide)))).trans (hf.2 _ _ _ _ HAN5.out (by decide) (by decide) (by decide) (by decide) (by decide)))
 have HAN6w:=hide ((HBA.out.block _ (lt (hf.2 _ _ _ _ HAN6.out (by decide) (by decide) (by decide) (by decide) (by decide)))).trans (hf.2 _ _ _ _ HAN6.out (by decide) (by decide) (by decide) (by decide) (by decide)))
 have HAN7w:=hide ((HBA.out.block _ (lt (hf.2 _ _ _ _ HAN7.out (by decide) (by decide) (by decide) (by decide) (by decide)))).trans (hf.2 _ _ _ _ HAN7.out (by decide) (by decide) (by decide) (by decide) (by decide)))
 have HAN8w:=hide ((HBA.out.block _ (lt (hf.2 _ _ _ _ HAN8.out (by decide) (by decide) (by decide) (by decide) (by decide)))).trans (hf.2 _ _ _ _ HAN8.out (by decide) (by decide) (by decide) (by decide) (by decide)))
 have HVw:=hide ((HV.out.ft hf.ft).later HBA.out h.bw)
 have HBEw:Hid (Below B w (y3.alloc (.cells #[.int .i64 0,.int .i64 1,.bool false,.int .i64 0,.int .i64 0,.slice s9 0 c9] 30))):=(HBE.out.trans hf.1).trans (HBA.out.mono h.bw)
 have HSw:=hide (h.later HBA.out)
 clear HD HS HV HBE h hf hk HBA HAN4 HAN5 HAN6 HAN7 HAN8
 go_upto_region 15 with fail
 generalize y3.alloc (.cells #[.int .i64 0,.int .i64 1,.bool false,.int .i64 0,.int .i64 0,.slice s9 0 c9] 30)=y4 at *
 generalize y3.heap.size=m9 at *
 have z0:y4.cell? ⟨m7,5,none⟩=some (.slice s7 1 c7):=aAa HAN7w.out
 have z1:y4.cell? ⟨m8,1,none⟩=some (.int .i64 0):=aAa HAN8w.out
 have z2:y4.cell? ⟨m9,1,none⟩=some (.int .i64 1):=aAa HAN9.out
 have tx:(convert 28 9 (.slice s7 1 c7)).run Tryz.prog y4=.ok (.string ⟨#[7]⟩) y4:=run_text HVw.out.1
 obtain ⟨lv9,hn9,_⟩:=HSw.out.n
 have HMJ:=hide (major3 hn9)
 have HND:=hide (nodes3 hn9)
 clear hn9
 go_wp2_with fail
 refine HMJ.out.mono ?_
 rintro e y5 ⟨rfl,rfl⟩
 go_wp2_with fail
 refine HND.out.mono ?_
 rintro e y6 ⟨rfl,rfl⟩
 go_wp2
 go_ret
 exact ⟨by simp,HBEw.out⟩
def NC (B nt gh:Nat) (P:Nat→NdP) (F:List Int) (sl:Nat) (l:List LR) (W w:World):Prop:=∃ A wv,NSw B 300 1 nt gh P A wv F l W w∧(A 0).m=sl∧(A 0).L 0=(sl,0,false)∧∀ x∈l,x.nd=0∧x.k=1∧x.lg=0∧x.val.length=1∧∃ q:Nat,q≤sl∧x.at_=(q:Int)
def slv (v sl:Nat):Nat:=if v=4∨v=6 then sl else sl+1
def lvv (v:Nat) (l:List LR) (x:LR):List LR:=if v=6 then l++[x] else l
def okv (v:Nat):Bool:=decide (v<4∨v=7)
theorem NC.later {B nt gh sl:Nat} {P:Nat→NdP} {F:List Int} {l:List LR} {W w w':World} (h:NC B nt gh P F sl l W w) (hb:Below w.heap.size w w'):NC B nt gh P F sl l W w':=by
 obtain ⟨A,wv,h1,h2⟩:=h
 exact ⟨A,wv,h1.later hb,h2⟩
theorem NC.bw {B nt gh sl:Nat} {P:Nat→NdP} {F:List Int} {l:List LR} {W w:World} (h:NC B nt gh P F sl l W w):B≤w.heap.size:=by
 obtain ⟨A,wv,h1,h2⟩:=h
 exact h1.bw
theorem NC.weather {B nt gh sl ga:Nat} {P:Nat→NdP} {z:Int} {l:List LR} {W w:World} (h:NC B nt gh P [] sl l W w) (hz:w.heap[ga]?=some (.cells #[.int .i64 z] 3 (0,0))) :
  Calls Tryz.prog 5 #[.pointer (some ⟨nt,0,none⟩),.slice (some ⟨ga,0,none⟩) 1 1] w fun e w'=>e=.returned (.tuple #[])∧NC B nt gh P [z] sl l W w'∧NsF B w w':=by
 obtain ⟨A,wv,h1,h2⟩:=h
 refine (h1.weather1 hz).mono ?_
 rintro e w' ⟨rfl,wv',q1,q2⟩
 exact ⟨rfl,⟨A,wv',q1,h2⟩,q2⟩
theorem up0 {A:Nat→NdS} {x:NdS}:upS A 0 x 0=x:=aBp A 0 x
theorem upL0 {L:Nat→Lg} {x:Lg}:upL L 0 x 0=x:=if_pos rfl
theorem NC.call {B nt gh sl v b cp:Nat} {P:Nat→NdP} {z:Int} {l:List LR} {W w:World} {va:Option Addr} (h:NC B nt gh P [z] sl l W w) (hv:(z % 8).toNat=v) (hk:BK B w va 1 cp [b]) (hsl:sl≤79) (hl:l.length<64) :
  Calls Tryz.prog 6 #[.pointer (some ⟨nt,0,none⟩),.int .i64 0,.agg #[.int .i64 1,.int .i64 0,.int .i64 (sl:Int),.slice va 1 cp]] w fun e w'=>∃ e0 tl bb tr bl vn sa sc,e=.returned (.tuple #[.agg #[.int .i64 e0,.int .i64 tl,.bool bb,.int .i64 tr,.int .i64 bl,.slice sa vn sc],.bool (okv v)])∧(okv v=true→tl=(sl:Int)+1)∧NC B nt gh P [] (slv v sl) (lvv v l ⟨0,1,0,sl,[b]⟩) W w'∧NsF B w w':=by
 obtain ⟨A,wv,h1,h2,h3,h4⟩:=h
 have hf:fv [z]=fat v:=by show fat (z % 8).toNat=_;rw [hv]
 have dw:∀ ww,FT B w ww→DoT B 300 (P 0) W 1 0 (sl:Int) va 1 cp (A 0) ⟨(A 0).m+1,putL (A 0).l ([0,0,sl],[b]),upL (A 0).L 0 (sl+1,0,false)⟩ 0 ((sl:Int)+1) false 0 0 0 [] ww:=fun ww hw=>dt_w (lg:=0) (tl:=sl) (tr:=0) (by decide) h3 (by omega) (by omega) (by omega) (hk.ft hw) (by decide)
 have lw:∀ x∈l,x.nd=0∧x.k=1∧x.lg=0∧x.val.length=1∧∃ q:Nat,q≤sl+1∧x.at_=(q:Int):=fun x hx=>by
  obtain ⟨a1,a2,a3,a4,q,a5,a6⟩:=h4 x hx
  exact ⟨a1,a2,a3,a4,q,by omega,a6⟩
 have hv7:v≤7:=by omega
 have hc:(v<4∨v=4∨v=5∨v=6)∨v=7:=by omega
 rcases hc with (hc | hc | hc | hc) | hc
 ·have hf0:fv [z]=0:=by rw [hf];unfold fat;rw [if_neg (by omega),if_neg (by omega),if_neg (by omega),if_neg (by omega)]
  refine (h1.call0 (i:=0) (by decide) (by decide) hf0 (by decide) dw).mono ?_
  rintro e w' ⟨⟨sa,sc,rfl,_⟩,wv',q1,q2⟩
  have e1:okv v=true:=by unfold okv;simp;omega
  have e2:slv v sl=sl+1:=by unfold slv;rw [if_neg (by omega)]
  have e3:lvv v l ⟨0,1,0,sl,[b]⟩=l:=by unfold lvv;rw [if_neg (by omega)]
  rw [e1,e2,e3]
  exact ⟨_,_,_,_,_,_,_,_,rfl,fun _=>rfl,⟨_,wv',q1,by rw [up0];show (A 0).m+1=_;rw [h2],by rw [up0];exact (upL0 (L:=(A 0).L) (x:=(sl+1,0,false))),lw⟩,q2⟩
 ·subst hc
  refine (h1.call1 (i:=0) (by decide) (by decide) hf).mono ?_
  rintro e w' ⟨rfl,wv',q1,q2⟩
  exact ⟨_,_,_,_,_,_,_,_,rfl,fun h=>absurd h (by decide),⟨A,wv',q1,h2,h3,h4⟩,q2⟩
 ·subst hc
  refine (h1.call2 (i:=0) (by decide) (by decide) hf (by decide) dw).mono ?_
  rintro e w' ⟨rfl,wv',q1,q2⟩
  exact ⟨_,_,_,_,_,_,_,_,rfl,fun h=>absurd h (by decide),⟨_,wv',q1,by rw [up0];show (A 0).m+1=_;rw [h2];rfl,by rw [up0];exact (upL0 (L:=(A 0).L) (x:=(sl+1,0,false))),lw⟩,q2⟩
 ·subst hc
  refine (h1.call3 (i:=0) (val:=[b]) (by decide) (by decide) hf hl (fun ww hw=>(hk.ft hw).1) (by decide)).mono ?_
  rintro e w' ⟨rfl,wv',q1,q2⟩
  refine ⟨_,_,_,_,_,_,_,_,rfl,fun h=>absurd h (by decide),⟨A,wv',q1,h2,h3,fun x hx=>?_⟩,q2⟩
  have hx:x∈l++[⟨0,1,0,(sl:Int),[b]⟩]:=hx
  rcases List.mem_append.1 hx with hx | hx
  ·exact h4 x hx
  ·simp only [List.mem_singleton] at hx
   subst hx
   exact ⟨rfl,rfl,rfl,rfl,sl,nR _,rfl⟩
 ·subst hc
  refine (h1.call4 (i:=0) (by decide) (by decide) hf (by decide) dw (y:=⟨(A 0).m+1,putL (A 0).l ([0,0,sl],[b]),upL (A 0).L 0 (sl+1,0,false)⟩) (by decide) (fun ww hw=>dt_same (lg:=0) (at_:=sl) (tl:=sl+1) (tr:=0) (by decide) (upL0 (L:=(A 0).L) (x:=(sl+1,0,false))) (by omega) (by omega) (by decide))).mono ?_
  rintro e w' ⟨⟨sa,sc,rfl,_⟩,wv',q1,q2⟩
  exact ⟨_,_,_,_,_,_,_,_,rfl,fun _=>by omega,⟨_,wv',q1,by rw [up0];show (A 0).m+1=_;rw [h2];rfl,by rw [up0];exact (upL0 (L:=(A 0).L) (x:=(sl+1,0,false))),lw⟩,q2⟩
section
variable {B nt gh sl:Nat} {P:Nat→NdP} {l:List LR} {W w:World}
theorem NC.look (h:NC B nt gh P [] sl l W w) :
  Calls Tryz.prog 7 #[.pointer (some ⟨nt,0,none⟩),.int .i64 0,.agg #[.int .i64 4,.int .i64 0,.int .i64 0,.slice none 0 0]] w fun e w'=>(∃ sa sc,e=.returned (.tuple #[.agg #[.int .i64 0,.int .i64 (sl:Int),.bool false,.int .i64 0,.int .i64 0,.slice sa 0 sc],.bool true]))∧NC B nt gh P [] sl l W w'∧NsF B w w':=by
 obtain ⟨A,wv,h1,h2,h3,h4⟩:=h
 refine (h1.look4 (i:=0) (y:=A 0) (by decide) (by decide) (by decide) (fun ww hf=>dt_st (lg:=0) (tl:=sl) (tr:=0) (by decide) h3 (by decide))).mono ?_
 rintro e w' ⟨⟨sa,sc,rfl,_⟩,q1,q2⟩
 exact ⟨⟨sa,sc,rfl⟩,⟨_,wv,q1,by rw [up0];exact h2,by rw [up0];exact h3,h4⟩,q2⟩
theorem NC.late (h:NC B nt gh P [] sl l W w) (hl:l.length≤64) :
  Calls Tryz.prog 8 #[.pointer (some ⟨nt,0,none⟩)] w fun e w'=>∃ g cs,e=.returned (.slice (some ⟨g,0,none⟩) l.length l.length)∧w'.heap[g]?=some (.cells cs 40 (0,0))∧cs.size=l.length*5∧(∀ j x,l[j]?=some x→cs[j*5+3]?=some (.int .i64 x.at_))∧Below w.heap.size w w':=by
 obtain ⟨A,wv,h1,h2,h3,h4⟩:=h
 exact h1.late hl fun x hx=>by rw [(h4 x hx).2.2.2.1];decide
theorem NC.ahead (h:NC B nt gh P [] sl l W w):Calls Tryz.prog 9 #[.pointer (some ⟨nt,0,none⟩)] w fun e w'=>e=.returned (.int .i64 0)∧w'=w:=by
 obtain ⟨A,wv,h1,_⟩:=h
 exact h1.ahead
theorem NC.deliver (h:NC B nt gh P [] sl l W w) {k:Nat} {x:LR} (hx:l[k]?=some x) (hl:l.length≤64) (hsl:sl≤79) :
  Calls Tryz.prog 10 #[.pointer (some ⟨nt,0,none⟩),.int .i64 (k:Int)] w fun e w'=>e=.returned (.int .i64 0)∧NC B nt gh P [] (if x.at_=(sl:Int) then sl+1 else sl) (l.eraseIdx k) W w'∧NsF B w w':=by
 obtain ⟨A,wv,h1,h2,h3,h4⟩:=h
 obtain ⟨a1,a2,a3,a4,q,a5,a6⟩:=h4 x (mG hx)
 obtain ⟨xn,xk,xl,xa,xv⟩:=x
 have a1:xn=0:=a1
 have a2:xk=1:=a2
 have a3:xl=0:=a3
 have a4:xv.length=1:=a4
 have a6:xa=(q:Int):=a6
 subst a1 a2 a3 a6
 by_cases e:q=sl
 ·subst e
  refine (h1.deliver (y:=⟨(A 0).m+1,putL (A 0).l ([0,0,q],xv),upL (A 0).L 0 (q+1,0,false)⟩) hl hx (show 0<1 by decide) (by decide) (by decide) (fun ww va cp _ hk=>dt_w (lg:=0) (tl:=q) (tr:=0) (by decide) h3 (by omega) (show (A 0).m+21≤300 by omega) (show (A 0).m≤80 by omega) hk (by show xv.length≤1800;omega))).mono ?_
  rintro e w' ⟨rfl,q1,q2⟩
  rw [if_pos rfl]
  refine ⟨rfl,⟨_,wv,q1,by rw [up0];show (A 0).m+1=_;rw [h2],by rw [up0];exact (upL0 (L:=(A 0).L) (x:=(q+1,0,false))),fun y hy=>?_⟩,q2⟩
  obtain ⟨b1,b2,b3,b4,r,b5,b6⟩:=h4 y (List.mem_of_mem_eraseIdx hy)
  exact ⟨b1,b2,b3,b4,r,by omega,b6⟩
 ·refine (h1.deliver (y:=A 0) hl hx (show 0<1 by decide) (by decide) (by decide) (fun ww va cp _ hk=>dt_same (lg:=0) (at_:=q) (tl:=sl) (tr:=0) (by decide) h3 (by omega) e (by show xv.length≤1800;omega))).mono ?_
  rintro e' w' ⟨rfl,q1,q2⟩
  rw [if_neg (by show ¬ (q:Int)=_;omega)]
  exact ⟨rfl,⟨_,wv,q1,by rw [up0];exact h2,by rw [up0];exact h3,fun y hy=>h4 y (List.mem_of_mem_eraseIdx hy)⟩,q2⟩
end
end Go.Proofs.YthimmblpmijnlaaGreat
