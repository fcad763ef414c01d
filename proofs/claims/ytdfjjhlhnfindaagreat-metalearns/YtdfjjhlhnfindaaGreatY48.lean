import Derived.Test.YtdfjjhlhnfindaaGreatY47
set_option maxRecDepth 100000
set_option maxHeartbeats 16000000
set_option linter.unusedVariables false
namespace Go.Proofs.YtdfjjhlhnfindaaGreat
open Go.RowKit Tryz
variable {A:Nat->NdS} {B K M N g gb gh i nt o p who:Nat} {E:Nat->Prop} {P:Nat->NdP} {W w w' w0:World} {b0 b1 b2 b3 b4 lv wv:Value} {cs:Array Value} {fn:Func} {fz:Nat×Nat} {ov:List Nat}
def StK (g:Nat) (w w':World):Prop:=∀ (k:Nat) (cs:Array Value) (t:TypeId) (fz:Nat×Nat),w.heap[k]?=some (Obj.cells cs t fz)->NT t->k≠g->w'.heap[k]?=some (Obj.cells cs t fz)
theorem StK.trans {a b c:World} (h:StK g a b) (k:StK g b c):StK g a c:=fun i cs t fz e n1 n2=>k i cs t fz (h i cs t fz e n1 n2) n1 n2
theorem host_start {n:Nat} {hc:Array Value} (h:MNE B n M P A E W p (DS.new n) w) (hB:B<=w.heap.size) (hW:Below B W w) (h3:3<=n) (h4:n<=4096) (hh:w.heap[gh]?=some (.cells hc 51 (0,0))) (hgB:B<=gh) (hc0:hc[i*2]?=some (.pointer (some ⟨p,0,none⟩))) (hc1:i*2+1<hc.size) :
  Calls prog 17 #[.pointer (some ⟨gh,i*2,none⟩)] w fun e w'=>∃ x:NdP,e=.returned (.int .i64 0)/\MND B n (M+1) (upS P M x) (upS A M ⟨0,[],fun _=>(0,0,false)⟩) E W w'/\w'.heap[gh]?=some (.cells (hc.setIfInBounds (i*2+1) (.pointer (some ⟨x.nd,0,none⟩))) 51 (0,0))/\Below B w w'/\StK gh w w':=by
 have HC1:=zH (h.call (s':=(DS.new n).restart) (fun S hd=>@restart_any ⟨S⟩ B p (DS.new n) w hd hB));have HB:=zH hB;have HW:=zH hW;have H3:=zH h3;have H4:=zH h4;have HH:=zH hh;have HG:=zH hgB;have HC0:=zH hc0;have HCS:=zH hc1;have c0:w.cell? ⟨gh,i*2,none⟩=some (.pointer (some ⟨p,0,none⟩)):=(aAa hh).trans hc0;clear h hB hW h3 h4 hh hgB hc0 hc1;go_enter func17,ntmps17;go_wp2_with fail;refine HC1.o.mono ?_;rintro e w1 ⟨rfl,h1,hb1,hs1⟩;have HM1:Hid (MNE B n M P A E W p (DS.new n) w1):=h1;have HH1:Hid (w1.heap[gh]?=_):=hs1 _ _ _ _ HH.o (by decide);have HB1:Hid (Below B w w1):=hb1;have HS1:Hid (StK gh w w1):=fun k cs t fz e ht _=>hs1 k cs t fz e ht
 have hB1:B<=w1.heap.size:=nT HB.o hb1.size;have HC2:=zH (HM1.o.call (s':=(DS.new n).arm 0 0 0 0) (fun S hd=>@arm_any ⟨S⟩ B p (DS.new n) 0 0 0 0 w1 hd hB1 (by decide) (by decide)));have c1:w1.cell? ⟨gh,i*2,none⟩=some (.pointer (some ⟨p,0,none⟩)):=(aAa HH1.o).trans HC0.o;clear h1 hb1 hs1 hB1 HC1 c0 HM1;go_wp2_with fail;refine HC2.o.mono ?_;rintro e w2 ⟨rfl,h2,hb2,hs2⟩;have HM2:Hid (MNE B n M P A E W p (DS.new n) w2):=h2;have HH2:Hid (w2.heap[gh]?=_):=hs2 _ _ _ _ HH1.o (by decide);have HB2:Hid (Below B w w2):=HB1.o.trans hb2;have HS2:Hid (StK gh w w2):=HS1.o.trans fun k cs t fz e ht _=>hs2 k cs t fz e ht
 have HC3:=zH (HM2.o.open (nT HB.o HB2.o.size) (HW.o.trans HB2.o) H3.o H4.o);have c2:w2.cell? ⟨gh,i*2,none⟩=some (.pointer (some ⟨p,0,none⟩)):=(aAa HH2.o).trans HC0.o;clear h2 hb2 hs2 HC2 c1 HM2 HH1 HB1 HS1;go_wp2_with fail;refine HC3.o.mono ?_;rintro e w3 ⟨x,rfl,_,h3,hb3,hs3⟩;have HM3:=zH h3;have HH3:Hid (w3.heap[gh]?=_):=hs3 _ _ _ _ HH2.o (by decide);have HB3:Hid (Below B w w3):=HB2.o.trans hb3;have HS3:Hid (StK gh w w3):=HS2.o.trans fun k cs t fz e ht _=>hs3 k cs t fz e ht
 have c3:w3.cell? ⟨gh,i*2+1,none⟩=some (hc[i*2+1]'HCS.o):=(aAa HH3.o).trans (Array.getElem?_eq_getElem _);have f3:w3.frozen? ⟨gh,i*2+1,none⟩=false:=aAb HH3.o;clear h3 hb3 hs3 HC3 c2 HH2 HB2 HS2;generalize hc[i*2+1]'HCS.o=old at *
 go_wp2;go_ret;refine ⟨x,rfl,HM3.o.wrO HH3.o HG.o (by unfold DTy;decide) (by decide) (by decide) (by decide) (by decide),heap_setCell_same _ _ _ _ _ _ HH3.o,HB3.o.setCell (p:=⟨gh,i*2+1,none⟩) HG.o _,fun k cs t fz e n1 n2=>(heap_setCell_other _ _ _ _ n2).trans (HS3.o k cs t fz e n1 n2)⟩
def nd0:Nat->NdS:=fun _=>⟨0,[],fun _=>(0,0,false)⟩
theorem nd0_up (M:Nat):upS nd0 M ⟨0,[],fun _=>(0,0,false)⟩=nd0:=by
 funext j
 unfold upS nd0
 split<;>rfl
structure NWI (B n j M nt gh:Nat) (P:Nat->NdP) (hc:Array Value) (W w wx:World):Prop where
 m:MND B n j P nd0 (fun _=>False) W wx
 h:wx.heap[gh]?=some (.cells hc 51 (0,0))
 z:hc.size=M*2
 c:∀ q,q<j->hc[q*2+1]?=some (.pointer (some ⟨(P q).nd,0,none⟩))
 n:NTM wx nt gh M (.slice none 0 0) (.slice none 0 0)
 b:Below B w wx
 s:∀ (k:Nat) (cs:Array Value) (t:TypeId) (fz:Nat×Nat),w.heap[k]?=some (Obj.cells cs t fz)->NT t->wx.heap[k]?=some (Obj.cells cs t fz)
theorem MNE.wrH {s:DS} {u:Value} (h:MNE B N M P A E W p s w) (hg:w.heap[g]?=some (.cells cs 51 (0,0))) (hB:B<=g):MNE B N M P A E W p s (w.setCell ⟨g,o,none⟩ u):=by
 obtain ⟨F,⟨⟨k1,hE⟩,k2⟩,hD⟩:=h;have h0:¬ DTy 51:=by unfold DTy;decide
 have oth:∀ k,k≠g->(w.setCell ⟨g,o,none⟩ u).heap[k]?=w.heap[k]?:=fun k hk=>heap_setCell_other _ _ _ _ hk
 have ne:∀ {k:Nat} {cs':Array Value} {t':TypeId} {fz:Nat×Nat},w.heap[k]?=some (Obj.cells cs' t' fz)->51≠t'->k≠g:=by
  intro k cs' t' fz e ht e3;subst e3;rw [hg] at e;simp only [oI,cI] at e;exact ht e.2.1
 refine ⟨F,⟨⟨fun i hi=>?_,fun k hk=>⟨(hE k hk).1.same (oth k ((hE k hk).1.ne hg h0)),(hE k hk).2⟩⟩,k2⟩,?_⟩
 ·obtain ⟨⟨d1,⟨c1,d2⟩,⟨c2,d3⟩,⟨c3,d4⟩⟩,⟨_,c5,d5,_⟩,_⟩:=k1 i hi;exact (k1 i hi).keep (fun k hk=>oth k ((d1 k hk).ne hg h0)) (fun k cs fz e=>(oth k (ne e (by decide))).trans e) (oth _ (ne d2 (by decide))) (oth _ (ne d3 (by decide))) (oth _ (ne d4 (by decide))) ((Below.refl _ _).setCell (p:=⟨g,o,none⟩) hB u) (oth _ (ne d5 (by decide)))
 ·letI:Gd:=⟨fun k=>E k\/∃ j,j<M/\F j k⟩;refine hD.other hg (by decide) (by decide) (by decide) (by decide) (by decide) (fun hk=>?_);rcases hk with hk | ⟨i,hi,hk⟩
  ·exact (hE g hk).1.ne hg h0 rfl
  ·exact ((k1 i hi).1.1 g hk).ne hg h0 rfl
theorem info_host:(prog.info? 51).map (fun i=>(i.zero,i.size,i.bytes))=some (some (.agg #[.pointer none,.pointer none]),2,16):=by kernel_rfl
theorem net_new {n:Nat} (hB:B<=w.heap.size) (hW:Below B W w) (hM1:1<=M) (hM5:M<=5) (h3:3<=n) (h4:n<=4096) :
  Calls prog 5 #[.int .i64 (M:Int),.int .i64 (n:Int)] w fun e w'=>∃ nt gh P,e=.returned (.tuple #[.pointer (some ⟨nt,0,none⟩),.int .i64 0])/\NSw B n M nt gh P nd0 (.slice none 0 0) [] [] W w'/\NsF B w w':=by
 obtain ⟨i0,hi,hz0,hz1,hz2⟩:=info_parts info_host;have HB:=zH hB;have HW:=zH hW;have H3:=zH h3;have H4:=zH h4;have d1:decide ((M:Int)<1)=false:=decide_eq_false (by omega);have d2:decide ((5:Int)<(M:Int))=false:=decide_eq_false (by omega);have d3:decide ((n:Int)<3)=false:=decide_eq_false (by omega);have d4:decide ((4096:Int)<(n:Int))=false:=decide_eq_false (by omega);clear hB hW h3 h4;go_enter func5,ntmps5;go_wp2_with (refine wpList_make_full w rfl _ _ 43 rfl w.heap.size 51 i0 (.agg #[.pointer none,.pointer none]) 2 underlying43 hi hz0 hz1 .i64 .i64 M M M rfl rfl rfl rfl (by rw [hz2];omega) (by unfold maxLen;omega) (nR _) ?_;intro w1 ho1 hg1;have HO1:=zH (aGr ho1);have HG1:=zH ((Below.refl w.heap.size w).grown hg1 (nR _) (fun k hk=>by cases hk));clear ho1 hg1);have HN2:Hid (NTM (w1.alloc (.cells #[.slice (some ⟨w.heap.size,0,none⟩) M M,.slice none 0 0,.slice none 0 0] 45)) w1.heap.size w.heap.size M (.slice none 0 0) (.slice none 0 0)):=heap_alloc_new w1 _;have HBX:=zH (aAc w1 (.cells #[.slice (some ⟨w.heap.size,0,none⟩) M M,.slice none 0 0,.slice none 0 0] 45));have HH2:=zH ((HBX.o.block _ (lO HO1.o.1)).trans HO1.o.1);have HSZ:Hid ((madeCells (Value.agg #[Value.pointer none,Value.pointer none]).cells (M*2)).toList.toArray.size=M*2):=by show _=_;simp [size_madeCells]
 have HB2:Hid (Below w.heap.size w (w1.alloc (.cells #[.slice (some ⟨w.heap.size,0,none⟩) M M,.slice none 0 0,.slice none 0 0] 45))):=HG1.o.trans (HBX.o.mono HG1.o.size);have HNT:Hid (w.heap.size<w1.heap.size):=lO HO1.o.1;clear HO1 HG1 HBX;generalize (madeCells (Value.agg #[Value.pointer none,Value.pointer none]).cells (M*2)).toList.toArray=hc0 at *
 generalize w1.alloc (.cells #[.slice (some ⟨w.heap.size,0,none⟩) M M,.slice none 0 0,.slice none 0 0] 45)=w2 at *
 generalize w1.heap.size=nt at *
 generalize hgh:w.heap.size=gh at *
 go_loopw [34] (fun i wx=>∃ j:Nat,j<=M/\i=.int .i64 j/\∃ P hc,NWI B n j M nt gh P hc W w wx) (fun i _=>M-(intOf i).toNat)
 case atStart=>exact ⟨0,by omega,rfl,fun _=>⟨0,0,0,0,0,0⟩,hc0,⟨MND.nil _ _ _ _ _ _,HH2.o,HSZ.o,fun q hq=>absurd hq (by omega),HN2.o,HB2.o.mono HB.o,fun k cs t fz e _=>(HB2.o.block k (by rw [<-hgh];exact lO e)).trans e⟩⟩
 case round =>
  obtain ⟨j,hj,rfl,P,hc,hI⟩:=hrel;have HI:=zH hI;clear hI HN2 HH2 HSZ HB2;have c0:wr.cell? ⟨nt,0,none⟩=some (.slice (some ⟨gh,0,none⟩) M M):=aAa HI.o.n;by_cases hjn:j<M
  ·have i1:(j:Int)<(M:Int):=by omega
   have i2:(0:Int)<=(j:Int):=by omega
   have i3:(j:Int)<1000:=by omega
   have hBr:B<=wr.heap.size:=nT (by rw [hgh];exact HB.o) HI.o.b.size;have HDK:=zH (HI.o.m.disk hBr (n:=n) (by have:=H3.o;omega) H4.o);clear hBr;go_wp2_with fail;refine HDK.o.mono ?_;rintro e w3 ⟨p,rfl,h3,hb3⟩;have HM3:=zH h3;have HH3:Hid (w3.heap[gh]?=_):=(hb3.block gh (lO HI.o.h)).trans HI.o.h;have HN3:Hid (w3.heap[nt]?=_):=(hb3.block nt (lO HI.o.n)).trans HI.o.n;have HB3:Hid (Below B w w3):=HI.o.b.trans (hb3.mono (nT (by rw [hgh];exact HB.o) HI.o.b.size));have HS3:Hid (∀ (k:Nat) (cs:Array Value) (t:TypeId) (fz:Nat×Nat),w.heap[k]?=some (Obj.cells cs t fz)->NT t->w3.heap[k]?=some (Obj.cells cs t fz)):=fun k cs t fz e ht=>(hb3.block k (lO (HI.o.s k cs t fz e ht))).trans (HI.o.s k cs t fz e ht)
   have hz9:hc.size=M*2:=HI.o.z;have d0:w3.cell? ⟨nt,0,none⟩=some (.slice (some ⟨gh,0,none⟩) M M):=aAa HN3.o;have d1:w3.cell? ⟨gh,j*2,none⟩=some (hc[j*2]'(by omega)):=(aAa HH3.o).trans (Array.getElem?_eq_getElem _);have f1:w3.frozen? ⟨gh,j*2,none⟩=false:=aAb HH3.o;generalize hc[j*2]'(by omega)=old at d1;have HGB:Hid (B<=gh):=HB.o;have HM4:=zH (HM3.o.wrH (o:=j*2) (u:=.pointer (some ⟨p,0,none⟩)) HH3.o HGB.o);have HH4:=zH (heap_setCell_same w3 gh (j*2) hc 51 (.pointer (some ⟨p,0,none⟩)) HH3.o);have HN4:Hid ((w3.setCell ⟨gh,j*2,none⟩ (.pointer (some ⟨p,0,none⟩))).heap[nt]?=_):=(heap_setCell_other _ _ _ _ (show nt≠gh by have:=HNT.o;omega)).trans HN3.o;have HB4:Hid (Below B w (w3.setCell ⟨gh,j*2,none⟩ (.pointer (some ⟨p,0,none⟩)))):=HB3.o.setCell (p:=⟨gh,j*2,none⟩) HGB.o _;have HS4:Hid (∀ (k:Nat) (cs:Array Value) (t:TypeId) (fz:Nat×Nat),w.heap[k]?=some (Obj.cells cs t fz)->NT t->(w3.setCell ⟨gh,j*2,none⟩ (.pointer (some ⟨p,0,none⟩))).heap[k]?=some (Obj.cells cs t fz)):=fun k cs t fz e ht=>(heap_setCell_other _ _ _ _ (show k≠gh by have:=lO e;omega)).trans (HS3.o k cs t fz e ht)
   have HZ:=zH hz9;clear h3 hb3 hz9 HDK c0 HH3 HN3 HB3 HS3 HM3;go_upto_region 11 with fail;clear d0 d1 f1;generalize w3.setCell ⟨gh,j*2,none⟩ (.pointer (some ⟨p,0,none⟩))=w4 at *
   have d0:w4.cell? ⟨nt,0,none⟩=some (.slice (some ⟨gh,0,none⟩) M M):=aAa HN4.o;have HST:=zH (host_start (i:=j) HM4.o (nT (by rw [hgh];exact HB.o) HB4.o.size) (HW.o.trans HB4.o) H3.o H4.o HH4.o HGB.o (Array.getElem?_setIfInBounds_self_of_lt (by have:=HZ.o;omega)) (by rw [Array.size_setIfInBounds];have:=HZ.o;omega));go_wp2_with fail;refine HST.o.mono ?_;rintro e w5 ⟨x,rfl,h5,hh5,hb5,hs5⟩;have HX:Hid (∃ P hc,NWI B n (j+1) M nt gh P hc W w w5):=by
    rw [nd0_up] at h5;refine ⟨upS P j x,_,⟨h5,hh5,by simp only [Array.size_setIfInBounds];exact HZ.o,fun q hq=>?_,hs5 _ _ _ _ HN4.o (by decide) (by have:=HNT.o;omega),HB4.o.trans hb5,fun k cs t fz e ht=>hs5 k cs t fz (HS4.o k cs t fz e ht) ht (by have:=lO e;omega)⟩⟩;by_cases e:q=j
    ·subst e;rw [aB2];exact Array.getElem?_setIfInBounds_self_of_lt (by rw [Array.size_setIfInBounds];have:=HZ.o;omega)
    ·rw [aBk _ _ e,Array.getElem?_setIfInBounds_ne (by omega),Array.getElem?_setIfInBounds_ne (by omega)];exact HI.o.c q (by omega)
   clear h5 hh5 hb5 hs5 HST;go_wp2_with fail;go_roundw
   case rel=>exact ⟨j+1,by omega,by go_num,HX.o⟩
   case measure=>simp [intOf];omega
  ·have i1:¬ (j:Int)<(M:Int):=by omega
   have hjM:j=M:=by omega
   subst hjM;go_wp2;go_ret2;refine ⟨nt,rfl,⟨gh,P,⟨HI.o.m.less (fun k hk=>?_),WV.nil _ _,⟨_,HI.o.n,LTV.nil _ _⟩,⟨hc,HI.o.h,HI.o.c⟩,by have:=HNT.o;have:=HB.o;omega,nT (by rw [hgh];exact HB.o) HI.o.b.size⟩⟩,HI.o.b,fun k cs t fz e n1 _ _ _ _=>HI.o.s k cs t fz e n1⟩;have hk:(none:Option Nat)=some k:=hk;cases hk
structure AsF (B gb:Nat) (w w':World):Prop where
 bel:Below B w w'
 stay:∀ (k:Nat) (cs:Array Value) (t:TypeId) (fz:Nat×Nat),w.heap[k]?=some (Obj.cells cs t fz)->NT t->t≠183->t≠130->(t≠115/\t≠135)->(t≠45/\t≠70)->k≠gb->w'.heap[k]?=some (Obj.cells cs t fz)
theorem AsF.trans {a b c:World} (h:AsF B gb a b) (k:AsF B gb b c):AsF B gb a c:=⟨h.1.trans k.1,fun i cs t fz e n1 n2 n3 n4 n5 n6=>k.2 i cs t fz (h.2 i cs t fz e n1 n2 n3 n4 n5 n6) n1 n2 n3 n4 n5 n6⟩
theorem AsF.ns (h:NsF B w w'):AsF B gb w w':=⟨h.1,fun i cs t fz e n1 n2 n3 n4 n5 _=>h.2 i cs t fz e n1 n2 n3 n4 n5⟩
theorem AsF.ft (h:AsF B gb w w') (hg:w.heap[gb]?=some (.cells cs 60 fz)):FT B w w':=⟨h.1,fun k cs' fz' e=>h.2 k cs' _ fz' e (by decide) (by decide) (by decide) (by decide) (by decide) (aAs e hg (by decide))⟩
theorem NSw.set1 {F:List Int} {l:List LR} (h:NSw B N M nt gh P A wv F l W w) {g o:Nat} {u:Value} {cs:Array Value} {t:TypeId} (hg:w.heap[g]?=some (.cells cs t (0,0))) (hB:B<=g) (h0:¬ DTy t) (h1:t≠5) (h2:t≠183) (h3:t≠130) (h4:t≠115/\t≠135) (h5:t≠45/\t≠70/\t≠51):NSw B N M nt gh P A wv F l W (w.setCell ⟨g,o,none⟩ u):=by
 obtain ⟨lv,k1,k2⟩:=h.n;obtain ⟨hc,k3,k4⟩:=h.h;have hb:Below B w (w.setCell ⟨g,o,none⟩ u):=(Below.refl _ _).setCell (p:=⟨g,o,none⟩) hB u;have st:∀ {k:Nat} {cs':Array Value} {t':TypeId} {fz:Nat×Nat},w.heap[k]?=some (Obj.cells cs' t' fz)->t'≠t->(w.setCell ⟨g,o,none⟩ u).heap[k]?=some (Obj.cells cs' t' fz):=fun e ht=>(heap_setCell_other _ _ _ _ (aAs e hg ht)).trans e
 exact ⟨h.m.wrO hg hB h0 h1 h2 h3 h4,h.f.same fun k hk=>heap_setCell_other _ _ _ _ ((h.m.El k hk).ne hg h0),⟨lv,st k1 (Ne.symm h5.1),k2.keep (fun k cs e=>st e (Ne.symm h5.2.1)) ⟨hb,fun k cs fz e=>st e (Ne.symm h1)⟩⟩,⟨hc,st k3 (Ne.symm h5.2.2),k4⟩,h.b,nT h.bw hb.size⟩
section
variable {w w0:World} {g o k B:Nat} {cs:Array Value} {b0 b1 b2 b3 b4 b5:Value} {t:TypeId}
theorem set6o (h:w.heap[g]?=some (.cells cs t (0,0))):((((((w.setCell ⟨g,o,none⟩ b0).setCell ⟨g,o+1,none⟩ b1).setCell ⟨g,o+2,none⟩ b2).setCell ⟨g,o+3,none⟩ b3).setCell ⟨g,o+4,none⟩ b4).setCell ⟨g,o+5,none⟩ b5).heap[g]?=some (.cells ((((((cs.setIfInBounds o b0).setIfInBounds (o+1) b1).setIfInBounds (o+2) b2).setIfInBounds (o+3) b3).setIfInBounds (o+4) b4).setIfInBounds (o+5) b5) t (0,0)):=heap_setCell_same _ _ _ _ _ _ (heap_setCell_same _ _ _ _ _ _ (heap_setCell_same _ _ _ _ _ _ (heap_setCell_same _ _ _ _ _ _ (heap_setCell_same _ _ _ _ _ _ (heap_setCell_same _ _ _ _ _ _ h)))))
theorem bel6o (hb:Below B w0 w) (hg:B<=g):Below B w0 ((((((w.setCell ⟨g,o,none⟩ b0).setCell ⟨g,o+1,none⟩ b1).setCell ⟨g,o+2,none⟩ b2).setCell ⟨g,o+3,none⟩ b3).setCell ⟨g,o+4,none⟩ b4).setCell ⟨g,o+5,none⟩ b5):=(((((hb.setCell (p:=⟨g,o,none⟩) hg _).setCell (p:=⟨g,o+1,none⟩) hg _).setCell (p:=⟨g,o+2,none⟩) hg _).setCell (p:=⟨g,o+3,none⟩) hg _).setCell (p:=⟨g,o+4,none⟩) hg _).setCell (p:=⟨g,o+5,none⟩) hg _
theorem oth6o (hne:k≠g):((((((w.setCell ⟨g,o,none⟩ b0).setCell ⟨g,o+1,none⟩ b1).setCell ⟨g,o+2,none⟩ b2).setCell ⟨g,o+3,none⟩ b3).setCell ⟨g,o+4,none⟩ b4).setCell ⟨g,o+5,none⟩ b5).heap[k]?=w.heap[k]?:=by
 rw [heap_setCell_other _ _ _ _ hne,heap_setCell_other _ _ _ _ hne,heap_setCell_other _ _ _ _ hne,heap_setCell_other _ _ _ _ hne,heap_setCell_other _ _ _ _ hne,heap_setCell_other _ _ _ _ hne]
theorem ft6o (h:w.heap[g]?=some (.cells cs t (0,0))) (ht:t≠5) (hB:B<=g):FT B w ((((((w.setCell ⟨g,o,none⟩ b0).setCell ⟨g,o+1,none⟩ b1).setCell ⟨g,o+2,none⟩ b2).setCell ⟨g,o+3,none⟩ b3).setCell ⟨g,o+4,none⟩ b4).setCell ⟨g,o+5,none⟩ b5):=⟨bel6o (Below.refl _ _) hB,fun k cs' fz e=>(oth6o (aAs e h (Ne.symm ht))).trans e⟩
theorem at6o (hk:k<o\/o+6<=k):((((((cs.setIfInBounds o b0).setIfInBounds (o+1) b1).setIfInBounds (o+2) b2).setIfInBounds (o+3) b3).setIfInBounds (o+4) b4).setIfInBounds (o+5) b5)[k]?=cs[k]?:=by
 rw [Array.getElem?_setIfInBounds_ne (by omega),Array.getElem?_setIfInBounds_ne (by omega),Array.getElem?_setIfInBounds_ne (by omega),Array.getElem?_setIfInBounds_ne (by omega),Array.getElem?_setIfInBounds_ne (by omega),Array.getElem?_setIfInBounds_ne (by omega)]
theorem at6o0 (hk:o+6<=cs.size):((((((cs.setIfInBounds o b0).setIfInBounds (o+1) b1).setIfInBounds (o+2) b2).setIfInBounds (o+3) b3).setIfInBounds (o+4) b4).setIfInBounds (o+5) b5)[o]?=some b0:=by
 rw [Array.getElem?_setIfInBounds_ne (by omega),Array.getElem?_setIfInBounds_ne (by omega),Array.getElem?_setIfInBounds_ne (by omega),Array.getElem?_setIfInBounds_ne (by omega),Array.getElem?_setIfInBounds_ne (by omega),Array.getElem?_setIfInBounds_self_of_lt (by omega)]
theorem at6o1 (hk:o+6<=cs.size):((((((cs.setIfInBounds o b0).setIfInBounds (o+1) b1).setIfInBounds (o+2) b2).setIfInBounds (o+3) b3).setIfInBounds (o+4) b4).setIfInBounds (o+5) b5)[o+1]?=some b1:=by
 rw [Array.getElem?_setIfInBounds_ne (by omega),Array.getElem?_setIfInBounds_ne (by omega),Array.getElem?_setIfInBounds_ne (by omega),Array.getElem?_setIfInBounds_ne (by omega),Array.getElem?_setIfInBounds_self_of_lt (by simp only [Array.size_setIfInBounds];omega)]
theorem at6o2 (hk:o+6<=cs.size):((((((cs.setIfInBounds o b0).setIfInBounds (o+1) b1).setIfInBounds (o+2) b2).setIfInBounds (o+3) b3).setIfInBounds (o+4) b4).setIfInBounds (o+5) b5)[o+2]?=some b2:=by
 rw [Array.getElem?_setIfInBounds_ne (by omega),Array.getElem?_setIfInBounds_ne (by omega),Array.getElem?_setIfInBounds_ne (by omega),Array.getElem?_setIfInBounds_self_of_lt (by simp only [Array.size_setIfInBounds];omega)]
theorem at6o3 (hk:o+6<=cs.size):((((((cs.setIfInBounds o b0).setIfInBounds (o+1) b1).setIfInBounds (o+2) b2).setIfInBounds (o+3) b3).setIfInBounds (o+4) b4).setIfInBounds (o+5) b5)[o+3]?=some b3:=by
 rw [Array.getElem?_setIfInBounds_ne (by omega),Array.getElem?_setIfInBounds_ne (by omega),Array.getElem?_setIfInBounds_self_of_lt (by simp only [Array.size_setIfInBounds];omega)]
theorem at6o4 (hk:o+6<=cs.size):((((((cs.setIfInBounds o b0).setIfInBounds (o+1) b1).setIfInBounds (o+2) b2).setIfInBounds (o+3) b3).setIfInBounds (o+4) b4).setIfInBounds (o+5) b5)[o+4]?=some b4:=by
 rw [Array.getElem?_setIfInBounds_ne (by omega),Array.getElem?_setIfInBounds_self_of_lt (by simp only [Array.size_setIfInBounds];omega)]
theorem at6o5 (hk:o+6<=cs.size):((((((cs.setIfInBounds o b0).setIfInBounds (o+1) b1).setIfInBounds (o+2) b2).setIfInBounds (o+3) b3).setIfInBounds (o+4) b4).setIfInBounds (o+5) b5)[o+5]?=some b5:=by
 rw [Array.getElem?_setIfInBounds_self_of_lt (by simp only [Array.size_setIfInBounds];omega)]
end
theorem NSw.set6A {F:List Int} {l:List LR} (h:NSw B N M nt gh P A wv F l W w) {g o:Nat} {b0 b1 b2 b3 b4 b5:Value} {cs:Array Value} (hg:w.heap[g]?=some (.cells cs 75 (0,0))) (hB:B<=g):NSw B N M nt gh P A wv F l W ((((((w.setCell ⟨g,o,none⟩ b0).setCell ⟨g,o+1,none⟩ b1).setCell ⟨g,o+2,none⟩ b2).setCell ⟨g,o+3,none⟩ b3).setCell ⟨g,o+4,none⟩ b4).setCell ⟨g,o+5,none⟩ b5):=by
 have d:¬ DTy 75:=by unfold DTy;decide
 have s1:=heap_setCell_same w g o _ _ b0 hg;have s2:=heap_setCell_same _ g (o+1) _ _ b1 s1;have s3:=heap_setCell_same _ g (o+2) _ _ b2 s2;have s4:=heap_setCell_same _ g (o+3) _ _ b3 s3;have s5:=heap_setCell_same _ g (o+4) _ _ b4 s4;exact (((((h.set1 hg hB d (by decide) (by decide) (by decide) (by decide) (by decide)).set1 s1 hB d (by decide) (by decide) (by decide) (by decide) (by decide)).set1 s2 hB d (by decide) (by decide) (by decide) (by decide) (by decide)).set1 s3 hB d (by decide) (by decide) (by decide) (by decide) (by decide)).set1 s4 hB d (by decide) (by decide) (by decide) (by decide) (by decide)).set1 s5 hB d (by decide) (by decide) (by decide) (by decide) (by decide)
theorem info_ans6:(prog.info? 75).map (fun i=>(i.zero,i.size,i.bytes))=some (some (.agg #[.int .i64 0,.int .i64 0,.bool false,.int .i64 0,.int .i64 0,.slice none 0 0]),6,64):=by kernel_rfl
theorem nodes_any (h:NTM w nt gh M wv lv):Calls prog 33 #[.pointer (some ⟨nt,0,none⟩)] w fun e w'=>e=.returned (.int .i64 (M:Int))/\w'=w:=by
 have c0:w.cell? ⟨nt,0,none⟩=some (.slice (some ⟨gh,0,none⟩) M M):=aAa h;go_enter func33,ntmps33;go_wp2;go_ret;exact ⟨rfl,rfl⟩
theorem made_all {n sz:Nat} {e:TypeId} {xs:List Value} (h:w.ownsRow B e sz (.slice (some ⟨g,0,none⟩) n n) n xs):∃ cs,w.heap[g]?=some (.cells cs e (0,0))/\cs.size=n*sz/\B<=g:=by
 rcases h.2 with ⟨e,_⟩ | ⟨g',cap,cur,e,h1,h2,h3,h4,h5,h6⟩
 ·cases e
 ·simp only [Value.slice.injEq,oI,Addr.mk.injEq,and_true,true_and] at e;obtain ⟨rfl,rfl⟩:=e;exact ⟨cur,h2,h5,h1⟩
theorem NSw.srt {B N M nt gh i:Nat} {P:Nat->NdP} {A:Nat->NdS} {wv:Value} {F:List Int} {l:List LR} {W w:World} (h:NSw B N M nt gh P A wv F l W w) (hi:i<M):Srt (A i).l:=by
 obtain ⟨F,⟨h1,_⟩,_⟩:=h.m;exact @NX.srt ⟨fun _=>False⟩ _ _ _ _ _ _ _ _ _ _ _ _ _ ((h1 i hi).nx (fun _=>False) (fun k hk=>False.elim hk))
section
variable {B N nt gh gb v b mm:Nat} {P:Nat->NdP} {l:List LR} {R:Nat->Rec} {W w w':World} {who pr:Int}
end
theorem major_3 (h:NTM w nt gh 3 wv lv):Calls prog 34 #[.pointer (some ⟨nt,0,none⟩)] w fun e w'=>e=.returned (.int .i64 2)/\w'=w:=by
 have c0:w.cell? ⟨nt,0,none⟩=some (.slice (some ⟨gh,0,none⟩) 3 3):=aAa h;go_enter func34,ntmps34;go_wp2;go_ret;exact ⟨rfl,rfl⟩
def bal (p who:Nat):Nat:=4*(p / 4+1)+who+1
theorem bal_lt (p who:Nat):p<bal p who:=by unfold bal;omega
theorem ballot_any {v:Int} (hb:w.heap[gb]?=some (.cells #[.pointer (some ⟨nt,0,none⟩),.int .i64 v,.int .i64 (who:Int),.int .i64 (p:Int)] 60 (0,0))) (hp:p<1152921504606846976) (hw:who<=3):Calls prog 35 #[.pointer (some ⟨gb,0,none⟩)] w fun e w'=>e=.returned (.int .i64 (bal p who:Int))/\Below w.heap.size w w':=by
 have c2:w.cell? ⟨gb,2,none⟩=some (.int .i64 (who:Int)):=aAa hb;have c3:w.cell? ⟨gb,3,none⟩=some (.int .i64 (p:Int)):=aAa hb;obtain ⟨q,hq⟩:∃ q,q=p / 4:=⟨_,rfl⟩;have h1:(p:Int).tdiv 4=(q:Int):=by rw [hq,Int.tdiv_eq_ediv_of_nonneg (by omega)];omega
 have h2:IntKind.i64.wrap ((q:Int)+1)=(q:Int)+1:=wrap_small _ (by omega) (by omega);have h3:IntKind.i64.wrap (4*((q:Int)+1))=4*((q:Int)+1):=wrap_small _ (by omega) (by omega);have h4:IntKind.i64.wrap (4*((q:Int)+1)+(who:Int))=4*((q:Int)+1)+(who:Int):=wrap_small _ (by omega) (by omega);have h5:IntKind.i64.wrap (4*((q:Int)+1)+(who:Int)+1)=(bal p who:Int):=by rw [wrap_small _ (by omega) (by omega)];unfold bal;omega
 have h6:IntKind.i64.wrap (q:Int)=(q:Int):=wrap_small _ (by omega) (by omega);clear hb hp hw hq;go_enter func35,ntmps35;go_upto_region 1 with fail;have HX1:Hid ((fun wx=>wx.cell? ⟨gb,2,none⟩=some (.int .i64 (who:Int))/\wx.cell? ⟨gb,3,none⟩=some (.int .i64 (p:Int))) w.drew):=⟨c2,c3⟩;refine wp_region_noPanic ?_;refine wp_region_held_drew (S:=fun wx=>wx.cell? ⟨gb,2,none⟩=some (.int .i64 (who:Int))/\wx.cell? ⟨gb,3,none⟩=some (.int .i64 (p:Int))) (by kernel_rfl) HX1.o (fun hHeld=>?_);refine kT 0 3 ?_;refine kT 1 4 ?_;refine kT 2 5 ?_;refine kT 3 6 ?_;refine kT 4 7 ?_;refine kT 5 8 ?_;refine kT 6 9 ?_;refine kT 7 10 ?_;refine kT 8 11 ?_;refine kT 9 12 ?_;refine kT 10 13 ?_;refine kT 11 14 ?_;refine kT 12 15 ?_;refine kT 13 2 ?_;refine wpAnyH_done (by kernel_rfl) ?_ _;refine NoPanic.normal ?_;clear hHeld;go_wp2;go_ret;exact ⟨rfl,(Below.refl _ _).drew⟩
structure An where
 e:Int
 tl:Nat
 bl:Nat
 val:List Nat
def rK (k:Bool) (b:Nat) (val:List Nat) (r:Rec):Rec:=if k=true then (if r.1<=b then (b,b,val) else r) else (if r.1<b then (b,r.2.1,r.2.2) else r)
def aK (k:Bool) (b:Nat) (r:Rec):An:=if k=true then (if r.1<=b then ⟨0,b,0,[]⟩ else ⟨41,r.1,0,[]⟩) else (if r.1<b then ⟨0,b,r.2.1,vlR r⟩ else ⟨41,r.1,r.2.1,vlR r⟩)
def aN:An:=⟨40,0,0,[]⟩
def cst (k:Bool):Nat:=if k=true then 4 else 1
def cs1 (k:Bool):Nat:=if k=true then 2 else 1
theorem cs1_le (k:Bool):cs1 k<=cst k:=by cases k<;>decide
structure Mt where
 F:List Int
 R:Nat->Rec
 l:List LR
 m:Nat->Nat
def kd (k:Bool):Int:=if k=true then 8 else 7
def stp (v:Nat) (k:Bool) (b:Nat) (val:List Nat) (i:Nat) (s:Mt):An×Mt :=
 if fv s.F=0 then (aK k b (s.R i),⟨s.F.tail,upS s.R i (rK k b val (s.R i)),s.l,upS s.m i (s.m i+cs1 k)⟩)
 else if fv s.F=1 then (aN,⟨s.F.tail,s.R,s.l,upS s.m i (s.m i+0)⟩)
 else if fv s.F=2 then (aN,⟨s.F.tail,upS s.R i (rK k b val (s.R i)),s.l,upS s.m i (s.m i+cs1 k)⟩)
 else if fv s.F=3 then (aN,⟨s.F.tail,s.R,s.l++[⟨i,kd k,(v:Int),(b:Int),val⟩],upS s.m i (s.m i+0)⟩)
 else (aK k b (rK k b val (s.R i)),⟨s.F.tail,upS s.R i (rK k b val (rK k b val (s.R i))),s.l,upS s.m i (s.m i+cst k)⟩)
def akS (v:Nat) (k:Bool) (b:Nat) (val:List Nat) (s:Mt):Nat->Mt
 | 0=>s
 | j+1=>(stp v k b val j (akS v k b val s j)).2
def akA (v:Nat) (k:Bool) (b:Nat) (val:List Nat) (s:Mt) (j:Nat):An:=(stp v k b val j (akS v k b val s j)).1
def prj (a:Nat->An) (p:Nat):Nat->Nat
 | 0=>p
 | j+1=>max (prj a p j) (a j).tl
def mis (a:Nat->An):Nat->Nat
 | 0=>0
 | j+1=>mis a j+(if (a j).e=0 then 0 else 1)
def bst (a:Nat->An) (ov:List Nat):Nat->Nat×List Nat
 | 0=>(0,ov)
 | j+1=>if (a j).e=0/\(bst a ov j).1<(a j).bl then ((a j).bl,(a j).val) else bst a ov j
def rnd (v who:Nat) (ov:List Nat) (s:Mt) (p:Nat):Option (Option (List Nat))×Mt×Nat :=
 if 2<=mis (akA v false (bal p who) [] s) 3 then (none,akS v false (bal p who) [] s 3,prj (akA v false (bal p who) [] s) p 3)
 else if (bst (akA v false (bal p who) [] s) ov 3).1=0/\ov.length=0 then (some none,akS v false (bal p who) [] s 3,prj (akA v false (bal p who) [] s) p 3)
 else if 2<=mis (akA v true (bal p who) (bst (akA v false (bal p who) [] s) ov 3).2 (akS v false (bal p who) [] s 3)) 3 then (none,akS v true (bal p who) (bst (akA v false (bal p who) [] s) ov 3).2 (akS v false (bal p who) [] s 3) 3,prj (akA v true (bal p who) (bst (akA v false (bal p who) [] s) ov 3).2 (akS v false (bal p who) [] s 3)) (prj (akA v false (bal p who) [] s) p 3) 3)
 else (some (some (bst (akA v false (bal p who) [] s) ov 3).2),akS v true (bal p who) (bst (akA v false (bal p who) [] s) ov 3).2 (akS v false (bal p who) [] s 3) 3,p)
def dec (v who:Nat) (ov:List Nat):Nat->Mt->Nat->Option (Option (List Nat))×Mt
 | 0,s,_=>(none,s)
 | g+1,s,p=>if (rnd v who ov s p).1=none then dec v who ov g (rnd v who ov s p).2.1 (rnd v who ov s p).2.2 else ((rnd v who ov s p).1,(rnd v who ov s p).2.1)
class WF where
 ok:List Int->Prop
 tl:∀ F,ok F->ok F.tail
structure MtOk [WF] (K m:Nat) (s:Mt):Prop where
 r:∀ i,i<3->(s.R i).1<=K/\(s.R i).2.2.length<=1800
 f:s.l.length+s.F.length<=64
 m:∀ i,i<3->s.m i<=m
 k:WF.ok s.F
theorem rK_le {k:Bool} {b:Nat} {val:List Nat} {r:Rec} (h:r.1<=K/\r.2.2.length<=1800) (hb:b<=K) (hv:val.length<=1800):(rK k b val r).1<=K/\(rK k b val r).2.2.length<=1800:=by
 unfold rK
 split<;>split<;>first | exact ⟨hb,hv⟩ | exact ⟨hb,h.2⟩ | exact h
theorem aK_le {k:Bool} {b:Nat} {r:Rec} (h:r.1<=K/\r.2.2.length<=1800) (hb:b<=K):(aK k b r).tl<=K/\(aK k b r).val.length<=1800:=by
 have h9:(vlR r).length<=1800:=by unfold vlR;split;exact Nat.zero_le _;exact h.2
 unfold aK
 split<;>split<;>first | exact ⟨hb,Nat.zero_le _⟩ | exact ⟨h.1,Nat.zero_le _⟩ | exact ⟨hb,h9⟩ | exact ⟨h.1,h9⟩
theorem aN_le (K:Nat):aN.tl<=K/\aN.val.length<=1800:=⟨Nat.zero_le _,Nat.zero_le _⟩
theorem tail_len (F:List Int):F.tail.length<=F.length:=by cases F<;>simp
theorem upS_le {f:Nat->Rec} {x:Rec} (h:∀ i,i<3->(f i).1<=K/\(f i).2.2.length<=1800) (hx:x.1<=K/\x.2.2.length<=1800):∀ j,j<3->(upS f i x j).1<=K/\(upS f i x j).2.2.length<=1800:=by
 intro j hj;unfold upS;split
 ·exact hx
 ·exact h j hj
theorem stp_ok {v b:Nat} {k:Bool} {val:List Nat} {s:Mt} (hi:i<3) (h:∀ i,i<3->(s.R i).1<=K/\(s.R i).2.2.length<=1800) (hf:s.l.length+s.F.length<=64) (hb:b<=K) (hv:val.length<=1800) :
  ((∀ i,i<3->((stp v k b val i s).2.R i).1<=K/\((stp v k b val i s).2.R i).2.2.length<=1800)->True)/\(∀ j,j<3->((stp v k b val i s).2.R j).1<=K/\((stp v k b val i s).2.R j).2.2.length<=1800)/\(stp v k b val i s).2.l.length+(stp v k b val i s).2.F.length<=64/\((stp v k b val i s).1.tl<=K/\(stp v k b val i s).1.val.length<=1800)/\(stp v k b val i s).2.F=s.F.tail:=by
 have h1:=tail_len s.F;have h2:=rK_le (k:=k) (val:=val) (h i hi) hb hv;have h3:=rK_le (k:=k) (val:=val) h2 hb hv;have h4:fv s.F≠0->s.F.tail.length+1=s.F.length:=by
  intro h9
  cases hF:s.F with
  | nil=>rw [hF] at h9;exact absurd rfl h9
  | cons z F=>simp
 refine ⟨fun _=>trivial,?_⟩;unfold stp;split
 ·exact ⟨upS_le h h2,by show s.l.length+s.F.tail.length<=64;omega,aK_le (h i hi) hb,rfl⟩
 split
 ·exact ⟨h,by show s.l.length+s.F.tail.length<=64;omega,aN_le _,rfl⟩
 split
 ·exact ⟨upS_le h h2,by show s.l.length+s.F.tail.length<=64;omega,aN_le _,rfl⟩
 split
 ·rename_i h5 _ _ _
  have h6:=h4 h5;exact ⟨h,by show (s.l++[_]).length+s.F.tail.length<=64;rw [lA,List.length_singleton];omega,aN_le _,rfl⟩
 ·exact ⟨upS_le h h3,by show s.l.length+s.F.tail.length<=64;omega,aK_le h2 hb,rfl⟩
theorem stp_m (v:Nat) (k:Bool) (b:Nat) (val:List Nat) (i:Nat) (s:Mt):∃ c,c<=cst k/\(s.F=[]->c=cs1 k)/\(stp v k b val i s).2.m=upS s.m i (s.m i+c):=by
 have h1:=cs1_le k;have h2:∀ {x:Int},fv s.F=x->x≠0->¬ s.F=[]:=fun h9 h8 h7=>by rw [h7] at h9;exact h8 h9.symm
 unfold stp;split
 ·exact ⟨_,h1,fun _=>rfl,rfl⟩
 split
 ·exact ⟨0,Nat.zero_le _,fun h=>absurd h (h2 (by assumption) (by decide)),rfl⟩
 split
 ·exact ⟨_,h1,fun _=>rfl,rfl⟩
 split
 ·exact ⟨0,Nat.zero_le _,fun h=>absurd h (h2 (by assumption) (by decide)),rfl⟩
 ·rename_i h9 _ _ _
  exact ⟨_,nR _,fun h=>absurd (by rw [h];rfl) h9,rfl⟩
theorem akS_m {v b:Nat} {k:Bool} {val:List Nat} {s:Mt}:∀ j i,(akS v k b val s j).m i<=s.m i+cst k/\(j<=i->(akS v k b val s j).m i=s.m i)
 | 0,i=>⟨Nat.le_add_right _ _,fun _=>rfl⟩
 | j+1,i=>by
  obtain ⟨c,h1,_,h2⟩:=stp_m v k b val j (akS v k b val s j)
  have h:(akS v k b val s (j+1)).m=upS (akS v k b val s j).m j ((akS v k b val s j).m j+c):=h2
  obtain ⟨k1,k2⟩:=akS_m (v:=v) (b:=b) (k:=k) (val:=val) (s:=s) j i
  rw [h]
  unfold upS
  by_cases e:i=j
  ·subst e
   rw [if_pos rfl,k2 (nR _)]
   exact ⟨by omega,fun h=>absurd h (by omega)⟩
  ·rw [if_neg e]
   exact ⟨k1,fun h=>k2 (by omega)⟩
theorem akS_ok {v b:Nat} {k:Bool} {val:List Nat} {s:Mt} (h:∀ i,i<3->(s.R i).1<=K/\(s.R i).2.2.length<=1800) (hf:s.l.length+s.F.length<=64) (hb:b<=K) (hv:val.length<=1800):∀ j,j<=3->(∀ i,i<3->((akS v k b val s j).R i).1<=K/\((akS v k b val s j).R i).2.2.length<=1800)/\(akS v k b val s j).l.length+(akS v k b val s j).F.length<=64
 | 0,_=>⟨h,hf⟩
 | j+1,hj=>by
  obtain ⟨h1,h2⟩:=akS_ok h hf hb hv j (by omega)
  obtain ⟨_,h3,h4,_⟩:=stp_ok (v:=v) (k:=k) (val:=val) (i:=j) (by omega) h1 h2 hb hv
  exact ⟨h3,h4⟩
theorem akA_ok {v b:Nat} {k:Bool} {val:List Nat} {s:Mt} (h:∀ i,i<3->(s.R i).1<=K/\(s.R i).2.2.length<=1800) (hf:s.l.length+s.F.length<=64) (hb:b<=K) (hv:val.length<=1800) (j:Nat) (hj:j<3):(akA v k b val s j).tl<=K/\(akA v k b val s j).val.length<=1800:=by
 obtain ⟨h1,h2⟩:=akS_ok (v:=v) (k:=k) h hf hb hv j (by omega);obtain ⟨_,_,_,h5,_⟩:=stp_ok (v:=v) (k:=k) (val:=val) (i:=j) hj h1 h2 hb hv;exact h5
theorem aGm {a:Nat->An} (hp:p<=K):∀ j,(∀ i,i<j->(a i).tl<=K)->prj a p j<=K
 | 0,_=>hp
 | j+1,h=>Nat.max_le.2 ⟨aGm hp j fun i hi=>h i (by omega),h j (by omega)⟩
theorem bst_le {a:Nat->An} (ho:ov.length<=1800):∀ j,(∀ i,i<j->(a i).val.length<=1800)->(bst a ov j).2.length<=1800
 | 0,_=>ho
 | j+1,h=>by
  unfold bst
  split
  ·exact h j (by omega)
  ·exact bst_le ho j fun i hi=>h i (by omega)
theorem bal_le (hp:p<=K) (hw:who<=3):bal p who<=K+8:=by unfold bal;omega
theorem akS_wf [WF] {v b:Nat} {k:Bool} {val:List Nat} {s:Mt} (h:WF.ok s.F):∀ j,WF.ok (akS v k b val s j).F
 | 0=>h
 | j+1=>by
  have h9:(akS v k b val s (j+1)).F=(akS v k b val s j).F.tail:=by
   show (stp v k b val j (akS v k b val s j)).2.F=_;unfold stp;split
   ·rfl
   split
   ·rfl
   split
   ·rfl
   split<;>rfl
  rw [h9];exact WF.tl _ (akS_wf h j)
theorem MtOk.ask [WF] {m v b:Nat} {k:Bool} {val:List Nat} {s:Mt} (h:MtOk K m s) (hb:b<=K+8) (hv:val.length<=1800):MtOk (K+8) (m+cst k) (akS v k b val s 3):=by
 obtain ⟨h1,h2⟩:=akS_ok (v:=v) (k:=k) (val:=val) (fun i hi=>⟨by have:=(h.r i hi).1;omega,(h.r i hi).2⟩) h.f hb hv 3 (by omega);exact ⟨h1,h2,fun i hi=>by have h3:=(akS_m (v:=v) (k:=k) (b:=b) (val:=val) (s:=s) 3 i).1;have:=h.m i hi;omega,akS_wf h.k 3⟩
theorem rK_rK (k:Bool) (b:Nat) (val:List Nat) (r:Rec):rK k b val (rK k b val r)=rK k b val r:=by
 unfold rK
 cases k with
 | true =>
  simp only [if_true];by_cases c:r.1<=b
  ·rw [if_pos c,if_pos (nR _)]
  ·rw [if_neg c,if_neg c]
 | false =>
  simp only [Bool.false_eq_true,if_false];by_cases c:r.1<b
  ·rw [if_pos c,if_neg (Nat.lt_irrefl _)]
  ·rw [if_neg c,if_neg c]
section
variable {B N v b n cp:Nat} {P:NdP} {a:NdS} {W ww:World} {va:Option Addr} {R:Nat->Rec} {val:List Nat}
theorem dt_accl (hR:RL a.l R) (hv:v<=16) (hb1:1<=b) (hb2:b<9223372036854775808) (hlt:b<(R v).1) (hn:n<=1800):DoT B N P W 8 (v:Int) (b:Int) va n cp a a 41 ((R v).1:Int) false 0 0 0 [] ww:=by
 intro S hx hr;letI:Gd:=⟨S⟩;refine nx_reg8 (v:=v) (b:=b) hx hr hv hn fun w9 c u r q1 q2 q3 hb9=>?_
 refine (aH6 r hR hn hv hb1 hb2 hlt).mono ?_;rintro e w' ⟨rfl,c',u',k2,k3,k4,k5,k6,k7⟩;exact ⟨⟨none,0,rfl,BK.nil _ _⟩,⟨c',u',k2,by omega,by omega,by omega⟩,k7⟩
theorem vlR_len (r:Rec):(vlR r).length=vnR r:=by
 unfold vlR vnR
 split<;>rfl
theorem dtK (k:Bool) (hR:RL a.l R) (hs:Srt a.l) (hv:v<=16) (hb1:1<=b) (hb2:b<9223372036854775808) (hN:a.m+30<=N) (hm:a.m<=87) (hn:n<=1800) (hvl:val.length<=1800):∃ (x:NdS) (R':Nat->Rec),RL x.l R'/\Srt x.l/\R' v=rK k b val (R v)/\x.m<=a.m+(if k=true then 2 else 1)/\(k=false->rK false b val (R v)=R v->x=a)/\∀ ww,BK B ww va n cp val->DoT B N P W (kd k) (v:Int) (b:Int) va n cp a x (aK k b (R v)).e ((aK k b (R v)).tl:Int) false 0 ((aK k b (R v)).bl:Int) (aK k b (R v)).val.length (aK k b (R v)).val ww:=by
 cases k with
 | false =>
  by_cases c:(R v).1<b
  ·refine ⟨⟨a.m+1,lP a.l R v b,a.L⟩,_,hR.prep hs hv hb1 hb2 c,aB6 hs,?_,nR _,fun _ h=>?_,fun ww hk=>?_⟩
   ·have e1:rK false b val (R v)=(b,(R v).2.1,(R v).2.2):=by unfold rK;rw [if_neg (by decide),if_pos c]
    rw [e1];exact if_pos rfl
   ·unfold rK at h;rw [if_neg (by decide),if_pos c] at h;have h1:b=(R v).1:=congrArg Prod.fst h;omega
   ·have e1:aK false b (R v)=⟨0,b,(R v).2.1,vlR (R v)⟩:=by unfold aK;rw [if_neg (by decide),if_pos c]
    rw [e1];show DoT B N P W (kd false) (v:Int) (b:Int) va n cp a _ 0 (b:Int) false 0 ((R v).2.1:Int) (vlR (R v)).length (vlR (R v)) ww;rw [vlR_len];exact dt_prep hR hv hb1 hb2 c hN hm hn
  ·refine ⟨a,R,hR,hs,?_,by omega,fun _ _=>rfl,fun ww hk=>?_⟩
   ·unfold rK;rw [if_neg (by decide),if_neg c]
   ·have e1:aK false b (R v)=⟨41,(R v).1,(R v).2.1,vlR (R v)⟩:=by unfold aK;rw [if_neg (by decide),if_neg c]
    rw [e1];show DoT B N P W (kd false) (v:Int) (b:Int) va n cp a _ 41 ((R v).1:Int) false 0 ((R v).2.1:Int) (vlR (R v)).length (vlR (R v)) ww;rw [vlR_len];exact dt_prepl hR hv hb1 hb2 (by omega) hn
 | true =>
  by_cases c:(R v).1<=b
  ·refine ⟨⟨a.m+2,lAcc a.l v b val,a.L⟩,_,hR.acc hs hv hb1 hb2 hvl,aB6 (aB6 hs),?_,nR _,(fun h=>nomatch h),fun ww hk=>?_⟩
   ·have e1:rK true b val (R v)=(b,b,val):=by unfold rK;rw [if_pos rfl,if_pos c]
    rw [e1];exact if_pos rfl
   ·have e1:aK true b (R v)=⟨0,b,0,[]⟩:=by unfold aK;rw [if_pos rfl,if_pos c]
    rw [e1];exact dt_acc hR hv hb1 hb2 c hN hm hn hk
  ·refine ⟨a,R,hR,hs,?_,by omega,(fun h=>nomatch h),fun ww hk=>?_⟩
   ·unfold rK;rw [if_pos rfl,if_neg c]
   ·have e1:aK true b (R v)=⟨41,(R v).1,0,[]⟩:=by unfold aK;rw [if_pos rfl,if_neg c]
    rw [e1];exact dt_accl hR hv hb1 hb2 (by omega) hn
end
theorem aK_e (k:Bool) (b:Nat) (r:Rec):¬ (aK k b r).e=20:=by
 unfold aK
 split<;>split<;>(first | exact fun h=>absurd (show (0:Int)=20 from h) (by decide) | exact fun h=>absurd (show (41:Int)=20 from h) (by decide))
theorem fv_cases (F:List Int):fv F=0\/fv F=1\/fv F=2\/fv F=3\/fv F=4:=by
 cases F with
 | nil=>exact Or.inl rfl
 | cons z F =>
  show fat _=0\/fat _=1\/fat _=2\/fat _=3\/fat _=4;unfold fat
  repeat' split
  all_goals decide
def HN (B N nt gh v:Nat) (P:Nat->NdP) (s:Mt) (W w:World):Prop:=∃ A wv,NSw B N 3 nt gh P A wv s.F s.l W w/\∀ i,i<3->(∃ R,RL (A i).l R/\R v=s.R i)/\(A i).m<=s.m i
section
variable {B N nt gh v b i n cp:Nat} {P:Nat->NdP} {s:Mt} {W w w':World} {k:Bool} {va:Option Addr} {val:List Nat}
theorem HN.later (h:HN B N nt gh v P s W w) (hb:Below w.heap.size w w'):HN B N nt gh v P s W w':=by
 obtain ⟨A,wv,h1,h2⟩:=h;exact ⟨A,wv,h1.later hb,h2⟩
theorem HN.bw (h:HN B N nt gh v P s W w):B<=w.heap.size:=by
 obtain ⟨A,wv,h1,h2⟩:=h;exact h1.bw
theorem aE4 {α:Type} (f:Nat->α) (i:Nat) (x:α):upS f i x i=x:=if_pos rfl
theorem upT_ne {α:Type} (f:Nat->α) {i j:Nat} (x:α) (h:j≠i):upS f i x j=f j:=if_neg h
theorem upT_up {α:Type} (f:Nat->α) (i:Nat) (x y:α):upS (upS f i x) i y=upS f i y:=by
 funext j
 unfold upS
 split<;>rfl
theorem aDs {R:Nat->Rec} {m:Nat->Nat} {x:NdS} {r:Rec} {c:Nat} (h:∀ i,i<3->(∃ R',RL (A i).l R'/\R' v=R i)/\(A i).m<=m i) (hx:∃ R',RL x.l R'/\R' v=r) (hm:x.m<=m i+c):∀ j,j<3->(∃ R',RL (upS A i x j).l R'/\R' v=upS R i r j)/\(upS A i x j).m<=upS m i (m i+c) j:=by
 intro j hj;by_cases e:j=i
 ·subst e;rw [aE4,aE4,aE4];exact ⟨hx,hm⟩
 ·rw [upT_ne _ _ e,upT_ne _ _ e,upT_ne _ _ e];exact h j hj
theorem nodes_m {R:Nat->Rec} {m:Nat->Nat} {c:Nat} (h:∀ i,i<3->(∃ R',RL (A i).l R'/\R' v=R i)/\(A i).m<=m i):∀ j,j<3->(∃ R',RL (A j).l R'/\R' v=R j)/\(A j).m<=upS m i (m i+c) j:=by
 intro j hj;refine ⟨(h j hj).1,?_⟩;have h1:=(h j hj).2;by_cases e:j=i
 ·subst e;rw [aE4];omega
 ·rw [upT_ne _ _ e];exact h1
def CaT (B N nt gh v:Nat) (P:Nat->NdP) (a:An) (s:Mt) (W w:World) (e:Ending) (w':World):Prop:=(∃ (tk:Bool) (ae:Int) (sa:Option Addr) (sc:Nat),e=.returned (.tuple #[.agg #[.int .i64 ae,.int .i64 (a.tl:Int),.bool false,.int .i64 0,.int .i64 (a.bl:Int),.slice sa a.val.length sc],.bool tk])/\BK B w' sa a.val.length sc a.val/\((tk=true/\ae=a.e)\/(tk=false/\ae=0/\a.e=40)))/\HN B N nt gh v P s W w'/\NsF B w w'
theorem CaT.none {s':Mt} {e:Ending} (he:e=.returned (.tuple #[.agg #[.int .i64 0,.int .i64 0,.bool false,.int .i64 0,.int .i64 0,.slice none 0 0],.bool false])) (h:HN B N nt gh v P s' W w') (hf:NsF B w w'):CaT B N nt gh v P aN s' W w e w':=⟨⟨false,0,Option.none,0,he,BK.nil _ _,Or.inr ⟨rfl,rfl,rfl⟩⟩,h,hf⟩
class WC [WF]:Prop where
 call:∀ {B N nt gh v b i n cp:Nat} {P:Nat->NdP} {s:Mt} {W w:World} {k:Bool} {va:Option Addr} {val:List Nat},HN B N nt gh v P s W w->WF.ok s.F->(fv s.F=3\/fv s.F=4)->i<3->v<=16->1<=b->b<9223372036854775808->BK B w va n cp val->n<=1800->s.m i<=83->s.m i+34<=N->s.l.length+s.F.length<=64->Calls prog 48 #[.pointer (some ⟨nt,0,none⟩),.int .i64 (i:Int),.agg #[.int .i64 (kd k),.int .i64 (v:Int),.int .i64 (b:Int),.slice va n cp]] w fun e w'=>CaT B N nt gh v P (stp v k b val i s).1 (stp v k b val i s).2 W w e w'
theorem HN.call [WF] [WC] (h:HN B N nt gh v P s W w) (hwf:WF.ok s.F) (hi:i<3) (hv:v<=16) (hb1:1<=b) (hb2:b<9223372036854775808) (hk:BK B w va n cp val) (hn:n<=1800) (hm:s.m i<=83) (hN:s.m i+34<=N) (hl:s.l.length+s.F.length<=64) :
  Calls prog 48 #[.pointer (some ⟨nt,0,none⟩),.int .i64 (i:Int),.agg #[.int .i64 (kd k),.int .i64 (v:Int),.int .i64 (b:Int),.slice va n cp]] w fun e w'=>CaT B N nt gh v P (stp v k b val i s).1 (stp v k b val i s).2 W w e w':=by
 by_cases hx34:fv s.F=3\/fv s.F=4
 ·exact WC.call h hwf hx34 hi hv hb1 hb2 hk hn hm hN hl
 obtain ⟨A,wv,h1,h2⟩:=h;obtain ⟨⟨R,hR,hRv⟩,hAm⟩:=h2 i hi;have hvl:val.length<=1800:=by have:=hk.1.hlen;omega
 obtain ⟨x,R1,x1,x2,x3,x4,x5,x6⟩:=dtK (B:=B) (N:=N) (P:=P i) (W:=W) (n:=n) (cp:=cp) (va:=va) (val:=val) k hR (h1.srt hi) hv hb1 hb2 (by omega) (by omega) hn hvl;have c4:(if k=true then 2 else 1)=cs1 k:=rfl;rw [hRv] at x3 x5 x6;unfold stp;rcases fv_cases s.F with f | f | f | f | f
 ·rw [if_pos f];refine (h1.call0 (x:=x) (k:=kd k) (lg:=(v:Int)) (at_:=(b:Int)) (va:=va) (n:=n) (cp:=cp) hi (by decide) f (aK_e _ _ _) (fun ww hw=>x6 ww (hk.ft hw))).mono ?_;rintro e w' ⟨⟨sa,sc,rfl,q1⟩,wv',q2,q3⟩;exact ⟨⟨true,_,sa,sc,rfl,q1,Or.inl ⟨rfl,rfl⟩⟩,⟨_,wv',q2,aDs h2 ⟨R1,x1,x3⟩ (by omega)⟩,q3⟩
 ·rw [if_neg (by rw [f];decide),if_pos f];refine (h1.call1 (k:=kd k) (lg:=(v:Int)) (at_:=(b:Int)) (va:=va) (n:=n) (cp:=cp) hi (by decide) f).mono ?_;rintro e w' ⟨he,wv',q2,q3⟩;exact CaT.none he ⟨_,wv',q2,nodes_m h2⟩ q3
 ·rw [if_neg (by rw [f];decide),if_neg (by rw [f];decide),if_pos f];refine (h1.call2 (x:=x) (k:=kd k) (lg:=(v:Int)) (at_:=(b:Int)) (va:=va) (n:=n) (cp:=cp) hi (by decide) f (aK_e _ _ _) (fun ww hw=>x6 ww (hk.ft hw))).mono ?_;rintro e w' ⟨he,wv',q2,q3⟩;exact CaT.none he ⟨_,wv',q2,aDs h2 ⟨R1,x1,x3⟩ (by omega)⟩ q3
 ·exact absurd (Or.inl f) hx34
 ·exact absurd (Or.inr f) hx34
end
theorem info_late5:(prog.info? 70).map (·.size)=some 5:=by kernel_rfl
theorem results_late {p u:Tmp} (h:fn.results=#[.cell p 70,.tmp u]) (tmps:Array Value) (w:World) (g:Nat) (cs:Array Value)
  (hp:tmps.getD p undef=.pointer (some ⟨g,0,none⟩)) (hg:w.heap[g]?=some (.cells cs 70 (0,0))) (hz:cs.size=5) :
  (results fn tmps).run prog w=.ok (.tuple #[.agg cs,tmps.getD u undef]) w:=by
 have hi:(prog.info? 70).map (·.size)=some cs.size:=by rw [hz];exact info_late5
 rw [results_cell_tmp h,hp];simp only [asAddr,Sem.run_pure,Result.andThen_ok,run_loadVar_row w g 70 70 cs (0,0) _ hg underlying70 rfl hi]
theorem set5 {a0 a1 a2 a3 a4:Value} {t:TypeId} (h:w.heap[g]?=some (.cells #[a0,a1,a2,a3,a4] t (0,0))):(((((w.setCell ⟨g,0,none⟩ b0).setCell ⟨g,1,none⟩ b1).setCell ⟨g,2,none⟩ b2).setCell ⟨g,3,none⟩ b3).setCell ⟨g,4,none⟩ b4).heap[g]?=some (.cells #[b0,b1,b2,b3,b4] t (0,0)):=(heap_setCell_same _ _ _ _ _ _ (heap_setCell_same _ _ _ _ _ _ (heap_setCell_same _ _ _ _ _ _ (heap_setCell_same _ _ _ _ _ _ (heap_setCell_same _ _ _ _ _ _ h)))))
theorem oth5 {k:Nat} (hne:k≠g):(((((w.setCell ⟨g,0,none⟩ b0).setCell ⟨g,1,none⟩ b1).setCell ⟨g,2,none⟩ b2).setCell ⟨g,3,none⟩ b3).setCell ⟨g,4,none⟩ b4).heap[k]?=w.heap[k]?:=by
 rw [heap_setCell_other _ _ _ _ hne,heap_setCell_other _ _ _ _ hne,heap_setCell_other _ _ _ _ hne,heap_setCell_other _ _ _ _ hne,heap_setCell_other _ _ _ _ hne]
theorem bel5 (hb:Below B w0 w) (hg:B<=g):Below B w0 (((((w.setCell ⟨g,0,none⟩ b0).setCell ⟨g,1,none⟩ b1).setCell ⟨g,2,none⟩ b2).setCell ⟨g,3,none⟩ b3).setCell ⟨g,4,none⟩ b4):=((((hb.setCell (p:=⟨g,0,none⟩) hg _).setCell (p:=⟨g,1,none⟩) hg _).setCell (p:=⟨g,2,none⟩) hg _).setCell (p:=⟨g,3,none⟩) hg _).setCell (p:=⟨g,4,none⟩) hg _
theorem lrF_one:∀ (l:List LR) (vs:List Value),(∀ (i:Nat) x v,l[i]?=some x->vs[i]?=some v->v.oneCell'=true)->∀ u∈lrF l vs,u.oneCell'=true
 | [],_,_,u,hu=>by simp [lrF] at hu
 | _::_,[],_,u,hu=>by simp [lrF] at hu
 | x::l,v::vs,h,u,hu=>by
  have hu':u∈lrC x v++lrF l vs:=hu
  rcases List.mem_append.1 hu' with h1 | h1
  ·simp only [lrC,List.mem_cons,List.not_mem_nil,or_false] at h1
   rcases h1 with rfl | rfl | rfl | rfl | rfl
   ·rfl
   ·rfl
   ·rfl
   ·rfl
   ·exact h 0 x u rfl rfl
  ·exact lrF_one l vs (fun i y z e1 e2=>h (i+1) y z e1 e2) u h1
theorem ntake_ok {l:List LR} {x:LR} (h:NTM w nt gh M wv lv) (hB:B<=nt) (hBw:B<=w.heap.size) (hl:LTV B w lv l) (hl6:l.length<=64) (hx:l[i]?=some x) :
  Calls prog 26 #[.pointer (some ⟨nt,0,none⟩),.int .i64 (i:Int)] w fun e w'=>∃ a c lv',e=.returned (.tuple #[.agg #[.int .i64 (x.nd:Int),.int .i64 x.k,.int .i64 x.lg,.int .i64 x.at_,.slice a x.val.length c],.int .i64 0])/\BK B w' a x.val.length c x.val/\NTM w' nt gh M wv lv'/\LTV B w' lv' (l.eraseIdx i)/\Below B w w'/\∀ k,k<w.heap.size->k≠nt->lv.ownBlock≠some k->w'.heap[k]?=w.heap[k]?:=by
 have hil:i<l.length:=(lL hx);obtain ⟨vs,q1,q2,q3⟩:=hl;obtain ⟨v,hv⟩:∃ v,vs[i]?=some v:=⟨_,gE (by omega)⟩;obtain ⟨a,c,rfl,hbk⟩:=q3 i x v hx hv;rcases q2.2 with ⟨_,e0⟩ | ⟨g,C,cur,rfl,hgB,hg,hnc,hcm,hcs,ht⟩
 ·omega
 have hcell:∀ j u,j<5->(lrC x (.slice a x.val.length c))[j]?=some u->cur[i*5+j]?=some u:=fun j u hj hu=>by
  have h9:=lrF_get q1 hx hv j hj;rw [hu,<-ht,List.getElem?_take_of_lt (by omega)] at h9;simpa using h9
 have hne:nt≠g:=by
  intro e;subst e;have h9:w.heap[nt]?=_:=h;rw [h9] at hg;simp only [oI,cI] at hg;exact absurd hg.2.1 (by decide)
 have HBX:=zH (aAc w (.cells #[.int .i64 0,.int .i64 0,.int .i64 0,.int .i64 0,.slice none 0 0] 70));have HBY:=zH (aAc (w.alloc (.cells #[.int .i64 0,.int .i64 0,.int .i64 0,.int .i64 0,.slice none 0 0] 70)) (.cells #[.int .i64 (x.nd:Int),.int .i64 x.k,.int .i64 x.lg,.int .i64 x.at_,.slice a x.val.length c] 70));have HZ1:=zH (heap_alloc_new w (.cells #[.int .i64 0,.int .i64 0,.int .i64 0,.int .i64 0,.slice none 0 0] 70));have HX2:Hid (((w.alloc (.cells #[.int .i64 0,.int .i64 0,.int .i64 0,.int .i64 0,.slice none 0 0] 70)).alloc (.cells #[.int .i64 (x.nd:Int),.int .i64 x.k,.int .i64 x.lg,.int .i64 x.at_,.slice a x.val.length c] 70)).heap[w.heap.size+1]?=some (.cells #[.int .i64 (x.nd:Int),.int .i64 x.k,.int .i64 x.lg,.int .i64 x.at_,.slice a x.val.length c] 70 (0,0))):=aAf [Obj.cells #[.int .i64 0,.int .i64 0,.int .i64 0,.int .i64 0,.slice none 0 0] 70,Obj.cells #[.int .i64 (x.nd:Int),.int .i64 x.k,.int .i64 x.lg,.int .i64 x.at_,.slice a x.val.length c] 70] w 1 _ rfl;have HB2:Hid (Below w.heap.size w ((w.alloc (.cells #[.int .i64 0,.int .i64 0,.int .i64 0,.int .i64 0,.slice none 0 0] 70)).alloc (.cells #[.int .i64 (x.nd:Int),.int .i64 x.k,.int .i64 x.lg,.int .i64 x.at_,.slice a x.val.length c] 70))):=HBX.o.trans (HBY.o.mono HBX.o.size);have HZ2:Hid (((w.alloc (.cells #[.int .i64 0,.int .i64 0,.int .i64 0,.int .i64 0,.slice none 0 0] 70)).alloc (.cells #[.int .i64 (x.nd:Int),.int .i64 x.k,.int .i64 x.lg,.int .i64 x.at_,.slice a x.val.length c] 70)).heap[w.heap.size]?=some (.cells #[.int .i64 0,.int .i64 0,.int .i64 0,.int .i64 0,.slice none 0 0] 70 (0,0))):=(HBY.o.block _ (lO HZ1.o)).trans HZ1.o;have HT2:=zH ((HB2.o.block nt (lO h)).trans h);have HG2:=zH ((HB2.o.block g (lO hg)).trans hg);have HK2:=zH (hbk.later HB2.o hBw);have HQ2:Hid (∀ (i':Nat) x' v',l[i']?=some x'->vs[i']?=some v'->∃ a' c',v'=.slice a' x'.val.length c'/\BK B ((w.alloc (.cells #[.int .i64 0,.int .i64 0,.int .i64 0,.int .i64 0,.slice none 0 0] 70)).alloc (.cells #[.int .i64 (x.nd:Int),.int .i64 x.k,.int .i64 x.lg,.int .i64 x.at_,.slice a x.val.length c] 70)) a' x'.val.length c' x'.val):=fun i' x' v' e1 e2=>by
  obtain ⟨a',c',e3,e4⟩:=q3 i' x' v' e1 e2;exact ⟨a',c',e3,e4.later HB2.o hBw⟩
 have HON:Hid (∀ u∈cur.toList.take (l.length*5),u.oneCell'=true):=by
  show ∀ u∈cur.toList.take (l.length*5),u.oneCell'=true;rw [ht];refine lrF_one l vs fun i' x' v' e1 e2=>?_
  obtain ⟨a',c',e3,e4⟩:=q3 i' x' v' e1 e2;rw [e3];rfl
 have HQ1:=zH q1;have HHT:=zH ht;have HCS:=zH hcs;have HLT:Hid (nt<w.heap.size/\g<w.heap.size):=⟨lO h,lO hg⟩;have HB:=zH hB;have HBW:=zH hBw;have HGB:=zH hgB;have HNE:=zH hne;have HNC:=zH hnc;have HCC:=zH hcm;have HCM:Hid (C<=9223372036854775807):=by show C<=_;unfold maxLen at hcm;omega
 have x0:¬ (i:Int)<0:=by omega
 have x1:¬ (l.length:Int)<=(i:Int):=by omega
 have x2:(i:Int)<(l.length:Int):=by omega
 have x3:(0:Int)<=(i:Int):=by omega
 have HT1:=zH ((HBX.o.block nt (lO h)).trans h);have HG1:=zH ((HBX.o.block g (lO hg)).trans hg);have c2:(w.alloc (.cells #[.int .i64 0,.int .i64 0,.int .i64 0,.int .i64 0,.slice none 0 0] 70)).cell? ⟨nt,2,none⟩=some (.slice (some ⟨g,0,none⟩) l.length C):=aAa HT1.o;have e00:(w.alloc (.cells #[.int .i64 0,.int .i64 0,.int .i64 0,.int .i64 0,.slice none 0 0] 70)).cell? ⟨g,i*5,none⟩=some (.int .i64 (x.nd:Int)):=(aAa HG1.o).trans (hcell 0 _ (by decide) rfl);have e1:(w.alloc (.cells #[.int .i64 0,.int .i64 0,.int .i64 0,.int .i64 0,.slice none 0 0] 70)).cell? ⟨g,i*5+1,none⟩=some (.int .i64 x.k):=(aAa HG1.o).trans (hcell 1 _ (by decide) rfl);have e2:(w.alloc (.cells #[.int .i64 0,.int .i64 0,.int .i64 0,.int .i64 0,.slice none 0 0] 70)).cell? ⟨g,i*5+2,none⟩=some (.int .i64 x.lg):=(aAa HG1.o).trans (hcell 2 _ (by decide) rfl);have e3:(w.alloc (.cells #[.int .i64 0,.int .i64 0,.int .i64 0,.int .i64 0,.slice none 0 0] 70)).cell? ⟨g,i*5+3,none⟩=some (.int .i64 x.at_):=(aAa HG1.o).trans (hcell 3 _ (by decide) rfl);have e4:(w.alloc (.cells #[.int .i64 0,.int .i64 0,.int .i64 0,.int .i64 0,.slice none 0 0] 70)).cell? ⟨g,i*5+4,none⟩=some (.slice a x.val.length c):=(aAa HG1.o).trans (hcell 4 _ (by decide) rfl);clear h hB hBw q1 q2 q3 hx hv hbk hg ht hcs hcm hne hnc hgB hcell;go_enter func26,ntmps26;go_upto_region 4 with fail;clear c2 e00 e1 e2 e3 e4 HBX HBY HZ1 HT1 HG1;generalize (w.alloc (.cells #[.int .i64 0,.int .i64 0,.int .i64 0,.int .i64 0,.slice none 0 0] 70)).alloc (.cells #[.int .i64 (x.nd:Int),.int .i64 x.k,.int .i64 x.lg,.int .i64 x.at_,.slice a x.val.length c] 70)=w2 at *
 generalize hn0:w.heap.size=n0 at *
 generalize hn1:n0+1=n1 at *
 have HN1:Hid (n0<n1):=by show n0<n1;omega
 have hwr:IntKind.i64.wrap ((i:Int)+1)=((i+1:Nat):Int):=by rw [show ((i+1:Nat):Int)=(i:Int)+1 by omega];exact wrap_small _ (by omega) (by omega)
 have HDL:=zH (ldel_ok (w:=w2) (g:=g) (L:=l.length) (C:=C) (i:=i) (cs:=cur.toList) (by rw [Array.toArray_toList];exact HG2.o) (by rw [Array.length_toList];exact HCS.o) HNC.o HCM.o hil HON.o);have c2:w2.cell? ⟨nt,2,none⟩=some (.slice (some ⟨g,0,none⟩) l.length C):=aAa HT2.o;have hcst:((i+1:Nat):Int)=(i:Int)+1:=by omega
 go_wp2_with fail;refine HDL.o.mono ?_;rintro e w3 ⟨rfl,hg3,ho3,hb3⟩;have HT3:Hid (w3.heap[nt]?=_):=(ho3 nt HNE.o).trans HT2.o;have HG3:=zH hg3;have hn0g:n0≠g:=by have:=HLT.o.2;omega
 have hn1g:n1≠g:=by have:=HLT.o.2;omega
 have HZ3:Hid (w3.heap[n0]?=_):=(ho3 n0 hn0g).trans HZ2.o;have HX3:Hid (w3.heap[n1]?=_):=(ho3 (n1) hn1g).trans HX2.o;have hb3':Below B w2 w3:=⟨(hb3 B HGB.o).os,(hb3 B HGB.o).tape,(hb3 B HGB.o).output,(hb3 B HGB.o).size,(hb3 B HGB.o).block⟩
 have HF3:Hid (FT B w2 w3):=⟨hb3',fun k' cs' fz' e'=>(ho3 k' (fun e''=>by
  subst e'';rw [HG2.o] at e';simp only [oI,cI] at e'
  exact absurd e'.2.1 (by decide))).trans e'⟩
 have HS3:Hid (∀ k',k'≠g->w3.heap[k']?=w2.heap[k']?):=fun k' h9=>ho3 k' h9
 clear hg3 ho3 hb3 hb3' hn0g hn1g c2 HDL;have y2:w3.cell? ⟨nt,2,none⟩=some (.slice (some ⟨g,0,none⟩) l.length C):=aAa HT3.o;have yf2:w3.frozen? ⟨nt,2,none⟩=false:=aAb HT3.o;have hn0t:n0≠nt:=by have:=HLT.o.1;omega
 have hn1t:n1≠nt:=by have:=HLT.o.1;omega
 have HT4:Hid ((w3.setCell ⟨nt,2,none⟩ (.slice (some ⟨g,0,none⟩) (l.length-1) C)).heap[nt]?=some (.cells #[.slice (some ⟨gh,0,none⟩) M M,wv,.slice (some ⟨g,0,none⟩) (l.length-1) C] 45 (0,0))):=heap_setCell_same _ _ _ _ _ _ HT3.o;have HG4:Hid ((w3.setCell ⟨nt,2,none⟩ (.slice (some ⟨g,0,none⟩) (l.length-1) C)).heap[g]?=_):=(heap_setCell_other _ _ _ _ (Ne.symm HNE.o)).trans HG3.o;have HZ4:Hid ((w3.setCell ⟨nt,2,none⟩ (.slice (some ⟨g,0,none⟩) (l.length-1) C)).heap[n0]?=_):=(heap_setCell_other _ _ _ _ hn0t).trans HZ3.o;have HX4:Hid ((w3.setCell ⟨nt,2,none⟩ (.slice (some ⟨g,0,none⟩) (l.length-1) C)).heap[n1]?=_):=(heap_setCell_other _ _ _ _ hn1t).trans HX3.o;have HF4:Hid (FT B w2 (w3.setCell ⟨nt,2,none⟩ (.slice (some ⟨g,0,none⟩) (l.length-1) C))):=HF3.o.trans (ft1 HT3.o (by decide) HB.o);have HS4:Hid (∀ k',k'≠g->k'≠nt->(w3.setCell ⟨nt,2,none⟩ (.slice (some ⟨g,0,none⟩) (l.length-1) C)).heap[k']?=w2.heap[k']?):=fun k' h9 h8=>(heap_setCell_other _ _ _ _ h8).trans (HS3.o k' h9)
 clear hn0t hn1t HT3 HG3 HZ3 HX3 HF3 HS3;go_upto_region 5 with fail;generalize (w3.setCell ⟨nt,2,none⟩ (.slice (some ⟨g,0,none⟩) (l.length-1) C))=w4 at *
 clear y2 yf2;have u0:w4.cell? ⟨n1,0,none⟩=some (.int .i64 (x.nd:Int)):=aAa HX4.o;have u1:w4.cell? ⟨n1,1,none⟩=some (.int .i64 x.k):=aAa HX4.o;have u2:w4.cell? ⟨n1,2,none⟩=some (.int .i64 x.lg):=aAa HX4.o;have u3:w4.cell? ⟨n1,3,none⟩=some (.int .i64 x.at_):=aAa HX4.o;have u4:w4.cell? ⟨n1,4,none⟩=some (.slice a x.val.length c):=aAa HX4.o;have z0:w4.cell? ⟨n0,0,none⟩=some (.int .i64 0):=aAa HZ4.o;have zf0:w4.frozen? ⟨n0,0,none⟩=false:=aAb HZ4.o;have z1:w4.cell? ⟨n0,1,none⟩=some (.int .i64 0):=aAa HZ4.o;have zf1:w4.frozen? ⟨n0,1,none⟩=false:=aAb HZ4.o;have z2:w4.cell? ⟨n0,2,none⟩=some (.int .i64 0):=aAa HZ4.o;have zf2:w4.frozen? ⟨n0,2,none⟩=false:=aAb HZ4.o;have z3:w4.cell? ⟨n0,3,none⟩=some (.int .i64 0):=aAa HZ4.o;have zf3:w4.frozen? ⟨n0,3,none⟩=false:=aAb HZ4.o;have z4:w4.cell? ⟨n0,4,none⟩=some (.slice none 0 0):=aAa HZ4.o;have zf4:w4.frozen? ⟨n0,4,none⟩=false:=aAb HZ4.o;go_wp2;(try simp only [Exit.inBlock,Exit.then]);have hB0:B<=n0:=HBW.o
 have HF5:Hid (FT B w4 (((((w4.setCell ⟨n0,0,none⟩ (.int .i64 (x.nd:Int))).setCell ⟨n0,1,none⟩ (.int .i64 x.k)).setCell ⟨n0,2,none⟩ (.int .i64 x.lg)).setCell ⟨n0,3,none⟩ (.int .i64 x.at_)).setCell ⟨n0,4,none⟩ (.slice a x.val.length c))):=⟨bel5 (Below.refl _ _) hB0,fun k' cs' fz' e'=>(oth5 (fun e''=>by
  subst e'';rw [HZ4.o] at e';simp only [oI,cI] at e'
  exact absurd e'.2.1 (by decide))).trans e'⟩
 have HF6:=zH (HF4.o.trans HF5.o);have hn0t:nt≠n0:=by have:=HLT.o.1;omega
 have hn0g:g≠n0:=by have:=HLT.o.2;omega
 refine bodyPost_ret (results_late (u:=5) (p:=4) rfl _ _ n0 _ rfl (set5 HZ4.o) rfl) rfl ?_;refine ⟨a,c,_,rfl,HK2.o.ft HF6.o,(oth5 hn0t).trans HT4.o,⟨vs.eraseIdx i,?_,⟨?_,Or.inr ⟨g,C,_,?_,HGB.o,(oth5 hn0g).trans HG4.o,?_,HCC.o,?_,?_⟩⟩,?_⟩,(HB2.o.mono hB0).trans HF6.o.1,?_⟩
 ·rw [List.length_eraseIdx_of_lt hil,List.length_eraseIdx_of_lt (by rw [HQ1.o];exact hil),HQ1.o]
 ·exact lrF_len _ _ (by rw [List.length_eraseIdx_of_lt hil,List.length_eraseIdx_of_lt (by rw [HQ1.o];exact hil),HQ1.o])
 ·rw [List.length_eraseIdx_of_lt hil]
 ·rw [List.length_eraseIdx_of_lt hil];have:=HNC.o;omega
 ·have h9:cur.toList.length=C*5:=by rw [Array.length_toList];exact HCS.o
  have:=HNC.o;simp only [List.size_toArray,lA,List.length_take,List.length_drop,h9];show _+5+_=_;omega
 ·have h9:cur.toList.length=C*5:=by rw [Array.length_toList];exact HCS.o
  have:=HNC.o;rw [List.length_eraseIdx_of_lt hil,<-lrF_erase l vs i HQ1.o,<-HHT.o,List.take_take,Nat.min_eq_left (by omega)];show List.take _ (_++_++_++_)=_;rw [List.append_assoc (_++_)];refine List.take_left' ?_;simp only [lA,List.length_take,List.length_drop,h9];omega
 ·intro i' x' v' e1 e2;rw [List.getElem?_eraseIdx] at e1 e2;by_cases h9:i'<i
  ·rw [if_pos h9] at e1 e2;obtain ⟨a',c',e3,e4⟩:=HQ2.o i' x' v' e1 e2;exact ⟨a',c',e3,e4.ft HF6.o⟩
  ·rw [if_neg h9] at e1 e2;obtain ⟨a',c',e3,e4⟩:=HQ2.o (i'+1) x' v' e1 e2;exact ⟨a',c',e3,e4.ft HF6.o⟩
 ·intro k' h1 h2 h3;refine (oth5 (by omega)).trans ((HS4.o k' (fun e=>h3 (by rw [e];rfl)) h2).trans (HB2.o.block k' (by omega)))
theorem LTV.stay {B:Nat} {w w':World} {lv:Value} {l:List LR} (h:LTV B w lv l) (hk:NdK w w') (hb:Below B w w'):LTV B w' lv l:=by
 obtain ⟨vs,q1,q2,q3⟩:=h;have hf:FT B w w':=⟨hb,fun k cs fz e=>hk k cs _ fz e (by decide) (by decide) (by decide) (by decide)⟩;refine ⟨vs,q1,aAl q2 fun k cs _ e=>hk k cs _ _ e (by decide) (by decide) (by decide) (by decide),fun i x v e1 e2=>?_⟩;obtain ⟨a,c,e3,e4⟩:=q3 i x v e1 e2;exact ⟨a,c,e3,e4.ft hf⟩
theorem deliver_ok (h:MND B N M P A E W w) {nt gh i:Nat} {wv lv:Value} {l:List LR} {x:LR} {y:NdS} {hc:Array Value} {e0 tl tr bl:Int} {sl:Bool} {vn:Nat} {val:List Nat} (hn:NTM w nt gh M wv lv) (hB:B<=nt) (hBw:B<=w.heap.size) (hl:LTV B w lv l) (hl6:l.length<=64) (hx:l[i]?=some x) (hM:x.nd<M) (hM6:M<=64) (hh:w.heap[gh]?=some (.cells hc 51 (0,0))) (hcc:hc[x.nd*2+1]?=some (.pointer (some ⟨(P x.nd).nd,0,none⟩))) (he:¬ e0=20) (hEt:∀ k,E k->k≠nt/\lv.ownBlock≠some k/\k<w.heap.size)
  (hdo:∀ ww va cp,Below B w ww->BK B ww va x.val.length cp x.val->DoT B N (P x.nd) W x.k x.lg x.at_ va x.val.length cp (A x.nd) y e0 tl sl tr bl vn val ww) :
  Calls prog 15 #[.pointer (some ⟨nt,0,none⟩),.int .i64 (i:Int)] w fun e w'=>e=.returned (.int .i64 0)/\∃ lv',MND B N M P (upS A x.nd y) E W w'/\NTM w' nt gh M wv lv'/\LTV B w' lv' (l.eraseIdx i)/\w'.heap[gh]?=some (.cells hc 51 (0,0))/\Below B w w'/\(∀ k,E k->w'.heap[k]?=w.heap[k]?)/\NsF B w w':=by
 obtain ⟨vs,q1,q2,q3⟩:=hl;have hL:LTV B w lv l:=⟨vs,q1,q2,q3⟩;have HTK:=zH (ntake_ok hn hB hBw hL hl6 hx);have hgn:gh≠nt:=fun e=>by
  subst e;have h9:w.heap[gh]?=_:=hn;rw [hh] at h9;simp only [oI,cI] at h9;exact absurd h9.2.1 (by decide)
 have hgl:lv.ownBlock≠some gh:=fun e=>by
  obtain ⟨_,cur,h9⟩:=aAm q2 e;rw [hh] at h9;simp only [oI,cI] at h9;exact absurd h9.2.1 (by decide)
 have HTT:Hid (∀ k,(k=nt\/lv.ownBlock=some k)->∃ cs t fz,w.heap[k]?=some (Obj.cells cs t fz)/\¬ DTy t/\t≠5/\t≠183/\t≠130/\t≠115/\t≠135):=fun k hk=>by
  rcases hk with rfl | hk
  ·exact ⟨_,_,_,hn,by unfold DTy;decide,by decide,by decide,by decide,by decide,by decide⟩
  ·obtain ⟨_,cur,h9⟩:=aAm q2 hk;exact ⟨_,_,_,h9,by unfold DTy;decide,by decide,by decide,by decide,by decide,by decide⟩
 have HNE:Hid (∀ (k:Nat) (cs:Array Value) (t:TypeId) (fz:Nat×Nat),w.heap[k]?=some (Obj.cells cs t fz)->(t≠45/\t≠70)->k≠nt/\lv.ownBlock≠some k):=fun k cs t fz e n=>by
  refine ⟨fun e3=>?_,fun e3=>?_⟩
  ·subst e3;have h9:w.heap[k]?=_:=hn;rw [h9] at e;simp only [oI,cI] at e;exact n.1 e.2.1.symm
  ·obtain ⟨_,cur,h9⟩:=aAm q2 e3;rw [h9] at e;simp only [oI,cI] at e;exact n.2 e.2.1.symm
 have HM:=zH h;have HH:=zH hh;have HCC:=zH hcc;have HE:=zH hEt;have HDO:=zH hdo;have HG:Hid (gh≠nt/\lv.ownBlock≠some gh):=⟨hgn,hgl⟩;have HX:=zH hM;have HBW:=zH hBw;have HBN:=zH hB;have xx:(x.nd:Int)<(M:Int):=by omega
 have xx0:(0:Int)<=(x.nd:Int):=by omega
 have xx1:¬ (x.nd:Int)<0:=by omega
 clear h hh hcc hEt hdo hgn hgl hBw hB hL q1 q2 q3 hx hn hM;go_enter func15,ntmps15;go_wp2_with fail;refine HTK.o.mono ?_;rintro e w1 ⟨a,c,lv',rfl,hk1,hn1,hl1,hb1,hs1⟩;have HM1:=zH (HM.o.oth (fun k=>k=nt\/lv.ownBlock=some k) HTT.o (fun k h1 h2=>hs1 k h1 (fun e=>h2 (Or.inl e)) (fun e=>h2 (Or.inr e))) hb1);have HH1:=zH ((hs1 gh (lO HH.o) HG.o.1 HG.o.2).trans HH.o);have HE1:Hid (∀ k,E k->w1.heap[k]?=w.heap[k]?):=fun k hk=>hs1 k (HE.o k hk).2.2 (HE.o k hk).1 (HE.o k hk).2.1
 have HNF1:Hid (NsF B w w1):=⟨hb1,fun k cs t fz e _ _ _ _ n5=>(hs1 k (lO e) (HNE.o k cs t fz e n5).1 (HNE.o k cs t fz e n5).2).trans e⟩;have HK1:=zH hk1;have HN1:=zH hn1;have HL1:=zH hl1;have HB1:=zH hb1;have HBS:Hid (B<=w1.heap.size):=by show B<=_;have:=hb1.size;have:=HBW.o;omega
 have HEL:Hid (∀ k,E k->k<w1.heap.size):=fun k hk=>by
  have h9:=HE1.o k hk;rw [Array.getElem?_eq_getElem (HE.o k hk).2.2] at h9;exact lO h9
 clear hk1 hn1 hl1 hb1 hs1 HTK HM HH HTT;have HBX:=zH (aAc w1 (.cells #[.int .i64 (x.nd:Int),.int .i64 x.k,.int .i64 x.lg,.int .i64 x.at_,.slice a x.val.length c] 70));have HX2:Hid ((w1.alloc (.cells #[.int .i64 (x.nd:Int),.int .i64 x.k,.int .i64 x.lg,.int .i64 x.at_,.slice a x.val.length c] 70)).heap[w1.heap.size]?=some (.cells #[.int .i64 (x.nd:Int),.int .i64 x.k,.int .i64 x.lg,.int .i64 x.at_,.slice a x.val.length c] 70 (0,0))):=heap_alloc_new w1 _;have HN2:=zH (HN1.o.later HBX.o);have HM2:=zH (HM1.o.later HBX.o HBS.o);have HH2:=zH ((HBX.o.block gh (lO HH1.o)).trans HH1.o);have HK2:=zH (HK1.o.later HBX.o HBS.o);have HL2:=zH (HL1.o.stay (NdK.of HBX.o) (HBX.o.mono HBS.o));have HB2:Hid (Below B w (w1.alloc (.cells #[.int .i64 (x.nd:Int),.int .i64 x.k,.int .i64 x.lg,.int .i64 x.at_,.slice a x.val.length c] 70))):=HB1.o.trans (HBX.o.mono HBS.o);have HNF2:Hid (NsF B w (w1.alloc (.cells #[.int .i64 (x.nd:Int),.int .i64 x.k,.int .i64 x.lg,.int .i64 x.at_,.slice a x.val.length c] 70))):=HNF1.o.trans (NsF.of HBX.o HBS.o);have HBT:Hid (B<=(w1.alloc (.cells #[.int .i64 (x.nd:Int),.int .i64 x.k,.int .i64 x.lg,.int .i64 x.at_,.slice a x.val.length c] 70)).heap.size):=by show B<=_;have:=HBX.o.size;have:=HBS.o;omega
 have HEL2:Hid (∀ k,E k->k<(w1.alloc (.cells #[.int .i64 (x.nd:Int),.int .i64 x.k,.int .i64 x.lg,.int .i64 x.at_,.slice a x.val.length c] 70)).heap.size):=fun k hk=>Nat.lt_of_lt_of_le (HEL.o k hk) HBX.o.size
 have HE2:Hid (∀ k,E k->(w1.alloc (.cells #[.int .i64 (x.nd:Int),.int .i64 x.k,.int .i64 x.lg,.int .i64 x.at_,.slice a x.val.length c] 70)).heap[k]?=w.heap[k]?):=fun k hk=>(HBX.o.block k (HEL.o k hk)).trans (HE1.o k hk)
 go_wp2_with fail;generalize w1.alloc (.cells #[.int .i64 (x.nd:Int),.int .i64 x.k,.int .i64 x.lg,.int .i64 x.at_,.slice a x.val.length c] 70)=w2 at *
 generalize w1.heap.size=n1 at *
 have hbd:Below w2.heap.size w2 w2.drew:=(Below.refl _ _).drew;have HM3:=zH (HM2.o.later hbd HBT.o);have HD:=zH (aFv (w:=w2.drew) HM3.o HBT.o HX.o HH2.o HCC.o he HEL2.o (fun ww hw=>HDO.o ww a c (HB2.o.trans ((hbd.trans hw).mono HBT.o)) (HK2.o.later (hbd.trans hw) HBT.o)));have HX1:Hid ((fun wx=>wx.cell? ⟨nt,0,none⟩=some (.slice (some ⟨gh,0,none⟩) M M)/\wx.cell? ⟨n1,0,none⟩=some (.int .i64 (x.nd:Int))/\wx.cell? ⟨n1,1,none⟩=some (.int .i64 x.k)/\wx.cell? ⟨n1,2,none⟩=some (.int .i64 x.lg)/\wx.cell? ⟨n1,3,none⟩=some (.int .i64 x.at_)/\wx.cell? ⟨n1,4,none⟩=some (.slice a x.val.length c)) w2.drew):=⟨aAa (show w2.drew.heap[nt]?=_ from HN2.o),aAa (show w2.drew.heap[n1]?=_ from HX2.o),aAa (show w2.drew.heap[n1]?=_ from HX2.o),aAa (show w2.drew.heap[n1]?=_ from HX2.o),aAa (show w2.drew.heap[n1]?=_ from HX2.o),aAa (show w2.drew.heap[n1]?=_ from HX2.o)⟩;clear hbd HBX;refine wp_region_noPanic ?_;refine wp_region_held_drew (S:=fun wx=>wx.cell? ⟨nt,0,none⟩=some (.slice (some ⟨gh,0,none⟩) M M)/\wx.cell? ⟨n1,0,none⟩=some (.int .i64 (x.nd:Int))/\wx.cell? ⟨n1,1,none⟩=some (.int .i64 x.k)/\wx.cell? ⟨n1,2,none⟩=some (.int .i64 x.lg)/\wx.cell? ⟨n1,3,none⟩=some (.int .i64 x.at_)/\wx.cell? ⟨n1,4,none⟩=some (.slice a x.val.length c)) (by kernel_rfl) HX1.o (fun hHeld=>?_);refine kT 0 16 ?_;refine kT 1 17 ?_;refine kT 2 18 ?_;refine kT 3 19 ?_;refine kT 4 20 ?_;refine kT 5 21 ?_;refine kT 6 22 ?_;refine kT 7 23 ?_;refine kT 8 24 ?_;refine kC 9 ?_;intro K hK;go_simp;refine HD.o.mono ?_;rintro e w3 ⟨⟨sa,sc,rfl,hk3⟩,hM3,hN3,hb3,hE3⟩;have HN4:Hid (NTM w3 nt gh M wv lv'):=hN3 nt _ _ _ HN2.o (by decide) (by decide) (by decide) (by decide);have HX4:Hid (w3.heap[n1]?=_):=hN3 n1 _ _ _ HX2.o (by decide) (by decide) (by decide) (by decide);have HH4:Hid (w3.heap[gh]?=_):=hN3 gh _ _ _ HH2.o (by decide) (by decide) (by decide) (by decide);have hb4:Below B w2 w3:=⟨hb3.os,hb3.tape,hb3.output,hb3.size,hb3.block⟩;have HL4:=zH (HL2.o.stay (fun k cs t fz e=>hN3 k cs t fz e) hb4);have HM4:=zH hM3;have HB4:=zH (HB2.o.trans hb4);have HNF4:=zH (HNF2.o.trans (NsF.nd (w':=w3) (fun k cs t fz e=>hN3 k cs t fz e) hb4));have HE4:Hid (∀ k,E k->w3.heap[k]?=w.heap[k]?):=fun k hk=>(hE3 k hk).trans (HE2.o k hk)
 have HX5:Hid ((fun wx=>wx.cell? ⟨nt,0,none⟩=some (.slice (some ⟨gh,0,none⟩) M M)/\wx.cell? ⟨n1,0,none⟩=some (.int .i64 (x.nd:Int))/\wx.cell? ⟨n1,1,none⟩=some (.int .i64 x.k)/\wx.cell? ⟨n1,2,none⟩=some (.int .i64 x.lg)/\wx.cell? ⟨n1,3,none⟩=some (.int .i64 x.at_)/\wx.cell? ⟨n1,4,none⟩=some (.slice a x.val.length c)) w3):=⟨aAa HN4.o,aAa HX4.o,aAa HX4.o,aAa HX4.o,aAa HX4.o,aAa HX4.o⟩;clear hk3 hM3 hN3 hb3 hb4 hE3 hHeld HD;refine hK.out _ _ HX5.o (fun hHeld=>?_);clear hK K
 try simp only [Act.put,siT,scZ,scS]
 refine wpAnyH_done (by kernel_rfl) ?_ _;refine NoPanic.normal ?_;clear hHeld;go_wp2;(try simp only [Exit.inBlock,Exit.then]);go_ret;exact ⟨rfl,HM4.o,lv',HN4.o,HL4.o,HH4.o,HB4.o,HE4.o,HNF4.o⟩
theorem set5o {t:TypeId} (h:w.heap[g]?=some (.cells cs t (0,0))):(((((w.setCell ⟨g,o,none⟩ b0).setCell ⟨g,o+1,none⟩ b1).setCell ⟨g,o+2,none⟩ b2).setCell ⟨g,o+3,none⟩ b3).setCell ⟨g,o+4,none⟩ b4).heap[g]?=some (.cells (((((cs.setIfInBounds o b0).setIfInBounds (o+1) b1).setIfInBounds (o+2) b2).setIfInBounds (o+3) b3).setIfInBounds (o+4) b4) t (0,0)):=(heap_setCell_same _ _ _ _ _ _ (heap_setCell_same _ _ _ _ _ _ (heap_setCell_same _ _ _ _ _ _ (heap_setCell_same _ _ _ _ _ _ (heap_setCell_same _ _ _ _ _ _ h)))))
theorem bel5o (hb:Below B w0 w) (hg:B<=g):Below B w0 (((((w.setCell ⟨g,o,none⟩ b0).setCell ⟨g,o+1,none⟩ b1).setCell ⟨g,o+2,none⟩ b2).setCell ⟨g,o+3,none⟩ b3).setCell ⟨g,o+4,none⟩ b4):=((((hb.setCell (p:=⟨g,o,none⟩) hg _).setCell (p:=⟨g,o+1,none⟩) hg _).setCell (p:=⟨g,o+2,none⟩) hg _).setCell (p:=⟨g,o+3,none⟩) hg _).setCell (p:=⟨g,o+4,none⟩) hg _
theorem oth5o {k:Nat} (hne:k≠g):(((((w.setCell ⟨g,o,none⟩ b0).setCell ⟨g,o+1,none⟩ b1).setCell ⟨g,o+2,none⟩ b2).setCell ⟨g,o+3,none⟩ b3).setCell ⟨g,o+4,none⟩ b4).heap[k]?=w.heap[k]?:=by
 rw [heap_setCell_other _ _ _ _ hne,heap_setCell_other _ _ _ _ hne,heap_setCell_other _ _ _ _ hne,heap_setCell_other _ _ _ _ hne,heap_setCell_other _ _ _ _ hne]
theorem at5o {k:Nat} (hk:k<o\/o+5<=k):(((((cs.setIfInBounds o b0).setIfInBounds (o+1) b1).setIfInBounds (o+2) b2).setIfInBounds (o+3) b3).setIfInBounds (o+4) b4)[k]?=cs[k]?:=by
 rw [Array.getElem?_setIfInBounds_ne (by omega),Array.getElem?_setIfInBounds_ne (by omega),Array.getElem?_setIfInBounds_ne (by omega),Array.getElem?_setIfInBounds_ne (by omega),Array.getElem?_setIfInBounds_ne (by omega)]
theorem at5o3 (hk:o+5<=cs.size):(((((cs.setIfInBounds o b0).setIfInBounds (o+1) b1).setIfInBounds (o+2) b2).setIfInBounds (o+3) b3).setIfInBounds (o+4) b4)[o+3]?=some b3:=by
 rw [Array.getElem?_setIfInBounds_ne (by omega),Array.getElem?_setIfInBounds_self_of_lt (by simp only [Array.size_setIfInBounds];omega)]
theorem nlate_ok {l:List LR} (h:NTM w nt gh M wv lv) (hBw:B<=w.heap.size) (hl:LTV B w lv l) (hl6:l.length<=64) (hvl:∀ x∈l,x.val.length<=100000) :
  Calls prog 14 #[.pointer (some ⟨nt,0,none⟩)] w fun e w'=>∃ g cs,e=.returned (.slice (some ⟨g,0,none⟩) l.length l.length)/\w'.heap[g]?=some (.cells cs 70 (0,0))/\cs.size=l.length*5/\(∀ j x,l[j]?=some x->cs[j*5+3]?=some (.int .i64 x.at_))/\Below w.heap.size w w':=by
 obtain ⟨i0,hi,hz0,hz1,hz2⟩:=info_parts aD0;obtain ⟨vs,q1,q2,q3⟩:=hl;obtain ⟨la,lc,rfl⟩:=aAg q2;have HEL:Hid (∀ j x,l[j]?=some x->∃ gl cl a c,la=some ⟨gl,0,none⟩/\w.heap[gl]?=some (.cells cl 70 (0,0))/\(∀ q u,q<5->(lrC x (.slice a x.val.length c))[q]?=some u->cl[j*5+q]?=some u)/\BK B w a x.val.length c x.val/\l.length<=lc/\lc<=9223372036854775807):=fun j x hx=>by
  have hjl:j<l.length:=(lL hx);obtain ⟨v,hv⟩:∃ v,vs[j]?=some v:=⟨_,gE (by omega)⟩;obtain ⟨a,c,rfl,hbk⟩:=q3 j x v hx hv;rcases q2.2 with ⟨_,e0⟩ | ⟨g,C,cur,e9,hgB,hg,hnc,hcm,hcs,ht⟩
  ·omega
  ·simp only [Value.slice.injEq] at e9;obtain ⟨rfl,_,rfl⟩:=e9;refine ⟨g,cur,a,c,rfl,hg,fun q u hq hu=>?_,hbk,hnc,by unfold maxLen at hcm;omega⟩;have h9:=lrF_get q1 hx hv q hq;rw [hu,<-ht,List.getElem?_take_of_lt (by omega)] at h9;simpa using h9
 have HVL:=zH hvl;have HBW:=zH hBw;have HT:=zH h;have c2:w.cell? ⟨nt,2,none⟩=some (.slice la l.length lc):=aAa h;generalize hL:l.length=L at *
 clear h hBw q1 q2 q3 hvl;go_enter func14,ntmps14;go_wp2_with (refine wpList_make_full w rfl _ _ 39 rfl w.heap.size 70 i0 (.agg #[.int .i64 0,.int .i64 0,.int .i64 0,.int .i64 0,.slice none 0 0]) 5 underlying39 hi hz0 hz1 .i64 .i64 L L L rfl rfl rfl rfl (by rw [hz2];omega) (by unfold maxLen;omega) (nR _) ?_;intro w1 ho1 hg1;have HO1:=zH (made_all ho1);have HG1:=zH ((Below.refl w.heap.size w).grown hg1 (nR _) (fun k hk=>by cases hk));clear ho1 hg1;have c3:w1.cell? ⟨nt,2,none⟩=some (.slice la L lc):=aAa ((HG1.o.block nt (lO HT.o)).trans HT.o);clear c2);generalize hn0:w.heap.size=g at *
 go_loopw [17] (fun i wx=>∃ j:Nat,j<=L/\i=.int .i64 j/\∃ cs,wx.heap[g]?=some (.cells cs 70 (0,0))/\cs.size=L*5/\(∀ q x,q<j->l[q]?=some x->cs[q*5+3]?=some (.int .i64 x.at_))/\Below g w wx) (fun i _=>L-(intOf i).toNat)
 case atStart =>
  obtain ⟨cs,k1,k2,_⟩:=HO1.o;exact ⟨0,by omega,rfl,cs,k1,k2,fun q x hq=>absurd hq (by omega),HG1.o⟩
 case round =>
  obtain ⟨j,hj,rfl,cs,k1,k2,k3,k4⟩:=hrel;have HK1:=zH k1;have HK2:=zH k2;have HK3:=zH k3;have HK4:=zH k4;clear k1 k2 k3 k4 HO1 HG1;by_cases hjn:j<L
  ·have i1:(j:Int)<(L:Int):=by omega
   have i2:(0:Int)<=(j:Int):=by omega
   obtain ⟨x,hx⟩:∃ x,l[j]?=some x:=⟨_,gE (by omega)⟩;obtain ⟨gl,cl,a,c,rfl,p1,p2,p3,p4,p5⟩:=HEL.o j x hx;have HX:=zH hx;have p1:=(HK4.o.block gl (by have:=lO p1;omega)).trans p1;have e00:wr.cell? ⟨gl,j*5,none⟩=some (.int .i64 (x.nd:Int)):=(aAa p1).trans (p2 0 _ (by decide) rfl);have e1:wr.cell? ⟨gl,j*5+1,none⟩=some (.int .i64 x.k):=(aAa p1).trans (p2 1 _ (by decide) rfl);have e2:wr.cell? ⟨gl,j*5+2,none⟩=some (.int .i64 x.lg):=(aAa p1).trans (p2 2 _ (by decide) rfl);have e3:wr.cell? ⟨gl,j*5+3,none⟩=some (.int .i64 x.at_):=(aAa p1).trans (p2 3 _ (by decide) rfl);have e4:wr.cell? ⟨gl,j*5+4,none⟩=some (.slice a x.val.length c):=(aAa p1).trans (p2 4 _ (by decide) rfl);have HBX:=zH (aAc wr (.cells #[.int .i64 (x.nd:Int),.int .i64 x.k,.int .i64 x.lg,.int .i64 x.at_,.slice a x.val.length c] 70));have HX2:Hid ((wr.alloc (.cells #[.int .i64 (x.nd:Int),.int .i64 x.k,.int .i64 x.lg,.int .i64 x.at_,.slice a x.val.length c] 70)).heap[wr.heap.size]?=some (.cells #[.int .i64 (x.nd:Int),.int .i64 x.k,.int .i64 x.lg,.int .i64 x.at_,.slice a x.val.length c] 70 (0,0))):=heap_alloc_new wr _;have hgr:g<wr.heap.size:=lO HK1.o;have HBR:Hid (B<=wr.heap.size):=by show B<=_;have:=HBW.o;omega
   have HD2:=zH ((HBX.o.block g hgr).trans HK1.o);have HB2:Hid (Below g w (wr.alloc (.cells #[.int .i64 (x.nd:Int),.int .i64 x.k,.int .i64 x.lg,.int .i64 x.at_,.slice a x.val.length c] 70))):=HK4.o.trans (HBX.o.mono (by omega));have HV2:=zH ((p3.later (by rw [hn0];exact HK4.o) (by rw [hn0];exact HBW.o)).later HBX.o HBR.o);have HXL:Hid (x.val.length<=100000):=HVL.o x (mG hx);have HNG:Hid (g<wr.heap.size):=hgr;clear p1 p2 p3 hx hgr;go_upto_region 5 with fail;clear e00 e1 e2 e3 e4;generalize wr.alloc (.cells #[.int .i64 (x.nd:Int),.int .i64 x.k,.int .i64 x.lg,.int .i64 x.at_,.slice a x.val.length c] 70)=w2 at *
   generalize wr.heap.size=n1 at *
   have hbd:Below w2.heap.size w2 w2.drew:=(Below.refl _ _).drew;have HBS:Hid (B<=w2.heap.size):=by show B<=_;have:=lO HD2.o;have:=HBW.o;omega
   have HOW:=zH (own_req (B:=B) (k:=x.k) (lg:=x.lg) (at_:=x.at_) (w:=w2.drew) (HV2.o.later hbd HBS.o).1 HXL.o HBS.o);have HX1:Hid ((fun wx=>wx.cell? ⟨n1,0,none⟩=some (.int .i64 (x.nd:Int))/\wx.cell? ⟨n1,1,none⟩=some (.int .i64 x.k)/\wx.cell? ⟨n1,2,none⟩=some (.int .i64 x.lg)/\wx.cell? ⟨n1,3,none⟩=some (.int .i64 x.at_)/\wx.cell? ⟨n1,4,none⟩=some (.slice a x.val.length c)) w2.drew):=⟨aAa (show w2.drew.heap[n1]?=_ from HX2.o),aAa (show w2.drew.heap[n1]?=_ from HX2.o),aAa (show w2.drew.heap[n1]?=_ from HX2.o),aAa (show w2.drew.heap[n1]?=_ from HX2.o),aAa (show w2.drew.heap[n1]?=_ from HX2.o)⟩;have HB3:Hid (Below g w w2.drew):=HB2.o.trans (hbd.mono (by have:=lO HD2.o;omega));clear hbd HBX;refine wp_region_noPanic ?_;refine wp_region_held_drew (S:=fun wx=>wx.cell? ⟨n1,0,none⟩=some (.int .i64 (x.nd:Int))/\wx.cell? ⟨n1,1,none⟩=some (.int .i64 x.k)/\wx.cell? ⟨n1,2,none⟩=some (.int .i64 x.lg)/\wx.cell? ⟨n1,3,none⟩=some (.int .i64 x.at_)/\wx.cell? ⟨n1,4,none⟩=some (.slice a x.val.length c)) (by kernel_rfl) HX1.o (fun hHeld=>?_);refine kT 0 22 ?_;refine kT 1 23 ?_;refine kT 2 24 ?_;refine kT 3 25 ?_;refine kT 4 26 ?_;refine kT 5 27 ?_;refine kC 6 ?_;intro K hK;go_simp;refine HOW.o.mono ?_;rintro e w3 ⟨a9,d9,rfl,hk9,hb9⟩;have HX4:Hid (w3.heap[n1]?=_):=(hb9.block n1 (lO HX2.o)).trans HX2.o;have HD4:Hid (w3.heap[g]?=_):=(hb9.block g (lO HD2.o)).trans HD2.o;have HB4:Hid (Below g w w3):=HB3.o.trans (hb9.mono (by have h9:g<w2.drew.heap.size:=lO HD2.o;omega));have HX5:Hid ((fun wx=>wx.cell? ⟨n1,0,none⟩=some (.int .i64 (x.nd:Int))/\wx.cell? ⟨n1,1,none⟩=some (.int .i64 x.k)/\wx.cell? ⟨n1,2,none⟩=some (.int .i64 x.lg)/\wx.cell? ⟨n1,3,none⟩=some (.int .i64 x.at_)/\wx.cell? ⟨n1,4,none⟩=some (.slice a x.val.length c)) w3):=⟨aAa HX4.o,aAa HX4.o,aAa HX4.o,aAa HX4.o,aAa HX4.o⟩;clear hk9 hb9 hHeld HOW;refine hK.out _ _ HX5.o (fun hHeld=>?_);clear hK K
   try simp only [Act.put,siT,scZ,scS]
   refine kT 7 29 ?_;refine kT 8 30 ?_;have hcs9:j*5+5<=cs.size:=by rw [HK2.o];omega
   have zc0:w3.cell? ⟨g,j*5,none⟩=some (cs[j*5]'(by omega)):=(aAa HD4.o).trans (Array.getElem?_eq_getElem _);have zf0:w3.frozen? ⟨g,j*5,none⟩=false:=aAb HD4.o;have zc1:w3.cell? ⟨g,j*5+1,none⟩=some (cs[j*5+1]'(by omega)):=(aAa HD4.o).trans (Array.getElem?_eq_getElem _);have zf1:w3.frozen? ⟨g,j*5+1,none⟩=false:=aAb HD4.o;have zc2:w3.cell? ⟨g,j*5+2,none⟩=some (cs[j*5+2]'(by omega)):=(aAa HD4.o).trans (Array.getElem?_eq_getElem _);have zf2:w3.frozen? ⟨g,j*5+2,none⟩=false:=aAb HD4.o;have zc3:w3.cell? ⟨g,j*5+3,none⟩=some (cs[j*5+3]'(by omega)):=(aAa HD4.o).trans (Array.getElem?_eq_getElem _);have zf3:w3.frozen? ⟨g,j*5+3,none⟩=false:=aAb HD4.o;have zc4:w3.cell? ⟨g,j*5+4,none⟩=some (cs[j*5+4]'(by omega)):=(aAa HD4.o).trans (Array.getElem?_eq_getElem _);have zf4:w3.frozen? ⟨g,j*5+4,none⟩=false:=aAb HD4.o;generalize cs[j*5]'(by omega)=y0 at zc0;generalize cs[j*5+1]'(by omega)=y1 at zc1;generalize cs[j*5+2]'(by omega)=y2 at zc2;generalize cs[j*5+3]'(by omega)=y3 at zc3;generalize cs[j*5+4]'(by omega)=y4 at zc4;refine kC 9 ?_;intro K hK;go_simp;have HD6:=zH (set5o (o:=j*5) (b0:=.int .i64 (x.nd:Int)) (b1:=.int .i64 x.k) (b2:=.int .i64 x.lg) (b3:=.int .i64 x.at_) (b4:=.slice a9 x.val.length d9) HD4.o);have HB6:=zH (bel5o (o:=j*5) (b0:=.int .i64 (x.nd:Int)) (b1:=.int .i64 x.k) (b2:=.int .i64 x.lg) (b3:=.int .i64 x.at_) (b4:=.slice a9 x.val.length d9) HB4.o (nR g));have HX6:Hid ((fun wx=>wx.cell? ⟨n1,0,none⟩=some (.int .i64 (x.nd:Int))/\wx.cell? ⟨n1,1,none⟩=some (.int .i64 x.k)/\wx.cell? ⟨n1,2,none⟩=some (.int .i64 x.lg)/\wx.cell? ⟨n1,3,none⟩=some (.int .i64 x.at_)/\wx.cell? ⟨n1,4,none⟩=some (.slice a x.val.length c)) (((((w3.setCell ⟨g,j*5,none⟩ (.int .i64 (x.nd:Int))).setCell ⟨g,j*5+1,none⟩ (.int .i64 x.k)).setCell ⟨g,j*5+2,none⟩ (.int .i64 x.lg)).setCell ⟨g,j*5+3,none⟩ (.int .i64 x.at_)).setCell ⟨g,j*5+4,none⟩ (.slice a9 x.val.length d9))):=⟨aAa ((oth5o (by have:=HNG.o;omega)).trans HX4.o),aAa ((oth5o (by have:=HNG.o;omega)).trans HX4.o),aAa ((oth5o (by have:=HNG.o;omega)).trans HX4.o),aAa ((oth5o (by have:=HNG.o;omega)).trans HX4.o),aAa ((oth5o (by have:=HNG.o;omega)).trans HX4.o)⟩;clear hHeld zc0 zf0 zc1 zf1 zc2 zf2 zc3 zf3 zc4 zf4;generalize (((((w3.setCell ⟨g,j*5,none⟩ (.int .i64 (x.nd:Int))).setCell ⟨g,j*5+1,none⟩ (.int .i64 x.k)).setCell ⟨g,j*5+2,none⟩ (.int .i64 x.lg)).setCell ⟨g,j*5+3,none⟩ (.int .i64 x.at_)).setCell ⟨g,j*5+4,none⟩ (.slice a9 x.val.length d9))=w5 at *
   refine hK.out _ _ HX6.o (fun hHeld=>?_);clear hK K
   try simp only [Act.put,siT,scZ,scS]
   refine wpAnyH_done (by kernel_rfl) ?_ _;refine NoPanic.normal ?_;clear hHeld;have i3:(j:Int)<1000:=by omega
   go_wp2_with fail;go_roundw
   case rel =>
    refine ⟨j+1,by omega,by go_num,_,HD6.o,by simp only [Array.size_setIfInBounds];exact HK2.o,fun q y hq hy=>?_,HB6.o⟩;by_cases e:q=j
    ·subst e;rw [HX.o] at hy;cases hy;exact at5o3 hcs9
    ·rw [at5o (by omega)];exact HK3.o q y (by omega) hy
   case measure=>simp [intOf];omega
  ·have i1:¬ (j:Int)<(L:Int):=by omega
   have hjL:j=L:=by omega
   subst hjL;go_wp2;go_ret;exact ⟨g,rfl,cs,HK1.o,HK2.o,fun q x hx=>HK3.o q x (by have:=(lL hx);omega) hx,HK4.o⟩
section
variable {B N M nt gh:Nat} {P:Nat->NdP} {A:Nat->NdS} {E:Nat->Prop} {wv:Value} {F:List Int} {l:List LR} {W w w':World}
theorem MND.gain (h:MND B N M P A E W w) (T:Nat->Prop) (hT:∀ k,T k->∃ cs t fz,w.heap[k]?=some (Obj.cells cs t fz)/\¬ DTy t/\t≠5/\t≠183/\t≠130/\t≠115/\t≠135) (hs:∀ k,k<w.heap.size->¬ T k->w'.heap[k]?=w.heap[k]?) (hb:Below B w w') {g:Nat} (hg:w.heap.size<=g) (hf:FBk w' g):MND B N M P A (fun k=>k=g) W w':=by
 obtain ⟨F,⟨k1,hE⟩,k2⟩:=h;have h1:MND B N M P A E W w':=MND.oth ⟨F,⟨k1,hE⟩,k2⟩ T hT hs hb;have nt:∀ {k:Nat},FBk w k->¬ T k:=fun hf hk=>by
  obtain ⟨cs,t,fz,e,h0,_⟩:=hT _ hk;exact hf.ne e h0 rfl
 have st:∀ {k:Nat} {cs:Array Value} {t:TypeId} {fz:Nat×Nat},w.heap[k]?=some (Obj.cells cs t fz)->(t=5\/t=183\/t=130\/t=115\/t=135)->w'.heap[k]?=w.heap[k]?:=fun e ht=>by
  refine hs _ (lO e) (fun hk=>?_);obtain ⟨cs,t,fz,e',_,h1,h2,h3,h4,h5⟩:=hT _ hk;rw [e] at e';simp only [oI,cI] at e';rcases ht with q | q | q | q | q
  ·exact h1 (e'.2.1.symm.trans q)
  ·exact h2 (e'.2.1.symm.trans q)
  ·exact h3 (e'.2.1.symm.trans q)
  ·exact h4 (e'.2.1.symm.trans q)
  ·exact h5 (e'.2.1.symm.trans q)
 refine ⟨F,⟨fun i hi=>?_,fun k hk=>?_⟩,k2⟩
 ·obtain ⟨⟨d1,⟨c1,d2⟩,⟨c2,d3⟩,⟨c3,d4⟩⟩,⟨_,c5,d5,_⟩,_⟩:=k1 i hi;exact (k1 i hi).keep (fun k hk=>hs k (d1 k hk).lt (nt (d1 k hk))) (fun k cs fz e=>(st e (Or.inl rfl)).trans e) (st d2 (by simp)) (st d3 (by simp)) (st d4 (by simp)) hb (st d5 (by simp))
 ·subst hk;exact ⟨hf,fun i hi hk=>by have:=((k1 i hi).1.1 k hk).lt;omega⟩
theorem ntT (h1:NTM w nt gh M wv lv):∀ k,k=nt->∃ cs t fz,w.heap[k]?=some (Obj.cells cs t fz)/\¬ DTy t/\t≠5/\t≠183/\t≠130/\t≠115/\t≠135:=fun k hk=>by
 subst hk
 exact ⟨_,_,_,h1,by unfold DTy;decide,by decide,by decide,by decide,by decide,by decide⟩
theorem NSw.late (h:NSw B N M nt gh P A wv F l W w) (hl6:l.length<=64) (hvl:∀ x∈l,x.val.length<=100000) :
  Calls prog 14 #[.pointer (some ⟨nt,0,none⟩)] w fun e w'=>∃ g cs,e=.returned (.slice (some ⟨g,0,none⟩) l.length l.length)/\w'.heap[g]?=some (.cells cs 70 (0,0))/\cs.size=l.length*5/\(∀ j x,l[j]?=some x->cs[j*5+3]?=some (.int .i64 x.at_))/\Below w.heap.size w w':=by
 obtain ⟨lv,h1,h2⟩:=h.n;exact nlate_ok h1 h.bw h2 hl6 hvl
theorem NSw.ahead (h:NSw B N M nt gh P A wv F l W w):Calls prog 9 #[.pointer (some ⟨nt,0,none⟩)] w fun e w'=>e=.returned (.int .i64 (F.length:Int))/\w'=w:=by
 obtain ⟨lv,h1,h2⟩:=h.n;obtain ⟨a,c,rfl,_⟩:=h.f;exact ahead_any h1
theorem NSw.deliver (h:NSw B N M nt gh P A wv F l W w) {i:Nat} {x:LR} {y:NdS} {e0 tl tr bl:Int} {sl:Bool} {vn:Nat} {val:List Nat} (hl6:l.length<=64) (hx:l[i]?=some x) (hM:x.nd<M) (hM6:M<=64) (he:¬ e0=20) (hdo:∀ ww va cp,Below B w ww->BK B ww va x.val.length cp x.val->DoT B N (P x.nd) W x.k x.lg x.at_ va x.val.length cp (A x.nd) y e0 tl sl tr bl vn val ww) :
  Calls prog 15 #[.pointer (some ⟨nt,0,none⟩),.int .i64 (i:Int)] w fun e w'=>e=.returned (.int .i64 0)/\NSw B N M nt gh P (upS A x.nd y) wv F (l.eraseIdx i) W w'/\NsF B w w':=by
 obtain ⟨lv,h1,h2⟩:=h.n;obtain ⟨hc,h3,h4⟩:=h.h;have hl:=h2;obtain ⟨vs,q1,q2,q3⟩:=h2;refine (deliver_ok h.m h1 h.b h.bw hl hl6 hx hM hM6 h3 (h4 _ hM) he (fun k hk=>⟨(h.m.El k hk).ne h1 (by unfold DTy;decide),fun e=>?_,(h.m.El k hk).lt⟩) hdo).mono ?_
 ·obtain ⟨_,cur,h9⟩:=aAm q2 e;exact (h.m.El k hk).ne h9 (by unfold DTy;decide) rfl
 ·rintro e w' ⟨rfl,lv',r1,r2,r3,r4,r5,r6,r7⟩;exact ⟨rfl,⟨r1,h.f.same r6,⟨lv',r2,r3⟩,⟨hc,r4,h4⟩,h.b,nT h.bw r5.size⟩,r7⟩
end
end Go.Proofs.YtdfjjhlhnfindaaGreat
