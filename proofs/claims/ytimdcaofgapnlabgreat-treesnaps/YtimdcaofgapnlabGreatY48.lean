import Derived.Test.YtimdcaofgapnlabGreatY45
import Derived.Test.YtimdcaofgapnlabGreatY35
import Derived.LaidEqlPtr
set_option maxRecDepth 100000
set_option maxHeartbeats 16000000
set_option linter.unusedVariables false
namespace Go.Proofs.YtimdcaofgapnlabGreat
open Go.RowKit
theorem info_snsz:(Tryz.prog.info? 92).map (·.size)=some 68:=by kernel_rfl
theorem close1_yes {bx x:Nat} {w:World} (hb:w.cell? ⟨bx,0,none⟩=some (.pointer (some ⟨x,0,none⟩))) :
  Calls Tryz.prog 47 #[.pointer (some ⟨x,0,none⟩),.pointer (some ⟨bx,0,none⟩)] w fun e w'=>e=.returned (.bool true)∧w'=w:=by
 obtain ⟨j,hj,hs⟩:=Option.map_eq_some_iff.1 info_snsz
 have he:=run_eql_ptr_same (P:=Tryz.prog) w (⟨x,0,none⟩:Addr) Tryz.underlying56 hj
 go_enter Tryz.func47,Tryz.ntmps47
 go_wp2
 go_ret
 exact ⟨rfl,rfl⟩
theorem close1_no {bx x y:Nat} {w:World} {cx cy:Array Value} (hb:w.cell? ⟨bx,0,none⟩=some (.pointer (some ⟨x,0,none⟩))) (hne:y≠x) (hx:w.heap[x]?=some (.cells cx 92 (0,0))) (hy:w.heap[y]?=some (.cells cy 92 (0,0))) :
  Calls Tryz.prog 47 #[.pointer (some ⟨y,0,none⟩),.pointer (some ⟨bx,0,none⟩)] w fun e w'=>e=.returned (.bool false)∧w'=w:=by
 obtain ⟨j,hj,hs⟩:=Option.map_eq_some_iff.1 info_snsz
 have he:=run_eql_ptr_other (P:=Tryz.prog) w (a:=(⟨y,0,none⟩:Addr)) (b:=(⟨x,0,none⟩:Addr)) Tryz.underlying56 hj (by rw [hs];decide) (by intro q9;simp only [Addr.mk.injEq] at q9;exact hne q9.1) hy hx
 clear hx hy
 go_enter Tryz.func47,Tryz.ntmps47
 go_wp2
 go_ret
 exact ⟨rfl,rfl⟩
theorem cf_close (v:Value) (bx:Nat) (ww:World):(callFunc 47 (#[v]++#[.pointer (some ⟨bx,0,none⟩)])).run Tryz.prog ww=.ok (.enter 47 (#[v]++#[.pointer (some ⟨bx,0,none⟩)])) ww:=by rfl
theorem index_first {bx x gb N c:Nat} {w:World} (hN:0<N) (h0:w.cell? ⟨gb,0,none⟩=some (.pointer (some ⟨x,0,none⟩))) (hb:w.cell? ⟨bx,0,none⟩=some (.pointer (some ⟨x,0,none⟩))) :
  Calls Tryz.prog 79 #[.slice (some ⟨gb,0,none⟩) N c,.func (Fn.func 47) #[] #[.pointer (some ⟨bx,0,none⟩)]] w fun e w'=>e=.returned (.int .i64 0)∧w'=w:=by
 have HC:=hide (close1_yes hb)
 have hcf:=cf_close (.pointer (some ⟨x,0,none⟩)) bx w
 have i0:(0:Int)<(N:Int):=by omega
 go_enter Tryz.func79,Tryz.ntmps79
 go_wp2_with fail
 go_loopw [8] (fun i wx=>i=.int .i64 0∧wx=w) (fun i _=>1)
 case atStart=>exact ⟨rfl,rfl⟩
 case round =>
  obtain ⟨rfl,rfl⟩:=hrel
  go_wp2_with fail
  refine HC.out.mono ?_
  rintro e w9 ⟨rfl,hw⟩
  have hw:=hw.symm
  subst hw
  go_wp2
  go_ret
  exact ⟨rfl,rfl⟩
theorem aGm {w:World} {g o c:Nat} {ty:TypeId} {cur:Array Value} (hg:w.heap[g]?=some (.cells cur 56 (0,0))) (hl:o+1≤cur.size) :
  (Builtin.clear_ #[79] ty #[.slice (some ⟨g,o,none⟩) 1 c]).run Tryz.prog w=.ok (.tuple #[]) (w.setRow g (cur.toList.take o++[Value.pointer none]++cur.toList.drop (o+1)).toArray):=by
 have hst:=run_storeCells_at Tryz.prog g o 56 [Value.pointer none] 0 cur w hg (by simpa using hl) (by intro v hv;simp at hv;subst hv;rfl)
 obtain ⟨i0,hi0,hz0,hz1,hz2⟩:=info_parts info_snp
 have hz:(zeroValue 56).run Tryz.prog w=.ok (.pointer none) w:=by
  simp [zeroValue,typeInfo,hi0,hz0]
 have hzc:(Builtin.zeroCells (Value.pointer none).cells 1).toList=[Value.pointer none]:=by
  apply List.ext_getElem?
  intro i
  match i with
  | 0=>simp [Builtin.zeroCells,Value.cells]
  | i+1=>simp [Builtin.zeroCells,Value.cells]
 simp only [Nat.add_zero,List.length_cons,List.length_nil,Nat.zero_add] at hst
 simp [Builtin.clear_,run_underlying Tryz.underlying79,hz,hzc,hst]
def shf (cur:Array Value) (j:Nat) (arr:Array Value):Prop:=arr.size=cur.size∧∀ i,arr[i]?=if i<j-1 then cur[i+1]? else cur[i]?
theorem shf.set {cur arr:Array Value} {j:Nat} {v:Value} (h:shf cur j arr) (h1:1≤j) (hv:cur[j]?=some v):shf cur (j+1) (arr.setIfInBounds (j-1) v):=by
 have hlt:=(lO hv)
 refine ⟨by rw [Array.size_setIfInBounds];exact h.1,fun i=>?_⟩
 by_cases c:i=j-1
 ·subst c
  rw [Array.getElem?_setIfInBounds_self_of_lt (by rw [h.1];omega),if_pos (by omega),show j-1+1=j by omega]
  exact hv.symm
 ·rw [Array.getElem?_setIfInBounds_ne (Ne.symm c),h.2 i]
  by_cases c2:i<j-1
  ·rw [if_pos c2,if_pos (by omega)]
  ·rw [if_neg c2,if_neg (by omega)]
theorem delfirst_ok {bx x gb N c:Nat} {w:World} {cur:Array Value} {ps:List Nat} (hps:ps.length=N) (hgb:w.heap[gb]?=some (.cells cur 56 (0,0))) (hcur:∀ (i:Nat) y,(x::ps)[i]?=some y→cur[i]?=some (.pointer (some ⟨y,0,none⟩))) (hN:N≤10) (hc:N+1≤c) (hb:w.cell? ⟨bx,0,none⟩=some (.pointer (some ⟨x,0,none⟩))) (hbx:bx≠gb) (hne:∀ y∈ps,y≠x) (hx:∃ cx,w.heap[x]?=some (.cells cx 92 (0,0))) (hy:∀ y∈ps,∃ cy,w.heap[y]?=some (.cells cy 92 (0,0))) :
  Calls Tryz.prog 46 #[.slice (some ⟨gb,0,none⟩) (N+1) c,.func (Fn.func 47) #[] #[.pointer (some ⟨bx,0,none⟩)]] w fun e w'=>e=.returned (.slice (some ⟨gb,0,none⟩) N c)∧(∃ arr,w'.heap[gb]?=some (.cells arr 56 (0,0))∧arr.size=cur.size∧∀ i,i<N→arr[i]?=cur[i+1]?)∧(∀ k,k≠gb→w'.heap[k]?=w.heap[k]?)∧∀ B,B≤gb→Below B w w':=by
 have HGB:=hide hgb
 have HCU:=hide hcur
 have HB:=hide hb
 have HNE:=hide hne
 have HX:=hide hx
 have HY:=hide hy
 have HPS:=hide hps
 have c0:w.cell? ⟨gb,0,none⟩=some (.pointer (some ⟨x,0,none⟩)):=(aAa hgb).trans (hcur 0 x rfl)
 have HIX:=hide (index_first (c:=c) (N:=N+1) (by omega) c0 hb)
 have hsz:N<cur.size:=by
  rcases Nat.eq_zero_or_pos N with q | q
  ·subst q
   exact (lO (hcur 0 x rfl))
  ·obtain ⟨y,hy'⟩:∃ y,(x::ps)[N]?=some y:=⟨_,gE (by simp;omega)⟩
   exact (lO (hcur N y hy'))
 clear hgb hcur hb hne hx hy c0 hps
 go_enter Tryz.func46,Tryz.ntmps46
 go_wp2_with fail
 refine HIX.out.mono ?_
 rintro e w9 ⟨rfl,hw⟩
 have hw:=hw.symm
 subst hw
 clear HIX
 go_wp2_with fail
 go_loopw [5,6] (fun a b wx=>∃ m:Nat,m≤N∧a=.int .i64 m∧b=.int .i64 ((m:Int)+1)∧(∃ arr,wx.heap[gb]?=some (.cells arr 56 (0,0))∧shf cur (m+1) arr)∧(∀ k,k≠gb→wx.heap[k]?=w.heap[k]?)∧∀ B,B≤gb→Below B w wx) (fun a _ _=>N-(intOf a).toNat)
 case atStart=>exact ⟨0,by omega,rfl,rfl,⟨cur,HGB.out,rfl,fun i=>by rw [if_neg (by omega)]⟩,fun _ _=>rfl,fun B _=>Below.refl _ _⟩
 case round =>
  obtain ⟨m,hm,rfl,rfl,⟨arr,ha,hsh⟩,hoth,hbel⟩:=hrel
  have HA:=hide ha
  have HSH:=hide hsh
  have HO:=hide hoth
  have HBE:=hide hbel
  have f1:∀ i,wr.frozen? ⟨gb,i,none⟩=false:=fun i=>aAc ha
  by_cases hmN:m<N
  ·have i0:(m:Int)+1<(N:Int)+1:=by omega
   have i0':(m:Int)<(N:Int):=by omega
   have i1:(m:Int)<(N:Int)+1:=by omega
   have i2:(0:Int)≤(m:Int)+1:=by omega
   have i3:((m:Int)+1).toNat=m+1:=by omega
   have w1:IntKind.i64.wrap ((m:Int)+1)=(m:Int)+1:=by rw [IntKind.wrap_i64];omega
   have w2:IntKind.i64.wrap ((m:Int)+1+1)=(m:Int)+1+1:=by rw [IntKind.wrap_i64];omega
   have w3:IntKind.i64.wrap ((m:Int)+2)=(m:Int)+2:=by rw [IntKind.wrap_i64];omega
   obtain ⟨y,hy⟩:∃ y,ps[m]?=some y:=⟨_,gE (by rw [HPS.out];exact hmN)⟩
   have hcy:cur[m+1]?=some (.pointer (some ⟨y,0,none⟩)):=HCU.out (m+1) y (by simpa using hy)
   have hym:=mG hy
   obtain ⟨cx,hcx⟩:=HX.out
   obtain ⟨cy,hcy2⟩:=HY.out y hym
   have ngb:∀ (k:Nat) (cs:Array Value),w.heap[k]?=some (.cells cs 92 (0,0))→k≠gb:=fun k cs e q9=>by
    rw [q9,HGB.out] at e
    simp only [oI,cI] at e
    exact absurd e.2.1 (by decide)
   have HC:=hide (close1_no (w:=wr) (bx:=bx) (x:=x) (y:=y) ((World.cell?_of_block (hoth bx hbx)).trans HB.out) (HNE.out y hym) ((hoth x (ngb x cx hcx)).trans hcx) ((hoth y (ngb y cy hcy2)).trans hcy2))
   have hcf:=cf_close (.pointer (some ⟨y,0,none⟩)) bx wr
   have r1:wr.cell? ⟨gb,m+1,none⟩=some (.pointer (some ⟨y,0,none⟩)):=by rw [aAa ha,hsh.2,if_neg (by omega)];exact hcy
   obtain ⟨u,hu⟩:∃ u,arr[m]?=some u:=⟨_,Array.getElem?_eq_getElem (by rw [hsh.1];omega)⟩
   have r2:wr.cell? ⟨gb,m,none⟩=some u:=(aAa ha).trans hu
   have f2:=f1 m
   have HCY:=hide hcy
   clear ha hsh hoth hbel hy hcy hym hcx hcy2 ngb hu f1
   go_wp2_with fail
   refine HC.out.mono ?_
   rintro e w9 ⟨rfl,hw⟩
   have hw:=hw.symm
   subst hw
   clear HC hcf
   go_wp2_with fail
   go_roundw
   case rel =>
    refine ⟨m+1,by omega,by go_num,by go_num,⟨arr.setIfInBounds m (.pointer (some ⟨y,0,none⟩)),?_,HSH.out.set (j:=m+1) (by omega) HCY.out⟩,fun k hk=>?_,fun B hB=>(HBE.out B hB).trans ((Below.refl B wr).setCell (p:=⟨gb,m,none⟩) hB _)⟩
    ·rw [heap_setCell_same _ _ _ _ _ _ HA.out]
    ·rw [heap_setCell_other _ _ _ _ (by exact hk)]
     exact HO.out k hk
   case measure=>simp [intOf];omega
  ·have hmN:m=N:=by omega
   subst hmN
   have i0:¬ (m:Int)+1<(m:Int)+1:=by omega
   have i1:(m:Int)≤(m:Int)+1:=by omega
   have i2:¬ c=m:=by omega
   have i3:(m:Int)≤(c:Int):=by omega
   have i4:(m:Int)+1≤(c:Int):=by omega
   have hcl:=fun ty cc=>aGm (ty:=ty) (c:=cc) (o:=m) ha (by rw [hsh.1];omega)
   obtain ⟨row,hrow⟩:∃ row,row=(arr.toList.take m++[Value.pointer none]++arr.toList.drop (m+1)).toArray:=⟨_,rfl⟩
   rw [←hrow] at hcl
   have HRW:=hide hrow
   have HPO:Hid ((wr.setRow gb row).heap[gb]?=some (.cells row 56 (0,0))∧(∀ k,k≠gb→(wr.setRow gb row).heap[k]?=w.heap[k]?)∧∀ B,B≤gb→Below B w (wr.setRow gb row)):=by
    refine ⟨aAu ha,fun k hk=>?_,fun B hB=>below_setRow (hbel B hB) hB _⟩
    rw [setRow_other wr gb k _ hk,hoth k hk]
   clear ha hsh hoth hbel f1 hrow
   go_wp2
   go_ret
   refine ⟨rfl,⟨_,HPO.out.1,?_,fun i hi=>?_⟩,HPO.out.2⟩
   ·have:=HSH.out.1
    rw [HRW.out]
    simp
    omega
   ·have h9:=HSH.out.2 i
    rw [if_pos (by omega)] at h9
    rw [←h9,HRW.out,List.getElem?_toArray,List.append_assoc,List.getElem?_append_left (by rw [List.length_take,Array.length_toList,HSH.out.1];omega),List.getElem?_take_of_lt hi,Array.getElem?_toList]
theorem ST.keep3 [Gd] {B p q:Nat} {s:DS} {t:PS} {w w':World} (h:ST B p q s t w) (f:∀ (k:Nat) (cs:Array Value) (t:TypeId),w.heap[k]?=some (Obj.cells cs t (0,0))→t≠92→t≠56→t≠81→w'.heap[k]?=some (Obj.cells cs t (0,0))):ST B p q s t w':=by
 obtain ⟨h1,gs,h2⟩:=h
 refine ⟨?_,gs,f _ _ _ h2.hq (by decide) (by decide) (by decide),f _ _ _ h2.hs (by decide) (by decide) (by decide),h2.qB,h2.gB,h2.ok⟩
 exact h1.of_stay (fun k cs t e ht=>f k cs t e (by rcases ht with rfl | rfl | rfl | rfl | rfl<;>decide) (by rcases ht with rfl | rfl | rfl | rfl | rfl<;>decide) (by rcases ht with rfl | rfl | rfl | rfl | rfl<;>decide))
def ClF (B g nb:Nat) (sv:Value) (w w':World):Prop:=Below B w w'∧∀ (k:Nat) (cs:Array Value) (t:TypeId) (fz:Nat×Nat),w.heap[k]?=some (Obj.cells cs t fz)→NT t→k≠g→k≠nb→some k≠sv.ownBlock→w'.heap[k]?=some (Obj.cells cs t fz)
theorem Close_ok [Gd] {B p q g nb root:Nat} {s:DS} {t:PS} {w:World} {now last st:StT} {sv:Value} {left:Int} {sn:List (Nat×StT)} (hg0:Gd.g=none) (hM:TM B p q g s t now last sv left w) (hsn:SnO B w g sv ((nb,st)::sn)) (hnb:B≤nb) (hne:∀ x∈sn,x.1≠nb) (hPN:PgN s (jnS (jnP now.pgs last.pgs) (snP sn))) (h3:3≤s.n) (hlh:lastH (rdH (pad (s.show 0)) s.n) (rdH (pad (s.show 1)) s.n)=some (t.num,root)) (hnum:t.num≤4611686018427387904) (hrt:root≤4096) :
  Calls Tryz.prog 25 #[.pointer (some ⟨nb,0,none⟩)] w fun e w'=>e=.returned (.tuple #[])∧∃ q' sv' left',TM B p q' g s (anew s t.num root (jnS (jnP now.pgs last.pgs) (snP sn))) now last sv' left' w'∧SnO B w' g sv' sn∧ClF B g nb sv w w':=by
 obtain ⟨cs,hg,hT⟩:=hM.tv
 obtain ⟨cx,hcx,hsp⟩:=hsn.s (nb,st) List.mem_cons_self
 have hcx:w.heap[nb]?=some (.cells cx 92 (0,0)):=hcx
 obtain ⟨gb,cap,cur,rfl,hgbB,hgb,hncap,hcm,hcs,htk⟩:∃ gb cap cur,sv=.slice (some ⟨gb,0,none⟩) (sn.length+1) cap∧B≤gb∧w.heap[gb]?=some (.cells cur 56 (0,0))∧sn.length+1≤cap∧cap≤maxLen∧cur.size=cap∧cur.toList.take (sn.length+1)=snC ((nb,st)::sn):=by
  rcases hsn.v.2 with ⟨_,e0⟩ | ⟨gb,cap,cur,e1,e2,e3,e4,e5,e6,e7⟩
  ·simp at e0
  ·exact ⟨gb,cap,cur,e1,e2,e3,e4,e5,by simpa using e6,by simpa using e7⟩
 have ngb:∀ {k:Nat} {c:Array Value} {t:TypeId},w.heap[k]?=some (.cells c t (0,0))→t≠56→k≠gb:=by
  intro k c t e ht q9
  subst q9
  rw [hgb] at e
  simp only [oI,cI] at e
  exact ht e.2.1.symm
 have ng:∀ {k:Nat} {c:Array Value} {t:TypeId},w.heap[k]?=some (.cells c t (0,0))→t≠81→k≠g:=by
  intro k c t e ht q9
  subst q9
  rw [hg] at e
  simp only [oI,cI] at e
  exact ht e.2.1.symm
 have hnbg:nb≠g:=ng hcx (by decide)
 have hnbb:nb≠gb:=ngb hcx (by decide)
 have hggb:g≠gb:=ngb hg (by decide)
 have hcurg:∀ (i:Nat) y,(nb::sn.map (·.1))[i]?=some y→cur[i]?=some (.pointer (some ⟨y,0,none⟩)):=by
  intro i y hy
  have hlt:=(lL hy)
  have e1:(snC ((nb,st)::sn))[i]?=some (.pointer (some ⟨y,0,none⟩)):=by
   have e2:snC ((nb,st)::sn)=(nb::sn.map (·.1)).map fun x=>Value.pointer (some ⟨x,0,none⟩):=by simp [snC]
   rw [e2,List.getElem?_map,hy]
   rfl
  rw [←htk,List.getElem?_take,if_pos (by simpa using hlt),Array.getElem?_toList] at e1
  exact e1
 have HBX:=hide (aAb w (.cells #[.pointer (some ⟨nb,0,none⟩)] 56))
 have HNX:Hid ((w.alloc (.cells #[.pointer (some ⟨nb,0,none⟩)] 56)).heap[w.heap.size]?=some (.cells #[.pointer (some ⟨nb,0,none⟩)] 56 (0,0))):=heap_alloc_new w _
 have lt:∀ {k:Nat} {o:Obj} {ww:World},ww.heap[k]?=some o→k<ww.heap.size:=fun e=>(lO e)
 have hnbl:=lt hcx
 have hgl:=lt hg
 have hgbl:=lt hgb
 have HNB:Hid ((w.alloc (.cells #[.pointer (some ⟨nb,0,none⟩)] 56)).heap[nb]?=some (.cells cx 92 (0,0))):=(HBX.out.block nb hnbl).trans hcx
 generalize hw1:w.alloc (.cells #[.pointer (some ⟨nb,0,none⟩)] 56)=w1 at *
 have HO2:Hid (∀ k,k≠nb→(w1.setCell ⟨nb,0,none⟩ (.pointer none)).heap[k]?=w1.heap[k]?):=fun k hk=>heap_setCell_other _ _ _ _ hk
 have HN2:Hid ((w1.setCell ⟨nb,0,none⟩ (.pointer none)).heap[nb]?=some (.cells (cx.setIfInBounds 0 (.pointer none)) 92 (0,0))):=by
  show _=_
  rw [heap_setCell_same _ _ _ _ _ _ HNB.out]
 have HB2:Hid (Below B w1 (w1.setCell ⟨nb,0,none⟩ (.pointer none))):=(Below.refl B w1).setCell (p:=⟨nb,0,none⟩) hnb _
 have b0:w1.cell? ⟨w.heap.size,0,none⟩=some (.pointer (some ⟨nb,0,none⟩)):=aAa HNX.out
 have b1:w1.cell? ⟨nb,0,none⟩=some (.pointer (some ⟨g,0,none⟩)):=(aAa HNB.out).trans hsp.c0
 have b2:w1.frozen? ⟨nb,0,none⟩=false:=aAc HNB.out
 have HG:=hide hg
 have HT:=hide hT
 have HM:=hide hM
 have HSN:=hide hsn
 have HGB:=hide hgb
 have HCU:=hide hcurg
 have HNE:=hide hne
 have HLG:=hide (fun (ww:World) (sv':Value) (left':Int) (hM':TM B p q g s t now last sv' left' ww) (hv:SnV ww sv' (snP sn))=>letGo_ok hg0 hM' hv hPN h3 hlh hnum hrt)
 clear hg hT hM hsn hgb hcurg hne hPN h3 hlh hnum hrt hcx hsp lt
 go_enter Tryz.func25,Tryz.ntmps25
 go_upto_region 1 with fail
 try rw [hw1]
 go_upto_region 4 with fail
 generalize hw2:w1.setCell ⟨nb,0,none⟩ (.pointer none)=w2 at *
 have hs1:w.heap.size≤w1.heap.size:=HBX.out.size
 have hst2:∀ (k:Nat) (o:Obj),k≠nb→w.heap[k]?=some o→w2.heap[k]?=some o:=fun k o hk e=>(HO2.out k hk).trans ((HBX.out.block k (lO e)).trans e)
 have HG2:=hide (hst2 g _ (Ne.symm hnbg) HG.out)
 have HGB2:=hide (hst2 gb _ (Ne.symm hnbb) HGB.out)
 have HBX2:Hid (w2.heap[w.heap.size]?=some (.cells #[.pointer (some ⟨nb,0,none⟩)] 56 (0,0))):=(HO2.out _ (by omega)).trans HNX.out
 have r0:w2.cell? ⟨g,136,none⟩=some (.slice (some ⟨gb,0,none⟩) (sn.length+1) cap):=(aAa HG2.out).trans HT.out.s0
 have hmf:∀ (fn:Fn) (first cap:Array Value) (w:World),(Instr.makeFunc fn first cap).run Tryz.prog w=.ok (.func fn first cap) w:=fun _ _ _ _=>rfl
 have HDF:=hide (delfirst_ok (bx:=w.heap.size) (x:=nb) (ps:=sn.map (·.1)) (N:=sn.length) (c:=cap) (by simp) HGB2.out HCU.out (by have:=HSN.out.n;simp at this;omega) hncap (aAa HBX2.out) (by omega) (fun y hy=>by obtain ⟨x,hx,rfl⟩:=List.mem_map.1 hy;exact HNE.out x hx) ⟨_,HN2.out⟩ (fun y hy=>by
  obtain ⟨x,hx,rfl⟩:=List.mem_map.1 hy
  obtain ⟨c9,e9,_⟩:=HSN.out.s x (List.mem_cons_of_mem _ hx)
  exact ⟨c9,hst2 _ _ (HNE.out x hx) e9⟩))
 clear b0 b1 b2
 go_wp2_with fail
 refine HDF.out.mono ?_
 rintro e w3 ⟨rfl,⟨arr,ha,has,haa⟩,hot3,hbe3⟩
 have HG3:Hid (w3.heap[g]?=some (.cells cs 81 (0,0))):=(hot3 g hggb).trans HG2.out
 have r1:w3.cell? ⟨g,136,none⟩=some (.slice (some ⟨gb,0,none⟩) (sn.length+1) cap):=(aAa HG3.out).trans HT.out.s0
 have f1:w3.frozen? ⟨g,136,none⟩=false:=aAc HG3.out
 have HA3:=hide ha
 have HAS:=hide has
 have HAA:=hide haa
 have HO3:=hide hot3
 have HB3:=hide (hbe3 B hgbB)
 clear ha has haa hot3 hbe3 HDF r0
 go_upto_region 5 with fail
 have HG4:Hid ((w3.setCell ⟨g,136,none⟩ (.slice (some ⟨gb,0,none⟩) sn.length cap)).heap[g]?=some (.cells (cs.setIfInBounds 136 (.slice (some ⟨gb,0,none⟩) sn.length cap)) 81 (0,0))):=by
  show _=_
  rw [heap_setCell_same _ _ _ _ _ _ HG3.out]
 have HO4:Hid (∀ k,k≠g→(w3.setCell ⟨g,136,none⟩ (.slice (some ⟨gb,0,none⟩) sn.length cap)).heap[k]?=w3.heap[k]?):=fun k hk=>heap_setCell_other _ _ _ _ hk
 have HB4:Hid (Below B w3 (w3.setCell ⟨g,136,none⟩ (.slice (some ⟨gb,0,none⟩) sn.length cap))):=(Below.refl B w3).setCell (p:=⟨g,136,none⟩) HM.out.bg _
 generalize w3.setCell ⟨g,136,none⟩ (.slice (some ⟨gb,0,none⟩) sn.length cap)=w4 at *
 have hst4:∀ (k:Nat) (o:Obj),k≠nb→k≠gb→k≠g→w.heap[k]?=some o→w4.heap[k]?=some o:=fun k o h1 h2 h3 e=>(HO4.out k h3).trans ((HO3.out k h2).trans (hst2 k o h1 e))
 have hbel:Below B w w4:=(((HBX.out.mono HM.out.bw).trans HB2.out).trans HB3.out).trans HB4.out
 have HTV:=hide (HT.out.snaps (sv':=.slice (some ⟨gb,0,none⟩) sn.length cap))
 have HM4:Hid (TM B p q g s t now last (.slice (some ⟨gb,0,none⟩) sn.length cap) left w4):=by
  refine ⟨HM.out.st.keep3 fun k c9 t9 e n1 n2 n3=>hst4 k _ (fun q9=>?_) (ngb e n2) (ng e n3) e,nT HM.out.bw hbel.size,HM.out.bg,⟨_,HG4.out,HTV.out⟩,HM.out.lf,HM.out.dn,HM.out.af,HM.out.l1,HM.out.sn,HM.out.hd⟩
  obtain ⟨c8,e8,_⟩:=HSN.out.s (nb,st) List.mem_cons_self
  have e8:w.heap[nb]?=_:=e8
  rw [q9,e8] at e
  simp only [oI,cI] at e
  exact n1 e.2.1.symm
 have HS4:Hid (SnO B w4 g (.slice (some ⟨gb,0,none⟩) sn.length cap) sn):=by
  refine ⟨by have:=HSN.out.n;simp at this;omega,⟨by simp [snC],Or.inr ⟨gb,cap,arr,rfl,hgbB,(HO4.out gb (Ne.symm hggb)).trans HA3.out,by omega,hcm,by rw [HAS.out,hcs];simp,?_⟩⟩,fun x hx=>?_⟩
  ·apply List.ext_getElem?
   intro i
   by_cases hi:i<sn.length
   ·have e1:(snC sn)[i]?=cur[i+1]?:=by
     obtain ⟨y,hy⟩:∃ y,(sn.map (·.1))[i]?=some y:=⟨_,gE (by simpa using hi)⟩
     rw [HCU.out (i+1) y (by simpa using hy)]
     have e2:snC sn=(sn.map (·.1)).map fun x=>Value.pointer (some ⟨x,0,none⟩):=by simp [snC]
     rw [e2,List.getElem?_map,hy]
     rfl
    rw [e1,←HAA.out i hi,Nat.mul_one,List.getElem?_take,if_pos hi,Array.getElem?_toList]
   ·rw [List.getElem?_take,if_neg (by omega),List.getElem?_eq_none (by simp [snC];omega)]
  ·obtain ⟨c9,e9,e8⟩:=HSN.out.s x (List.mem_cons_of_mem _ hx)
   exact ⟨c9,hst4 _ _ (HNE.out x hx) (ngb e9 (by decide)) (ng e9 (by decide)) e9,e8⟩
 have HBL4:=hide hbel
 have HST4:=hide hst4
 clear hst4 hst2 hbel r1 f1 HO4 HO3 HO2
 have HDD:=hide (aCg HM4.out.st HM4.out.lf HG4.out HTV.out)
 go_wp2_with fail
 refine HDD.out.mono ?_
 rintro e w5 ⟨rfl,hb5⟩
 have HM5:=hide (HM4.out.later hb5)
 have HS5:=hide (HS4.out.later hb5)
 have HB5:=hide hb5
 have HLL:=hide (HLG.out w5 _ left HM5.out HS5.out.snv)
 clear hb5 HDD
 go_wp2_with fail
 refine HLL.out.mono ?_
 rintro e w6 ⟨rfl,q',hM6,hC6⟩
 have HM6:=hide hM6
 have HC6:=hide hC6
 clear hM6 hC6 HLL
 go_wp2
 go_end0
 obtain ⟨c5,hg5,_⟩:=HM5.out.tv
 refine ⟨rfl,q',_,_,HM6.out,HS5.out.chf HC6.out hg5,(HBL4.out.trans (HB5.out.mono (nT HM.out.bw HBL4.out.size))).trans HC6.out.1,fun k c9 t9 fz e n1 n2 n3 n4=>?_⟩
 have e4:=HST4.out k _ n3 (fun q9=>n4 (by rw [q9];rfl)) n2 e
 exact HC6.out.2 k c9 t9 fz ((HB5.out.block k (lO e4)).trans e4) n1 n2
end Go.Proofs.YtimdcaofgapnlabGreat
