import Derived.Test.YtdfjjhlhnfindaaGreatZ48
set_option maxRecDepth 100000
set_option maxHeartbeats 16000000
set_option linter.unusedVariables false
namespace Go.Proofs.YtdfjjhlhnfindaaGreat
open Go.RowKit
theorem aEm {B g:Nat} {t:TypeId} (hB:B<=g):∀ (vs:List Value) (o:Nat) (w:World) (cs:Array Value),w.heap[g]?=some (.cells cs t (0,0))->o+vs.length<=cs.size->∃ cs':Array Value,(w.setCells g o vs).heap[g]?=some (.cells cs' t (0,0))/\cs'.size=cs.size/\(∀ j v,vs[j]?=some v->cs'[o+j]?=some v)/\(∀ j,j<o->cs'[j]?=cs[j]?)/\(∀ k,k≠g->(w.setCells g o vs).heap[k]?=w.heap[k]?)/\Below B w (w.setCells g o vs)
 | [],o,w,cs,h,hl=>⟨cs,h,rfl,fun j v hj=>by simp at hj,fun j hj=>rfl,fun k hk=>rfl,Below.refl _ _⟩
 | v::r,o,w,cs,h,hl=>by
  have hl':o+1+r.length<=cs.size:=by simp only [List.length_cons] at hl;omega
  have h1:=heap_setCell_same w g o _ _ v h
  obtain ⟨cs',k1,k2,k3,k4,k5,k6⟩:=aEm hB r (o+1) (w.setCell ⟨g,o,none⟩ v) _ h1 (by rw [Array.size_setIfInBounds];exact hl')
  refine ⟨cs',k1,by rw [k2,Array.size_setIfInBounds],fun j u hj=>?_,fun j hj=>?_,fun k hk=>(k5 k hk).trans (heap_setCell_other _ _ _ _ hk),((Below.refl _ _).setCell (p:=⟨g,o,none⟩) hB v).trans k6⟩
  ·cases j with
   | zero =>
    simp only [List.getElem?_cons_zero,oI] at hj
    subst hj
    rw [Nat.add_zero,k4 o (by omega)]
    exact Array.getElem?_setIfInBounds_self_of_lt (by omega)
   | succ j =>
    rw [List.getElem?_cons_succ] at hj
    rw [show o+(j+1)=o+1+j by omega]
    exact k3 j u hj
  ·rw [k4 j (by omega)]
   exact Array.getElem?_setIfInBounds_ne (by omega)
theorem aGy {w:World} {nt gh M ga oa cz n c B:Nat} {F zs:List Int} {lv:Value} {a:Option Addr} (h:NTM w nt gh M (.slice a n c) lv) (hB:B<=nt) (hBw:B<=w.heap.size) (hz:∀ (j:Nat) (z:Int),zs[j]?=some z->w.cell? ⟨ga,oa+j,none⟩=some (.int .i64 z)) (h1:1<=zs.length) (h2:F.length+zs.length<=1000) (hn:F.length=n) (hfull:c<n+zs.length) (hna:a=none->n=0/\c=0) (hF:∀ b,a=some b->∀ (j:Nat) (z:Int),F[j]?=some z->w.cell? (b.add j)=some (.int .i64 z)) :
  Calls Tryz.prog 6 #[.pointer (some ⟨nt,0,none⟩),.slice (some ⟨ga,oa,none⟩) zs.length cz] w fun e w'=>e=.returned (.tuple #[])/\∃ (g c:Nat) (cs:Array Value),w.heap.size<=g/\NTM w' nt gh M (.slice (some ⟨g,0,none⟩) (F++zs).length c) lv/\w'.heap[g]?=some (.cells cs 3 (0,0))/\(∀ (j:Nat) (z:Int),(F++zs)[j]?=some z->cs[j]?=some (Value.int .i64 z))/\(F++zs).length<=c/\c<=cs.size/\c<=9223372036854775807/\Below B w w'/\∀ k,k<w.heap.size->k≠nt->w'.heap[k]?=w.heap[k]?:=by
 obtain ⟨i0,hi,hz0,hz1,hz2⟩:=info_parts aE4
 have lt:∀ {k:Nat} {o:Obj} {ww:World},ww.heap[k]?=some o->k<ww.heap.size:=fun e=>(lO e)
 have c1:w.cell? ⟨nt,1,none⟩=some (.slice a n c):=aAa h
 have HCL:Hid (∀ j u,(zs.map (Value.int .i64))[j]?=some u->w.cell? ((⟨ga,oa,none⟩:Addr).add j)=some u):=fun j u hj=>by
  rw [List.getElem?_map] at hj
  cases hx:zs[j]? with
  | none=>rw [hx] at hj;cases hj
  | some z =>
   rw [hx] at hj
   simp only [Option.map_some,oI] at hj
   subst hj
   rw [Addr.add_lit]
   exact hz j z hx
 have HOL:Hid (∀ b,a=some b->∀ j u,(F.map (Value.int .i64))[j]?=some u->w.cell? (b.add j)=some u):=fun b hb j u hj=>by
  rw [List.getElem?_map] at hj
  cases hx:F[j]? with
  | none=>rw [hx] at hj;cases hj
  | some z =>
   rw [hx] at hj
   simp only [Option.map_some,oI] at hj
   subst hj
   exact hF b hb j z hx
 have HH:=hide h
 have HB:=hide hB
 have HBW:=hide hBw
 have HZL:Hid ((zs.map (Value.int .i64)).length=zs.length):=List.length_map _
 have HFL:Hid ((F.map (Value.int .i64)).length=n):=(List.length_map _).trans hn
 have HAL:Hid ((F++zs).length=n+zs.length):=by show _=_;rw [lA,hn]
 have HON:Hid (∀ u∈zs.map (Value.int .i64),u.oneCell'=true):=fun u hu=>by
  obtain ⟨z,_,rfl⟩:=List.mem_map.1 hu
  rfl
 have HGM:Hid (∀ (j:Nat) (z:Int),(F++zs)[j]?=some z->(F.map (Value.int .i64)++zs.map (Value.int .i64))[j]?=some (.int .i64 z)):=fun j z hj=>by
  rw [<-List.map_append,List.getElem?_map,hj]
  rfl
 have HNA:=hide hna
 have h2':n+zs.length<=1000:=by omega
 rw [HAL.out]
 generalize hN:zs.map (Value.int .i64)=news at *
 generalize hO:F.map (Value.int .i64)=olds at *
 generalize hk:zs.length=k at *
 clear h hB hBw hz hN hO hF hna hn h2
 go_enter Tryz.func6,Tryz.ntmps6
 go_wp2_with (at_builtin;refine wpList_append_grows _ rfl (.tmp 8) (.tmp 9) 38 rfl 3 i0 (.int .i64 0) 1 8 Tryz.underlying38 hi hz0 hz1 hz2 rfl (by omega) a n c olds rfl HNA.out (by rw [HFL.out];omega) HOL.out ⟨ga,oa,none⟩ k cz news rfl (by rw [HZL.out];omega) HCL.out HON.out hfull (by unfold maxLen;omega) (by omega) ?_;intro v2 w2 ho2 hg2;have HO:=hide ho2;have HG:=hide hg2;clear ho2 hg2;obtain ⟨a2,c2,hv2⟩:=aAg HO.out;subst hv2;have c3:w2.cell? ⟨nt,1,none⟩=some (.slice a n c):=(World.cell?_of_block (HG.out.block nt (lt HH.out) (by simp))).trans c1;have f3:w2.frozen? ⟨nt,1,none⟩=false:=aAb ((HG.out.block nt (lt HH.out) (by simp)).trans HH.out);clear c1)
 (try simp only [Exit.inBlock,Exit.then])
 refine bodyPost_end (results_none rfl _ _ _) rfl ⟨rfl,?_⟩
 have hN2:w2.heap[nt]?=_:=(HG.out.block nt (lt HH.out) (by simp)).trans HH.out
 rcases HO.out.2 with ⟨e,h9⟩ | ⟨g,cap,cur,e,hgB,hg,hnc,hcm,hcs,ht⟩
 ·omega
 ·simp only [Value.slice.injEq] at e
  obtain ⟨rfl,_,rfl⟩:=e
  have hne:g≠nt:=by have:=lt HH.out;omega
  have hm:c2<=9223372036854775807:=by unfold maxLen at hcm;omega
  refine ⟨g,c2,cur,hgB,heap_setCell_same _ _ _ _ _ _ hN2,(heap_setCell_other _ _ _ _ hne).trans hg,fun j z hj=>?_,by omega,by omega,hm,?_,fun i hi hin=>(heap_setCell_other _ _ _ _ hin).trans (HG.out.block i hi (by simp))⟩
  ·have h9:=HGM.out j z hj
   have hjk:j<n+k:=by rw [<-HAL.out];exact (lL hj)
   have ht':cur.toList.take ((n+k)*1)=olds++news:=by simpa using ht
   rw [<-ht',List.getElem?_take_of_lt (by omega)] at h9
   simpa using h9
  ·exact Below.setCell (p:=⟨nt,1,none⟩) ⟨HG.out.os,HG.out.tape,HG.out.output,HG.out.size,fun i hi=>HG.out.block i (by have:=HBW.out;omega) (by simp)⟩ HB.out _
theorem aGx {w:World} {nt gh M g o ga oa cz n c:Nat} {F zs:List Int} {lv:Value} {cs:Array Value} (h:NTM w nt gh M (.slice (some ⟨g,o,none⟩) n c) lv) (hne:nt≠g) (hg:w.heap[g]?=some (.cells cs 3 (0,0))) (hcs:o+c<=cs.size) (hn:F.length=n) (hF:∀ (j:Nat) (z:Int),F[j]?=some z->cs[o+j]?=some (.int .i64 z)) (hz:∀ (j:Nat) (z:Int),zs[j]?=some z->w.cell? ⟨ga,oa+j,none⟩=some (.int .i64 z)) (hr:n+zs.length<=c) (h2:F.length+zs.length<=1000) :
  Calls Tryz.prog 6 #[.pointer (some ⟨nt,0,none⟩),.slice (some ⟨ga,oa,none⟩) zs.length cz] w fun e w'=>e=.returned (.tuple #[])/\∃ W1,W1=w.setCells g (o+n) (zs.map (Value.int .i64))/\w'=W1.setCell ⟨nt,1,none⟩ (.slice (some ⟨g,o,none⟩) (n+zs.length) c):=by
 obtain ⟨i0,hi,hz0,hz1,hz2⟩:=info_parts aE4
 have c1:w.cell? ⟨nt,1,none⟩=some (.slice (some ⟨g,o,none⟩) n c):=aAa h
 have HCL:Hid (∀ j u,(zs.map (Value.int .i64))[j]?=some u->w.cell? ((⟨ga,oa,none⟩:Addr).add j)=some u):=fun j u hj=>by
  rw [List.getElem?_map] at hj
  cases hx:zs[j]? with
  | none=>rw [hx] at hj;cases hj
  | some z =>
   rw [hx] at hj
   simp only [Option.map_some,oI] at hj
   subst hj
   rw [Addr.add_lit]
   exact hz j z hx
 have HOL:Hid (∀ j u,(F.map (Value.int .i64))[j]?=some u->w.cell? ⟨g,o+j,none⟩=some u):=fun j u hj=>by
  rw [List.getElem?_map] at hj
  cases hx:F[j]? with
  | none=>rw [hx] at hj;cases hj
  | some z =>
   rw [hx] at hj
   simp only [Option.map_some,oI] at hj
   subst hj
   exact (aAa hg).trans (hF j z hx)
 have HZL:Hid ((zs.map (Value.int .i64)).length=zs.length*1):=(List.length_map _).trans (Nat.mul_one _).symm
 have HFL:Hid ((F.map (Value.int .i64)).length=n*1):=((List.length_map _).trans hn).trans (Nat.mul_one _).symm
 have HON:Hid (∀ u∈zs.map (Value.int .i64),u.oneCell'=true):=fun u hu=>by
  obtain ⟨z,_,rfl⟩:=List.mem_map.1 hu
  rfl
 have HSP:Hid (n+zs.length<=c->∀ j,j<(zs.map (Value.int .i64)).length->(w.cell? ⟨g,o+n*1+j,none⟩).isSome=true/\w.frozen? ⟨g,o+n*1+j,none⟩=false):=fun _ j hj=>by
  rw [HZL.out] at hj
  refine ⟨?_,aAb hg⟩
  rw [(aAa hg:w.cell? ⟨g,o+n*1+j,none⟩=_),Array.getElem?_eq_getElem (show o+n*1+j<cs.size by omega)]
  rfl
 have HC3:Hid (∀ W1,W1=w.setCells g (o+n*1) (zs.map (Value.int .i64))->W1.cell? ⟨nt,1,none⟩=some (.slice (some ⟨g,o,none⟩) n c)/\W1.frozen? ⟨nt,1,none⟩=false):=fun W1 hW=>by
  subst hW
  exact ⟨(World.cell?_setCells_out g _ _ w _ (fun e=>absurd e hne)).trans c1,(World.frozen?_setCells g _ _ w _).trans (aAb h)⟩
 have h2':n+zs.length<=1000:=by omega
 have HE1:Hid (o+n*1=o+n):=by show _=_;omega
 generalize zs.map (Value.int .i64)=news at *
 generalize F.map (Value.int .i64)=olds at *
 generalize zs.length=k at *
 clear h hg hcs hz hF hn h2
 go_enter Tryz.func6,Tryz.ntmps6
 go_wp2_with (at_builtin;refine wpList_append_arg _ rfl (.tmp 8) (.tmp 9) 38 rfl 3 i0 (.int .i64 0) 1 8 Tryz.underlying38 hi hz0 hz1 hz2 rfl (by omega) g o n c olds rfl HFL.out HOL.out ⟨ga,oa,none⟩ k cz news rfl HZL.out HCL.out HON.out HSP.out (by unfold maxLen;omega) (by omega) (fun _=>?_) (fun hg9=>absurd hg9 (by omega));obtain ⟨W1,hW1⟩:∃ W1,W1=w.setCells g (o+n*1) news:=⟨_,rfl⟩;rw [<-hW1];have c3:=(HC3.out W1 hW1).1;have f3:=(HC3.out W1 hW1).2;have HW1:=hide hW1;clear hW1 c1)
 (try simp only [Exit.inBlock,Exit.then])
 refine bodyPost_end (results_none rfl _ _ _) rfl ⟨rfl,W1,?_,rfl⟩
 rw [<-HE1.out]
 exact HW1.out
section
variable {B N M nt gh:Nat} {P:Nat->NdP} {A:Nat->NdS} {wv:Value} {F:List Int} {l:List LR} {W w:World}
theorem NSw.weatherZ (h:NSw B N M nt gh P A wv F l W w) {ga oa cz:Nat} {zs:List Int} (hz:∀ (j:Nat) (z:Int),zs[j]?=some z->w.cell? ⟨ga,oa+j,none⟩=some (.int .i64 z)) (h1:1<=zs.length) (h2:F.length+zs.length<=1000) :
  Calls Tryz.prog 6 #[.pointer (some ⟨nt,0,none⟩),.slice (some ⟨ga,oa,none⟩) zs.length cz] w fun e w'=>e=.returned (.tuple #[])/\∃ wv',NSw B N M nt gh P A wv' (F++zs) l W w'/\NsF B w w':=by
 obtain ⟨a,c,rfl,r1,r2,r3⟩:=h.f
 obtain ⟨lv,k1,k2⟩:=h.n
 obtain ⟨hc,k3,k4⟩:=h.h
 have ne:∀ {k:Nat} {cs:Array Value} {t:TypeId} {fz:Nat×Nat},w.heap[k]?=some (Obj.cells cs t fz)->t≠45->k≠nt:=by
  intro k cs t fz e ht e3
  subst e3
  have h9:w.heap[k]?=_:=k1
  rw [h9] at e
  simp only [oI,cI] at e
  exact ht e.2.1.symm
 by_cases hfull:c<F.length+zs.length
 ·refine (aGy (F:=F) (cz:=cz) k1 h.b h.bw hz h1 h2 rfl hfull (fun e=>?_) (fun b hb j z hj=>?_)).mono ?_
  ·by_cases hc0:c=0
   ·exact ⟨by omega,hc0⟩
   ·obtain ⟨g,o,cs,e2,_⟩:=r3 hc0
    rw [e] at e2
    cases e2
  ·have hl:=(lL hj)
   obtain ⟨g,o,cs,e2,_,r4,r5,r6⟩:=r3 (by omega)
   rw [hb] at e2
   obtain rfl:=Option.some.inj e2
   rw [Addr.add_lit]
   exact (aAa r4).trans (r6 j z hj)
  rintro e w' ⟨rfl,g,c',cs,q1,q2,q3,q4,q5,q6,q7,q8,q9⟩
  have st:∀ {k:Nat} {cs:Array Value} {t:TypeId} {fz:Nat×Nat},w.heap[k]?=some (Obj.cells cs t fz)->t≠45->w'.heap[k]?=some (Obj.cells cs t fz):=fun e ht=>(q9 _ (lO e) (ne e ht)).trans e
  have hm:=h.m.gain (fun k=>k=nt) (ntT k1) (fun k a b=>q9 k a b) q8 q1 ⟨cs,_,q3,by unfold DTy;decide⟩
  refine ⟨rfl,.slice (some ⟨g,0,none⟩) (F++zs).length c',⟨hm.less (fun k hk=>by
   have hk:some g=some k:=hk
   cases hk
   rfl),⟨_,c',rfl,q5,q7,fun _=>⟨g,0,cs,rfl,nT h.bw q1,q3,by omega,fun j z hj=>by rw [Nat.zero_add];exact q4 j z hj⟩⟩,⟨lv,q2,k2.keep (fun k cs e=>st e (by decide)) ⟨q8,fun k cs fz e=>st e (by decide)⟩⟩,⟨hc,st k3 (by decide),k4⟩,h.b,nT h.bw q8.size⟩,q8,fun k cs t fz e _ _ _ _ n5=>st e n5.1⟩
 ·obtain ⟨g,o,cs,rfl,hgB,r4,r5,r6⟩:=r3 (by omega)
  have hgn:g≠nt:=ne r4 (by decide)
  refine (aGx (F:=F) (cz:=cz) k1 (Ne.symm hgn) r4 r5 rfl r6 hz (by omega) h2).mono ?_
  rintro e w' ⟨rfl,W1,hW1,rfl⟩
  obtain ⟨cs',s1,s2,s3,s4,s5,s6⟩:=aEm hgB (zs.map (Value.int .i64)) (o+F.length) w cs r4 (by rw [List.length_map];omega)
  rw [<-hW1] at s1 s5 s6
  have hN1:NTM W1 nt gh M (.slice (some ⟨g,o,none⟩) F.length c) lv:=(s5 nt (Ne.symm hgn)).trans k1
  have hb2:Below B W1 (W1.setCell ⟨nt,1,none⟩ (.slice (some ⟨g,o,none⟩) (F.length+zs.length) c)):=(Below.refl _ _).setCell (p:=⟨nt,1,none⟩) h.b _
  have hm1:MND B N M P A (fun k=>(Value.slice (some ⟨g,o,none⟩) F.length c).ownBlock=some k) W W1:=by
   have key:∀ (vs:List Value) (off:Nat) (ww:World),MND B N M P A (fun k=>(Value.slice (some ⟨g,o,none⟩) F.length c).ownBlock=some k) W ww->MND B N M P A (fun k=>(Value.slice (some ⟨g,o,none⟩) F.length c).ownBlock=some k) W (ww.setCells g off vs):=by
    intro vs
    induction vs with
    | nil=>exact fun _ _ h=>h
    | cons v r ih=>exact fun off ww h=>ih _ _ (h.wrE (g:=g) (o:=off) (u:=v) rfl hgB)
   rw [hW1]
   exact key _ _ _ h.m
  have hm2:=hm1.oth (fun k=>k=nt) (ntT hN1) (fun k _ hk=>heap_setCell_other _ _ _ _ hk) hb2
  have st:∀ {k:Nat} {cs':Array Value} {t:TypeId} {fz:Nat×Nat},w.heap[k]?=some (Obj.cells cs' t fz)->t≠45->t≠3->(W1.setCell ⟨nt,1,none⟩ (.slice (some ⟨g,o,none⟩) (F.length+zs.length) c)).heap[k]?=some (Obj.cells cs' t fz):=fun e ht hi=>((heap_setCell_other _ _ _ _ (ne e ht)).trans (s5 _ (fun e3=>by
   subst e3
   rw [r4] at e
   simp only [oI,cI] at e
   exact hi e.2.1.symm))).trans e
  have hlen:F.length+zs.length=(F++zs).length:=(lA).symm
  refine ⟨rfl,.slice (some ⟨g,o,none⟩) (F.length+zs.length) c,⟨hm2.less (fun k hk=>hk),⟨_,c,by rw [hlen],by rw [<-hlen];omega,r2,fun _=>⟨g,o,cs',rfl,hgB,(heap_setCell_other _ _ _ _ hgn).trans s1,by rw [s2];exact r5,fun j z hj=>?_⟩⟩,⟨lv,heap_setCell_same _ _ _ _ _ _ hN1,k2.keep (fun k cs e=>st e (by decide) (by decide)) ⟨s6.trans hb2,fun k cs fz e=>st e (by decide) (by decide)⟩⟩,⟨hc,st k3 (by decide) (by decide),k4⟩,h.b,nT h.bw (s6.trans hb2).size⟩,s6.trans hb2,fun k cs' t fz e n1 _ _ _ n5=>st e n5.1 (fun q=>by rw [q] at n1;exact absurd n1 (by decide))⟩
  by_cases hjl:j<F.length
  ·rw [s4 (o+j) (by omega)]
   rw [List.getElem?_append_left hjl] at hj
   exact r6 j z hj
  ·rw [List.getElem?_append_right (by omega)] at hj
   have h9:=s3 (j-F.length) (.int .i64 z) (by rw [List.getElem?_map,hj];rfl)
   rw [show o+F.length+(j-F.length)=o+j by omega] at h9
   exact h9
end
section
variable {B N nt gh v:Nat} {P:Nat->NdP} {s:Mt} {W w:World}
theorem HN.weatherZ (h:HN B N nt gh v P s W w) {ga oa cz:Nat} {zs:List Int} (hz:∀ (j:Nat) (z:Int),zs[j]?=some z->w.cell? ⟨ga,oa+j,none⟩=some (.int .i64 z)) (h1:1<=zs.length) (h2:s.F.length+zs.length<=1000) :
  Calls Tryz.prog 6 #[.pointer (some ⟨nt,0,none⟩),.slice (some ⟨ga,oa,none⟩) zs.length cz] w fun e w'=>e=.returned (.tuple #[])/\HN B N nt gh v P ⟨s.F++zs,s.R,s.l,s.m⟩ W w'/\NsF B w w':=by
 obtain ⟨A,wv,k1,k2⟩:=h
 refine (k1.weatherZ hz h1 h2).mono ?_
 rintro e w' ⟨rfl,wv',q1,q2⟩
 exact ⟨rfl,⟨A,wv',q1,k2⟩,q2⟩
theorem HN.ahead (h:HN B N nt gh v P s W w):Calls Tryz.prog 9 #[.pointer (some ⟨nt,0,none⟩)] w fun e w'=>e=.returned (.int .i64 (s.F.length:Int))/\w'=w:=by
 obtain ⟨A,wv,k1,k2⟩:=h
 exact k1.ahead
theorem HN.fate (h:HN B N nt gh v P s W w):Calls Tryz.prog 10 #[.pointer (some ⟨nt,0,none⟩)] w fun e w'=>(∃ x:Int,e=.returned (.int .i64 x))/\HN B N nt gh v P ⟨s.F.tail,s.R,s.l,s.m⟩ W w'/\NsF B w w':=by
 obtain ⟨A,wv,k1,k2⟩:=h
 refine k1.fate.mono ?_
 rintro e w' ⟨rfl,wv',q1,q2,_⟩
 exact ⟨⟨_,rfl⟩,⟨A,wv',q1,k2⟩,q2⟩
end
end Go.Proofs.YtdfjjhlhnfindaaGreat
