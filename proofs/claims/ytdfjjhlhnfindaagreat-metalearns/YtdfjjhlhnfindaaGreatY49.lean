import Derived.Test.YtdfjjhlhnfindaaGreatY48
set_option maxRecDepth 100000
set_option maxHeartbeats 16000000
set_option linter.unusedVariables false
namespace Go.Proofs.YtdfjjhlhnfindaaGreat
open Go.RowKit Tryz
variable {B K M N cp g gb gh i m n nt o vn:Nat} {F:List Int} {P:Nat->NdP} {W w:World} {a va:Option Addr} {cs:Array Value} {lv:Value} {val:List Nat}
theorem aEr {t:TypeId} (hB:B<=g):∀ (vs:List Value) (o:Nat) (w:World) (cs:Array Value),w.heap[g]?=some (.cells cs t (0,0))->o+vs.length<=cs.size->∃ cs':Array Value,(w.setCells g o vs).heap[g]?=some (.cells cs' t (0,0))/\cs'.size=cs.size/\(∀ j v,vs[j]?=some v->cs'[o+j]?=some v)/\(∀ j,j<o->cs'[j]?=cs[j]?)/\(∀ k,k≠g->(w.setCells g o vs).heap[k]?=w.heap[k]?)/\Below B w (w.setCells g o vs)
 | [],o,w,cs,h,hl=>⟨cs,h,rfl,fun j v hj=>by simp at hj,fun j hj=>rfl,fun k hk=>rfl,Below.refl _ _⟩
 | v::r,o,w,cs,h,hl=>by
  have hl':o+1+r.length<=cs.size:=by simp only [List.length_cons] at hl;omega
  have h1:=heap_setCell_same w g o _ _ v h;obtain ⟨cs',k1,k2,k3,k4,k5,k6⟩:=aEr hB r (o+1) (w.setCell ⟨g,o,none⟩ v) _ h1 (by rw [Array.size_setIfInBounds];exact hl');refine ⟨cs',k1,by rw [k2,Array.size_setIfInBounds],fun j u hj=>?_,fun j hj=>?_,fun k hk=>(k5 k hk).trans (heap_setCell_other _ _ _ _ hk),((Below.refl _ _).setCell (p:=⟨g,o,none⟩) hB v).trans k6⟩
  ·cases j with
   | zero =>
    simp only [List.getElem?_cons_zero,oI] at hj;subst hj;rw [Nat.add_zero,k4 o (by omega)];exact Array.getElem?_setIfInBounds_self_of_lt (by omega)
   | succ j =>
    rw [List.getElem?_cons_succ] at hj;rw [show o+(j+1)=o+1+j by omega];exact k3 j u hj
  ·rw [k4 j (by omega)];exact Array.getElem?_setIfInBounds_ne (by omega)
theorem aG7 {ga oa cz c:Nat} {zs:List Int} (h:NTM w nt gh M (.slice a n c) lv) (hB:B<=nt) (hBw:B<=w.heap.size) (hz:∀ (j:Nat) (z:Int),zs[j]?=some z->w.cell? ⟨ga,oa+j,none⟩=some (.int .i64 z)) (h1:1<=zs.length) (h2:F.length+zs.length<=1000) (hn:F.length=n) (hfull:c<n+zs.length) (hna:a=none->n=0/\c=0) (hF:∀ b,a=some b->∀ (j:Nat) (z:Int),F[j]?=some z->w.cell? (b.add j)=some (.int .i64 z)) :
  Calls prog 6 #[.pointer (some ⟨nt,0,none⟩),.slice (some ⟨ga,oa,none⟩) zs.length cz] w fun e w'=>e=.returned (.tuple #[])/\∃ (g c:Nat) (cs:Array Value),w.heap.size<=g/\NTM w' nt gh M (.slice (some ⟨g,0,none⟩) (F++zs).length c) lv/\w'.heap[g]?=some (.cells cs 3 (0,0))/\(∀ (j:Nat) (z:Int),(F++zs)[j]?=some z->cs[j]?=some (Value.int .i64 z))/\(F++zs).length<=c/\c<=cs.size/\c<=9223372036854775807/\Below B w w'/\∀ k,k<w.heap.size->k≠nt->w'.heap[k]?=w.heap[k]?:=by
 obtain ⟨i0,hi,hz0,hz1,hz2⟩:=info_parts aD2;have c1:w.cell? ⟨nt,1,none⟩=some (.slice a n c):=aAa h;have HCL:Hid (∀ j u,(zs.map (Value.int .i64))[j]?=some u->w.cell? ((⟨ga,oa,none⟩:Addr).add j)=some u):=fun j u hj=>by
  rw [List.getElem?_map] at hj
  cases hx:zs[j]? with
  | none=>rw [hx] at hj;cases hj
  | some z =>
   rw [hx] at hj;simp only [Option.map_some,oI] at hj;subst hj;rw [Addr.add_lit];exact hz j z hx
 have HOL:Hid (∀ b,a=some b->∀ j u,(F.map (Value.int .i64))[j]?=some u->w.cell? (b.add j)=some u):=fun b hb j u hj=>by
  rw [List.getElem?_map] at hj
  cases hx:F[j]? with
  | none=>rw [hx] at hj;cases hj
  | some z =>
   rw [hx] at hj;simp only [Option.map_some,oI] at hj;subst hj;exact hF b hb j z hx
 have HH:=zH h;have HB:=zH hB;have HBW:=zH hBw;have HZL:Hid ((zs.map (Value.int .i64)).length=zs.length):=List.length_map _;have HFL:Hid ((F.map (Value.int .i64)).length=n):=(List.length_map _).trans hn;have HAL:Hid ((F++zs).length=n+zs.length):=by show _=_;rw [lA,hn]
 have HON:Hid (∀ u∈zs.map (Value.int .i64),u.oneCell'=true):=fun u hu=>by
  obtain ⟨z,_,rfl⟩:=List.mem_map.1 hu;rfl
 have HGM:Hid (∀ (j:Nat) (z:Int),(F++zs)[j]?=some z->(F.map (Value.int .i64)++zs.map (Value.int .i64))[j]?=some (.int .i64 z)):=fun j z hj=>by
  rw [<-List.map_append,List.getElem?_map,hj];rfl
 have HNA:=zH hna;have h2':n+zs.length<=1000:=by omega
 rw [HAL.o];generalize hN:zs.map (Value.int .i64)=news at *
 generalize hO:F.map (Value.int .i64)=olds at *
 generalize hk:zs.length=k at *
 clear h hB hBw hz hN hO hF hna hn h2;go_enter func6,ntmps6;go_wp2_with (at_builtin;refine wpList_append_grows _ rfl (.tmp 8) (.tmp 9) 38 rfl 3 i0 (.int .i64 0) 1 8 underlying38 hi hz0 hz1 hz2 rfl (by omega) a n c olds rfl HNA.o (by rw [HFL.o];omega) HOL.o ⟨ga,oa,none⟩ k cz news rfl (by rw [HZL.o];omega) HCL.o HON.o hfull (by unfold maxLen;omega) (by omega) ?_;intro v2 w2 ho2 hg2;have HO:=zH ho2;have HG:=zH hg2;clear ho2 hg2;obtain ⟨a2,c2,hv2⟩:=aAg HO.o;subst hv2;have c3:w2.cell? ⟨nt,1,none⟩=some (.slice a n c):=(World.cell?_of_block (HG.o.block nt (lO HH.o) (by simp))).trans c1;have f3:w2.frozen? ⟨nt,1,none⟩=false:=aAb ((HG.o.block nt (lO HH.o) (by simp)).trans HH.o);clear c1);(try simp only [Exit.inBlock,Exit.then]);refine bodyPost_end (results_none rfl _ _ _) rfl ⟨rfl,?_⟩;have hN2:w2.heap[nt]?=_:=(HG.o.block nt (lO HH.o) (by simp)).trans HH.o;rcases HO.o.2 with ⟨e,h9⟩ | ⟨g,cap,cur,e,hgB,hg,hnc,hcm,hcs,ht⟩
 ·omega
 ·simp only [Value.slice.injEq] at e;obtain ⟨rfl,_,rfl⟩:=e;have hne:g≠nt:=by have:=lO HH.o;omega
  have hm:c2<=9223372036854775807:=by unfold maxLen at hcm;omega
  refine ⟨g,c2,cur,hgB,heap_setCell_same _ _ _ _ _ _ hN2,(heap_setCell_other _ _ _ _ hne).trans hg,fun j z hj=>?_,by omega,by omega,hm,?_,fun i hi hin=>(heap_setCell_other _ _ _ _ hin).trans (HG.o.block i hi (by simp))⟩
  ·have h9:=HGM.o j z hj;have hjk:j<n+k:=by rw [<-HAL.o];exact (lL hj)
   have ht':cur.toList.take ((n+k)*1)=olds++news:=by simpa using ht
   rw [<-ht',List.getElem?_take_of_lt (by omega)] at h9;simpa using h9
  ·exact Below.setCell (p:=⟨nt,1,none⟩) ⟨HG.o.os,HG.o.tape,HG.o.output,HG.o.size,fun i hi=>HG.o.block i (by have:=HBW.o;omega) (by simp)⟩ HB.o _
theorem aG6 {ga oa cz c:Nat} {zs:List Int} (h:NTM w nt gh M (.slice (some ⟨g,o,none⟩) n c) lv) (hne:nt≠g) (hg:w.heap[g]?=some (.cells cs 3 (0,0))) (hcs:o+c<=cs.size) (hn:F.length=n) (hF:∀ (j:Nat) (z:Int),F[j]?=some z->cs[o+j]?=some (.int .i64 z)) (hz:∀ (j:Nat) (z:Int),zs[j]?=some z->w.cell? ⟨ga,oa+j,none⟩=some (.int .i64 z)) (hr:n+zs.length<=c) (h2:F.length+zs.length<=1000) :
  Calls prog 6 #[.pointer (some ⟨nt,0,none⟩),.slice (some ⟨ga,oa,none⟩) zs.length cz] w fun e w'=>e=.returned (.tuple #[])/\∃ W1,W1=w.setCells g (o+n) (zs.map (Value.int .i64))/\w'=W1.setCell ⟨nt,1,none⟩ (.slice (some ⟨g,o,none⟩) (n+zs.length) c):=by
 obtain ⟨i0,hi,hz0,hz1,hz2⟩:=info_parts aD2;have c1:w.cell? ⟨nt,1,none⟩=some (.slice (some ⟨g,o,none⟩) n c):=aAa h;have HCL:Hid (∀ j u,(zs.map (Value.int .i64))[j]?=some u->w.cell? ((⟨ga,oa,none⟩:Addr).add j)=some u):=fun j u hj=>by
  rw [List.getElem?_map] at hj
  cases hx:zs[j]? with
  | none=>rw [hx] at hj;cases hj
  | some z =>
   rw [hx] at hj;simp only [Option.map_some,oI] at hj;subst hj;rw [Addr.add_lit];exact hz j z hx
 have HOL:Hid (∀ j u,(F.map (Value.int .i64))[j]?=some u->w.cell? ⟨g,o+j,none⟩=some u):=fun j u hj=>by
  rw [List.getElem?_map] at hj
  cases hx:F[j]? with
  | none=>rw [hx] at hj;cases hj
  | some z =>
   rw [hx] at hj;simp only [Option.map_some,oI] at hj;subst hj;exact (aAa hg).trans (hF j z hx)
 have HZL:Hid ((zs.map (Value.int .i64)).length=zs.length*1):=(List.length_map _).trans (Nat.mul_one _).symm;have HFL:Hid ((F.map (Value.int .i64)).length=n*1):=((List.length_map _).trans hn).trans (Nat.mul_one _).symm;have HON:Hid (∀ u∈zs.map (Value.int .i64),u.oneCell'=true):=fun u hu=>by
  obtain ⟨z,_,rfl⟩:=List.mem_map.1 hu;rfl
 have HSP:Hid (n+zs.length<=c->∀ j,j<(zs.map (Value.int .i64)).length->(w.cell? ⟨g,o+n*1+j,none⟩).isSome=true/\w.frozen? ⟨g,o+n*1+j,none⟩=false):=fun _ j hj=>by
  rw [HZL.o] at hj;refine ⟨?_,aAb hg⟩;rw [(aAa hg:w.cell? ⟨g,o+n*1+j,none⟩=_),Array.getElem?_eq_getElem (show o+n*1+j<cs.size by omega)];rfl
 have HC3:Hid (∀ W1,W1=w.setCells g (o+n*1) (zs.map (Value.int .i64))->W1.cell? ⟨nt,1,none⟩=some (.slice (some ⟨g,o,none⟩) n c)/\W1.frozen? ⟨nt,1,none⟩=false):=fun W1 hW=>by
  subst hW;exact ⟨(World.cell?_setCells_out g _ _ w _ (fun e=>absurd e hne)).trans c1,(World.frozen?_setCells g _ _ w _).trans (aAb h)⟩
 have h2':n+zs.length<=1000:=by omega
 have HE1:Hid (o+n*1=o+n):=by show _=_;omega
 generalize zs.map (Value.int .i64)=news at *
 generalize F.map (Value.int .i64)=olds at *
 generalize zs.length=k at *
 clear h hg hcs hz hF hn h2;go_enter func6,ntmps6;go_wp2_with (at_builtin;refine wpList_append_arg _ rfl (.tmp 8) (.tmp 9) 38 rfl 3 i0 (.int .i64 0) 1 8 underlying38 hi hz0 hz1 hz2 rfl (by omega) g o n c olds rfl HFL.o HOL.o ⟨ga,oa,none⟩ k cz news rfl HZL.o HCL.o HON.o HSP.o (by unfold maxLen;omega) (by omega) (fun _=>?_) (fun hg9=>absurd hg9 (by omega));obtain ⟨W1,hW1⟩:∃ W1,W1=w.setCells g (o+n*1) news:=⟨_,rfl⟩;rw [<-hW1];have c3:=(HC3.o W1 hW1).1;have f3:=(HC3.o W1 hW1).2;have HW1:=zH hW1;clear hW1 c1);(try simp only [Exit.inBlock,Exit.then]);refine bodyPost_end (results_none rfl _ _ _) rfl ⟨rfl,W1,?_,rfl⟩;rw [<-HE1.o];exact HW1.o
section
variable {B N M nt gh:Nat} {P:Nat->NdP} {A:Nat->NdS} {wv:Value} {F:List Int} {l:List LR} {W w:World}
theorem NSw.weatherZ (h:NSw B N M nt gh P A wv F l W w) {ga oa cz:Nat} {zs:List Int} (hz:∀ (j:Nat) (z:Int),zs[j]?=some z->w.cell? ⟨ga,oa+j,none⟩=some (.int .i64 z)) (h1:1<=zs.length) (h2:F.length+zs.length<=1000) :
  Calls prog 6 #[.pointer (some ⟨nt,0,none⟩),.slice (some ⟨ga,oa,none⟩) zs.length cz] w fun e w'=>e=.returned (.tuple #[])/\∃ wv',NSw B N M nt gh P A wv' (F++zs) l W w'/\NsF B w w':=by
 obtain ⟨a,c,rfl,r1,r2,r3⟩:=h.f;obtain ⟨lv,k1,k2⟩:=h.n;obtain ⟨hc,k3,k4⟩:=h.h;have ne:∀ {k:Nat} {cs:Array Value} {t:TypeId} {fz:Nat×Nat},w.heap[k]?=some (Obj.cells cs t fz)->t≠45->k≠nt:=by
  intro k cs t fz e ht e3;subst e3;have h9:w.heap[k]?=_:=k1;rw [h9] at e;simp only [oI,cI] at e;exact ht e.2.1.symm
 by_cases hfull:c<F.length+zs.length
 ·refine (aG7 (F:=F) (cz:=cz) k1 h.b h.bw hz h1 h2 rfl hfull (fun e=>?_) (fun b hb j z hj=>?_)).mono ?_
  ·by_cases hc0:c=0
   ·exact ⟨by omega,hc0⟩
   ·obtain ⟨g,o,cs,e2,_⟩:=r3 hc0;rw [e] at e2;cases e2
  ·have hl:=(lL hj);obtain ⟨g,o,cs,e2,_,r4,r5,r6⟩:=r3 (by omega);rw [hb] at e2;obtain rfl:=Option.some.inj e2;rw [Addr.add_lit];exact (aAa r4).trans (r6 j z hj)
  rintro e w' ⟨rfl,g,c',cs,q1,q2,q3,q4,q5,q6,q7,q8,q9⟩;have st:∀ {k:Nat} {cs:Array Value} {t:TypeId} {fz:Nat×Nat},w.heap[k]?=some (Obj.cells cs t fz)->t≠45->w'.heap[k]?=some (Obj.cells cs t fz):=fun e ht=>(q9 _ (lO e) (ne e ht)).trans e
  have hm:=h.m.gain (fun k=>k=nt) (ntT k1) (fun k a b=>q9 k a b) q8 q1 ⟨cs,_,q3,by unfold DTy;decide⟩
  refine ⟨rfl,.slice (some ⟨g,0,none⟩) (F++zs).length c',⟨hm.less (fun k hk=>by
   have hk:some g=some k:=hk;cases hk
   rfl),⟨_,c',rfl,q5,q7,fun _=>⟨g,0,cs,rfl,nT h.bw q1,q3,by omega,fun j z hj=>by rw [Nat.zero_add];exact q4 j z hj⟩⟩,⟨lv,q2,k2.keep (fun k cs e=>st e (by decide)) ⟨q8,fun k cs fz e=>st e (by decide)⟩⟩,⟨hc,st k3 (by decide),k4⟩,h.b,nT h.bw q8.size⟩,q8,fun k cs t fz e _ _ _ _ n5=>st e n5.1⟩
 ·obtain ⟨g,o,cs,rfl,hgB,r4,r5,r6⟩:=r3 (by omega);have hgn:g≠nt:=ne r4 (by decide);refine (aG6 (F:=F) (cz:=cz) k1 (Ne.symm hgn) r4 r5 rfl r6 hz (by omega) h2).mono ?_;rintro e w' ⟨rfl,W1,hW1,rfl⟩;obtain ⟨cs',s1,s2,s3,s4,s5,s6⟩:=aEr hgB (zs.map (Value.int .i64)) (o+F.length) w cs r4 (by rw [List.length_map];omega);rw [<-hW1] at s1 s5 s6;have hN1:NTM W1 nt gh M (.slice (some ⟨g,o,none⟩) F.length c) lv:=(s5 nt (Ne.symm hgn)).trans k1;have hb2:Below B W1 (W1.setCell ⟨nt,1,none⟩ (.slice (some ⟨g,o,none⟩) (F.length+zs.length) c)):=(Below.refl _ _).setCell (p:=⟨nt,1,none⟩) h.b _;have hm1:MND B N M P A (fun k=>(Value.slice (some ⟨g,o,none⟩) F.length c).ownBlock=some k) W W1:=by
   have key:∀ (vs:List Value) (off:Nat) (ww:World),MND B N M P A (fun k=>(Value.slice (some ⟨g,o,none⟩) F.length c).ownBlock=some k) W ww->MND B N M P A (fun k=>(Value.slice (some ⟨g,o,none⟩) F.length c).ownBlock=some k) W (ww.setCells g off vs):=by
    intro vs
    induction vs with
    | nil=>exact fun _ _ h=>h
    | cons v r ih=>exact fun off ww h=>ih _ _ (h.wrE (g:=g) (o:=off) (u:=v) rfl hgB)
   rw [hW1];exact key _ _ _ h.m
  have hm2:=hm1.oth (fun k=>k=nt) (ntT hN1) (fun k _ hk=>heap_setCell_other _ _ _ _ hk) hb2
  have st:∀ {k:Nat} {cs':Array Value} {t:TypeId} {fz:Nat×Nat},w.heap[k]?=some (Obj.cells cs' t fz)->t≠45->t≠3->(W1.setCell ⟨nt,1,none⟩ (.slice (some ⟨g,o,none⟩) (F.length+zs.length) c)).heap[k]?=some (Obj.cells cs' t fz):=fun e ht hi=>((heap_setCell_other _ _ _ _ (ne e ht)).trans (s5 _ (fun e3=>by
   subst e3;rw [r4] at e;simp only [oI,cI] at e
   exact hi e.2.1.symm))).trans e
  have hlen:F.length+zs.length=(F++zs).length:=(lA).symm;refine ⟨rfl,.slice (some ⟨g,o,none⟩) (F.length+zs.length) c,⟨hm2.less (fun k hk=>hk),⟨_,c,by rw [hlen],by rw [<-hlen];omega,r2,fun _=>⟨g,o,cs',rfl,hgB,(heap_setCell_other _ _ _ _ hgn).trans s1,by rw [s2];exact r5,fun j z hj=>?_⟩⟩,⟨lv,heap_setCell_same _ _ _ _ _ _ hN1,k2.keep (fun k cs e=>st e (by decide) (by decide)) ⟨s6.trans hb2,fun k cs fz e=>st e (by decide) (by decide)⟩⟩,⟨hc,st k3 (by decide) (by decide),k4⟩,h.b,nT h.bw (s6.trans hb2).size⟩,s6.trans hb2,fun k cs' t fz e n1 _ _ _ n5=>st e n5.1 (fun q=>by rw [q] at n1;exact absurd n1 (by decide))⟩;by_cases hjl:j<F.length
  ·rw [s4 (o+j) (by omega)];rw [List.getElem?_append_left hjl] at hj;exact r6 j z hj
  ·rw [List.getElem?_append_right (by omega)] at hj;have h9:=s3 (j-F.length) (.int .i64 z) (by rw [List.getElem?_map,hj];rfl);rw [show o+F.length+(j-F.length)=o+j by omega] at h9;exact h9
end
section
variable {B N nt gh v:Nat} {P:Nat->NdP} {s:Mt} {W w:World}
theorem HN.weatherZ (h:HN B N nt gh v P s W w) {ga oa cz:Nat} {zs:List Int} (hz:∀ (j:Nat) (z:Int),zs[j]?=some z->w.cell? ⟨ga,oa+j,none⟩=some (.int .i64 z)) (h1:1<=zs.length) (h2:s.F.length+zs.length<=1000) :
  Calls prog 6 #[.pointer (some ⟨nt,0,none⟩),.slice (some ⟨ga,oa,none⟩) zs.length cz] w fun e w'=>e=.returned (.tuple #[])/\HN B N nt gh v P ⟨s.F++zs,s.R,s.l,s.m⟩ W w'/\NsF B w w':=by
 obtain ⟨A,wv,k1,k2⟩:=h;refine (k1.weatherZ hz h1 h2).mono ?_;rintro e w' ⟨rfl,wv',q1,q2⟩;exact ⟨rfl,⟨A,wv',q1,k2⟩,q2⟩
theorem HN.ahead (h:HN B N nt gh v P s W w):Calls prog 9 #[.pointer (some ⟨nt,0,none⟩)] w fun e w'=>e=.returned (.int .i64 (s.F.length:Int))/\w'=w:=by
 obtain ⟨A,wv,k1,k2⟩:=h;exact k1.ahead
theorem HN.fate (h:HN B N nt gh v P s W w):Calls prog 10 #[.pointer (some ⟨nt,0,none⟩)] w fun e w'=>(∃ x:Int,e=.returned (.int .i64 x))/\HN B N nt gh v P ⟨s.F.tail,s.R,s.l,s.m⟩ W w'/\NsF B w w':=by
 obtain ⟨A,wv,k1,k2⟩:=h;refine k1.fate.mono ?_;rintro e w' ⟨rfl,wv',q1,q2,_⟩;exact ⟨⟨_,rfl⟩,⟨A,wv',q1,k2⟩,q2⟩
end
section
variable {B N nt gh v b i n cp:Nat} {P:Nat->NdP} {s:Mt} {W w w':World} {k:Bool} {va:Option Addr} {val:List Nat}
theorem HN.wr6 (h:HN B N nt gh v P s W w) {g:Nat} {a0 a1 a2 a3 a4 a5 b0 b1 b2 b3 b4 b5:Value} (hg:w.heap[g]?=some (.cells #[a0,a1,a2,a3,a4,a5] 75 (0,0))) (hB:B<=g):HN B N nt gh v P s W ((((((w.setCell ⟨g,0,none⟩ b0).setCell ⟨g,1,none⟩ b1).setCell ⟨g,2,none⟩ b2).setCell ⟨g,3,none⟩ b3).setCell ⟨g,4,none⟩ b4).setCell ⟨g,5,none⟩ b5):=by
 obtain ⟨A,wv,h1,h2⟩:=h;exact ⟨A,wv,h1.wr6 hg hB,h2⟩
theorem HN.set6A (h:HN B N nt gh v P s W w) {g o:Nat} {b0 b1 b2 b3 b4 b5:Value} {cs:Array Value} (hg:w.heap[g]?=some (.cells cs 75 (0,0))) (hB:B<=g):HN B N nt gh v P s W ((((((w.setCell ⟨g,o,none⟩ b0).setCell ⟨g,o+1,none⟩ b1).setCell ⟨g,o+2,none⟩ b2).setCell ⟨g,o+3,none⟩ b3).setCell ⟨g,o+4,none⟩ b4).setCell ⟨g,o+5,none⟩ b5):=by
 obtain ⟨A,wv,h1,h2⟩:=h;exact ⟨A,wv,h1.set6A hg hB,h2⟩
theorem HN.set1 (h:HN B N nt gh v P s W w) {g o:Nat} {u:Value} {cs:Array Value} {t:TypeId} (hg:w.heap[g]?=some (.cells cs t (0,0))) (hB:B<=g) (h0:¬ DTy t) (h1:t≠5) (h2:t≠183) (h3:t≠130) (h4:t≠115/\t≠135) (h5:t≠45/\t≠70/\t≠51):HN B N nt gh v P s W (w.setCell ⟨g,o,none⟩ u):=by
 obtain ⟨A,wv,k1,k2⟩:=h;exact ⟨A,wv,k1.set1 hg hB h0 h1 h2 h3 h4 h5,k2⟩
theorem HN.nds (h:HN B N nt gh v P s W w):∃ wv lv,NTM w nt gh 3 wv lv:=by
 obtain ⟨A,wv,h1,h2⟩:=h;obtain ⟨lv,h3,_⟩:=h1.n;exact ⟨wv,lv,h3⟩
theorem HN.callL [WF] [WC] {ee tl bl:Int} {tln bln:Nat} {vl:List Nat} {s1:Mt} (h:HN B N nt gh v P s W w) (hwf:WF.ok s.F) (hi:i<3) (hv:v<=16) (hb1:1<=b) (hb2:b<9223372036854775808) (hk:BK B w va n cp val) (hn:n<=1800) (hm:s.m i<=83) (hN:s.m i+34<=N) (hl:s.l.length+s.F.length<=64) (hst:stp v k b val i s=(⟨ee,tln,bln,vl⟩,s1)) (htl:tl=(tln:Int)) (hbl:bl=(bln:Int)) (hvn:vn=vl.length) :
  Calls prog 48 #[.pointer (some ⟨nt,0,none⟩),.int .i64 (i:Int),.agg #[.int .i64 (kd k),.int .i64 (v:Int),.int .i64 (b:Int),.slice va n cp]] w fun e w'=>(∃ (tk:Bool) (ae:Int) (sa:Option Addr) (sc:Nat),e=.returned (.tuple #[.agg #[.int .i64 ae,.int .i64 tl,.bool false,.int .i64 0,.int .i64 bl,.slice sa vn sc],.bool tk])/\BK B w' sa vn sc vl/\((tk=true/\ae=ee)\/(tk=false/\ae=0/\ee=40)))/\HN B N nt gh v P s1 W w'/\NsF B w w':=by
 subst htl hbl hvn;have h9:=h.call (k:=k) hwf hi hv hb1 hb2 hk hn hm hN hl;rw [hst] at h9;exact h9
end
def AnR (B:Nat) (w:World) (cs:Array Value) (n:Nat) (a:Nat->An):Prop:=∀ i,i<n->∃ sa sc,cs[i*6]?=some (.int .i64 (a i).e)/\cs[i*6+1]?=some (.int .i64 ((a i).tl:Int))/\cs[i*6+2]?=some (.bool false)/\cs[i*6+3]?=some (.int .i64 0)/\cs[i*6+4]?=some (.int .i64 ((a i).bl:Int))/\cs[i*6+5]?=some (.slice sa (a i).val.length sc)/\BK B w sa (a i).val.length sc (a i).val
structure AGI (B N nt gh gb g j v ba:Nat) (P:Nat->NdP) (k:Bool) (val:List Nat) (st:Mt) (who:Int) (pr:Nat) (W w0 wx:World):Prop where
 s:HN B N nt gh v P (akS v k ba val st j) W wx
 b:wx.heap[gb]?=some (.cells #[.pointer (some ⟨nt,0,none⟩),.int .i64 (v:Int),.int .i64 who,.int .i64 (prj (akA v k ba val st) pr j:Int)] 60 (0,0))
 r:∃ cs,wx.heap[g]?=some (.cells cs 75 (0,0))/\cs.size=3*6/\AnR B wx cs j (akA v k ba val st)
 f:AsF B gb w0 wx
structure AGJ (B N nt gh gb g n2 v:Nat) (P:Nat->NdP) (s:Mt) (who pq ae tl bl:Int) (vn:Nat) (sa:Option Addr) (sc:Nat) (val:List Nat) (cs:Array Value) (W w0 wr wx:World):Prop where
 s:HN B N nt gh v P s W wx
 c:wx.heap[n2]?=some (.cells #[.int .i64 ae,.int .i64 tl,.bool false,.int .i64 0,.int .i64 bl,.slice sa vn sc] 75 (0,0))
 b:wx.heap[gb]?=some (.cells #[.pointer (some ⟨nt,0,none⟩),.int .i64 (v:Int),.int .i64 who,.int .i64 pq] 60 (0,0))
 d:wx.heap[g]?=some (.cells cs 75 (0,0))
 k:BK B wx sa vn sc val
 t:FT B wr wx
 f:AsF B gb w0 wx
 g1:g<n2/\gb<n2/\w0.heap.size<=n2
 g2:B<=n2
theorem ask_gen [WF] [WC] {v b pr:Nat} {s:Mt} {who:Int} {k:Bool} (h:HN B N nt gh v P s W w) (hok:MtOk K m s) (hm:m<=83) (hN:m+34<=N) (hbK:b<=K) (hv:v<=16) (hb1:1<=b) (hb2:b<9223372036854775808) (hk:BK B w va n cp val) (hn:n<=1800) (hb:w.heap[gb]?=some (.cells #[.pointer (some ⟨nt,0,none⟩),.int .i64 (v:Int),.int .i64 who,.int .i64 (pr:Int)] 60 (0,0))) (hgB:B<=gb) :
  Calls prog 36 #[.pointer (some ⟨gb,0,none⟩),.int .i64 (kd k),.int .i64 (b:Int),.slice va n cp] w fun e w'=>∃ g,e=.returned (.slice (some ⟨g,0,none⟩) 3 3)/\w.heap.size<=g/\AGI B N nt gh gb g 3 v b P k val s who pr W w w':=by
 obtain ⟨i0,hi,hz0,hz1,hz2⟩:=info_parts info_ans6
 have HND:=zH (by
  obtain ⟨wv,lv,h1⟩:=h.nds
  exact nodes_any h1)
 have HVL:Hid (val.length<=1800):=by show val.length<=1800;have:=hk.1.hlen;omega
 have HOK:Hid (∀ j,j<3->(akS v k b val s j).m j<=83/\(akS v k b val s j).m j+34<=N/\(akS v k b val s j).l.length+(akS v k b val s j).F.length<=64/\WF.ok (akS v k b val s j).F):=by
  intro j hj;have h1:=(akS_ok (v:=v) (k:=k) (b:=b) (val:=val) hok.r hok.f hbK HVL.o j (by omega)).2;have h2:=hok.m j hj;rw [(akS_m (v:=v) (k:=k) (b:=b) (val:=val) (s:=s) j j).2 (nR j)];exact ⟨by omega,by omega,h1,akS_wf hok.k j⟩
 have HS:=zH h;have HB:=zH hb;have HGB:=zH hgB;have HKV:=zH hk;have HARG:=zH (And.intro hv (And.intro hb1 (And.intro hb2 hn)));have c0:w.cell? ⟨gb,0,none⟩=some (.pointer (some ⟨nt,0,none⟩)):=aAa hb;clear h hb hgB hok hm hN hbK hv hb1 hb2 hk hn;go_enter func36,ntmps36;go_wp2_with fail;refine HND.o.mono ?_;rintro e w0' ⟨rfl,hw⟩;have hw:=hw.symm;subst hw;clear HND c0;go_wp2_with (refine wpList_make_full w rfl _ _ 92 rfl w.heap.size 75 i0 (.agg #[.int .i64 0,.int .i64 0,.bool false,.int .i64 0,.int .i64 0,.slice none 0 0]) 6 underlying92 hi hz0 hz1 .i64 .i64 3 3 3 rfl rfl rfl rfl (by rw [hz2];omega) (by unfold maxLen;omega) (nR _) ?_;intro w1 ho1 hg1;have HO1:=zH (made_all ho1);have HG1:=zH ((Below.refl w.heap.size w).grown hg1 (nR _) (fun k hk=>by cases hk));clear ho1 hg1);generalize hg0:w.heap.size=g at *
 go_loopw [21] (fun i wx=>∃ j:Nat,j<=3/\i=.int .i64 j/\AGI B N nt gh gb g j v b P k val s who pr W w wx) (fun i _=>3-(intOf i).toNat)
 case atStart =>
  have hb1:Below w.heap.size w w1:=by rw [hg0];exact HG1.o
  obtain ⟨cs,k1,k2,_⟩:=HO1.o;refine ⟨0,by omega,rfl,HS.o.later hb1,(HG1.o.block gb (by rw [<-hg0];exact lO HB.o)).trans HB.o,⟨cs,k1,k2,fun i hi=>absurd hi (by omega)⟩,AsF.ns (NsF.of hb1 HS.o.bw)⟩
 case round =>
  obtain ⟨j,hj,rfl,hI⟩:=hrel;have HI:=zH hI;clear hI HO1 HG1;by_cases hjn:j<3
  ·have i1:(j:Int)<3:=by omega
   have i2:(0:Int)<=(j:Int):=by omega
   have i3:(j:Int)<1000:=by omega
   obtain ⟨pq,HPQ⟩:∃ pq:Int,Hid (pq=(prj (akA v k b val s) pr j:Int)):=⟨_,rfl⟩;obtain ⟨ee,tln,bln,vl,s1,HST⟩:∃ ee tln bln vl s1,Hid (stp v k b val j (akS v k b val s j)=(⟨ee,tln,bln,vl⟩,s1)):=⟨_,_,_,_,_,rfl⟩;obtain ⟨tl,HTL⟩:∃ tl:Int,Hid (tl=(tln:Int)):=⟨_,rfl⟩;obtain ⟨bl,HBL⟩:∃ bl:Int,Hid (bl=(bln:Int)):=⟨_,rfl⟩;obtain ⟨vn,HVN⟩:∃ vn:Nat,Hid (vn=vl.length):=⟨_,rfl⟩;have hbb:=HI.o.b;rw [<-HPQ.o] at hbb;have HBB:=zH hbb;have HS1:=zH HI.o.s;obtain ⟨cs,hr1,hr2,hr3⟩:=HI.o.r;have HR1:=zH hr1;have HR2:=zH hr2;have HR3:=zH hr3;have HF1:=zH HI.o.f;have HJN:=zH hjn;have HGS:Hid (g<wr.heap.size):=lO hr1;clear hbb hr1 hr2 hr3 HI;go_upto_region 5 with fail;go_cut [11,12,21] from 21 to 58 (fun p q i wx=>i=.int .i64 (j:Int)/\∃ n2 tk ae sa sc,p=.pointer (some ⟨n2,0,none⟩)/\q=.bool tk/\AGJ B N nt gh gb g n2 v P s1 who pq ae tl bl vn sa sc vl cs W w wr wx/\((tk=true/\ae=ee)\/(tk=false/\ae=0/\ee=40)))
   case first =>
    have hbd:Below wr.heap.size wr wr.drew:=(Below.refl _ _).drew;have HFD:Hid (AsF B gb w wr.drew):=HF1.o.trans (AsF.ns (NsF.of hbd HS1.o.bw));have HTD:Hid (FT B wr wr.drew):=(NsF.of hbd HS1.o.bw).ft;have HFT:Hid (FT B w wr):=HF1.o.ft HB.o;have HSD:=zH (HS1.o.later hbd);have HCA:=zH (HSD.o.callL (i:=j) (k:=k) (va:=va) (n:=n) (cp:=cp) (HOK.o j HJN.o).2.2.2 HJN.o HARG.o.1 HARG.o.2.1 HARG.o.2.2.1 (HKV.o.ft (HFT.o.trans HTD.o)) HARG.o.2.2.2 (HOK.o j HJN.o).1 (HOK.o j HJN.o).2.1 (HOK.o j HJN.o).2.2.1 HST.o HTL.o HBL.o HVN.o);have HX1:Hid ((fun wx=>wx.cell? ⟨gb,0,none⟩=some (.pointer (some ⟨nt,0,none⟩))/\wx.cell? ⟨gb,1,none⟩=some (.int .i64 (v:Int))) wr.drew):=⟨aAa (show wr.drew.heap[gb]?=_ from HBB.o),aAa (show wr.drew.heap[gb]?=_ from HBB.o)⟩;clear hbd;refine wp_region_noPanic ?_;refine wp_region_held_drew (S:=fun wx=>wx.cell? ⟨gb,0,none⟩=some (.pointer (some ⟨nt,0,none⟩))/\wx.cell? ⟨gb,1,none⟩=some (.int .i64 (v:Int))) (by kernel_rfl) HX1.o (fun hHeld=>?_);refine kT 0 25 ?_;refine kT 1 26 ?_;refine kT 2 27 ?_;refine kT 3 28 ?_;refine kT 4 29 ?_;refine kT 5 30 ?_;refine kT 6 31 ?_;refine kT 7 32 ?_;refine kT 8 33 ?_;refine kT 9 34 ?_;refine kT 10 35 ?_;refine kT 11 36 ?_;refine kT 12 37 ?_;refine aAn (i:=13) (j:=17) (by kernel_rfl) (by kernel_rfl) (by kernel_rfl) ?ba ?bb
    case ba =>
     intro o ho K hK;simp only [List.getElem?_toArray,List.getElem?_cons_succ,List.getElem?_cons_zero,oI] at ho;subst ho;go_simp;refine HCA.o.mono ?_;rintro e w3 ⟨⟨tk,ae,sa,sc,rfl,hk3,hcs3⟩,hs3,hf3⟩;have HCS:=zH hcs3;have HS3:=zH hs3;have HK3:=zH hk3;have HB3:Hid (w3.heap[gb]?=_):=hf3.2 gb _ _ _ (show wr.drew.heap[gb]?=_ from HBB.o) (by decide) (by decide) (by decide) (by decide) (by decide);have HD3:Hid (w3.heap[g]?=_):=hf3.2 g _ _ _ (show wr.drew.heap[g]?=_ from HR1.o) (by decide) (by decide) (by decide) (by decide) (by decide);have HF3:Hid (AsF B gb w w3):=HFD.o.trans (AsF.ns hf3);have HT3:Hid (FT B wr w3):=HTD.o.trans hf3.ft;have HX3:Hid ((fun wx=>wx.cell? ⟨gb,0,none⟩=some (.pointer (some ⟨nt,0,none⟩))/\wx.cell? ⟨gb,1,none⟩=some (.int .i64 (v:Int))) w3):=⟨aAa HB3.o,aAa HB3.o⟩;clear hk3 hs3 hf3 hHeld HCA hcs3;refine hK.out _ _ HX3.o (fun hHeld=>?_);clear hK K
     try simp only [Act.put,siT,scZ,scS]
     refine kT 14 24 ?_;refine kT 15 39 ?_;refine kT 16 40 ?_;refine kC 17 ?_;intro K hK;go_simp;have hb4:=aAc w3 (.cells #[.int .i64 0,.int .i64 0,.bool false,.int .i64 0,.int .i64 0,.slice none 0 0] 75);have HC5:Hid ((w3.alloc (.cells #[.int .i64 0,.int .i64 0,.bool false,.int .i64 0,.int .i64 0,.slice none 0 0] 75)).heap[w3.heap.size]?=some (.cells #[.int .i64 0,.int .i64 0,.bool false,.int .i64 0,.int .i64 0,.slice none 0 0] 75 (0,0))):=heap_alloc_new w3 _;have HS5:=zH (HS3.o.later hb4);have HB5:Hid ((w3.alloc (.cells #[.int .i64 0,.int .i64 0,.bool false,.int .i64 0,.int .i64 0,.slice none 0 0] 75)).heap[gb]?=_):=(hb4.block gb (lO HB3.o)).trans HB3.o;have HD5:Hid ((w3.alloc (.cells #[.int .i64 0,.int .i64 0,.bool false,.int .i64 0,.int .i64 0,.slice none 0 0] 75)).heap[g]?=_):=(hb4.block g (lO HD3.o)).trans HD3.o;have HK5:=zH (HK3.o.later hb4 HS3.o.bw);have HF5:Hid (AsF B gb w (w3.alloc (.cells #[.int .i64 0,.int .i64 0,.bool false,.int .i64 0,.int .i64 0,.slice none 0 0] 75))):=HF3.o.trans (AsF.ns (NsF.of hb4 HS3.o.bw));have HT5:Hid (FT B wr (w3.alloc (.cells #[.int .i64 0,.int .i64 0,.bool false,.int .i64 0,.int .i64 0,.slice none 0 0] 75))):=HT3.o.trans (NsF.of hb4 HS3.o.bw).ft;have HGN:Hid (g<w3.heap.size/\gb<w3.heap.size/\w.heap.size<=w3.heap.size):=⟨lO HD3.o,lO HB3.o,HF3.o.1.size⟩;have HBC:Hid (B<=w3.heap.size):=HS3.o.bw;have HX5:Hid ((fun wx=>wx.cell? ⟨gb,0,none⟩=some (.pointer (some ⟨nt,0,none⟩))/\wx.cell? ⟨gb,1,none⟩=some (.int .i64 (v:Int))) (w3.alloc (.cells #[.int .i64 0,.int .i64 0,.bool false,.int .i64 0,.int .i64 0,.slice none 0 0] 75))):=⟨aAa HB5.o,aAa HB5.o⟩;clear hb4 hHeld HS3 HB3 HD3 HK3 HF3 HT3;generalize w3.alloc (.cells #[.int .i64 0,.int .i64 0,.bool false,.int .i64 0,.int .i64 0,.slice none 0 0] 75)=w5 at *
     generalize w3.heap.size=n2 at *
     refine hK.out _ _ HX5.o (fun hHeld=>?_);clear hK K
     try simp only [Act.put,siT,scZ,scS]
     have z0:w5.cell? ⟨n2,0,none⟩=some (.int .i64 0):=aAa HC5.o;have zf0:w5.frozen? ⟨n2,0,none⟩=false:=aAb HC5.o;have z1:w5.cell? ⟨n2,1,none⟩=some (.int .i64 0):=aAa HC5.o;have zf1:w5.frozen? ⟨n2,1,none⟩=false:=aAb HC5.o;have z2:w5.cell? ⟨n2,2,none⟩=some (.bool false):=aAa HC5.o;have zf2:w5.frozen? ⟨n2,2,none⟩=false:=aAb HC5.o;have z3:w5.cell? ⟨n2,3,none⟩=some (.int .i64 0):=aAa HC5.o;have zf3:w5.frozen? ⟨n2,3,none⟩=false:=aAb HC5.o;have z4:w5.cell? ⟨n2,4,none⟩=some (.int .i64 0):=aAa HC5.o;have zf4:w5.frozen? ⟨n2,4,none⟩=false:=aAb HC5.o;have z5:w5.cell? ⟨n2,5,none⟩=some (.slice none 0 0):=aAa HC5.o;have zf5:w5.frozen? ⟨n2,5,none⟩=false:=aAb HC5.o;refine kC 18 ?_;intro K hK;go_simp;have HS6:=zH (HS5.o.wr6 (b0:=.int .i64 ae) (b1:=.int .i64 tl) (b2:=.bool false) (b3:=.int .i64 0) (b4:=.int .i64 bl) (b5:=.slice sa vn sc) HC5.o HBC.o);have HC6:Hid (((((((w5.setCell ⟨n2,0,none⟩ (.int .i64 ae)).setCell ⟨n2,1,none⟩ (.int .i64 tl)).setCell ⟨n2,2,none⟩ (.bool false)).setCell ⟨n2,3,none⟩ (.int .i64 0)).setCell ⟨n2,4,none⟩ (.int .i64 bl)).setCell ⟨n2,5,none⟩ (.slice sa vn sc)).heap[n2]?=some (.cells #[.int .i64 ae,.int .i64 tl,.bool false,.int .i64 0,.int .i64 bl,.slice sa vn sc] 75 (0,0))):=set6 HC5.o;have HB6:Hid (((((((w5.setCell ⟨n2,0,none⟩ (.int .i64 ae)).setCell ⟨n2,1,none⟩ (.int .i64 tl)).setCell ⟨n2,2,none⟩ (.bool false)).setCell ⟨n2,3,none⟩ (.int .i64 0)).setCell ⟨n2,4,none⟩ (.int .i64 bl)).setCell ⟨n2,5,none⟩ (.slice sa vn sc)).heap[gb]?=_):=(oth6 (by have:=HGN.o;omega)).trans HB5.o;have HD6:Hid (((((((w5.setCell ⟨n2,0,none⟩ (.int .i64 ae)).setCell ⟨n2,1,none⟩ (.int .i64 tl)).setCell ⟨n2,2,none⟩ (.bool false)).setCell ⟨n2,3,none⟩ (.int .i64 0)).setCell ⟨n2,4,none⟩ (.int .i64 bl)).setCell ⟨n2,5,none⟩ (.slice sa vn sc)).heap[g]?=_):=(oth6 (by have:=HGN.o;omega)).trans HD5.o;have HK6:Hid (BK B ((((((w5.setCell ⟨n2,0,none⟩ (.int .i64 ae)).setCell ⟨n2,1,none⟩ (.int .i64 tl)).setCell ⟨n2,2,none⟩ (.bool false)).setCell ⟨n2,3,none⟩ (.int .i64 0)).setCell ⟨n2,4,none⟩ (.int .i64 bl)).setCell ⟨n2,5,none⟩ (.slice sa vn sc)) sa vn sc vl):=HK5.o.ft (ft6 HC5.o (by decide) HBC.o);have HT6:Hid (FT B wr ((((((w5.setCell ⟨n2,0,none⟩ (.int .i64 ae)).setCell ⟨n2,1,none⟩ (.int .i64 tl)).setCell ⟨n2,2,none⟩ (.bool false)).setCell ⟨n2,3,none⟩ (.int .i64 0)).setCell ⟨n2,4,none⟩ (.int .i64 bl)).setCell ⟨n2,5,none⟩ (.slice sa vn sc))):=HT5.o.trans (ft6 HC5.o (by decide) HBC.o);have HF6:Hid (AsF B gb w ((((((w5.setCell ⟨n2,0,none⟩ (.int .i64 ae)).setCell ⟨n2,1,none⟩ (.int .i64 tl)).setCell ⟨n2,2,none⟩ (.bool false)).setCell ⟨n2,3,none⟩ (.int .i64 0)).setCell ⟨n2,4,none⟩ (.int .i64 bl)).setCell ⟨n2,5,none⟩ (.slice sa vn sc))):=⟨bel6 HF5.o.1 HBC.o,fun k cs t fz e m1 m2 m3 m4 m5 m6=>(oth6 (by have:=lO e;have:=HGN.o;omega)).trans (HF5.o.2 k cs t fz e m1 m2 m3 m4 m5 m6)⟩;have HX6:Hid ((fun wx=>wx.cell? ⟨gb,0,none⟩=some (.pointer (some ⟨nt,0,none⟩))/\wx.cell? ⟨gb,1,none⟩=some (.int .i64 (v:Int))) ((((((w5.setCell ⟨n2,0,none⟩ (.int .i64 ae)).setCell ⟨n2,1,none⟩ (.int .i64 tl)).setCell ⟨n2,2,none⟩ (.bool false)).setCell ⟨n2,3,none⟩ (.int .i64 0)).setCell ⟨n2,4,none⟩ (.int .i64 bl)).setCell ⟨n2,5,none⟩ (.slice sa vn sc))):=⟨aAa HB6.o,aAa HB6.o⟩;clear hHeld z0 zf0 z1 zf1 z2 zf2 z3 zf3 z4 zf4 z5 zf5;generalize ((((((w5.setCell ⟨n2,0,none⟩ (.int .i64 ae)).setCell ⟨n2,1,none⟩ (.int .i64 tl)).setCell ⟨n2,2,none⟩ (.bool false)).setCell ⟨n2,3,none⟩ (.int .i64 0)).setCell ⟨n2,4,none⟩ (.int .i64 bl)).setCell ⟨n2,5,none⟩ (.slice sa vn sc))=w6 at *
     refine hK.out _ _ HX6.o (fun hHeld=>?_);clear hK K
     try simp only [Act.put,siT,scZ,scS]
     refine kT 19 12 ?_;refine wpAnyH_done (by kernel_rfl) ?_ _;refine NoPanic.normal ?_;clear hHeld;go_wp2_with fail;go_meet
     case rel=>exact ⟨rfl,n2,tk,ae,sa,sc,rfl,rfl,⟨HS6.o,HC6.o,HB6.o,HD6.o,HK6.o,HT6.o,HF6.o,HGN.o,HBC.o⟩,HCS.o⟩
    case bb =>
     intro o ho K hK;simp only [List.getElem?_toArray,List.getElem?_cons_succ,List.getElem?_cons_zero,oI] at ho;subst ho;go_simp;have hb3:Below wr.heap.size wr (wr.alloc (.cells #[.int .i64 0,.int .i64 0,.bool false,.int .i64 0,.int .i64 0,.slice none 0 0] 75)).drew:=⟨(aAc wr (.cells #[.int .i64 0,.int .i64 0,.bool false,.int .i64 0,.int .i64 0,.slice none 0 0] 75)).os,(aAc wr (.cells #[.int .i64 0,.int .i64 0,.bool false,.int .i64 0,.int .i64 0,.slice none 0 0] 75)).tape,(aAc wr (.cells #[.int .i64 0,.int .i64 0,.bool false,.int .i64 0,.int .i64 0,.slice none 0 0] 75)).output,(aAc wr (.cells #[.int .i64 0,.int .i64 0,.bool false,.int .i64 0,.int .i64 0,.slice none 0 0] 75)).size,(aAc wr (.cells #[.int .i64 0,.int .i64 0,.bool false,.int .i64 0,.int .i64 0,.slice none 0 0] 75)).block⟩;have HC3:Hid ((wr.alloc (.cells #[.int .i64 0,.int .i64 0,.bool false,.int .i64 0,.int .i64 0,.slice none 0 0] 75)).drew.heap[wr.heap.size]?=some (.cells #[.int .i64 0,.int .i64 0,.bool false,.int .i64 0,.int .i64 0,.slice none 0 0] 75 (0,0))):=heap_alloc_new wr _;have HB3:Hid ((wr.alloc (.cells #[.int .i64 0,.int .i64 0,.bool false,.int .i64 0,.int .i64 0,.slice none 0 0] 75)).drew.heap[gb]?=_):=(hb3.block gb (lO HBB.o)).trans HBB.o;have HD3:Hid ((wr.alloc (.cells #[.int .i64 0,.int .i64 0,.bool false,.int .i64 0,.int .i64 0,.slice none 0 0] 75)).drew.heap[g]?=_):=(hb3.block g (lO HR1.o)).trans HR1.o;have HF3:Hid (AsF B gb w (wr.alloc (.cells #[.int .i64 0,.int .i64 0,.bool false,.int .i64 0,.int .i64 0,.slice none 0 0] 75)).drew):=HF1.o.trans (AsF.ns (NsF.of hb3 HS1.o.bw));have HT3:Hid (FT B wr (wr.alloc (.cells #[.int .i64 0,.int .i64 0,.bool false,.int .i64 0,.int .i64 0,.slice none 0 0] 75)).drew):=(NsF.of hb3 HS1.o.bw).ft;have HGN:Hid (g<wr.heap.size/\gb<wr.heap.size/\w.heap.size<=wr.heap.size):=⟨lO HR1.o,lO HBB.o,HF1.o.1.size⟩;have HBC:Hid (B<=wr.heap.size):=HS1.o.bw;have HS3:=zH (HS1.o.later hb3);have HCB:=zH (HS3.o.callL (i:=j) (k:=k) (va:=va) (n:=n) (cp:=cp) (HOK.o j HJN.o).2.2.2 HJN.o HARG.o.1 HARG.o.2.1 HARG.o.2.2.1 (HKV.o.ft (HFT.o.trans HT3.o)) HARG.o.2.2.2 (HOK.o j HJN.o).1 (HOK.o j HJN.o).2.1 (HOK.o j HJN.o).2.2.1 HST.o HTL.o HBL.o HVN.o);have HX3:Hid ((fun wx=>wx.cell? ⟨gb,0,none⟩=some (.pointer (some ⟨nt,0,none⟩))/\wx.cell? ⟨gb,1,none⟩=some (.int .i64 (v:Int))) (wr.alloc (.cells #[.int .i64 0,.int .i64 0,.bool false,.int .i64 0,.int .i64 0,.slice none 0 0] 75)).drew):=⟨aAa HB3.o,aAa HB3.o⟩;clear hb3 hHeld HCA;generalize (wr.alloc (.cells #[.int .i64 0,.int .i64 0,.bool false,.int .i64 0,.int .i64 0,.slice none 0 0] 75)).drew=x2 at *
     generalize wr.heap.size=n2 at *
     refine hK.out _ _ HX3.o (fun hHeld=>?_);clear hK K
     try simp only [Act.put,siT,scZ,scS]
     refine kC 13 ?_;intro K hK;go_simp;refine HCB.o.mono ?_;rintro e w5 ⟨⟨tk,ae,sa,sc,rfl,hk3,hcs3⟩,hs3,hf3⟩;have HCS:=zH hcs3;have HS5:=zH hs3;have HK5:=zH hk3;have HB5:Hid (w5.heap[gb]?=_):=hf3.2 gb _ _ _ HB3.o (by decide) (by decide) (by decide) (by decide) (by decide);have HD5:Hid (w5.heap[g]?=_):=hf3.2 g _ _ _ HD3.o (by decide) (by decide) (by decide) (by decide) (by decide);have HC5:Hid (w5.heap[n2]?=_):=hf3.2 n2 _ _ _ HC3.o (by decide) (by decide) (by decide) (by decide) (by decide);have HF5:Hid (AsF B gb w w5):=HF3.o.trans (AsF.ns hf3);have HT5:Hid (FT B wr w5):=HT3.o.trans hf3.ft;have HX5:Hid ((fun wx=>wx.cell? ⟨gb,0,none⟩=some (.pointer (some ⟨nt,0,none⟩))/\wx.cell? ⟨gb,1,none⟩=some (.int .i64 (v:Int))) w5):=⟨aAa HB5.o,aAa HB5.o⟩;clear hk3 hs3 hf3 hHeld HCB HS3 HB3 HD3 HC3 HF3 HT3 hcs3;refine hK.out _ _ HX5.o (fun hHeld=>?_);clear hK K
     try simp only [Act.put,siT,scZ,scS]
     refine kT 14 24 ?_;refine kT 15 39 ?_;refine kT 16 40 ?_;have z0:w5.cell? ⟨n2,0,none⟩=some (.int .i64 0):=aAa HC5.o;have zf0:w5.frozen? ⟨n2,0,none⟩=false:=aAb HC5.o;have z1:w5.cell? ⟨n2,1,none⟩=some (.int .i64 0):=aAa HC5.o;have zf1:w5.frozen? ⟨n2,1,none⟩=false:=aAb HC5.o;have z2:w5.cell? ⟨n2,2,none⟩=some (.bool false):=aAa HC5.o;have zf2:w5.frozen? ⟨n2,2,none⟩=false:=aAb HC5.o;have z3:w5.cell? ⟨n2,3,none⟩=some (.int .i64 0):=aAa HC5.o;have zf3:w5.frozen? ⟨n2,3,none⟩=false:=aAb HC5.o;have z4:w5.cell? ⟨n2,4,none⟩=some (.int .i64 0):=aAa HC5.o;have zf4:w5.frozen? ⟨n2,4,none⟩=false:=aAb HC5.o;have z5:w5.cell? ⟨n2,5,none⟩=some (.slice none 0 0):=aAa HC5.o;have zf5:w5.frozen? ⟨n2,5,none⟩=false:=aAb HC5.o;refine kC 18 ?_;intro K hK;go_simp;have HS6:=zH (HS5.o.wr6 (b0:=.int .i64 ae) (b1:=.int .i64 tl) (b2:=.bool false) (b3:=.int .i64 0) (b4:=.int .i64 bl) (b5:=.slice sa vn sc) HC5.o HBC.o);have HC6:Hid (((((((w5.setCell ⟨n2,0,none⟩ (.int .i64 ae)).setCell ⟨n2,1,none⟩ (.int .i64 tl)).setCell ⟨n2,2,none⟩ (.bool false)).setCell ⟨n2,3,none⟩ (.int .i64 0)).setCell ⟨n2,4,none⟩ (.int .i64 bl)).setCell ⟨n2,5,none⟩ (.slice sa vn sc)).heap[n2]?=some (.cells #[.int .i64 ae,.int .i64 tl,.bool false,.int .i64 0,.int .i64 bl,.slice sa vn sc] 75 (0,0))):=set6 HC5.o;have HB6:Hid (((((((w5.setCell ⟨n2,0,none⟩ (.int .i64 ae)).setCell ⟨n2,1,none⟩ (.int .i64 tl)).setCell ⟨n2,2,none⟩ (.bool false)).setCell ⟨n2,3,none⟩ (.int .i64 0)).setCell ⟨n2,4,none⟩ (.int .i64 bl)).setCell ⟨n2,5,none⟩ (.slice sa vn sc)).heap[gb]?=_):=(oth6 (by have:=HGN.o;omega)).trans HB5.o;have HD6:Hid (((((((w5.setCell ⟨n2,0,none⟩ (.int .i64 ae)).setCell ⟨n2,1,none⟩ (.int .i64 tl)).setCell ⟨n2,2,none⟩ (.bool false)).setCell ⟨n2,3,none⟩ (.int .i64 0)).setCell ⟨n2,4,none⟩ (.int .i64 bl)).setCell ⟨n2,5,none⟩ (.slice sa vn sc)).heap[g]?=_):=(oth6 (by have:=HGN.o;omega)).trans HD5.o;have HK6:Hid (BK B ((((((w5.setCell ⟨n2,0,none⟩ (.int .i64 ae)).setCell ⟨n2,1,none⟩ (.int .i64 tl)).setCell ⟨n2,2,none⟩ (.bool false)).setCell ⟨n2,3,none⟩ (.int .i64 0)).setCell ⟨n2,4,none⟩ (.int .i64 bl)).setCell ⟨n2,5,none⟩ (.slice sa vn sc)) sa vn sc vl):=HK5.o.ft (ft6 HC5.o (by decide) HBC.o);have HT6:Hid (FT B wr ((((((w5.setCell ⟨n2,0,none⟩ (.int .i64 ae)).setCell ⟨n2,1,none⟩ (.int .i64 tl)).setCell ⟨n2,2,none⟩ (.bool false)).setCell ⟨n2,3,none⟩ (.int .i64 0)).setCell ⟨n2,4,none⟩ (.int .i64 bl)).setCell ⟨n2,5,none⟩ (.slice sa vn sc))):=HT5.o.trans (ft6 HC5.o (by decide) HBC.o);have HF6:Hid (AsF B gb w ((((((w5.setCell ⟨n2,0,none⟩ (.int .i64 ae)).setCell ⟨n2,1,none⟩ (.int .i64 tl)).setCell ⟨n2,2,none⟩ (.bool false)).setCell ⟨n2,3,none⟩ (.int .i64 0)).setCell ⟨n2,4,none⟩ (.int .i64 bl)).setCell ⟨n2,5,none⟩ (.slice sa vn sc))):=⟨bel6 HF5.o.1 HBC.o,fun k cs t fz e m1 m2 m3 m4 m5 m6=>(oth6 (by have:=lO e;have:=HGN.o;omega)).trans (HF5.o.2 k cs t fz e m1 m2 m3 m4 m5 m6)⟩;have HX6:Hid ((fun wx=>wx.cell? ⟨gb,0,none⟩=some (.pointer (some ⟨nt,0,none⟩))/\wx.cell? ⟨gb,1,none⟩=some (.int .i64 (v:Int))) ((((((w5.setCell ⟨n2,0,none⟩ (.int .i64 ae)).setCell ⟨n2,1,none⟩ (.int .i64 tl)).setCell ⟨n2,2,none⟩ (.bool false)).setCell ⟨n2,3,none⟩ (.int .i64 0)).setCell ⟨n2,4,none⟩ (.int .i64 bl)).setCell ⟨n2,5,none⟩ (.slice sa vn sc))):=⟨aAa HB6.o,aAa HB6.o⟩;clear hHeld z0 zf0 z1 zf1 z2 zf2 z3 zf3 z4 zf4 z5 zf5;generalize ((((((w5.setCell ⟨n2,0,none⟩ (.int .i64 ae)).setCell ⟨n2,1,none⟩ (.int .i64 tl)).setCell ⟨n2,2,none⟩ (.bool false)).setCell ⟨n2,3,none⟩ (.int .i64 0)).setCell ⟨n2,4,none⟩ (.int .i64 bl)).setCell ⟨n2,5,none⟩ (.slice sa vn sc))=w6 at *
     refine hK.out _ _ HX6.o (fun hHeld=>?_);clear hK K
     try simp only [Act.put,siT,scZ,scS]
     refine kT 19 12 ?_;refine wpAnyH_done (by kernel_rfl) ?_ _;refine NoPanic.normal ?_;clear hHeld;go_wp2_with fail;go_meet
     case rel=>exact ⟨rfl,n2,tk,ae,sa,sc,rfl,rfl,⟨HS6.o,HC6.o,HB6.o,HD6.o,HK6.o,HT6.o,HF6.o,HGN.o,HBC.o⟩,HCS.o⟩
   case rest =>
    obtain ⟨rfl,n2,tk,ae,sa,sc,rfl,rfl,hJ,hcase⟩:=hcut;rcases hcase with ⟨rfl,hae⟩ | ⟨rfl,hae,hee⟩
    focus
     rw [hae] at hJ;have HJ:=zH hJ;clear hJ hae;go_upto_region 8 with fail;generalize wc=wd at *
    rotate_left
    focus
     rw [hae] at hJ;have z0:wc.cell? ⟨n2,0,none⟩=some (.int .i64 0):=aAa hJ.c;have zf0:wc.frozen? ⟨n2,0,none⟩=false:=aAb hJ.c;have hb4:Below B wc (wc.setCell ⟨n2,0,none⟩ (.int .i64 40)):=(Below.refl _ _).setCell (p:=⟨n2,0,none⟩) hJ.g2 _;have HJ4:Hid (AGJ B N nt gh gb g n2 v P s1 who pq ee tl bl vn sa sc vl cs W w wr (wc.setCell ⟨n2,0,none⟩ (.int .i64 40))):=by
      show AGJ B N nt gh gb g n2 v P s1 who pq ee tl bl vn sa sc vl cs W w wr (wc.setCell ⟨n2,0,none⟩ (.int .i64 40));rw [hee];exact ⟨hJ.s.set1 hJ.c hJ.g2 (by unfold DTy;decide) (by decide) (by decide) (by decide) (by decide) (by decide),heap_setCell_same _ _ _ _ _ _ hJ.c,(heap_setCell_other _ _ _ _ (show gb≠n2 by have:=hJ.g1;omega)).trans hJ.b,(heap_setCell_other _ _ _ _ (show g≠n2 by have:=hJ.g1;omega)).trans hJ.d,hJ.k.ft (FT.set hJ.c hJ.g2 (by decide)),hJ.t.trans (FT.set hJ.c hJ.g2 (by decide)),⟨hJ.f.1.trans hb4,fun k cs t fz e m1 m2 m3 m4 m5 m6=>(heap_setCell_other _ _ _ _ (show k≠n2 by have:=lO e;have:=hJ.g1;omega)).trans (hJ.f.2 k cs t fz e m1 m2 m3 m4 m5 m6)⟩,hJ.g1,hJ.g2⟩
     clear hJ hb4 hae hee;go_upto_region 8 with fail;clear z0 zf0;generalize (wc.setCell ⟨n2,0,none⟩ (.int .i64 40))=wd at *
     have HJ:=HJ4;clear HJ4
    all_goals
     have HCD:Hid (wd.drew.heap[n2]?=_):=HJ.o.c;have HBD:Hid (wd.drew.heap[gb]?=_):=HJ.o.b;have HX8:Hid ((fun wx=>wx.cell? ⟨n2,1,none⟩=some (.int .i64 tl)) wd.drew):=aAa HCD.o;refine wp_region_noPanic ?_;refine wp_region_held_drew (S:=fun wx=>wx.cell? ⟨n2,1,none⟩=some (.int .i64 tl)) (by kernel_rfl) HX8.o (fun hHeld=>?_);refine kT 0 44 ?_;refine kT 1 45 ?_;refine kT 2 46 ?_;refine kT 3 47 ?_;refine kT 5 49 ?_;refine kT 6 50 ?_;have q0:wd.drew.cell? ⟨gb,3,none⟩=some (.int .i64 pq):=aAa HBD.o;have qf:wd.drew.frozen? ⟨gb,3,none⟩=false:=aAb HBD.o;refine kC 4 ?_;intro K hK;go_simp;refine hK.out _ _ HX8.o (fun hHeld=>?_);clear hK K
     try simp only [Act.put,siT,scZ,scS]
     refine kT 7 51 ?_;refine kT 8 52 ?_;refine kT 9 53 ?_;refine kC 10 ?_;intro K hK;go_simp;have HX9:Hid ((fun wx=>wx.cell? ⟨n2,1,none⟩=some (.int .i64 tl)) (wd.drew.setCell ⟨gb,3,none⟩ (.int .i64 (max pq tl)))):=aAa ((heap_setCell_other _ _ _ _ (show n2≠gb by have:=HJ.o.g1;omega)).trans HCD.o);refine hK.out _ _ HX9.o (fun hHeld=>?_);clear hK K
     try simp only [Act.put,siT,scZ,scS]
     refine wpAnyH_done (by kernel_rfl) ?_ _;refine NoPanic.normal ?_;clear hHeld;generalize hz:(wd.setCell ⟨gb,3,none⟩ (.int .i64 (max pq tl))).drew=wz at *
     have hbz:Below B wd (wd.setCell ⟨gb,3,none⟩ (.int .i64 (max pq tl))):=(Below.refl _ _).setCell (p:=⟨gb,3,none⟩) HGB.o _;have hbz2:Below (wd.setCell ⟨gb,3,none⟩ (.int .i64 (max pq tl))).heap.size (wd.setCell ⟨gb,3,none⟩ (.int .i64 (max pq tl))) wz:=by rw [<-hz];exact (Below.refl _ _).drew
     have hhz:wz.heap=(wd.setCell ⟨gb,3,none⟩ (.int .i64 (max pq tl))).heap:=by rw [<-hz];rfl
     have HSZ:Hid (HN B N nt gh v P s1 W wz):=(HJ.o.s.set1 (o:=3) (u:=.int .i64 (max pq tl)) HJ.o.b HGB.o (by unfold DTy;decide) (by decide) (by decide) (by decide) (by decide) (by decide)).later hbz2;have HBZ:Hid (wz.heap[gb]?=some (.cells #[.pointer (some ⟨nt,0,none⟩),.int .i64 (v:Int),.int .i64 who,.int .i64 (max pq tl)] 60 (0,0))):=by show wz.heap[gb]?=_;rw [hhz];exact heap_setCell_same _ _ _ _ _ _ HJ.o.b
     have HCZ:Hid (wz.heap[n2]?=some (.cells #[.int .i64 ee,.int .i64 tl,.bool false,.int .i64 0,.int .i64 bl,.slice sa vn sc] 75 (0,0))):=by show wz.heap[n2]?=_;rw [hhz];exact (heap_setCell_other _ _ _ _ (show n2≠gb by have:=HJ.o.g1;omega)).trans HJ.o.c
     have HNG:Hid (g≠gb):=aAs HJ.o.d HJ.o.b (by decide);have HDZ:Hid (wz.heap[g]?=some (.cells cs 75 (0,0))):=by show wz.heap[g]?=_;rw [hhz];exact (heap_setCell_other _ _ _ _ HNG.o).trans HJ.o.d
     have HBLZ:Hid (Below B wd wz):=hbz.trans (hbz2.mono (nT HJ.o.s.bw hbz.size));have HFTZ:Hid (FT B wd wz):=⟨HBLZ.o,fun k cs' fz e=>by rw [hhz];exact (heap_setCell_other _ _ _ _ (aAs e HJ.o.b (by decide))).trans e⟩;have HFZ:Hid (AsF B gb w wz):=HJ.o.f.trans ⟨HBLZ.o,fun k cs' t fz e _ _ _ _ _ n6=>by rw [hhz];exact (heap_setCell_other _ _ _ _ n6).trans e⟩;have HKZ:=zH (HJ.o.k.ft HFTZ.o);have HTZ:=zH (HJ.o.t.trans HFTZ.o);clear hz hbz hbz2 hhz HX8 HCD HBD;have hcs:cs.size=3*6:=HR2.o;have hj6:j*6+6<=cs.size:=by have:=HJN.o;omega
     have v0:wz.cell? ⟨n2,0,none⟩=some (.int .i64 ee):=aAa HCZ.o;have v1:wz.cell? ⟨n2,1,none⟩=some (.int .i64 tl):=aAa HCZ.o;have v2:wz.cell? ⟨n2,2,none⟩=some (.bool false):=aAa HCZ.o;have v3:wz.cell? ⟨n2,3,none⟩=some (.int .i64 0):=aAa HCZ.o;have v4:wz.cell? ⟨n2,4,none⟩=some (.int .i64 bl):=aAa HCZ.o;have v5:wz.cell? ⟨n2,5,none⟩=some (.slice sa vn sc):=aAa HCZ.o;have e0:wz.cell? ⟨g,j*6,none⟩=some (cs[j*6]'(by omega)):=(aAa HDZ.o).trans (Array.getElem?_eq_getElem _);have ef0:wz.frozen? ⟨g,j*6,none⟩=false:=aAb HDZ.o;have e1:wz.cell? ⟨g,j*6+1,none⟩=some (cs[j*6+1]'(by omega)):=(aAa HDZ.o).trans (Array.getElem?_eq_getElem _);have ef1:wz.frozen? ⟨g,j*6+1,none⟩=false:=aAb HDZ.o;have e2:wz.cell? ⟨g,j*6+2,none⟩=some (cs[j*6+2]'(by omega)):=(aAa HDZ.o).trans (Array.getElem?_eq_getElem _);have ef2:wz.frozen? ⟨g,j*6+2,none⟩=false:=aAb HDZ.o;have e3:wz.cell? ⟨g,j*6+3,none⟩=some (cs[j*6+3]'(by omega)):=(aAa HDZ.o).trans (Array.getElem?_eq_getElem _);have ef3:wz.frozen? ⟨g,j*6+3,none⟩=false:=aAb HDZ.o;have e4:wz.cell? ⟨g,j*6+4,none⟩=some (cs[j*6+4]'(by omega)):=(aAa HDZ.o).trans (Array.getElem?_eq_getElem _);have ef4:wz.frozen? ⟨g,j*6+4,none⟩=false:=aAb HDZ.o;have e5:wz.cell? ⟨g,j*6+5,none⟩=some (cs[j*6+5]'(by omega)):=(aAa HDZ.o).trans (Array.getElem?_eq_getElem _);have ef5:wz.frozen? ⟨g,j*6+5,none⟩=false:=aAb HDZ.o;generalize cs[j*6]'(by omega)=k0 at e0;generalize cs[j*6+1]'(by omega)=k1 at e1;generalize cs[j*6+2]'(by omega)=k2 at e2;generalize cs[j*6+3]'(by omega)=k3 at e3;generalize cs[j*6+4]'(by omega)=k4 at e4;generalize cs[j*6+5]'(by omega)=k5 at e5;have HGC:Hid (B<=g):=by show B<=g;rw [<-hg0];exact HS.o.bw
     have HFIN:Hid (AGI B N nt gh gb g (j+1) v b P k val s who pr W w (((((((wz.setCell ⟨g,j*6,none⟩ (.int .i64 ee)).setCell ⟨g,j*6+1,none⟩ (.int .i64 tl)).setCell ⟨g,j*6+2,none⟩ (.bool false)).setCell ⟨g,j*6+3,none⟩ (.int .i64 0)).setCell ⟨g,j*6+4,none⟩ (.int .i64 bl)).setCell ⟨g,j*6+5,none⟩ (.slice sa vn sc)))):=by
      have est:akS v k b val s (j+1)=s1:=by show (stp v k b val j (akS v k b val s j)).2=s1;rw [HST.o]
      have ean:akA v k b val s j=⟨ee,tln,bln,vl⟩:=by show (stp v k b val j (akS v k b val s j)).1=_;rw [HST.o]
      have pmax:max pq tl=(prj (akA v k b val s) pr (j+1):Int):=by
       show _=((max (prj (akA v k b val s) pr j) (akA v k b val s j).tl:Nat):Int);rw [ean,HPQ.o,HTL.o];show max _ _=((max _ tln:Nat):Int);omega
      refine ⟨by rw [est];exact HSZ.o.set6A HDZ.o HGC.o,?_,⟨_,set6o HDZ.o,by simp only [Array.size_setIfInBounds];exact hcs,fun i hi=>?_⟩,⟨bel6o HFZ.o.1 HGC.o,fun k cs' t fz e m1 m2 m3 m4 m5 m6=>(oth6o (by have:=lO e;omega)).trans (HFZ.o.2 k cs' t fz e m1 m2 m3 m4 m5 m6)⟩⟩
      ·rw [<-pmax];exact (oth6o (Ne.symm HNG.o)).trans HBZ.o
      ·have hft:FT B wz (((((((wz.setCell ⟨g,j*6,none⟩ (.int .i64 ee)).setCell ⟨g,j*6+1,none⟩ (.int .i64 tl)).setCell ⟨g,j*6+2,none⟩ (.bool false)).setCell ⟨g,j*6+3,none⟩ (.int .i64 0)).setCell ⟨g,j*6+4,none⟩ (.int .i64 bl)).setCell ⟨g,j*6+5,none⟩ (.slice sa vn sc))):=ft6o HDZ.o (by decide) HGC.o;by_cases hij:i=j
       ·subst hij;have q0:(akA v k b val s i).e=ee:=by rw [ean]
        have q1:((akA v k b val s i).tl:Int)=tl:=by rw [ean];exact HTL.o.symm
        have q2:((akA v k b val s i).bl:Int)=bl:=by rw [ean];exact HBL.o.symm
        have q3:(akA v k b val s i).val=vl:=by rw [ean]
        have q4:(akA v k b val s i).val.length=vn:=by rw [ean];exact HVN.o.symm
        refine ⟨sa,sc,?_,?_,at6o2 hj6,at6o3 hj6,?_,?_,?_⟩
        ·rw [q0];exact at6o0 hj6
        ·rw [q1];exact at6o1 hj6
        ·rw [q2];exact at6o4 hj6
        ·rw [q4];exact at6o5 hj6
        ·rw [q4,q3];exact HKZ.o.ft hft
       ·obtain ⟨sa',sc',h1,h2,h3,h4,h5,h6,h7⟩:=HR3.o i (by omega);refine ⟨sa',sc',?_,?_,?_,?_,?_,?_,(h7.ft HTZ.o).ft hft⟩<;>rw [at6o (by omega)]<;>assumption
     go_wp2_with fail;go_roundw
     case rel=>exact ⟨j+1,by omega,by go_num,HFIN.o⟩
     case measure=>simp [intOf];omega
  ·have i1:¬ (j:Int)<3:=by omega
   have hjM:j=3:=by omega
   subst hjM;go_wp2;go_ret;exact ⟨g,rfl,nR _,HI.o⟩
theorem HN.call34 {v b:Nat} {s:Mt} {k:Bool} (h:HN B N nt gh v P s W w) (hx:fv s.F=3\/fv s.F=4) (hi:i<3) (hv:v<=16) (hb1:1<=b) (hb2:b<9223372036854775808) (hk:BK B w va n cp val) (hn:n<=1800) (hm:s.m i<=83) (hN:s.m i+34<=N) (hl:s.l.length+s.F.length<=64) :
  Calls prog 48 #[.pointer (some ⟨nt,0,none⟩),.int .i64 (i:Int),.agg #[.int .i64 (kd k),.int .i64 (v:Int),.int .i64 (b:Int),.slice va n cp]] w fun e w'=>CaT B N nt gh v P (stp v k b val i s).1 (stp v k b val i s).2 W w e w':=by
 obtain ⟨A,wv,h1,h2⟩:=h;obtain ⟨⟨R,hR,hRv⟩,hAm⟩:=h2 i hi;have hvl:val.length<=1800:=by have:=hk.1.hlen;omega
 obtain ⟨x,R1,x1,x2,x3,x4,x5,x6⟩:=dtK (B:=B) (N:=N) (P:=P i) (W:=W) (n:=n) (cp:=cp) (va:=va) (val:=val) k hR (h1.srt hi) hv hb1 hb2 (by omega) (by omega) hn hvl;have c4:(if k=true then 2 else 1)=cs1 k:=rfl;rw [hRv] at x3 x5 x6;unfold stp;rcases hx with f | f
 ·rw [if_neg (by rw [f];decide),if_neg (by rw [f];decide),if_neg (by rw [f];decide),if_pos f];have hF:s.F.length≠0:=fun e=>by
   rw [List.eq_nil_of_length_eq_zero e] at f;exact absurd f (by decide)
  refine (h1.call3 (val:=val) (k:=kd k) (lg:=(v:Int)) (at_:=(b:Int)) (va:=va) (n:=n) (cp:=cp) hi (by decide) f (by omega) (fun ww hw=>(hk.ft hw).1) (by omega)).mono ?_;rintro e w' ⟨he,wv',q2,q3⟩;exact CaT.none he ⟨_,wv',q2,nodes_m h2⟩ q3
 ·rw [if_neg (by rw [f];decide),if_neg (by rw [f];decide),if_neg (by rw [f];decide),if_neg (by rw [f];decide)];have c2:(if k=true then 2 else 1)<=2:=by split<;>omega
  obtain ⟨y,R2,y1,y2,y3,y4,y5,y6⟩:=dtK (B:=B) (N:=N) (P:=P i) (W:=W) (n:=n) (cp:=cp) (va:=va) (val:=val) k x1 x2 hv hb1 hb2 (by omega) (by omega) hn hvl;rw [x3] at y3 y5 y6;refine (h1.call4 (x:=x) (y:=y) (k:=kd k) (lg:=(v:Int)) (at_:=(b:Int)) (va:=va) (n:=n) (cp:=cp) hi (by decide) f (aK_e _ _ _) (fun ww hw=>x6 ww (hk.ft hw)) (aK_e _ _ _) (fun ww hw=>y6 ww (hk.ft hw))).mono ?_;rintro e w' ⟨⟨sa,sc,rfl,q1⟩,wv',q2,q3⟩;rw [upT_up] at q2;refine ⟨⟨true,_,sa,sc,rfl,q1,Or.inl ⟨rfl,rfl⟩⟩,⟨_,wv',q2,aDs h2 ⟨R2,y1,y3⟩ ?_⟩,q3⟩
  cases k with
  | true =>
   have e1:(if true=true then 2 else 1)=2:=rfl;rw [e1] at x4 y4;show y.m<=s.m i+4;omega
  | false =>
   have e1:(if false=true then 2 else 1)=1:=rfl;rw [e1] at x4;have h9:y=x:=y5 rfl (rK_rK false b val (s.R i));rw [h9];show x.m<=s.m i+1;omega
end Go.Proofs.YtdfjjhlhnfindaaGreat
