import Derived.Test.YtdfjjhlhnfindaaGreatY48
set_option maxRecDepth 100000
set_option maxHeartbeats 16000000
set_option linter.unusedVariables false
namespace Go.Proofs.YtdfjjhlhnfindaaGreat
open Go.RowKit Tryz
variable {a:Option Addr} {cap j len n o:Nat} {fn:Func} {pre rest:List Nat} {ty:TypeId} {w:World}
theorem aEg {p u x:Tmp} (h:fn.results=#[.cell p ty,.tmp u,.tmp x]) (tmps:Array Value) (P:Program) (w:World) :
  (results fn tmps).run P w =
   ((asAddr (tmps.getD p undef)).run P w).andThen fun a w₁=>((loadVar ty a).run P w₁).andThen fun v w₂=>.ok (.tuple #[v,tmps.getD u undef,tmps.getD x undef]) w₂:=by
 simp only [results,h];simp [Sem.run_bind,Result.andThen]
theorem info_sg4:(prog.info? 54).map (·.size)=some 4:=by kernel_rfl
theorem info_sgm:(prog.info? 54).map (fun i=>(i.zero,i.size,i.bytes))=some (some (.agg #[.int .i64 0,.int .i64 0,.int .i64 0,.int .i64 0]),4,32):=by kernel_rfl
theorem aGk {p u x:Tmp} (h:fn.results=#[.cell p 54,.tmp u,.tmp x]) (tmps:Array Value) (w:World) (g:Nat) (cs:Array Value)
  (hp:tmps.getD p undef=.pointer (some ⟨g,0,none⟩)) (hg:w.heap[g]?=some (.cells cs 54 (0,0))) (hz:cs.size=4) :
  (results fn tmps).run prog w=.ok (.tuple #[.agg cs,tmps.getD u undef,tmps.getD x undef]) w:=by
 have hi:(prog.info? 54).map (·.size)=some cs.size:=by rw [hz];exact info_sg4
 rw [aEg h,hp];simp only [asAddr,Sem.run_pure,Result.andThen_ok,run_loadVar_row w g 54 54 cs (0,0) _ hg underlying54 rfl hi]
theorem aHh (h:BS w a len cap (pre++(enc n++rest))) (hn:n<9223372036854775808) :
  Calls prog 37 #[.slice a len cap,.int .i64 (pre.length:Int)] w fun e w'=>e=.returned (.tuple #[.int .i64 (n:Int),.int .i64 ((pre++enc n).length:Int),.int .i64 0])/\w'=w:=by
 have h1:=aBt a len cap _ (pre.length:Int) w h;have hp:0<=(pre.length:Int)/\(pre.length:Int)<=((pre++(enc n++rest)).length:Int):=by rw [lA];omega
 have hr:=rd_enc n hn pre rest;have e1:ruN (pre++(enc n++rest)) (pre.length:Int)=n:=by unfold ruN;rw [if_pos hp,Int.toNat_natCast,hr]
 have e2:ruP (pre++(enc n++rest)) (pre.length:Int)=(pre++enc n).length:=by unfold ruP;rw [if_pos hp,Int.toNat_natCast];unfold rdNext;rw [hr,if_pos rfl,lA,aAj n (aAi n hn).1]
 have e3:ruE (pre++(enc n++rest)) (pre.length:Int)=0:=by unfold ruE;rw [if_pos hp,Int.toNat_natCast,hr]
 rw [e1,e2,e3] at h1;exact h1
theorem seg_last (h:BS w a len cap (pre++(enc o++rest))) (ho:o<9223372036854775808) :
  Calls prog 38 #[.slice a len cap,.int .i64 (pre.length:Int),.bool true] w fun e w'=>e=.returned (.tuple #[.agg #[.int .i64 0,.int .i64 0,.int .i64 (-1),.int .i64 (o:Int)],.int .i64 ((pre++enc o).length:Int),.int .i64 0])/\Below w.heap.size w w':=by
 have HN1:Hid ((w.alloc (.cells #[.int .i64 0,.int .i64 0,.int .i64 (-1),.int .i64 0] 54)).heap[w.heap.size]?=some (.cells #[.int .i64 0,.int .i64 0,.int .i64 (-1),.int .i64 0] 54 (0,0))):=heap_alloc_new w _;have HB1:=zH (aAc w (.cells #[.int .i64 0,.int .i64 0,.int .i64 (-1),.int .i64 0] 54));have HBS1:=zH (h.later HB1.o (nR _));go_enter func38,ntmps38;go_upto_region 2 with fail;generalize (w.alloc (.cells #[.int .i64 0,.int .i64 0,.int .i64 (-1),.int .i64 0] 54))=w1 at *
 generalize hn0:w.heap.size=n0 at *
 have HR1:=zH (aHh HBS1.o ho);generalize hp1:(pre++enc o).length=p1 at *
 have HP1:=zH hp1;clear hp1;generalize pre.length=p0 at *
 have q3:w1.cell? ⟨n0,3,none⟩=some (.int .i64 0):=aAa HN1.o;have qf3:w1.frozen? ⟨n0,3,none⟩=false:=aAb HN1.o;have HN2:=zH (heap_setCell_same _ n0 3 _ _ (.int .i64 (o:Int)) HN1.o);have HB2:Hid (Below n0 w (w1.setCell ⟨n0,3,none⟩ (.int .i64 (o:Int)))):=HB1.o.setCell (p:=⟨n0,3,none⟩) (nR _) _;go_wp2_with fail;refine HR1.o.mono ?_;rintro e w2 ⟨rfl,hw⟩;have hw:=hw.symm;subst hw;go_upto_region 5 with fail;clear q3 qf3 HR1;generalize w1.setCell ⟨n0,3,none⟩ (.int .i64 (o:Int))=w3 at *
 have y0:w3.cell? ⟨n0,0,none⟩=some (.int .i64 0):=aAa HN2.o;have y1:w3.cell? ⟨n0,1,none⟩=some (.int .i64 0):=aAa HN2.o;have y2:w3.cell? ⟨n0,2,none⟩=some (.int .i64 (-1)):=aAa HN2.o;have y3:w3.cell? ⟨n0,3,none⟩=some (.int .i64 (o:Int)):=aAa HN2.o;have z0:w3.frozen? ⟨n0,0,none⟩=false:=aAb HN2.o;have z1:w3.frozen? ⟨n0,1,none⟩=false:=aAb HN2.o;have z2:w3.frozen? ⟨n0,2,none⟩=false:=aAb HN2.o;have z3:w3.frozen? ⟨n0,3,none⟩=false:=aAb HN2.o;go_wp2;(try simp only [Exit.inBlock,Exit.then]);refine bodyPost_ret (aGk rfl _ _ n0 _ rfl (set4 HN2.o) rfl) rfl ?_;rw [HP1.o];exact ⟨rfl,by rw [hn0];exact bel4 HB2.o (nR _)⟩
theorem seg_more {d:Nat} (h:BS w a len cap (pre++(enc o++(enc d++rest)))) (ho:o<9223372036854775808) (hd:d<9223372036854775808) :
  Calls prog 38 #[.slice a len cap,.int .i64 (pre.length:Int),.bool false] w fun e w'=>e=.returned (.tuple #[.agg #[.int .i64 0,.int .i64 0,.int .i64 (d:Int),.int .i64 (o:Int)],.int .i64 ((pre++enc o++enc d).length:Int),.int .i64 0])/\Below w.heap.size w w':=by
 have HN1:Hid ((w.alloc (.cells #[.int .i64 0,.int .i64 0,.int .i64 (-1),.int .i64 0] 54)).heap[w.heap.size]?=some (.cells #[.int .i64 0,.int .i64 0,.int .i64 (-1),.int .i64 0] 54 (0,0))):=heap_alloc_new w _;have HB1:=zH (aAc w (.cells #[.int .i64 0,.int .i64 0,.int .i64 (-1),.int .i64 0] 54));have HBS1:=zH (h.later HB1.o (nR _));have HBS0:=zH h;go_enter func38,ntmps38;go_upto_region 2 with fail;generalize (w.alloc (.cells #[.int .i64 0,.int .i64 0,.int .i64 (-1),.int .i64 0] 54))=w1 at *
 generalize hn0:w.heap.size=n0 at *
 have HR1:=zH (aHh HBS1.o ho);have HBS2:Hid (BS (w1.setCell ⟨n0,3,none⟩ (.int .i64 (o:Int))) a len cap ((pre++enc o)++(enc d++rest))):=by
  have h9:=HBS0.o.later (HB1.o.setCell (p:=⟨n0,3,none⟩) (nR _) (.int .i64 (o:Int))) (by omega);rw [List.append_assoc];exact h9
 have HR2:=zH (aHh HBS2.o hd);generalize hp2:(pre++enc o++enc d).length=p2 at *
 have HP2:=zH hp2;clear hp2;generalize hp1:(pre++enc o).length=p1 at *
 have HP1:=zH hp1;clear hp1;generalize pre.length=p0 at *
 have q3:w1.cell? ⟨n0,3,none⟩=some (.int .i64 0):=aAa HN1.o;have qf3:w1.frozen? ⟨n0,3,none⟩=false:=aAb HN1.o;have HN2:=zH (heap_setCell_same _ n0 3 _ _ (.int .i64 (o:Int)) HN1.o);have HB2:Hid (Below n0 w (w1.setCell ⟨n0,3,none⟩ (.int .i64 (o:Int)))):=HB1.o.setCell (p:=⟨n0,3,none⟩) (nR _) _;go_wp2_with fail;refine HR1.o.mono ?_;rintro e w2 ⟨rfl,hw⟩;have hw:=hw.symm;subst hw;go_upto_region 4 with fail;clear q3 qf3 HR1;generalize w1.setCell ⟨n0,3,none⟩ (.int .i64 (o:Int))=w3 at *
 have q2:w3.cell? ⟨n0,2,none⟩=some (.int .i64 (-1)):=aAa HN2.o;have qf2:w3.frozen? ⟨n0,2,none⟩=false:=aAb HN2.o;have HN3:=zH (heap_setCell_same _ n0 2 _ _ (.int .i64 (d:Int)) HN2.o);have HB3:Hid (Below n0 w (w3.setCell ⟨n0,2,none⟩ (.int .i64 (d:Int)))):=HB2.o.setCell (p:=⟨n0,2,none⟩) (nR _) _;go_wp2_with fail;refine HR2.o.mono ?_;rintro e w4 ⟨rfl,hw⟩;have hw:=hw.symm;subst hw;go_upto_region 5 with fail;clear q2 qf2 HR2;generalize w3.setCell ⟨n0,2,none⟩ (.int .i64 (d:Int))=w5 at *
 have y0:w5.cell? ⟨n0,0,none⟩=some (.int .i64 0):=aAa HN3.o;have y1:w5.cell? ⟨n0,1,none⟩=some (.int .i64 0):=aAa HN3.o;have y2:w5.cell? ⟨n0,2,none⟩=some (.int .i64 (d:Int)):=aAa HN3.o;have y3:w5.cell? ⟨n0,3,none⟩=some (.int .i64 (o:Int)):=aAa HN3.o;have z0:w5.frozen? ⟨n0,0,none⟩=false:=aAb HN3.o;have z1:w5.frozen? ⟨n0,1,none⟩=false:=aAb HN3.o;have z2:w5.frozen? ⟨n0,2,none⟩=false:=aAb HN3.o;have z3:w5.frozen? ⟨n0,3,none⟩=false:=aAb HN3.o;go_wp2;(try simp only [Exit.inBlock,Exit.then]);refine bodyPost_ret (aGk rfl _ _ n0 _ rfl (set4 HN3.o) rfl) rfl ?_;rw [HP2.o];exact ⟨rfl,by rw [hn0];exact bel4 HB3.o (nR _)⟩
section
variable {w w0:World} {g o k B:Nat} {cs:Array Value} {b0 b1 b2 b3:Value} {t:TypeId}
theorem set4o (h:w.heap[g]?=some (.cells cs t (0,0))):((((w.setCell ⟨g,o,none⟩ b0).setCell ⟨g,o+1,none⟩ b1).setCell ⟨g,o+2,none⟩ b2).setCell ⟨g,o+3,none⟩ b3).heap[g]?=some (.cells ((((cs.setIfInBounds o b0).setIfInBounds (o+1) b1).setIfInBounds (o+2) b2).setIfInBounds (o+3) b3) t (0,0)):=heap_setCell_same _ _ _ _ _ _ (heap_setCell_same _ _ _ _ _ _ (heap_setCell_same _ _ _ _ _ _ (heap_setCell_same _ _ _ _ _ _ h)))
theorem bel4o (hb:Below B w0 w) (hg:B<=g):Below B w0 ((((w.setCell ⟨g,o,none⟩ b0).setCell ⟨g,o+1,none⟩ b1).setCell ⟨g,o+2,none⟩ b2).setCell ⟨g,o+3,none⟩ b3):=(((hb.setCell (p:=⟨g,o,none⟩) hg _).setCell (p:=⟨g,o+1,none⟩) hg _).setCell (p:=⟨g,o+2,none⟩) hg _).setCell (p:=⟨g,o+3,none⟩) hg _
theorem oth4o (hne:k≠g):((((w.setCell ⟨g,o,none⟩ b0).setCell ⟨g,o+1,none⟩ b1).setCell ⟨g,o+2,none⟩ b2).setCell ⟨g,o+3,none⟩ b3).heap[k]?=w.heap[k]?:=by
 rw [heap_setCell_other _ _ _ _ hne,heap_setCell_other _ _ _ _ hne,heap_setCell_other _ _ _ _ hne,heap_setCell_other _ _ _ _ hne]
theorem at4o (hk:k<o\/o+4<=k):((((cs.setIfInBounds o b0).setIfInBounds (o+1) b1).setIfInBounds (o+2) b2).setIfInBounds (o+3) b3)[k]?=cs[k]?:=by
 rw [Array.getElem?_setIfInBounds_ne (by omega),Array.getElem?_setIfInBounds_ne (by omega),Array.getElem?_setIfInBounds_ne (by omega),Array.getElem?_setIfInBounds_ne (by omega)]
theorem at4o0 (hk:o+4<=cs.size):((((cs.setIfInBounds o b0).setIfInBounds (o+1) b1).setIfInBounds (o+2) b2).setIfInBounds (o+3) b3)[o]?=some b0:=by
 rw [Array.getElem?_setIfInBounds_ne (by omega),Array.getElem?_setIfInBounds_ne (by omega),Array.getElem?_setIfInBounds_ne (by omega),Array.getElem?_setIfInBounds_self_of_lt (by omega)]
theorem at4o1 (hk:o+4<=cs.size):((((cs.setIfInBounds o b0).setIfInBounds (o+1) b1).setIfInBounds (o+2) b2).setIfInBounds (o+3) b3)[o+1]?=some b1:=by
 rw [Array.getElem?_setIfInBounds_ne (by omega),Array.getElem?_setIfInBounds_ne (by omega),Array.getElem?_setIfInBounds_self_of_lt (by simp only [Array.size_setIfInBounds];omega)]
theorem at4o2 (hk:o+4<=cs.size):((((cs.setIfInBounds o b0).setIfInBounds (o+1) b1).setIfInBounds (o+2) b2).setIfInBounds (o+3) b3)[o+2]?=some b2:=by
 rw [Array.getElem?_setIfInBounds_ne (by omega),Array.getElem?_setIfInBounds_self_of_lt (by simp only [Array.size_setIfInBounds];omega)]
theorem at4o3 (hk:o+4<=cs.size):((((cs.setIfInBounds o b0).setIfInBounds (o+1) b1).setIfInBounds (o+2) b2).setIfInBounds (o+3) b3)[o+3]?=some b3:=by
 rw [Array.getElem?_setIfInBounds_self_of_lt (by simp only [Array.size_setIfInBounds];omega)]
end
theorem enC_split {l:List Sg} {s:Sg} (h:l[j]?=some s):enC l=(enc l.length++enB (l.take j))++(enS s++enB (l.drop (j+1))):=by
 unfold enC;rw [List.append_assoc]
 congr 1
 have h1:l=l.take (j+1)++l.drop (j+1):=(List.take_append_drop _ _).symm;have h2:enB l=enB (l.take (j+1))++enB (l.drop (j+1)):=by
  unfold enB;rw [<-List.flatMap_append,List.take_append_drop]
 rw [h2,aFb h,List.append_assoc]
theorem decode_ok {l:List Sg} (h:BS w a len cap (enC l)) (hc:CH l):Calls prog 21 #[.slice a len cap] w fun e w'=>(∃ v,e=.returned (.tuple #[v,.int .i64 0])/\SGV w' v l)/\Below w.heap.size w w':=by
 obtain ⟨i0,hi,hz0,hz1,hz2⟩:=info_parts info_sgm;have HC:=zH hc;have hn1:=hc.n1;have hn2:=hc.n2;have HR0:Hid (Calls prog 37 #[.slice a len cap,.int .i64 0] w fun e w'=>e=.returned (.tuple #[.int .i64 (l.length:Int),.int .i64 ((enc l.length++enB (l.take 0)).length:Int),.int .i64 0])/\w'=w):=by
  have h9:=aHh (pre:=[]) (n:=l.length) (rest:=enB l) h (by omega);have e9:enB (l.take 0)=[]:=rfl;rw [e9,List.append_nil];exact h9
 have HLN:Hid (len=(enc l.length++enB (l.take l.length)).length):=by
  show len=_;rw [List.take_length];exact h.hlen.symm
 have HBS:=zH h;have HST:=zH hc.stl;have HSP:Hid (∀ j s,l[j]?=some s->enC l=(enc l.length++enB (l.take j))++(enS s++enB (l.drop (j+1)))):=fun j s hs=>enC_split hs
 have HNL:Hid (∀ j s,l[j]?=some s->enB (l.take (j+1))=enB (l.take j)++enS s):=fun j s hs=>aFb hs
 have HLL:Hid (l.length=l.length):=rfl;generalize hn:l.length=n at *
 clear h hc;go_enter func21,ntmps21;go_wp2_with fail;refine HR0.o.mono ?_;rintro e w0 ⟨rfl,hw⟩;have hw:=hw.symm;subst hw;have d1:decide ((n:Int)<1)=false:=decide_eq_false (by omega);have d2:decide ((17:Int)<(n:Int))=false:=decide_eq_false (by omega);clear HR0 HLL;generalize hp0:(enc n++enB (l.take 0)).length=q0 at *
 go_wp2_with (refine wpList_make_full w rfl _ _ 28 rfl w.heap.size 54 i0 (.agg #[.int .i64 0,.int .i64 0,.int .i64 0,.int .i64 0]) 4 underlying28 hi hz0 hz1 .i64 .i64 n n n rfl rfl rfl rfl (by rw [hz2];omega) (by unfold maxLen;omega) (nR _) ?_;intro w1 ho1 hg1;have HO1:=zH (made_all ho1);have HG1:=zH ((Below.refl w.heap.size w).grown hg1 (nR _) (fun k hk=>by cases hk));clear ho1 hg1);generalize hg0:w.heap.size=g at *
 go_loopw [5,8,32] (fun s5 s8 s32 wx=>∃ j:Nat,j<=n/\s5=.int .i64 ((enc n++enB (l.take j)).length:Int)/\s8=.int .i64 (stA l j)/\s32=.int .i64 (j:Int)/\∃ cs,wx.heap[g]?=some (.cells cs 54 (0,0))/\cs.size=n*4/\(∀ (i:Nat) s,i<j->l[i]?=some s->cs[i*4]?=some (.int .i64 s.lg)/\cs[i*4+1]?=some (.int .i64 s.st)/\cs[i*4+2]?=some (.int .i64 s.en)/\cs[i*4+3]?=some (.int .i64 s.ow))/\Below g w wx) (fun _ _ i _=>n-(intOf i).toNat)
 case atStart =>
  obtain ⟨cs,k1,k2,_⟩:=HO1.o;exact ⟨0,by omega,by rw [hp0],rfl,rfl,cs,k1,k2,fun i s hi=>absurd hi (by omega),HG1.o⟩
 case round =>
  obtain ⟨j,hj,rfl,rfl,rfl,cs,hd,hcs,hq,hbx⟩:=hrel;have HD:=zH hd;have HCS:=zH hcs;have HQ:=zH hq;have HBX:=zH hbx;clear hd hcs hq hbx HO1 HG1;by_cases hjn:j<n
  ·have i1:(j:Int)<(n:Int):=by omega
   have i2:(0:Int)<=(j:Int):=by omega
   have i3:(j:Int)<1000:=by omega
   have i4:(n:Int)<1000:=by omega
   obtain ⟨s,hs⟩:∃ s,l[j]?=some s:=⟨_,gE (by omega)⟩;have hnum:=HC.o.num hs;have hel:=HC.o.el j s hs;have hst:=HC.o.st hs;have HMID:Hid (j+1<n->s.st<=s.en/\s.en<=4611686018427387904/\0<=s.en):=fun h9=>HC.o.mid hs (by omega)
   have HLST:Hid (¬ j+1<n->s.en=-1):=fun h9=>HC.o.lst hs (by omega)
   have HES:Hid (stA l (j+1)=s.en):=aE5 hs;have HSPJ:=zH (HSP.o j s hs);have HNLJ:=zH (HNL.o j s hs);have HENS:Hid (enS s=enc s.ow.toNat++(if s.en=-1 then [] else enc (s.en-s.st).toNat)):=rfl;have HSJ:=zH hs;obtain ⟨slg,sst,sen,sow⟩:=s;obtain ⟨f1,f2,f3,f4,f5⟩:=hel
   replace f1:slg=(j:Int):=f1
   replace hst:sst=stA l j:=hst
   obtain ⟨on,hon⟩:=Int.eq_ofNat_of_zero_le f2
   replace hon:sow=(on:Int):=hon
   subst hon f1;rw [<-hst];have HON:Hid (on<9223372036854775808):=by show on<_;have h9:((on:Int)).toNat<9223372036854775808:=hnum.1;omega
   have HF4:Hid (0<=sst/\sst<=4611686018427387904):=⟨f4,f5⟩;have HBSJ:Hid (BS wr a len cap (enC l)):=HBS.o.later (by rw [hg0];exact HBX.o) (nR _);clear f2 f3 f4 f5 hnum hst hs;generalize hX:enc n++enB (l.take j)=X at *
   by_cases hl:j+1<n
   ·obtain ⟨m1,m2,m3⟩:=HMID.o hl
    replace m1:sst<=sen:=m1
    replace m2:sen<=4611686018427387904:=m2
    replace m3:0<=sen:=m3
    obtain ⟨dn,hdn⟩:=Int.eq_ofNat_of_zero_le (show 0<=sen-sst by omega);have HDN:Hid (dn<9223372036854775808):=by show dn<_;have:=HF4.o;omega
    have hen:enS ⟨(j:Int),sst,sen,(on:Int)⟩=enc on++enc dn:=by
     rw [HENS.o,if_neg (show ¬ sen=-1 by omega)];show enc ((on:Int)).toNat++enc (sen-sst).toNat=_;rw [hdn];rfl
    have HPS:Hid ((enc n++enB (l.take (j+1))).length=(X++enc on++enc dn).length):=by
     show _=_;rw [HNLJ.o,<-List.append_assoc,hX,hen,List.append_assoc]
    have HSG:=zH (seg_more (w:=wr) (pre:=X) (o:=on) (d:=dn) (rest:=enB (l.drop (j+1))) (a:=a) (len:=len) (cap:=cap) (by have h9:=HBSJ.o;rw [HSPJ.o,hen,List.append_assoc] at h9;exact h9) HON.o HDN.o);have k1b:((j:Int) == (n:Int)-1)=false:=by simp;omega
    have k2:¬ (dn:Int)=-1:=by omega
    have k3:IntKind.i64.wrap ((dn:Int)+sst)=sen:=by rw [wrap_small _ (by have:=HF4.o;omega) (by have:=HF4.o;omega)];omega
    clear m1 m2 m3 hdn hen;generalize (X++enc on++enc dn).length=p2 at *
    generalize X.length=p1 at *
    have HHX:=zH (And.intro hX (And.intro hn (And.intro hg0 hp0)));clear hX hn hg0 hp0 HDN;generalize (dn:Int)=dz at *
    go_wp2_with fail;refine HSG.o.mono ?_;rintro e w3 ⟨rfl,hb3⟩;have HDW:Hid (w3.heap[g]?=_):=(hb3.block g (lO HD.o)).trans HD.o;have HBW:Hid (Below g w w3):=HBX.o.trans (hb3.mono (by have:=lO HD.o;omega));clear hb3 HSG;have HBA:=zH (aAc w3 (.cells #[.int .i64 (j:Int),.int .i64 sst,.int .i64 sen,.int .i64 (on:Int)] 54));have HAN:Hid ((w3.alloc (.cells #[.int .i64 (j:Int),.int .i64 sst,.int .i64 sen,.int .i64 (on:Int)] 54)).heap[w3.heap.size]?=some (.cells #[.int .i64 (j:Int),.int .i64 sst,.int .i64 sen,.int .i64 (on:Int)] 54 (0,0))):=heap_alloc_new w3 _;have HD3:Hid ((w3.alloc (.cells #[.int .i64 (j:Int),.int .i64 sst,.int .i64 sen,.int .i64 (on:Int)] 54)).heap[g]?=some (.cells cs 54 (0,0))):=(HBA.o.block g (lO HDW.o)).trans HDW.o;have HB4:Hid (Below g w (w3.alloc (.cells #[.int .i64 (j:Int),.int .i64 sst,.int .i64 sen,.int .i64 (on:Int)] 54))):=HBW.o.trans (HBA.o.mono (by have:=lO HDW.o;omega));have HGN:Hid (g<w3.heap.size):=lO HDW.o;go_upto_region 17 with fail;generalize w3.alloc (.cells #[.int .i64 (j:Int),.int .i64 sst,.int .i64 sen,.int .i64 (on:Int)] 54)=x3 at *
    generalize w3.heap.size=n3 at *
    have HX17:Hid ((fun wx=>wx.cell? ⟨n3,0,none⟩=some (.int .i64 (j:Int))/\wx.cell? ⟨n3,1,none⟩=some (.int .i64 sst)/\wx.cell? ⟨n3,2,none⟩=some (.int .i64 sen)/\wx.cell? ⟨n3,3,none⟩=some (.int .i64 (on:Int))) x3.drew):=⟨aAa (show x3.drew.heap[n3]?=_ from HAN.o),aAa (show x3.drew.heap[n3]?=_ from HAN.o),aAa (show x3.drew.heap[n3]?=_ from HAN.o),aAa (show x3.drew.heap[n3]?=_ from HAN.o)⟩;have hj4:j*4+4<=cs.size:=by rw [HCS.o];omega
    refine wp_region_noPanic ?_;refine wp_region_held_drew (S:=fun wx=>wx.cell? ⟨n3,0,none⟩=some (.int .i64 (j:Int))/\wx.cell? ⟨n3,1,none⟩=some (.int .i64 sst)/\wx.cell? ⟨n3,2,none⟩=some (.int .i64 sen)/\wx.cell? ⟨n3,3,none⟩=some (.int .i64 (on:Int))) (by kernel_rfl) HX17.o (fun hHeld=>?_);refine kT 0 61 ?_;refine kT 1 62 ?_;refine kT 2 63 ?_;refine kT 3 64 ?_;refine kT 4 65 ?_;refine kT 5 66 ?_;refine kT 6 67 ?_;have e0:x3.cell? ⟨g,j*4,none⟩=some (cs[j*4]'(by omega)):=(aAa HD3.o).trans (Array.getElem?_eq_getElem _);have ef0:x3.frozen? ⟨g,j*4,none⟩=false:=aAb HD3.o;have e1:x3.cell? ⟨g,j*4+1,none⟩=some (cs[j*4+1]'(by omega)):=(aAa HD3.o).trans (Array.getElem?_eq_getElem _);have ef1:x3.frozen? ⟨g,j*4+1,none⟩=false:=aAb HD3.o;have e2:x3.cell? ⟨g,j*4+2,none⟩=some (cs[j*4+2]'(by omega)):=(aAa HD3.o).trans (Array.getElem?_eq_getElem _);have ef2:x3.frozen? ⟨g,j*4+2,none⟩=false:=aAb HD3.o;have e3:x3.cell? ⟨g,j*4+3,none⟩=some (cs[j*4+3]'(by omega)):=(aAa HD3.o).trans (Array.getElem?_eq_getElem _);have ef3:x3.frozen? ⟨g,j*4+3,none⟩=false:=aAb HD3.o;generalize cs[j*4]'(by omega)=k0 at e0;generalize cs[j*4+1]'(by omega)=k1 at e1;generalize cs[j*4+2]'(by omega)=k2 at e2;generalize cs[j*4+3]'(by omega)=k3 at e3;refine kC 7 ?_;intro K hK;go_simp;have hh18:((((((x3.setCell ⟨g,j*4,none⟩ (.int .i64 (j:Int))).setCell ⟨g,j*4+1,none⟩ (.int .i64 sst)).setCell ⟨g,j*4+2,none⟩ (.int .i64 sen)).setCell ⟨g,j*4+3,none⟩ (.int .i64 (on:Int)))).drew).heap[n3]?=some (.cells #[.int .i64 (j:Int),.int .i64 sst,.int .i64 sen,.int .i64 (on:Int)] 54 (0,0)):=(oth4o (w:=x3) (by have:=HGN.o;omega)).trans HAN.o;have HX18:Hid ((fun wx=>wx.cell? ⟨n3,0,none⟩=some (.int .i64 (j:Int))/\wx.cell? ⟨n3,1,none⟩=some (.int .i64 sst)/\wx.cell? ⟨n3,2,none⟩=some (.int .i64 sen)/\wx.cell? ⟨n3,3,none⟩=some (.int .i64 (on:Int))) ((((((x3.setCell ⟨g,j*4,none⟩ (.int .i64 (j:Int))).setCell ⟨g,j*4+1,none⟩ (.int .i64 sst)).setCell ⟨g,j*4+2,none⟩ (.int .i64 sen)).setCell ⟨g,j*4+3,none⟩ (.int .i64 (on:Int)))).drew)):=⟨aAa hh18,aAa hh18,aAa hh18,aAa hh18⟩;refine hK.out _ _ HX18.o (fun hHeld=>?_);clear hK K
    try simp only [Act.put,siT,scZ,scS]
    refine kT 8 8 ?_;refine kT 9 5 ?_;refine wpAnyH_done (by kernel_rfl) ?_ _;refine NoPanic.normal ?_;clear hHeld;have HD5:Hid (((((((x3.setCell ⟨g,j*4,none⟩ (.int .i64 (j:Int))).setCell ⟨g,j*4+1,none⟩ (.int .i64 sst)).setCell ⟨g,j*4+2,none⟩ (.int .i64 sen)).setCell ⟨g,j*4+3,none⟩ (.int .i64 (on:Int)))).drew).heap[g]?=_):=set4o (w:=x3) HD3.o;have HB5:Hid (Below g w ((((((x3.setCell ⟨g,j*4,none⟩ (.int .i64 (j:Int))).setCell ⟨g,j*4+1,none⟩ (.int .i64 sst)).setCell ⟨g,j*4+2,none⟩ (.int .i64 sen)).setCell ⟨g,j*4+3,none⟩ (.int .i64 (on:Int)))).drew)):=(bel4o HB4.o (nR g)).trans ((Below.refl g _).drew);have HQ5:Hid (∀ (i:Nat) s,i<j+1->l[i]?=some s->((((cs.setIfInBounds (j*4) (.int .i64 (j:Int))).setIfInBounds (j*4+1) (.int .i64 sst)).setIfInBounds (j*4+2) (.int .i64 sen)).setIfInBounds (j*4+3) (.int .i64 (on:Int)))[i*4]?=some (.int .i64 s.lg)/\((((cs.setIfInBounds (j*4) (.int .i64 (j:Int))).setIfInBounds (j*4+1) (.int .i64 sst)).setIfInBounds (j*4+2) (.int .i64 sen)).setIfInBounds (j*4+3) (.int .i64 (on:Int)))[i*4+1]?=some (.int .i64 s.st)/\((((cs.setIfInBounds (j*4) (.int .i64 (j:Int))).setIfInBounds (j*4+1) (.int .i64 sst)).setIfInBounds (j*4+2) (.int .i64 sen)).setIfInBounds (j*4+3) (.int .i64 (on:Int)))[i*4+2]?=some (.int .i64 s.en)/\((((cs.setIfInBounds (j*4) (.int .i64 (j:Int))).setIfInBounds (j*4+1) (.int .i64 sst)).setIfInBounds (j*4+2) (.int .i64 sen)).setIfInBounds (j*4+3) (.int .i64 (on:Int)))[i*4+3]?=some (.int .i64 s.ow)):=fun i s hi hsi=>by
     by_cases hij:i=j
     ·subst hij;rw [HSJ.o] at hsi;cases hsi;exact ⟨at4o0 hj4,at4o1 hj4,at4o2 hj4,at4o3 hj4⟩
     ·obtain ⟨b0,b1,b2,b3⟩:=HQ.o i s (by omega) hsi;refine ⟨?_,?_,?_,?_⟩<;>rw [at4o (by omega)]<;>assumption
    clear e0 ef0 e1 ef1 e2 ef2 e3 ef3;generalize (((((x3.setCell ⟨g,j*4,none⟩ (.int .i64 (j:Int))).setCell ⟨g,j*4+1,none⟩ (.int .i64 sst)).setCell ⟨g,j*4+2,none⟩ (.int .i64 sen)).setCell ⟨g,j*4+3,none⟩ (.int .i64 (on:Int)))).drew=w6 at *
    go_wp2_with fail;go_roundw
    case rel=>exact ⟨j+1,by omega,by rw [HPS.o],by rw [HES.o],by go_num,_,HD5.o,by simp only [Array.size_setIfInBounds];exact HCS.o,HQ5.o,HB5.o⟩
    case measure=>simp [intOf];omega
   ·have hse:sen=-1:=HLST.o hl;subst hse;have hen:enS ⟨(j:Int),sst,-1,(on:Int)⟩=enc on:=by
     rw [HENS.o,if_pos rfl,List.append_nil];rfl
    have HPS:Hid ((enc n++enB (l.take (j+1))).length=(X++enc on).length):=by
     show _=_;rw [HNLJ.o,<-List.append_assoc,hX,hen]
    have HSG:=zH (seg_last (w:=wr) (pre:=X) (o:=on) (rest:=enB (l.drop (j+1))) (a:=a) (len:=len) (cap:=cap) (by have h9:=HBSJ.o;rw [HSPJ.o,hen] at h9;exact h9) HON.o);have k1:(j:Int)=(n:Int)-1:=by omega
    clear hen;generalize (X++enc on).length=p2 at *
    generalize X.length=p1 at *
    have k1b:((j:Int) == (n:Int)-1)=true:=by simp;omega
    clear k1;have HHX:=zH (And.intro hX (And.intro hn (And.intro hg0 hp0)));clear hX hn hg0 hp0;go_wp2_with fail;refine HSG.o.mono ?_;rintro e w3 ⟨rfl,hb3⟩;have HDW:Hid (w3.heap[g]?=_):=(hb3.block g (lO HD.o)).trans HD.o;have HBW:Hid (Below g w w3):=HBX.o.trans (hb3.mono (by have:=lO HD.o;omega));clear hb3 HSG;have HBA:=zH (aAc w3 (.cells #[.int .i64 (j:Int),.int .i64 sst,.int .i64 (-1),.int .i64 (on:Int)] 54));have HAN:Hid ((w3.alloc (.cells #[.int .i64 (j:Int),.int .i64 sst,.int .i64 (-1),.int .i64 (on:Int)] 54)).heap[w3.heap.size]?=some (.cells #[.int .i64 (j:Int),.int .i64 sst,.int .i64 (-1),.int .i64 (on:Int)] 54 (0,0))):=heap_alloc_new w3 _;have HD3:Hid ((w3.alloc (.cells #[.int .i64 (j:Int),.int .i64 sst,.int .i64 (-1),.int .i64 (on:Int)] 54)).heap[g]?=some (.cells cs 54 (0,0))):=(HBA.o.block g (lO HDW.o)).trans HDW.o;have HB4:Hid (Below g w (w3.alloc (.cells #[.int .i64 (j:Int),.int .i64 sst,.int .i64 (-1),.int .i64 (on:Int)] 54))):=HBW.o.trans (HBA.o.mono (by have:=lO HDW.o;omega));have HGN:Hid (g<w3.heap.size):=lO HDW.o;go_upto_region 17 with fail;generalize w3.alloc (.cells #[.int .i64 (j:Int),.int .i64 sst,.int .i64 (-1),.int .i64 (on:Int)] 54)=x3 at *
    generalize w3.heap.size=n3 at *
    have HX17:Hid ((fun wx=>wx.cell? ⟨n3,0,none⟩=some (.int .i64 (j:Int))/\wx.cell? ⟨n3,1,none⟩=some (.int .i64 sst)/\wx.cell? ⟨n3,2,none⟩=some (.int .i64 (-1))/\wx.cell? ⟨n3,3,none⟩=some (.int .i64 (on:Int))) x3.drew):=⟨aAa (show x3.drew.heap[n3]?=_ from HAN.o),aAa (show x3.drew.heap[n3]?=_ from HAN.o),aAa (show x3.drew.heap[n3]?=_ from HAN.o),aAa (show x3.drew.heap[n3]?=_ from HAN.o)⟩;have hj4:j*4+4<=cs.size:=by rw [HCS.o];omega
    refine wp_region_noPanic ?_;refine wp_region_held_drew (S:=fun wx=>wx.cell? ⟨n3,0,none⟩=some (.int .i64 (j:Int))/\wx.cell? ⟨n3,1,none⟩=some (.int .i64 sst)/\wx.cell? ⟨n3,2,none⟩=some (.int .i64 (-1))/\wx.cell? ⟨n3,3,none⟩=some (.int .i64 (on:Int))) (by kernel_rfl) HX17.o (fun hHeld=>?_);refine kT 0 61 ?_;refine kT 1 62 ?_;refine kT 2 63 ?_;refine kT 3 64 ?_;refine kT 4 65 ?_;refine kT 5 66 ?_;refine kT 6 67 ?_;have e0:x3.cell? ⟨g,j*4,none⟩=some (cs[j*4]'(by omega)):=(aAa HD3.o).trans (Array.getElem?_eq_getElem _);have ef0:x3.frozen? ⟨g,j*4,none⟩=false:=aAb HD3.o;have e1:x3.cell? ⟨g,j*4+1,none⟩=some (cs[j*4+1]'(by omega)):=(aAa HD3.o).trans (Array.getElem?_eq_getElem _);have ef1:x3.frozen? ⟨g,j*4+1,none⟩=false:=aAb HD3.o;have e2:x3.cell? ⟨g,j*4+2,none⟩=some (cs[j*4+2]'(by omega)):=(aAa HD3.o).trans (Array.getElem?_eq_getElem _);have ef2:x3.frozen? ⟨g,j*4+2,none⟩=false:=aAb HD3.o;have e3:x3.cell? ⟨g,j*4+3,none⟩=some (cs[j*4+3]'(by omega)):=(aAa HD3.o).trans (Array.getElem?_eq_getElem _);have ef3:x3.frozen? ⟨g,j*4+3,none⟩=false:=aAb HD3.o;generalize cs[j*4]'(by omega)=k0 at e0;generalize cs[j*4+1]'(by omega)=k1 at e1;generalize cs[j*4+2]'(by omega)=k2 at e2;generalize cs[j*4+3]'(by omega)=k3 at e3;refine kC 7 ?_;intro K hK;go_simp;have hh18:((((((x3.setCell ⟨g,j*4,none⟩ (.int .i64 (j:Int))).setCell ⟨g,j*4+1,none⟩ (.int .i64 sst)).setCell ⟨g,j*4+2,none⟩ (.int .i64 (-1))).setCell ⟨g,j*4+3,none⟩ (.int .i64 (on:Int)))).drew).heap[n3]?=some (.cells #[.int .i64 (j:Int),.int .i64 sst,.int .i64 (-1),.int .i64 (on:Int)] 54 (0,0)):=(oth4o (w:=x3) (by have:=HGN.o;omega)).trans HAN.o;have HX18:Hid ((fun wx=>wx.cell? ⟨n3,0,none⟩=some (.int .i64 (j:Int))/\wx.cell? ⟨n3,1,none⟩=some (.int .i64 sst)/\wx.cell? ⟨n3,2,none⟩=some (.int .i64 (-1))/\wx.cell? ⟨n3,3,none⟩=some (.int .i64 (on:Int))) ((((((x3.setCell ⟨g,j*4,none⟩ (.int .i64 (j:Int))).setCell ⟨g,j*4+1,none⟩ (.int .i64 sst)).setCell ⟨g,j*4+2,none⟩ (.int .i64 (-1))).setCell ⟨g,j*4+3,none⟩ (.int .i64 (on:Int)))).drew)):=⟨aAa hh18,aAa hh18,aAa hh18,aAa hh18⟩;refine hK.out _ _ HX18.o (fun hHeld=>?_);clear hK K
    try simp only [Act.put,siT,scZ,scS]
    refine kT 8 8 ?_;refine kT 9 5 ?_;refine wpAnyH_done (by kernel_rfl) ?_ _;refine NoPanic.normal ?_;clear hHeld;have HD5:Hid (((((((x3.setCell ⟨g,j*4,none⟩ (.int .i64 (j:Int))).setCell ⟨g,j*4+1,none⟩ (.int .i64 sst)).setCell ⟨g,j*4+2,none⟩ (.int .i64 (-1))).setCell ⟨g,j*4+3,none⟩ (.int .i64 (on:Int)))).drew).heap[g]?=_):=set4o (w:=x3) HD3.o;have HB5:Hid (Below g w ((((((x3.setCell ⟨g,j*4,none⟩ (.int .i64 (j:Int))).setCell ⟨g,j*4+1,none⟩ (.int .i64 sst)).setCell ⟨g,j*4+2,none⟩ (.int .i64 (-1))).setCell ⟨g,j*4+3,none⟩ (.int .i64 (on:Int)))).drew)):=(bel4o HB4.o (nR g)).trans ((Below.refl g _).drew);have HQ5:Hid (∀ (i:Nat) s,i<j+1->l[i]?=some s->((((cs.setIfInBounds (j*4) (.int .i64 (j:Int))).setIfInBounds (j*4+1) (.int .i64 sst)).setIfInBounds (j*4+2) (.int .i64 (-1))).setIfInBounds (j*4+3) (.int .i64 (on:Int)))[i*4]?=some (.int .i64 s.lg)/\((((cs.setIfInBounds (j*4) (.int .i64 (j:Int))).setIfInBounds (j*4+1) (.int .i64 sst)).setIfInBounds (j*4+2) (.int .i64 (-1))).setIfInBounds (j*4+3) (.int .i64 (on:Int)))[i*4+1]?=some (.int .i64 s.st)/\((((cs.setIfInBounds (j*4) (.int .i64 (j:Int))).setIfInBounds (j*4+1) (.int .i64 sst)).setIfInBounds (j*4+2) (.int .i64 (-1))).setIfInBounds (j*4+3) (.int .i64 (on:Int)))[i*4+2]?=some (.int .i64 s.en)/\((((cs.setIfInBounds (j*4) (.int .i64 (j:Int))).setIfInBounds (j*4+1) (.int .i64 sst)).setIfInBounds (j*4+2) (.int .i64 (-1))).setIfInBounds (j*4+3) (.int .i64 (on:Int)))[i*4+3]?=some (.int .i64 s.ow)):=fun i s hi hsi=>by
     by_cases hij:i=j
     ·subst hij;rw [HSJ.o] at hsi;cases hsi;exact ⟨at4o0 hj4,at4o1 hj4,at4o2 hj4,at4o3 hj4⟩
     ·obtain ⟨b0,b1,b2,b3⟩:=HQ.o i s (by omega) hsi;refine ⟨?_,?_,?_,?_⟩<;>rw [at4o (by omega)]<;>assumption
    clear e0 ef0 e1 ef1 e2 ef2 e3 ef3;generalize (((((x3.setCell ⟨g,j*4,none⟩ (.int .i64 (j:Int))).setCell ⟨g,j*4+1,none⟩ (.int .i64 sst)).setCell ⟨g,j*4+2,none⟩ (.int .i64 (-1))).setCell ⟨g,j*4+3,none⟩ (.int .i64 (on:Int)))).drew=w6 at *
    go_wp2_with fail;go_roundw
    case rel=>exact ⟨j+1,by omega,by rw [HPS.o],by rw [HES.o],by go_num,_,HD5.o,by simp only [Array.size_setIfInBounds];exact HCS.o,HQ5.o,HB5.o⟩
    case measure=>simp [intOf];omega
  ·have i1:¬ (j:Int)<(n:Int):=by omega
   have e:j=n:=by omega
   subst e;rw [<-HLN.o];have HSV:Hid (SGV wr (.slice (some ⟨g,0,none⟩) j j) l):=by
    refine ⟨g,j,cs,by rw [hn],by omega,by omega,HD.o,fun i s hs=>HQ.o i s (by have:=(lL hs);omega) hs⟩
   have HRI:=zH (aHg HSV.o HC.o);have i5:¬ (len:Int)<(len:Int):=by omega
   go_wp2_with fail;refine HRI.o.mono ?_;rintro e w9 ⟨rfl,hb9⟩;have HS9:=zH (HSV.o.later hb9);have HB9:Hid (Below g w w9):=HBX.o.trans (hb9.mono (by have:=lO HD.o;omega));clear hb9 HRI HSV;go_wp2;go_ret2;exact ⟨⟨_,rfl,HS9.o⟩,by rw [hg0];exact HB9.o⟩
end Go.Proofs.YtdfjjhlhnfindaaGreat
