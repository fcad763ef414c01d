import Derived.Test.YthgleplmbnkacaaGreatY16
import Derived.Deep.SlicePairs
set_option maxRecDepth 100000
set_option maxHeartbeats 16000000
namespace Go.Proofs.YthgleplmbnkacaaGreat
open Go.ChangeShapes Go.WideShapes Go.ChangeAt Go.RowKit
set_option linter.unusedVariables false
structure AV where
 kind:Int
 at_:Int
 sp:Int
 a:Option Addr
 l:Nat
 c:Nat
 xs:List Nat
 va:Option Addr
 vl:Nat
 vc:Nat
 vs:List Nat
structure AV.Ok (q:AV) (W:World):Prop where
 lc:q.l≤q.c
 cm:q.c≤9223372036854775807
 bs:BS W q.a (min q.l 62) q.c q.xs
 vlc:q.vl≤q.vc
 vcm:q.vc≤9223372036854775807
 vbs:BS W q.va (min q.vl 62) q.vc q.vs
structure AC (W:World) (b o:Nat) (q:AV):Prop where
 c0:W.cell? ⟨b,o,none⟩=some (.int .i64 q.kind)
 c1:W.cell? ⟨b,o+1,none⟩=some (.int .i64 q.at_)
 c2:W.cell? ⟨b,o+2,none⟩=some (.int .i64 q.sp)
 c3:W.cell? ⟨b,o+3,none⟩=some (.slice q.a q.l q.c)
 c4:W.cell? ⟨b,o+4,none⟩=some (.slice q.va q.vl q.vc)
theorem aA5:(Tryz.prog.fieldsOf 35).toList.map (fun f=>(f.type,f.offset))=[(3,0),(33,1),(33,2)]:=by kernel_rfl
theorem under_pair13:Tryz.prog.underlying 35=some (.struct (Tryz.prog.fieldsOf 35)):=by kernel_rfl
theorem aBy:(Tryz.prog.fieldsOf 47).toList.map (fun f=>(f.type,f.offset))=[(3,0),(3,1),(35,2)]:=by kernel_rfl
theorem under_act:Tryz.prog.underlying 47=some (.struct (Tryz.prog.fieldsOf 47)):=by kernel_rfl
theorem aBz {t:TypeId} {l:List (TypeId×Nat)} (h:(Tryz.prog.fieldsOf t).toList.map (fun f=>(f.type,f.offset))=l) {i:Nat} {e:TypeId} {o:Nat} (hi:l[i]?=some (e,o)):∃ f,(Tryz.prog.fieldsOf t)[i]?=some f∧f.type=e∧f.offset=o:=by
 rw [←h,List.getElem?_map] at hi
 cases hf:(Tryz.prog.fieldsOf t).toList[i]? with
 | none=>rw [hf] at hi;cases hi
 | some f =>
  rw [hf] at hi
  simp only [Option.map_some,oI,Prod.mk.injEq] at hi
  exact ⟨f,by simpa using hf,hi.1,hi.2⟩
theorem list5 {α:Type} {l:List α} (h:l.length=5):∃ a b c d e,l=[a,b,c,d,e]:=by
 match l,h with
 | [a,b,c,d,e],_=>exact ⟨a,b,c,d,e,rfl⟩
theorem bytes_of {H:Type} {enc:TypeId×Value→H} {W:World} {n:Nat} {u:Value} {x:DataW H×List MemPlace} (lim:Nat) (hlim:lim≤10000)
  (h:DataW.trod enc Tryz.prog W 0 (fun _=>true) true n 33 [u]=some x):∃ (a:Option Addr) (l c:Nat) (xs:List Nat),u=.slice a l c∧l≤c∧c≤9223372036854775807∧BS W a (min l lim) c xs:=by
 rcases open_ints Tryz.underlying33 Tryz.underlying5 (by kernel_rfl) h with ⟨hcs,_⟩ | ⟨ad,l,c,zs,hcs,_,hlc,hm,hz,hx,hcell,hwz⟩
 ·simp only [List.cons.injEq,and_true] at hcs
  subst hcs
  exact ⟨none,0,0,[],rfl,nR _,Nat.zero_le _,by rw [Nat.zero_min];exact BS.none _ _ _ (Nat.zero_le _) (fun _=>rfl)⟩
 ·simp only [List.cons.injEq,and_true] at hcs
  subst hcs
  simp only [if_true] at hz
  unfold maxLen at hm
  have hwb:∀ z∈zs,0≤z∧z<256:=fun z hz1=>u8_bounds (hwz z hz1)
  refine ⟨some ad,l,c,(zs.take (min l lim)).map Int.toNat,rfl,hlc,by omega,⟨by simp;omega,by show min l lim≤c;omega,by show min l lim≤_;omega,by show c≤_;omega,?_,by simp,?_⟩⟩
  ·intro n hn
   simp only [List.mem_map] at hn
   obtain ⟨z,hz1,rfl⟩:=hn
   have:=hwb z (List.mem_of_mem_take hz1)
   omega
  ·intro y hy i hi
   simp only [oI] at hy
   subst hy
   have hi2:i<min l lim:=hi
   rw [hcell i (by omega)]
   have hi':i<zs.length:=by omega
   have hb2:=hwb zs[i] (List.getElem_mem hi')
   simp only [List.getD_eq_getElem?_getD,List.getElem?_map,List.getElem?_take_of_lt hi2,gE hi',Option.map_some,Option.getD_some]
   rw [Int.toNat_of_nonneg hb2.1]
theorem open_act {H:Type} {enc:TypeId×Value→H} {W:World} {n:Nat} {cs:List Value} {x:DataW H×List MemPlace} (hl:cs.length=5)
  (h:DataW.trod enc Tryz.prog W 0 (fun _=>true) true n 47 cs=some x) :
  ∃ q:AV,q.Ok W∧cs=[.int .i64 q.kind,.int .i64 q.at_,.int .i64 q.sp,.slice q.a q.l q.c,.slice q.va q.vl q.vc]:=by
 have ci:Tryz.prog.cellsOf 3=1:=by kernel_rfl
 have cb:Tryz.prog.cellsOf 33=1:=by kernel_rfl
 have cl:Tryz.prog.cellsOf 35=3:=by kernel_rfl
 obtain ⟨u0,u1,u2,u3,u4,rfl⟩:=list5 hl
 obtain ⟨xs,k,_,_,_,hxl,hff⟩:=DataW.trod_struct under_act h
 obtain ⟨f0,g0,t0,o0⟩:=aBz aBy (i:=0) rfl
 obtain ⟨f1,g1,t1,o1⟩:=aBz aBy (i:=1) rfl
 obtain ⟨f2,g2,t2,o2⟩:=aBz aBy (i:=2) rfl
 have hsz:xs.length=3:=by
  rw [hxl]
  have:=congrArg List.length aBy
  simpa using this
 have s0:=hff 0 f0 g0
 have s1:=hff 1 f1 g1
 have s4:=hff 2 f2 g2
 rw [gE (by omega),t0,o0,ci] at s0
 rw [gE (by omega),t1,o1,ci] at s1
 rw [gE (by omega),t2,o2,cl] at s4
 simp only [List.drop_zero,List.drop_succ_cons,List.take_succ_cons,List.take_zero] at s0 s1 s4
 obtain ⟨z0,hz0,_,_⟩:=DataW.trod_int Tryz.underlying3 s0
 obtain ⟨z1,hz1,_,_⟩:=DataW.trod_int Tryz.underlying3 s1
 simp only [List.cons.injEq,and_true] at hz0 hz1
 subst hz0 hz1
 obtain ⟨ys,k2,_,_,_,hyl,hgg⟩:=DataW.trod_struct under_pair13 s4
 obtain ⟨e0,v0,p0,q0⟩:=aBz aA5 (i:=0) rfl
 obtain ⟨e1,v1,p1,q1⟩:=aBz aA5 (i:=1) rfl
 obtain ⟨e2,v2,p2,q2⟩:=aBz aA5 (i:=2) rfl
 have hsy:ys.length=3:=by
  rw [hyl]
  have:=congrArg List.length aA5
  simpa using this
 have r0:=hgg 0 e0 v0
 have r1:=hgg 1 e1 v1
 have r2:=hgg 2 e2 v2
 rw [gE (by omega),p0,q0,ci] at r0
 rw [gE (by omega),p1,q1,cb] at r1
 rw [gE (by omega),p2,q2,cb] at r2
 simp only [List.drop_zero,List.drop_succ_cons,List.take_succ_cons,List.take_zero] at r0 r1 r2
 obtain ⟨z4,hz4,_,w4⟩:=DataW.trod_int Tryz.underlying3 r0
 simp only [List.cons.injEq,and_true] at hz4
 subst hz4
 obtain ⟨ka,kl,kc,kx,rfl,k1,k2,k3⟩:=bytes_of 62 (by omega) r1
 obtain ⟨va,vl,vc,vx,rfl,v1,v2,v3⟩:=bytes_of 62 (by omega) r2
 exact ⟨⟨z0,z1,z4,ka,kl,kc,kx,va,vl,vc,vx⟩,⟨k1,k2,k3,v1,v2,v3⟩,rfl⟩
theorem act_cells {W:World} {b o:Nat} {a:Addr} {q:AV} (ha:a=⟨b,o,none⟩) (h:W.cells? 0 a 5=some [.int .i64 q.kind,.int .i64 q.at_,.int .i64 q.sp,.slice q.a q.l q.c,.slice q.va q.vl q.vc]):AC W b o q:=by
 subst ha
 obtain ⟨_,_,hc⟩:=World.cells?_some h
 have c0:=hc 0 (by omega)
 have c1:=hc 1 (by omega)
 have c2:=hc 2 (by omega)
 have c3:=hc 3 (by omega)
 have c4:=hc 4 (by omega)
 rw [add_plain] at c0 c1 c2 c3 c4
 exact ⟨by simpa using c0,by simpa using c1,by simpa using c2,by simpa using c3,by simpa using c4⟩
structure AS (W:World) (a0:Option Addr) (len:Nat) (q:Nat→AV):Prop where
 hl:len≤9223372036854775807
 place:0<len→∃ b o,a0=some ⟨b,o,none⟩∧b<W.heap.size∧∀ i,i<len→AC W b (o+i*5) (q i)∧(q i).Ok W
theorem open_as {H:Type} {enc:TypeId×Value→H} {W:World} {a0:Option Addr} {len0 cap0:Nat} {d0:DataW H} {p0:List MemPlace}
  (h0:DataW.Trod enc Tryz.prog W 0 (fun _=>true) true 23 (.slice a0 len0 cap0) d0 p0):∃ q,AS W a0 len0 q:=by
 have ce:Tryz.prog.cellsOf 47=5:=by kernel_rfl
 obtain ⟨fuel,hfu⟩:=h0
 rcases Deep.open_slice Tryz.underlying23 hfu with ⟨hcs,_⟩ | ⟨a,len,cap,m,n,D,Pl,hcs,hbb,hl,hm,hmm,hx,each⟩
 ·simp [Value.cells] at hcs
  obtain ⟨rfl,rfl,rfl⟩:=hcs
  exact ⟨fun _=>⟨0,0,0,none,0,0,[],none,0,0,[]⟩,⟨by omega,fun h=>by omega⟩⟩
 ·simp [Value.cells] at hcs
  obtain ⟨rfl,rfl,rfl⟩:=hcs
  simp only [if_true] at hmm
  unfold maxLen at hm
  have hval:∀ i,i<len0→∃ q:AV,q.Ok W∧W.cells? 0 (a.add (i*5)) 5=some [.int .i64 q.kind,.int .i64 q.at_,.int .i64 q.sp,.slice q.a q.l q.c,.slice q.va q.vl q.vc]:=by
   intro i hi
   obtain ⟨cs',h1,h2⟩:=each i (by omega)
   rw [ce] at h1
   obtain ⟨_,hlen,_⟩:=World.cells?_some h1
   obtain ⟨q,hq,e⟩:=open_act hlen h2
   exact ⟨q,hq,by rw [←e];exact h1⟩
  have inh:Inhabited AV:=⟨⟨0,0,0,none,0,0,[],none,0,0,[]⟩⟩
  obtain ⟨q,hq⟩:=Deep.choose_lt hval
  refine ⟨q,⟨by omega,fun hp=>?_⟩⟩
  obtain ⟨b,o,s⟩:=a
  have hs2:s=none:=by
   obtain ⟨_,_,hc⟩:=World.cells?_some (hq 0 hp).2
   have:=hc 0 (by omega)
   have:=World.cell?_spot (by simpa using this)
   simpa [Addr.add] using this
  subst hs2
  have hbl:b<W.heap.size:=by
   have:=act_cells (add_plain b o (0*5)) (hq 0 hp).2
   exact aAr this.c0
  exact ⟨b,o,rfl,hbl,fun i hi=>⟨act_cells (add_plain b o (i*5)) (hq i hi).2,(hq i hi).1⟩⟩
end Go.Proofs.YthgleplmbnkacaaGreat
