import Derived.Test.YtgckjkocmkedfabGreatZ61
import Derived.Test.YtgckjkocmkedfabGreatZ38
set_option maxRecDepth 100000
set_option maxHeartbeats 16000000
set_option linter.unusedVariables false
namespace Go.Proofs.YtgckjkocmkedfabGreat
open Go.RowKit Go.Shelf
abbrev SE (B:Nat) (w:World):={x:CE // EvC B w x x.1}
instance (B:Nat) (w:World):Inhabited (SE B w):=⟨⟨(⟨0,[],[],false⟩,.slice none 0 0,.slice none 0 0),rfl,⟨none,0,rfl,BK.nil B w⟩,⟨none,0,rfl,BK.nil B w⟩⟩⟩
def encE {B:Nat} {w:World} (x:SE B w):List Value:=f4 x.1
def cfE {B:Nat} {w:World} (x y:SE B w):Int:=cmpB x.1.1.key y.1.1.key
theorem swoE {B:Nat} {w:World}:Sort.SWO (ltOf (cfE (B:=B) (w:=w))) where
 irrefl x:=by simp [ltOf,cfE,aAq]
 trans x y z h1 h2:=decide_eq_true (aA0 (of_decide_eq_true h1) (of_decide_eq_true h2))
 ntrans x y z h1 h2:=by
  have h1:¬ cmpB x.1.1.key y.1.1.key<0:=of_decide_eq_false h1
  have h2:¬ cmpB y.1.1.key z.1.1.key<0:=of_decide_eq_false h2
  refine decide_eq_false (fun h3:cmpB x.1.1.key z.1.1.key<0=>?_)
  rcases aJk x.1.1.key y.1.1.key with q | q | q
  ·omega
  ·rw [aC4 q] at h3;exact h2 h3
  ·have h4:cmpB y.1.1.key x.1.1.key<0:=aJj.1 (by omega)
   exact h2 (aA0 h4 h3)
theorem sortW {α:Type} [Inhabited α] (enc:α→List Value) (k:Nat) (w:World) (blk m:Nat) (dk:Array α) (os:Array Obj) {cur:Array Value} {te:TypeId} (hb:w.heap[blk]?=some (.cells cur te (0,0))) :
  (sortWorldK enc k w blk 0 m dk os).os=w.os∧(sortWorldK enc k w blk 0 m dk os).tape=w.tape∧(sortWorldK enc k w blk 0 m dk os).output=w.output∧w.heap.size≤(sortWorldK enc k w blk 0 m dk os).heap.size ∧
  (∀ i,i<w.heap.size→i≠blk→(sortWorldK enc k w blk 0 m dk os).heap[i]?=w.heap[i]?) ∧
  (sortWorldK enc k w blk 0 m dk os).heap[blk]?=some (.cells (Sort.putCells id 0 (Sort.flatK enc k dk) cur) te (0,0)):=by
 have hlt:=(lO hb)
 refine ⟨rfl,rfl,rfl,?_,fun i hi hne=>?_,?_⟩
 ·simp [sortWorldK,Sort.grow,Sort.putRowK,Sort.putRow,Sort.mapBlock,Sort.ahead]
 ·simp only [sortWorldK,Sort.grow,Sort.putRowK,Sort.putRow,Sort.mapBlock,Sort.ahead]
  rw [Array.getElem?_append_left (by simpa using hi),Array.getElem?_modify,if_neg (fun e=>hne e.symm)]
 ·simp only [sortWorldK,Sort.grow,Sort.putRowK,Sort.putRow,Sort.mapBlock,Sort.ahead]
  rw [Array.getElem?_append_left (by simpa using hlt),Array.getElem?_modify,if_pos rfl,hb]
  rfl
theorem sortFT {α:Type} [Inhabited α] (enc:α→List Value) (k:Nat) (w:World) (blk m:Nat) (dk:Array α) (os:Array Obj) {cur:Array Value} {te B:Nat} (hb:w.heap[blk]?=some (.cells cur te (0,0))) (hB:B≤blk) (hte:te≠5):FT B w (sortWorldK enc k w blk 0 m dk os):=by
 obtain ⟨h1,h2,h3,h4,h5,h6⟩:=sortW enc k w blk m dk os hb
 have hlt:=(lO hb)
 refine ⟨⟨h1,h2,h3,h4,fun i hi=>h5 i (by omega) (by omega)⟩,fun i cs fz e=>?_⟩
 rw [h5 i (lO e) (fun q=>?_),e]
 subst q
 rw [hb] at e
 simp only [oI,cI] at e
 exact hte e.2.1
theorem sortClo {B:Nat} {w W:World} (x y:SE B w) (hf:FT B w W) :
  Calls Tryz.prog 117 #[.agg (encE x).toArray,.agg (encE y).toArray] W fun e w'=>e=.returned (.int .i64 (cfE x y))∧∃ q os',w'=Sort.grow (W.drewN q) os':=by
 obtain ⟨⟨xc,x2,x3⟩,hx⟩:=x
 obtain ⟨⟨yc,y2,y3⟩,hy⟩:=y
 obtain ⟨_,⟨xa,xn,e1,hx1⟩,⟨xb,xm,e2,hx2⟩⟩:=hx
 obtain ⟨_,⟨ya,yn,e3,hy1⟩,⟨yb,ym,e4,hy2⟩⟩:=hy
 dsimp only at e1 e2 e3 e4
 subst e1 e2 e3 e4
 show Calls Tryz.prog 117 #[.agg #[.int .i64 xc.sp,.slice xa xc.key.length xn,.slice xb xc.val.length xm,.bool xc.gone],.agg #[.int .i64 yc.sp,.slice ya yc.key.length yn,.slice yb yc.val.length ym,.bool yc.gone]] W fun e w'=>e=.returned (.int .i64 (cmpB xc.key yc.key))∧_
 have hbx:∀ o1 o2:Obj,Below W.heap.size W ((W.alloc o1).alloc o2):=fun o1 o2=>(aAx [o1,o2] W).1
 have hc:∀ o1 o2:Obj,Calls Tryz.prog 118 #[.slice xa xc.key.length xn,.slice ya yc.key.length yn] ((W.alloc o1).alloc o2) fun e w'=>e=.returned (.int .i64 (cmpB xc.key yc.key))∧w'=(W.alloc o1).alloc o2:=fun o1 o2=>by
  have hB:B≤W.heap.size∨W.heap.size<B:=by omega
  have f2:∀ {a n c xs},BK B w a n c xs→BS ((W.alloc o1).alloc o2) a n c xs:=fun {a n c xs} h=>by
   have h1:=h.ft hf
   refine ⟨h1.1.hlen,h1.1.hcap,h1.1.hroom,h1.1.hmax,h1.1.hbyte,h1.1.hnil,fun z hz i hi=>?_⟩
   have h2:=h1.1.hcell z hz i hi
   rw [←h2]
   refine World.cell?_of_block ?_
   have e:(z.add i).block=z.block:=by unfold Addr.add;split<;>rfl
   rw [e]
   refine (hbx o1 o2).block _ ?_
   by_cases q:z.block<W.heap.size
   ·exact q
   ·exfalso
    unfold World.cell? at h2
    rw [e,show W.heap[z.block]?=none from Array.getElem?_eq_none (by omega)] at h2
    cases h2
  exact aA3 _ _ _ _ _ _ _ _ _ (f2 hx1) (f2 hy1)
 have HC:=hide hc
 clear hc hbx hx1 hx2 hy1 hy2
 generalize cmpB xc.key yc.key=r at *
 generalize xc.key.length=n1 at *
 generalize yc.key.length=n2 at *
 go_enter Tryz.func117,Tryz.ntmps117
 go_wp2_with fail
 refine (HC.out _ _).mono ?_
 rintro e w' ⟨rfl,rfl⟩
 go_wp2
 go_ret
 exact ⟨rfl,0,_,by rw [Sort.alloc_eq_grow,Sort.alloc_eq_grow,Sort.grow_grow];rfl⟩
end Go.Proofs.YtgckjkocmkedfabGreat
set_option linter.unusedVariables false
namespace Go.Proofs.YtgckjkocmkedfabGreat
open Go.RowKit Go.Shelf
theorem flat_rC {B:Nat} {w:World} (d:List (SE B w)):(Sort.flatK encE 4 d.toArray).toList=rC f4 (d.map (·.1)):=by
 have hl:(Sort.flatK encE 4 d.toArray).size=d.length*4:=by rw [Sort.size_flatK];simp
 apply List.ext_getElem?
 intro t
 by_cases ht:t<d.length*4
 ·have hi:t / 4<d.length:=by omega
  have hj:t % 4<4:=Nat.mod_lt _ (by omega)
  have e:=rC_get aBc (kv:=d.map (·.1)) (i:=t / 4) (x:=d[t / 4].1) (by rw [List.getElem?_map,gE hi];rfl) (t % 4) hj
  rw [show t / 4*4+t % 4=t by omega] at e
  rw [e,Array.getElem?_toList,Array.getElem?_eq_getElem (by omega)]
  have g:=Sort.get_flatK encE 4 d.toArray t (by simpa using ht)
  rw [getElem!_pos _ t (by omega)] at g
  rw [g]
  have e2:(d.toArray[t / 4]!)=d[t / 4]:=by rw [getElem!_pos _ _ (by simpa using hi)];simp
  rw [e2]
  show some ((f4 d[t / 4].1)[t % 4]!)=(f4 d[t / 4].1)[t % 4]?
  rw [gE (by rw [aBc];exact hj),getElem!_pos]
 ·rw [List.getElem?_eq_none (by rw [Array.length_toList];omega),List.getElem?_eq_none (by rw [rC_len aBc,List.length_map];omega)]
theorem put_take {X cur:Array Value} (h:X.size≤cur.size):(Sort.putCells id 0 X cur).size=cur.size∧(Sort.putCells id 0 X cur).toList.take X.size=X.toList:=by
 have hs:(Sort.putCells id 0 X cur).size=cur.size:=by simp [Sort.putCells]
 refine ⟨hs,?_⟩
 apply List.ext_getElem?
 intro t
 rw [List.getElem?_take]
 by_cases ht:t<X.size
 ·rw [if_pos ht,Array.getElem?_toList,Array.getElem?_toList,Array.getElem?_eq_getElem (by omega),Array.getElem?_eq_getElem ht]
  simp only [Sort.putCells,Array.getElem_mapIdx]
  rw [if_pos ⟨Nat.zero_le _,by omega⟩]
  rw [Nat.sub_zero,getElem!_pos _ t ht]
  rfl
 ·rw [if_neg ht,List.getElem?_eq_none (by rw [Array.length_toList];omega)]
theorem lift_se {B:Nat} {w:World}:∀ (kv:List CE),(∀ x∈kv,EvC B w x x.1)→∃ d:List (SE B w),d.map (·.1)=kv
 | [],_=>⟨[],rfl⟩
 | x::kv,h=>by
  obtain ⟨d,hd⟩:=lift_se kv (fun y hy=>h y (List.mem_cons_of_mem _ hy))
  exact ⟨⟨x,h x List.mem_cons_self⟩::d,by rw [List.map_cons,hd]⟩
theorem sortRow_ok {B B1 g cap:Nat} {w:World} {F:List Ch} (h:CRW B B1 w (.slice (some ⟨g,0,none⟩) F.length cap) F) (hB:B≤B1) (hl:F.length≤100000) (hd:F.Pairwise fun x y=>x.key≠y.key) :
  Calls Tryz.prog 116 #[.slice (some ⟨g,0,none⟩) F.length cap,.func (.func 117) #[] #[]] w fun e w'=>e=.returned (.tuple #[])∧∃ F',F'.Perm F∧SrC F'∧CRW B B1 w' (.slice (some ⟨g,0,none⟩) F.length cap) F'∧FT B w w'∧Below B1 w w'∧∀ i,i<w.heap.size→i≠g→w'.heap[i]?=w.heap[i]?:=by
 obtain ⟨kv,hkl,⟨hlen,hown⟩,hall⟩:=h
 rcases hown with ⟨e,_⟩ | ⟨g',cap',cur,e,hBg,hg,hnc,hcm,hcs,htake⟩
 ·cases e
 simp only [Value.slice.injEq,oI,Addr.mk.injEq] at e
 obtain ⟨⟨rfl,_⟩,_,rfl⟩:=e
 have hkv:∀ x∈kv,EvC B w x x.1:=by
  intro x hx
  obtain ⟨i,hi⟩:=List.getElem?_of_mem hx
  obtain ⟨c,hc⟩:∃ c,F[i]?=some c:=⟨_,gE (by have:=(lL hi);omega)⟩
  have:=hall i c x hc hi
  rw [this.1]
  exact this
 have hF:kv.map (·.1)=F:=by
  apply List.ext_getElem?
  intro i
  rw [List.getElem?_map]
  by_cases q:i<F.length
  ·obtain ⟨x,hx⟩:∃ x,kv[i]?=some x:=⟨_,gE (by omega)⟩
   obtain ⟨c,hc⟩:∃ c,F[i]?=some c:=⟨_,gE q⟩
   rw [hx,hc,Option.map_some,(hall i c x hc hx).1]
  ·rw [List.getElem?_eq_none (by omega),List.getElem?_eq_none (by omega)];rfl
 obtain ⟨d,hdk⟩:=lift_se kv hkv
 have hds:d.length=F.length:=by rw [←hkl,←hdk,List.length_map]
 have hflat:(Sort.flatK encE 4 d.toArray).toList=rC f4 kv:=by rw [flat_rC,hdk]
 have hH:Sort.HoldsK encE 4 w g 0 d.toArray:=by
  intro j hj
  rw [Sort.size_flatK] at hj
  simp only [List.size_toArray] at hj
  rw [Nat.zero_add]
  refine ⟨?_,aAj hg⟩
  rw [aAc hg,getElem!_pos _ j (by rw [Sort.size_flatK];simpa using hj)]
  have e1:(cur.toList.take (F.length*4))[j]?=(Sort.flatK encE 4 d.toArray).toList[j]?:=by rw [htake,hflat]
  rw [List.getElem?_take,if_pos (by omega),Array.getElem?_toList,Array.getElem?_toList] at e1
  rw [e1]
  exact Array.getElem?_eq_getElem (by rw [Sort.size_flatK];simpa using hj)
 have eg:∀ args w,(callFunc 117 args).run Tryz.prog w=.ok (.enter 117 args) w:=enters_of Tryz.func117 (by kernel_rfl) rfl
 have hcon:=AnyQ.slices_SortFunc sortC 4 Tryz.isAgg127 Tryz.sizeOf127 (encE (B:=B) (w:=w)) (fun x=>aBc x.1) (fun x v hv=>x.2.one4 v hv) cfE swoE 117 #[] g 0 cap d.toArray w eg (fun m os dk hs x y=>sortClo x y (sortFT _ 4 w g m dk os hg (by omega) (by decide))) hH (lO hg) (by simp;omega)
 have hsz:d.toArray.size=F.length:=by simpa using hds
 rw [hsz] at hcon
 change Calls Tryz.prog 116 _ _ _ at hcon
 refine hcon.mono ?_
 rintro e w' ⟨rfl,d',m,os,hp,hs,rfl⟩
 refine ⟨rfl,?_⟩
 have hd's:d'.size=F.length:=by rw [hp.1,hsz]
 have hperm:d'.toList.Perm d:=by
  have:=hp.2.2
  rw [Array.extract_eq_self_of_le (by omega),Array.extract_eq_self_of_le (by omega)] at this
  simpa using this
 obtain ⟨k1,k2,k3,k4,k5,k6⟩:=sortW (encE (B:=B) (w:=w)) 4 w g m d' os hg
 have hft:=sortFT (encE (B:=B) (w:=w)) 4 w g m d' os hg (show B≤g by omega) (by decide)
 have hXs:(Sort.flatK encE 4 d').size=F.length*4:=by rw [Sort.size_flatK,hd's]
 obtain ⟨p1,p2⟩:=put_take (X:=Sort.flatK encE 4 d') (cur:=cur) (by rw [hXs,hcs];exact Nat.mul_le_mul_right _ hnc)
 have hflat':(Sort.flatK encE 4 d').toList=rC f4 (d'.toList.map (·.1)):=flat_rC d'.toList
 have hpF:(d'.toList.map (·.1.1)).Perm F:=by
  have:=hperm.map (fun x:SE B w=>x.1.1)
  rw [show d.map (fun x:SE B w=>x.1.1)=F by rw [←hF,←hdk,List.map_map];rfl] at this
  exact this
 have hml:(d'.toList.map (·.1.1)).length=F.length:=hpF.length_eq
 refine ⟨d'.toList.map (·.1.1),hpF,?_,⟨d'.toList.map (·.1),by simp,⟨?_,Or.inr ⟨g,cap,_,by rw [hml],hBg,k6,by rw [hml];exact hnc,hcm,by rw [p1];exact hcs,?_⟩⟩,fun i c x h1 h2=>?_⟩,hft,⟨k1,k2,k3,k4,fun i hi=>k5 i (by have:=(lO hg);omega) (by omega)⟩,k5⟩
 ·have hdist:(d'.toList.map (·.1.1)).Pairwise fun x y=>x.key≠y.key:=(hpF.pairwise_iff (fun {a b} h=>Ne.symm h)).2 hd
  rw [SrC,List.pairwise_iff_getElem]
  intro i j hi hj hij
  have hne:=List.pairwise_iff_getElem.1 hdist i j hi hj hij
  simp only [List.length_map,Array.length_toList] at hi hj
  have:=hs i j (Nat.zero_le _) hij (by omega)
  rw [getElem!_pos _ j (by omega),getElem!_pos _ i (by omega)] at this
  have:=of_decide_eq_false this
  simp only [List.getElem_map,Array.getElem_toList] at hne ⊢
  have this:¬ cmpB d'[j].1.1.key d'[i].1.1.key<0:=this
  rcases aJk d'[i].1.1.key d'[j].1.1.key with q | q | q
  ·omega
  ·exact absurd (aC4 q) hne
  ·exact absurd (aJj.1 (show 0<cmpB d'[i].1.1.key d'[j].1.1.key by omega)) this
 ·rw [rC_len aBc];simp
 ·rw [hml,←hXs,p2,hflat']
 ·rw [List.getElem?_map] at h1 h2
  obtain ⟨z,hz,rfl⟩:=Option.map_eq_some_iff.1 h1
  rw [hz] at h2
  cases h2
  exact z.2.ft hft
end Go.Proofs.YtgckjkocmkedfabGreat
