import Derived.Test.YtmmcebojbbdfmaaGreatY26
import Derived.Laws.Rows
import Derived.Test.YtmmcebojbbdfmaaGreatY2
set_option maxRecDepth 100000
set_option maxHeartbeats 16000000
set_option linter.unusedVariables false
namespace Go.Proofs.YtmmcebojbbdfmaaGreat
open Go.RowKit _root_.Go.Proofs.Tryz
variable {B c cap g i k len n p te:Nat} {a:Option Addr} {t:TypeId} {u v:Value} {w w':World}
section
variable {α:Type} {f:α->List Value} {k:Nat}
theorem fl_len (hk:∀ x,(f x).length=k) (l:List α):(l.flatMap f).length=l.length*k:=by
 induction l with
 | nil=>simp
 | cons x l ih=>rw [List.flatMap_cons,lA,ih,hk,List.length_cons,Nat.add_mul];omega
theorem fl_get (hk:∀ x,(f x).length=k):∀ {l:List α} {i:Nat} {x:α},l[i]?=some x->∀ j,j<k->(l.flatMap f)[i*k+j]?=(f x)[j]?
 | [],i,x,h,_,_=>by simp at h
 | y::l,0,x,h,j,hj=>by
  simp only [List.getElem?_cons_zero,oI] at h
  subst h
  rw [List.flatMap_cons,List.getElem?_append_left (by rw [hk];omega),Nat.zero_mul,Nat.zero_add]
 | y::l,i+1,x,h,j,hj=>by
  rw [List.flatMap_cons,List.getElem?_append_right (by rw [hk,Nat.add_mul];omega),hk,show (i+1)*k+j-k=i*k+j by rw [Nat.add_mul];omega]
  exact fl_get hk (by simpa using h) j hj
theorem fl_inv (hk:∀ x,(f x).length=k):∀ {l:List α} {t:Nat} {u:Value},(l.flatMap f)[t]?=some u->∃ (i j:Nat) (x:α),t=i*k+j/\j<k/\l[i]?=some x/\(f x)[j]?=some u
 | [],t,u,h=>by simp at h
 | y::l,t,u,h=>by
  rw [List.flatMap_cons] at h
  by_cases c:t<k
  ·rw [List.getElem?_append_left (by rw [hk];exact c)] at h
   exact ⟨0,t,y,by omega,c,rfl,h⟩
  ·rw [List.getElem?_append_right (by rw [hk];omega),hk] at h
   obtain ⟨i,j,x,h1,h2,h3,h4⟩:=fl_inv hk h
   exact ⟨i+1,j,x,by rw [Nat.add_mul];omega,h2,by simpa using h3,h4⟩
theorem aAo (hk:∀ x,(f x).length=k) {B te n:Nat} {w:World} {v:Value} {l:List α} (h:w.ownsRow B te k v n (l.flatMap f)) (hl:l.length=n):∃ a c,v=.slice a n c/\SV f k w a n c l:=by
 rcases h.2 with ⟨e,h0⟩ | ⟨g,cap,cur,e,h5,h6,h7,h8,h9,h10⟩
 ·subst h0;exact ⟨none,0,e,hl,by omega,by omega,fun _=>rfl,fun q=>by omega⟩
 ·refine ⟨_,_,e,hl,h7,by unfold maxLen at h8;omega,(fun q=>by cases q),fun h0=>⟨g,0,rfl,aAb h6,fun i x hx t ht=>?_⟩⟩;have hg:=fl_get hk hx t ht;obtain ⟨u,hu⟩:∃ u,(f x)[t]?=some u:=⟨_,gE (by rw [hk];exact ht)⟩;rw [hu] at hg ⊢;rw [Nat.zero_add,aAa h6,<-Array.getElem?_toList];rw [<-h10,List.getElem?_take] at hg
  split at hg
  ·exact hg
  ·cases hg
theorem aA8 (hk:∀ x,(f x).length=k) (hk1:0<k) (hone:∀ x,∀ u∈f x,u.oneCell'=true) {ts te bt:Nat} {z:Value} (hu:prog.underlying ts=some (.slice te)) (hinfo:(prog.info? te).map (fun i=>(i.zero,i.size,i.bytes))=some (some z,k,bt)) (hzc:z.cells.size=k) (hbt:bt<=64)
  {ops:Array Oper} {rest:List Oper} {o:Oper} {a:Act} {Q:Exit->Act->World->Prop} {wr:World} (hgd:o.guard=none) (s x:Operand)
  (ho:o.op=.call { callee:=.builtin .append,args:=#[s,x],argTypes:=#[ts,ts] })
  {B1 n c:Nat} {v:Value} {ad:Option Addr} {F G:List α} (hs:a.eval s=v) (hx:a.eval x=.slice ad n c) (hF:wr.ownsRow B1 te k v F.length (F.flatMap f)) (hG:SV f k wr ad n c G) (hB1:B1<=wr.heap.size) (hsize:F.length+n<=100000000)
  (h:∀ v' w',w'.ownsRow B1 te k v' (F++G).length ((F++G).flatMap f)->Below B1 wr w'->(∀ i,i<wr.heap.size->v.ownBlock≠some i->w'.heap[i]?=wr.heap[i]?)->wpList prog ops Q rest (a.put o.dst v') w'):wpList prog ops Q (o::rest) a wr:=by
 obtain ⟨i0,hi,hz0,hz1,hz2⟩:=info_parts hinfo
 cases ad with
 | none =>
  have hc0:=hG.hn rfl;have hcc:=hG.hc;have e0:n=0:=by omega
  subst e0 hc0;have e:G=[]:=List.eq_nil_of_length_eq_zero hG.hl;subst e;refine wpList_append_own_none hgd s x _ ho B1 te i0 k hu hi v F.length (F.flatMap f) hs hF hx (h v wr ?_ (Below.refl _ _) (fun _ _ _=>rfl));simpa using hF
 | some ad =>
  have hbt2:(F.length+n)*bt<=140737488355328:=nT (Nat.mul_le_mul hsize hbt) (by omega);refine wpList_append_own_at _ hgd s x _ ho B1 te i0 z k bt hu hi hz0 hz1 hz2 hzc hk1 v F.length (F.flatMap f) hs hF ad n c (G.flatMap f) hx (by rw [fl_len hk,hG.hl]) ?_ (fun u hu=>?_) (by unfold maxLen;omega) hbt2 hB1 ?_
  ·intro j u hj;obtain ⟨i,t,y,e1,e2,e3,e4⟩:=fl_inv hk hj;obtain ⟨b,o,h1,_,h3⟩:=hG.pl (by rw [<-hG.hl];have:=(lL e3);omega);simp only [oI] at h1;subst h1;rw [add_plain,e1,<-Nat.add_assoc,h3 i y e3 t e2];exact e4
  ·obtain ⟨y,_,hu⟩:=List.mem_flatMap.1 hu;exact hone y u hu
  ·intro v' w' h2 h3 _ h5;refine h v' w' ?_ ((Below.refl B1 _).grown h3 hB1 (fun j hj=>(hF.lt j hj).1)) (fun i hi hn=>h3.block i hi (fun e=>hn e.symm));rw [lA,hG.hl,List.flatMap_append];exact h2
end
theorem aDa (x:Val):(fV x).length=3:=rfl
theorem aEa (x:Col):(fC x).length=3:=rfl
theorem aEw (x:Idx):(fX x).length=2:=rfl
theorem fV_one (x:Val):∀ u∈fV x,u.oneCell'=true:=by intro u hu;simp only [fV,List.mem_cons,List.not_mem_nil,or_false] at hu;rcases hu with rfl | rfl | rfl<;>rfl
theorem fC_one (x:Col):∀ u∈fC x,u.oneCell'=true:=by intro u hu;simp only [fC,List.mem_cons,List.not_mem_nil,or_false] at hu;rcases hu with rfl | rfl | rfl<;>rfl
theorem fX_one (x:Idx):∀ u∈fX x,u.oneCell'=true:=by intro u hu;simp only [fX,List.mem_cons,List.not_mem_nil,or_false] at hu;rcases hu with rfl | rfl<;>rfl
theorem info_val:(prog.info? 73).map (fun i=>(i.zero,i.size,i.bytes))=some (some (.agg #[.int .i64 0,.int .i64 0,.string ⟨#[]⟩]),3,32):=by kernel_rfl
theorem info_col:(prog.info? 109).map (fun i=>(i.zero,i.size,i.bytes))=some (some (.agg #[.string ⟨#[]⟩,.int .i64 0,.int .i64 0]),3,32):=by kernel_rfl
theorem info_ix:(prog.info? 111).map (fun i=>(i.zero,i.size,i.bytes))=some (some (.agg #[.int .i64 0,.bool false]),2,16):=by kernel_rfl
theorem aBu (w:World) (B te k:Nat):w.ownsRow B te k (.slice none 0 0) 0 ([]:List Value):=⟨by simp,Or.inl ⟨rfl,rfl⟩⟩
theorem set3 {a0 a1 a2 b0 b1 b2:Value} (h:w.heap[g]?=some (.cells #[a0,a1,a2] t (0,0))):(((w.setCell ⟨g,0,none⟩ b0).setCell ⟨g,1,none⟩ b1).setCell ⟨g,2,none⟩ b2).heap[g]?=some (.cells #[b0,b1,b2] t (0,0)):=(heap_setCell_same _ _ _ _ _ _ (heap_setCell_same _ _ _ _ _ _ (heap_setCell_same _ _ _ _ _ _ h)))
theorem aAg {cs:Array Value} (h:w.heap[p]?=some (.cells cs t (0,0))):w.frozen? ⟨p,i,none⟩=false:=frozen_of_row w p i cs t h
theorem SV.blk {α:Type} {f:α->List Value} {l:List α} (h:SV f k w a len cap l) (hs:w.heap.size<=w'.heap.size) (hb:∀ b o,a=some ⟨b,o,none⟩->w'.heap[b]?=w.heap[b]?):SV f k w' a len cap l:=by
 refine ⟨h.hl,h.hc,h.hm,h.hn,fun h0=>?_⟩;obtain ⟨b,o,h1,h2,h3⟩:=h.pl h0;exact ⟨b,o,h1,Nat.lt_of_lt_of_le h2 hs,fun i x hx t ht=>(World.cell?_of_block (hb b o h1)).trans (h3 i x hx t ht)⟩
theorem aF0:(prog.info? 71).map (·.size)=some 3:=by kernel_rfl
def Sch.same (s t:Sch):Bool:=(s.nm.toList == t.nm.toList) && decide (s.cs=t.cs) && decide (s.xs=t.xs)
theorem aFl {α:Type} {f:α->List Value} {k:Nat} (hk:∀ x,(f x).length=k) {j:Nat} {u:Value} (hj:j<k):∀ {l:List α} {i:Nat} {x x':α},l[i]?=some x->f x'=(f x).set j u->(l.flatMap f).set (i*k+j) u=(l.set i x').flatMap f
 | [],i,x,x',h,_=>by simp at h
 | y::l,0,x,x',h,e=>by
  simp only [List.getElem?_cons_zero,oI] at h
  subst h
  rw [List.set_cons_zero,List.flatMap_cons,List.flatMap_cons,Nat.zero_mul,Nat.zero_add,List.set_append_left _ _ (by rw [hk];exact hj),e]
 | y::l,i+1,x,x',h,e=>by
  rw [List.set_cons_succ,List.flatMap_cons,List.flatMap_cons,List.set_append_right _ _ (by rw [hk,Nat.add_mul];omega),hk,show (i+1)*k+j-k=i*k+j by rw [Nat.add_mul];omega,aFl hk hj (by simpa using h) e]
theorem aEp {xs:List Value} (h:w.ownsRow B te k (.slice (some ⟨g,0,none⟩) n c) n xs) (hi:i<n*k):(w.setCell ⟨g,i,none⟩ u).ownsRow B te k (.slice (some ⟨g,0,none⟩) n c) n (xs.set i u):=by
 refine ⟨by rw [List.length_set];exact h.1,?_⟩;rcases h.2 with ⟨e,_⟩ | ⟨g',cap',cur,e,h5,h6,h7,h8,h9,h10⟩
 ·cases e
 ·simp only [Value.slice.injEq,oI,Addr.mk.injEq] at e;obtain ⟨⟨rfl,_,_⟩,_,rfl⟩:=e;refine Or.inr ⟨g,c,cur.setIfInBounds i u,rfl,h5,heap_setCell_same _ _ _ _ _ _ h6,h7,h8,by simpa using h9,?_⟩;rw [Array.toList_setIfInBounds,List.take_set,h10]
theorem aB9 {B2:Nat} {xs:List Value} (h:w.ownsRow B te k v n xs) (hb:B2<=B):w.ownsRow B2 te k v n xs:=by
 refine ⟨h.1,?_⟩;rcases h.2 with e | ⟨g,cap,cur,e,h5,h6⟩
 ·exact Or.inl e
 ·exact Or.inr ⟨g,cap,cur,e,nT hb h5,h6⟩
end Go.Proofs.YtmmcebojbbdfmaaGreat
