import Derived.Test.YtdpdjpkmndnaaaaGreatY51
import Derived.Laws.Rows
import Derived.Test.YtdpdjpkmndnaaaaGreatY2
set_option maxRecDepth 100000
set_option maxHeartbeats 16000000
set_option linter.unusedVariables false
namespace Go.Proofs.YtdpdjpkmndnaaaaGreat
open Go.RowKit Tryz
variable {B c cap cc cl g i k len n p te xc xl:Nat} {a ca xa:Option Addr} {b0 b1 b2 v:Value} {s:Sch} {t:TypeId} {w w':World}
section
variable {α:Type} {f:α->List Value} {k:Nat}
theorem fl_len (hk:∀ x,(f x).length=k) (l:List α):(l.flatMap f).length=l.length*k:=by
 induction l with
 | nil=>simp
 | cons x l ih=>rw [List.flatMap_cons,lA,ih,hk,List.length_cons,Nat.add_mul];omega
theorem fl_get (hk:∀ x,(f x).length=k):∀ {l:List α} {i:Nat} {x:α},l[i]?=some x->∀ j,j<k->(l.flatMap f)[i*k+j]?=(f x)[j]?
 | [],i,x,h,_,_=>by simp at h
 | y::l,0,x,h,j,hj=>by
  simp only [List.getElem?_cons_zero,oI] at h
  subst h
  rw [List.flatMap_cons,List.getElem?_append_left (by rw [hk];omega),Nat.zero_mul,Nat.zero_add]
 | y::l,i+1,x,h,j,hj=>by
  rw [List.flatMap_cons,List.getElem?_append_right (by rw [hk,Nat.add_mul];omega),hk,show (i+1)*k+j-k=i*k+j by rw [Nat.add_mul];omega]
  exact fl_get hk (by simpa using h) j hj
theorem fl_inv (hk:∀ x,(f x).length=k):∀ {l:List α} {t:Nat} {u:Value},(l.flatMap f)[t]?=some u->∃ (i j:Nat) (x:α),t=i*k+j/\j<k/\l[i]?=some x/\(f x)[j]?=some u
 | [],t,u,h=>by simp at h
 | y::l,t,u,h=>by
  rw [List.flatMap_cons] at h
  by_cases c:t<k
  ·rw [List.getElem?_append_left (by rw [hk];exact c)] at h
   exact ⟨0,t,y,by omega,c,rfl,h⟩
  ·rw [List.getElem?_append_right (by rw [hk];omega),hk] at h
   obtain ⟨i,j,x,h1,h2,h3,h4⟩:=fl_inv hk h
   exact ⟨i+1,j,x,by rw [Nat.add_mul];omega,h2,by simpa using h3,h4⟩
theorem aBm (hk:∀ x,(f x).length=k) {B te n:Nat} {w:World} {v:Value} {l:List α} (h:w.ownsRow B te k v n (l.flatMap f)) (hl:l.length=n):∃ a c,v=.slice a n c/\SVK f k w a n c l:=by
 rcases h.2 with ⟨e,h0⟩ | ⟨g,cap,cur,e,h5,h6,h7,h8,h9,h10⟩
 ·subst h0;exact ⟨none,0,e,hl,by omega,by omega,fun _=>rfl,fun q=>by omega⟩
 ·refine ⟨_,_,e,hl,h7,by unfold maxLen at h8;omega,(fun q=>by cases q),fun h0=>⟨g,0,rfl,aAe h6,fun i x hx t ht=>?_⟩⟩;have hg:=fl_get hk hx t ht;obtain ⟨u,hu⟩:∃ u,(f x)[t]?=some u:=⟨_,gE (by rw [hk];exact ht)⟩;rw [hu] at hg ⊢;rw [Nat.zero_add,aAa h6,<-Array.getElem?_toList];rw [<-h10,List.getElem?_take] at hg
  split at hg
  ·exact hg
  ·cases hg
theorem aBp (hk:∀ x,(f x).length=k) (hk1:0<k) (hone:∀ x,∀ u∈f x,u.oneCell'=true) {ts te bt:Nat} {z:Value} (hu:prog.underlying ts=some (.slice te)) (hinfo:(prog.info? te).map (fun i=>(i.zero,i.size,i.bytes))=some (some z,k,bt)) (hzc:z.cells.size=k) (hbt:bt<=64)
  {ops:Array Oper} {rest:List Oper} {o:Oper} {a:Act} {Q:Exit->Act->World->Prop} {wr:World} (hgd:o.guard=none) (s x:Operand)
  (ho:o.op=.call { callee:=.builtin .append,args:=#[s,x],argTypes:=#[ts,ts] })
  {B1 n c:Nat} {v:Value} {ad:Option Addr} {F G:List α} (hs:a.eval s=v) (hx:a.eval x=.slice ad n c) (hF:wr.ownsRow B1 te k v F.length (F.flatMap f)) (hG:SVK f k wr ad n c G) (hB1:B1<=wr.heap.size) (hsize:F.length+n<=100000000)
  (h:∀ v' w',w'.ownsRow B1 te k v' (F++G).length ((F++G).flatMap f)->Below B1 wr w'->(∀ i,i<wr.heap.size->v.ownBlock≠some i->w'.heap[i]?=wr.heap[i]?)->wpList prog ops Q rest (a.put o.dst v') w'):wpList prog ops Q (o::rest) a wr:=by
 obtain ⟨i0,hi,hz0,hz1,hz2⟩:=info_parts hinfo
 cases ad with
 | none =>
  have hc0:=hG.hn rfl;have hcc:=hG.hc;have e0:n=0:=by omega
  subst e0 hc0;have e:G=[]:=List.eq_nil_of_length_eq_zero hG.hl;subst e;refine wpList_append_own_none hgd s x _ ho B1 te i0 k hu hi v F.length (F.flatMap f) hs hF hx (h v wr ?_ (Below.refl _ _) (fun _ _ _=>rfl));simpa using hF
 | some ad =>
  have hbt2:(F.length+n)*bt<=140737488355328:=nT (Nat.mul_le_mul hsize hbt) (by omega);refine wpList_append_own_at _ hgd s x _ ho B1 te i0 z k bt hu hi hz0 hz1 hz2 hzc hk1 v F.length (F.flatMap f) hs hF ad n c (G.flatMap f) hx (by rw [fl_len hk,hG.hl]) ?_ (fun u hu=>?_) (by unfold maxLen;omega) hbt2 hB1 ?_
  ·intro j u hj;obtain ⟨i,t,y,e1,e2,e3,e4⟩:=fl_inv hk hj;obtain ⟨b,o,h1,_,h3⟩:=hG.pl (by rw [<-hG.hl];have:=(lL e3);omega);simp only [oI] at h1;subst h1;rw [add_plain,e1,<-Nat.add_assoc,h3 i y e3 t e2];exact e4
  ·obtain ⟨y,_,hu⟩:=List.mem_flatMap.1 hu;exact hone y u hu
  ·intro v' w' h2 h3 _ h5;refine h v' w' ?_ ((Below.refl B1 _).grown h3 hB1 (fun j hj=>(hF.lt j hj).1)) (fun i hi hn=>h3.block i hi (fun e=>hn e.symm));rw [lA,hG.hl,List.flatMap_append];exact h2
end
theorem aGt (x:Val):(fV x).length=3:=rfl
theorem aEs (x:Col):(fC x).length=3:=rfl
theorem aFz (x:Idx):(fX x).length=2:=rfl
theorem fV_one (x:Val):∀ u∈fV x,u.oneCell'=true:=by intro u hu;simp only [fV,List.mem_cons,List.not_mem_nil,or_false] at hu;rcases hu with rfl | rfl | rfl<;>rfl
theorem fC_one (x:Col):∀ u∈fC x,u.oneCell'=true:=by intro u hu;simp only [fC,List.mem_cons,List.not_mem_nil,or_false] at hu;rcases hu with rfl | rfl | rfl<;>rfl
theorem fX_one (x:Idx):∀ u∈fX x,u.oneCell'=true:=by intro u hu;simp only [fX,List.mem_cons,List.not_mem_nil,or_false] at hu;rcases hu with rfl | rfl<;>rfl
theorem info_val:(prog.info? 36).map (fun i=>(i.zero,i.size,i.bytes))=some (some (.agg #[.int .i64 0,.int .i64 0,.string ⟨#[]⟩]),3,32):=by kernel_rfl
theorem info_col:(prog.info? 93).map (fun i=>(i.zero,i.size,i.bytes))=some (some (.agg #[.string ⟨#[]⟩,.int .i64 0,.int .i64 0]),3,32):=by kernel_rfl
theorem info_ix:(prog.info? 61).map (fun i=>(i.zero,i.size,i.bytes))=some (some (.agg #[.int .i64 0,.bool false]),2,16):=by kernel_rfl
theorem aG6 (w:World) (B te k:Nat):w.ownsRow B te k (.slice none 0 0) 0 ([]:List Value):=⟨by simp,Or.inl ⟨rfl,rfl⟩⟩
theorem set3K {a0 a1 a2:Value} (h:w.heap[g]?=some (.cells #[a0,a1,a2] t (0,0))):(((w.setCell ⟨g,0,none⟩ b0).setCell ⟨g,1,none⟩ b1).setCell ⟨g,2,none⟩ b2).heap[g]?=some (.cells #[b0,b1,b2] t (0,0)):=(heap_setCell_same _ _ _ _ _ _ (heap_setCell_same _ _ _ _ _ _ (heap_setCell_same _ _ _ _ _ _ h)))
theorem aAi {cs:Array Value} (h:w.heap[p]?=some (.cells cs t (0,0))):w.frozen? ⟨p,i,none⟩=false:=frozen_of_row w p i cs t h
theorem SVK.blk {α:Type} {f:α->List Value} {l:List α} (h:SVK f k w a len cap l) (hs:w.heap.size<=w'.heap.size) (hb:∀ b o,a=some ⟨b,o,none⟩->w'.heap[b]?=w.heap[b]?):SVK f k w' a len cap l:=by
 refine ⟨h.hl,h.hc,h.hm,h.hn,fun h0=>?_⟩;obtain ⟨b,o,h1,h2,h3⟩:=h.pl h0;exact ⟨b,o,h1,Nat.lt_of_lt_of_le h2 hs,fun i x hx t ht=>(World.cell?_of_block (hb b o h1)).trans (h3 i x hx t ht)⟩
theorem own_ge {xs:List Value} (h:w.ownsRow B te k v n xs) {a:Option Addr} {c:Nat} (e:v=.slice a n c):∀ b o,a=some ⟨b,o,none⟩->B<=b:=by
 intro b o e2;rcases h.2 with ⟨e1,h0⟩ | ⟨g,cap,cur,e1,h5,_⟩
 ·rw [e,e2] at e1;cases e1
 ·rw [e,e2] at e1;simp only [Value.slice.injEq,oI,Addr.mk.injEq] at e1;omega
theorem aKc:(prog.info? 33).map (·.size)=some 3:=by kernel_rfl
theorem aCp {α:Type} {f:α->List Value} {k:Nat} (hk:∀ x,(f x).length=k) {j:Nat} {u:Value} (hj:j<k):∀ {l:List α} {i:Nat} {x x':α},l[i]?=some x->f x'=(f x).set j u->(l.flatMap f).set (i*k+j) u=(l.set i x').flatMap f
 | [],i,x,x',h,_=>by simp at h
 | y::l,0,x,x',h,e=>by
  simp only [List.getElem?_cons_zero,oI] at h
  subst h
  rw [List.set_cons_zero,List.flatMap_cons,List.flatMap_cons,Nat.zero_mul,Nat.zero_add,List.set_append_left _ _ (by rw [hk];exact hj),e]
 | y::l,i+1,x,x',h,e=>by
  rw [List.set_cons_succ,List.flatMap_cons,List.flatMap_cons,List.set_append_right _ _ (by rw [hk,Nat.add_mul];omega),hk,show (i+1)*k+j-k=i*k+j by rw [Nat.add_mul];omega,aCp hk hj (by simpa using h) e]
theorem aCg {u:Value} {xs:List Value} (h:w.ownsRow B te k (.slice (some ⟨g,0,none⟩) n c) n xs) (hi:i<n*k):(w.setCell ⟨g,i,none⟩ u).ownsRow B te k (.slice (some ⟨g,0,none⟩) n c) n (xs.set i u):=by
 refine ⟨by rw [List.length_set];exact h.1,?_⟩;rcases h.2 with ⟨e,_⟩ | ⟨g',cap',cur,e,h5,h6,h7,h8,h9,h10⟩
 ·cases e
 ·simp only [Value.slice.injEq,oI,Addr.mk.injEq] at e;obtain ⟨⟨rfl,_,_⟩,_,rfl⟩:=e;refine Or.inr ⟨g,c,cur.setIfInBounds i u,rfl,h5,heap_setCell_same _ _ _ _ _ _ h6,h7,h8,by simpa using h9,?_⟩;rw [Array.toList_setIfInBounds,List.take_set,h10]
theorem aFm {B2:Nat} {xs:List Value} (h:w.ownsRow B te k v n xs) (hb:B2<=B):w.ownsRow B2 te k v n xs:=by
 refine ⟨h.1,?_⟩;rcases h.2 with e | ⟨g,cap,cur,e,h5,h6⟩
 ·exact Or.inl e
 ·exact Or.inr ⟨g,cap,cur,e,nT hb h5,h6⟩
def fitsB (c:Col) (v:Val):Bool:=decide (v.err=0) && (decide (v.1=c.2.1) || decide (v.1=0)) && decide ((rcn v.2.2:Int)<=c.2.2)
theorem fits_any (c:Col) (v:Val) (w:World) (hs:v.2.2.size<=1048576) :
  Calls prog 136 #[.agg #[.string c.1,.int .i64 c.2.1,.int .i64 c.2.2],.agg #[.int .i64 v.1,.int .i64 v.2.1,.string v.2.2]] w fun e w'=>e=.returned (.bool (fitsB c v))/\Below w.heap.size w w':=by
 obtain ⟨w1,hw1⟩:∃ w1,w1=(w.alloc (.cells #[.string c.1,.int .i64 c.2.1,.int .i64 c.2.2] 93)).alloc (.cells #[.int .i64 v.1,.int .i64 v.2.1,.string v.2.2] 36):=⟨_,rfl⟩;obtain ⟨L,hL⟩:∃ L,w.heap.size=L:=⟨_,rfl⟩;have HR1:Hid (w1.heap[L]?=some (.cells #[.string c.1,.int .i64 c.2.1,.int .i64 c.2.2] 93 (0,0))):=by show _=_;rw [hw1,<-hL];exact heap_alloc2_old w _ _
 have HA1:Hid (w1.heap[L+1]?=some (.cells #[.int .i64 v.1,.int .i64 v.2.1,.string v.2.2] 36 (0,0))):=by show _=_;rw [hw1,<-hL];exact heap_alloc2_new w _ _
 have hb1:Below w.heap.size w w1:=by rw [hw1];exact (aAg w _).trans ((aAg _ _).mono (aAg w _).size)
 have HW1:Hid (Below L w w1):=by show Below L w w1;rw [<-hL];exact hb1
 have HE1:=aAc hw1;have HRT:=aAc (aFi v.1 v.2.1 v.2.2 w1 hs);rw [hL];clear hb1 hw1;go_enter func136,ntmps136;go_upto_region 1 with fail;rw [<-HE1.o]
 try simp only [hL]
 have y0:w1.cell? ⟨L+1,0,none⟩=some (.int .i64 v.1):=aAa HA1.o;have y1:w1.cell? ⟨L+1,1,none⟩=some (.int .i64 v.2.1):=aAa HA1.o;have y2:w1.cell? ⟨L+1,2,none⟩=some (.string v.2.2):=aAa HA1.o;have HER:Hid (v.err=rightOf v.1 v.2.1 v.2.2):=rfl;by_cases he:v.err=0
 ·rw [<-HER.o,he] at HRT;obtain ⟨rs,hrs⟩:=aE1 (HER.o.symm.trans he);have HRC:Hid (rcn v.2.2=rs.length):=by show _=_;unfold rcn;rw [hrs];rfl
  have HRS:=aAc hrs;have HE:=aAc he;clear he hrs;go_wp2_with fail;refine HRT.o.mono ?_;rintro e w2 ⟨rfl,hb2⟩;have HW2:Hid (Below L w w2):=HW1.o.trans (hb2.mono (by have:=aAe HR1.o;omega));have HR2:=aAc ((hb2.block L (aAe HR1.o)).trans HR1.o);have HA2:=aAc ((hb2.block (L+1) (aAe HA1.o)).trans HA1.o);have z0:w2.cell? ⟨L+1,0,none⟩=some (.int .i64 v.1):=aAa HA2.o;have z1:w2.cell? ⟨L,1,none⟩=some (.int .i64 c.2.1):=aAa HR2.o;have HRU:=aAc (sruns_ok v.2.2 rs w2.drew (by omega) HRS.o);have HX:Hid ((fun wx=>wx.cell? ⟨L+1,2,none⟩=some (.string v.2.2)/\wx.cell? ⟨L,2,none⟩=some (.int .i64 c.2.2)) w2.drew):=⟨aAa (show w2.drew.heap[L+1]?=_ from HA2.o),aAa (show w2.drew.heap[L]?=_ from HR2.o)⟩;clear hb2 y0 y1 y2 HRT;have hx:v.1=c.2.1\/(v.1≠c.2.1/\v.1=0)\/(v.1≠c.2.1/\v.1≠0):=by
   by_cases h1:v.1=c.2.1
   ·exact Or.inl h1
   ·by_cases h2:v.1=0
    ·exact Or.inr (Or.inl ⟨h1,h2⟩)
    ·exact Or.inr (Or.inr ⟨h1,h2⟩)
  have fin:∀ b:Bool,b=decide ((rs.length:Int)<=c.2.2)->(decide (v.1=c.2.1) || decide (v.1=0))=true->fitsB c v=b:=by
   intro b hb ho;unfold fitsB;rw [decide_eq_true HE.o,ho,HRC.o,hb];rfl
  have HFIN:=aAc fin;clear fin;rcases hx with h1 | ⟨h1,h2⟩ | ⟨h1,h2⟩
  ·have q1:(v.1 != c.2.1)=false:=by rw [h1];simp
   have HOR:Hid ((decide (v.1=c.2.1) || decide (v.1=0))=true):=by show _=_;rw [decide_eq_true h1];rfl
   clear h1;generalize rs.length=m at *
   go_upto_region 3 with fail;refine wp_region_noPanic ?_;refine wp_region_held_drew (S:=fun wx=>wx.cell? ⟨L+1,2,none⟩=some (.string v.2.2)/\wx.cell? ⟨L,2,none⟩=some (.int .i64 c.2.2)) (by kernel_rfl) HX.o (fun hHeld=>?_);refine aAh (i:=0) (d:=20) (v:=?va0) (by kernel_rfl) (by kernel_rfl) (by kernel_rfl) (by kernel_rfl) (fun _ _ _ h=>h) ?hya0 (by assumption) ?resta0
   case hya0 =>
    intro oi ho;simp only [tG,zG,oI] at ho;subst ho;refine Or.inl ⟨by rfl,?_⟩;intro wx hSw
    try dsimp only at hSw
    obtain ⟨hs1,hs2⟩:=hSw;go_simp
    try rfl
   try simp only [Act.put,siT,scZ,scS]
   refine aAh (i:=1) (d:=21) (v:=?va1) (by kernel_rfl) (by kernel_rfl) (by kernel_rfl) (by kernel_rfl) (fun _ _ _ h=>h) ?hya1 (by assumption) ?resta1
   case hya1 =>
    intro oi ho;simp only [tG,sG,zG,oI] at ho;subst ho;refine Or.inl ⟨by rfl,?_⟩;intro wx hSw
    try dsimp only at hSw
    obtain ⟨hs1,hs2⟩:=hSw;go_simp
    try rfl
   try simp only [Act.put,siT,scZ,scS]
   refine aAh (i:=3) (d:=23) (v:=?va3) (by kernel_rfl) (by kernel_rfl) (by kernel_rfl) (by kernel_rfl) (fun _ _ _ h=>h) ?hya3 (by assumption) ?resta3
   case hya3 =>
    intro oi ho;simp only [tG,sG,zG,oI] at ho;subst ho;refine Or.inl ⟨by rfl,?_⟩;intro wx hSw
    try dsimp only at hSw
    obtain ⟨hs1,hs2⟩:=hSw;go_simp
    try rfl
   try simp only [Act.put,siT,scZ,scS]
   refine aAh (i:=4) (d:=24) (v:=?va4) (by kernel_rfl) (by kernel_rfl) (by kernel_rfl) (by kernel_rfl) (fun _ _ _ h=>h) ?hya4 (by assumption) ?resta4
   case hya4 =>
    intro oi ho;simp only [tG,sG,zG,oI] at ho;subst ho;refine Or.inl ⟨by rfl,?_⟩;intro wx hSw
    try dsimp only at hSw
    obtain ⟨hs1,hs2⟩:=hSw;go_simp
    try rfl
   try simp only [Act.put,siT,scZ,scS]
   refine aAf 2 ?_;intro K hK;go_simp;refine HRU.o.mono ?_;rintro e w3 ⟨rfl,hb3⟩;have HW3:Hid (Below L w w3):=HW2.o.trans ⟨hb3.os,hb3.tape,hb3.output,hb3.size,fun i hi=>hb3.block i (by show i<w2.heap.size;have:=aAe HR2.o;omega)⟩;have hX3:w3.cell? ⟨L+1,2,none⟩=some (.string v.2.2)/\w3.cell? ⟨L,2,none⟩=some (.int .i64 c.2.2):=⟨(hb3.cell (aAe HA2.o)).trans (aAa HA2.o),(hb3.cell (aAe HR2.o)).trans (aAa HR2.o)⟩;clear hb3 hHeld;refine hK.out _ _ hX3 (fun hHeld=>?_);clear hX3;clear hK K
   try simp only [Act.put,siT,scZ,scS]
   refine aAb 5 25 ?_;refine aAb 6 4 ?_;refine wpAnyH_done (by kernel_rfl) ?_ _;refine NoPanic.normal ?_;go_wp2;go_ret;exact ⟨by rw [HFIN.o _ rfl HOR.o];rfl,HW3.o⟩
  ·have q1:(v.1 != c.2.1)=true:=by simp [h1]
   have q2:(v.1 != 0)=false:=by rw [h2];rfl
   have HOR:Hid ((decide (v.1=c.2.1) || decide (v.1=0))=true):=by show _=_;rw [decide_eq_true h2,Bool.or_true]
   clear h1 h2;generalize rs.length=m at *
   go_upto_region 3 with fail;refine wp_region_noPanic ?_;refine wp_region_held_drew (S:=fun wx=>wx.cell? ⟨L+1,2,none⟩=some (.string v.2.2)/\wx.cell? ⟨L,2,none⟩=some (.int .i64 c.2.2)) (by kernel_rfl) HX.o (fun hHeld=>?_);refine aAh (i:=0) (d:=20) (v:=?vc0) (by kernel_rfl) (by kernel_rfl) (by kernel_rfl) (by kernel_rfl) (fun _ _ _ h=>h) ?hyc0 (by assumption) ?restc0
   case hyc0 =>
    intro oi ho;simp only [tG,zG,oI] at ho;subst ho;refine Or.inl ⟨by rfl,?_⟩;intro wx hSw
    try dsimp only at hSw
    obtain ⟨hs1,hs2⟩:=hSw;go_simp
    try rfl
   try simp only [Act.put,siT,scZ,scS]
   refine aAh (i:=1) (d:=21) (v:=?vc1) (by kernel_rfl) (by kernel_rfl) (by kernel_rfl) (by kernel_rfl) (fun _ _ _ h=>h) ?hyc1 (by assumption) ?restc1
   case hyc1 =>
    intro oi ho;simp only [tG,sG,zG,oI] at ho;subst ho;refine Or.inl ⟨by rfl,?_⟩;intro wx hSw
    try dsimp only at hSw
    obtain ⟨hs1,hs2⟩:=hSw;go_simp
    try rfl
   try simp only [Act.put,siT,scZ,scS]
   refine aAh (i:=3) (d:=23) (v:=?vc3) (by kernel_rfl) (by kernel_rfl) (by kernel_rfl) (by kernel_rfl) (fun _ _ _ h=>h) ?hyc3 (by assumption) ?restc3
   case hyc3 =>
    intro oi ho;simp only [tG,sG,zG,oI] at ho;subst ho;refine Or.inl ⟨by rfl,?_⟩;intro wx hSw
    try dsimp only at hSw
    obtain ⟨hs1,hs2⟩:=hSw;go_simp
    try rfl
   try simp only [Act.put,siT,scZ,scS]
   refine aAh (i:=4) (d:=24) (v:=?vc4) (by kernel_rfl) (by kernel_rfl) (by kernel_rfl) (by kernel_rfl) (fun _ _ _ h=>h) ?hyc4 (by assumption) ?restc4
   case hyc4 =>
    intro oi ho;simp only [tG,sG,zG,oI] at ho;subst ho;refine Or.inl ⟨by rfl,?_⟩;intro wx hSw
    try dsimp only at hSw
    obtain ⟨hs1,hs2⟩:=hSw;go_simp
    try rfl
   try simp only [Act.put,siT,scZ,scS]
   refine aAf 2 ?_;intro K hK;go_simp;refine HRU.o.mono ?_;rintro e w3 ⟨rfl,hb3⟩;have HW3:Hid (Below L w w3):=HW2.o.trans ⟨hb3.os,hb3.tape,hb3.output,hb3.size,fun i hi=>hb3.block i (by show i<w2.heap.size;have:=aAe HR2.o;omega)⟩;have hX3:w3.cell? ⟨L+1,2,none⟩=some (.string v.2.2)/\w3.cell? ⟨L,2,none⟩=some (.int .i64 c.2.2):=⟨(hb3.cell (aAe HA2.o)).trans (aAa HA2.o),(hb3.cell (aAe HR2.o)).trans (aAa HR2.o)⟩;clear hb3 hHeld;refine hK.out _ _ hX3 (fun hHeld=>?_);clear hX3;clear hK K
   try simp only [Act.put,siT,scZ,scS]
   refine aAb 5 25 ?_;refine aAb 6 4 ?_;refine wpAnyH_done (by kernel_rfl) ?_ _;refine NoPanic.normal ?_;go_wp2;go_ret;exact ⟨by rw [HFIN.o _ rfl HOR.o];rfl,HW3.o⟩
  ·have q1:(v.1 != c.2.1)=true:=by simp [h1]
   have q2:(v.1 != 0)=true:=by simp [h2]
   have HF:Hid (fitsB c v=false):=by
    show _=_;unfold fitsB;rw [decide_eq_false h1,decide_eq_false h2];simp
   clear h1 h2;go_wp2;go_ret;exact ⟨by rw [HF.o];rfl,HW2.o⟩
 ·have HF:Hid (fitsB c v=false):=by
   show _=_;unfold fitsB;rw [decide_eq_false he];rfl
  rw [<-HER.o] at HRT;have q0:(v.err != 0)=true:=by simp [he]
  clear he;generalize v.err=er at *
  go_wp2_with fail;refine HRT.o.mono ?_;rintro e w2 ⟨rfl,hb2⟩;have HW2:Hid (Below L w w2):=HW1.o.trans (hb2.mono (by have:=aAe HR1.o;omega));clear hb2 HRT;go_wp2;go_ret;exact ⟨by rw [HF.o];rfl,HW2.o⟩
def fitsN (s:Sch) (row:List Val):Nat->Bool
 | 0=>true
 | j+1=>fitsN s row j && (match s.cs[j]?,row[j]? with | some c,some v=>fitsB c v | _,_=>true)
theorem fitsN_no {s:Sch} {row:List Val} {j:Nat} (h:fitsN s row j=false):∀ {n:Nat},j<=n->fitsN s row n=false
 | 0,hn=>by rw [<-show j=0 by omega];exact h
 | n+1,hn=>by
  by_cases e:j=n+1
  ·rw [<-e];exact h
  ·show (fitsN s row n && _)=false
   rw [fitsN_no h (show j<=n by omega),Bool.false_and]
def Sch.fits (s:Sch) (row:List Val):Int:=if s.ok=false then 61 else if row.length≠s.cs.length then 62 else if (row.getD 0 (0,0,⟨#[]⟩)).1=0 then 62 else if fitsN s row row.length=true then 0 else 62
theorem sfits_any {cp:Nat} {l:List Val} (h:SC w ca cl cc xa xl xc s) (hv:SVK fV 3 w a n cp l) (hs:∀ x∈l,x.2.2.size<=1048576) :
  Calls prog 91 #[.agg #[.string s.nm,.slice ca cl cc,.slice xa xl xc],.slice a n cp] w fun e w'=>e=.returned (.int .i64 (s.fits l))/\Below w.heap.size w w':=by
 have hbx:=aAg w (.cells #[.string s.nm,.slice ca cl cc,.slice xa xl xc] 33);have HR1:Hid ((w.alloc (.cells #[.string s.nm,.slice ca cl cc,.slice xa xl xc] 33)).heap[w.heap.size]?=some (.cells #[.string s.nm,.slice ca cl cc,.slice xa xl xc] 33 (0,0))):=boxed w _;have H1:=aAc (h.later hbx);have HV1:=aAc (hv.later hbx);have HW1:=aAc hbx;have HCL:=aAc h.c.hl;have HNL:=aAc hv.hl;have HS:=aAc hs;have HRT:=aAc (aF9 (h.later hbx));clear h hv hs hbx;go_enter func91,ntmps91;go_upto_region 1 with fail;generalize w.alloc (.cells #[.string s.nm,.slice ca cl cc,.slice xa xl xc] 33)=w1 at *
 generalize hL:w.heap.size=L at *
 have y0:w1.cell? ⟨L,0,none⟩=some (.string s.nm):=aAa HR1.o;have y1:w1.cell? ⟨L,1,none⟩=some (.slice ca cl cc):=aAa HR1.o;have y2:w1.cell? ⟨L,2,none⟩=some (.slice xa xl xc):=aAa HR1.o
 cases hok:s.ok with
 | false =>
  have HE:Hid (s.fits l=61):=if_pos hok;have he:s.err=61:=if_neg (by rw [hok];decide);rw [he] at HRT;clear hok he;go_wp2_with fail;refine HRT.o.mono ?_;rintro e w2 ⟨rfl,hb2⟩;have HW2:Hid (Below L w w2):=HW1.o.trans (hb2.mono (by have:=aAe HR1.o;omega));clear hb2 HRT;go_wp2;go_ret;exact ⟨by rw [HE.o];rfl,by first | exact HW2.o | (rw [hL];exact HW2.o)⟩
 | true =>
  have he:s.err=0:=if_pos hok;have HE0:Hid (s.fits l=if l.length≠s.cs.length then 62 else if (l.getD 0 (0,0,⟨#[]⟩)).1=0 then 62 else if fitsN s l l.length=true then 0 else 62):=if_neg (by rw [hok];decide);have HC1:Hid (1<=cl/\cl<=3):=by
   show 1<=cl/\cl<=3;rw [<-HCL.o];unfold Sch.ok colsOk at hok;simp only [Bool.and_eq_true,decide_eq_true_eq] at hok;exact ⟨hok.1.2.1.1,hok.1.2.1.2⟩
  rw [HNL.o,HCL.o] at HE0;rw [he] at HRT;clear hok he;go_wp2_with fail;refine HRT.o.mono ?_;rintro e w2 ⟨rfl,hb2⟩;have HW2:Hid (Below L w w2):=HW1.o.trans (hb2.mono (by have:=aAe HR1.o;omega));have HR2:=aAc ((hb2.block L (aAe HR1.o)).trans HR1.o);have H2:=aAc (H1.o.later hb2);have HV2:=aAc (HV1.o.later hb2);have z1:w2.cell? ⟨L,1,none⟩=some (.slice ca cl cc):=aAa HR2.o;clear hb2 HRT y0 y1 y2 H1 HV1 HR1;by_cases hln:n=cl
  ·subst hln;obtain ⟨b0,o0,e0,hb0,hcs0⟩:=HV2.o.pl (by have:=HC1.o;omega);obtain ⟨v0,hv0⟩:∃ v,l[0]?=some v:=⟨_,gE (by rw [HNL.o];exact HC1.o.1)⟩;have hc0:w2.cell? ⟨b0,o0,none⟩=some (.int .i64 v0.1):=by have:=hcs0 0 v0 hv0 0 (by omega);simpa [fV] using this
   have hg0:l.getD 0 (0,0,⟨#[]⟩)=v0:=by rw [List.getD_eq_getElem?_getD,hv0];rfl
   rw [hg0,if_neg (by simp)] at HE0;have hn0:(0:Int)<(n:Int):=by have:=HC1.o;omega
   subst e0;by_cases hz:v0.1=0
   ·rw [if_pos hz] at HE0;have hz':(v0.1 == 0)=true:=by rw [hz];rfl
    clear hz hcs0 hv0 hg0;go_wp2;go_ret;exact ⟨by rw [HE0.o];rfl,by first | exact HW2.o | (rw [hL];exact HW2.o)⟩
   ·rw [if_neg hz] at HE0;have hz':(v0.1 == 0)=false:=by simp [hz]
    clear hz hv0 hg0 hcs0;go_wp2_with fail;clear hc0 z1;go_loopg [28] n (fun gh s28 wx=>∃ j:Nat,j+gh=n/\s28=.int .i64 (j:Int)/\fitsN s l j=true/\Below w2.heap.size w2 wx)
    case atStart=>exact ⟨0,by omega,rfl,rfl,Below.refl _ _⟩
    case round =>
     obtain ⟨j,hj,rfl,hyes,hbr⟩:=hrel;have HY:=aAc hyes;have HBR:=aAc hbr;clear hyes hbr;by_cases hjn:j<n
     ·have xj:(j:Int)<(n:Int):=by omega
      have xj3:(j:Int)<4:=by have:=HC1.o.2;omega
      obtain ⟨v,hvj⟩:∃ v,l[j]?=some v:=⟨_,gE (by rw [HNL.o];exact hjn)⟩;obtain ⟨c,hcj⟩:∃ c,s.cs[j]?=some c:=⟨_,gE (by rw [HCL.o];exact hjn)⟩;have HNX:Hid (fitsN s l (j+1)=fitsB c v):=by
       show (fitsN s l j && (match s.cs[j]?,l[j]? with | some c,some v=>fitsB c v | _,_=>true))=_;rw [HY.o,hvj,hcj,Bool.true_and]
      have HVS:Hid (v.2.2.size<=1048576):=HS.o v (mG hvj);obtain ⟨bv,ov,ev,hbv,hcv⟩:=HV2.o.pl (by omega);simp only [oI,Addr.mk.injEq] at ev;obtain ⟨rfl,rfl,_⟩:=ev;obtain ⟨b,o,ec,hb,hcc⟩:=H2.o.c.pl (by omega);have y0:wr.cell? ⟨b0,o0+j*3,none⟩=some (.int .i64 v.1):=(HBR.o.cell hbv).trans (hcv j v hvj 0 (by omega));have y1:wr.cell? ⟨b0,o0+j*3+1,none⟩=some (.int .i64 v.2.1):=(HBR.o.cell hbv).trans (hcv j v hvj 1 (by omega));have y2:wr.cell? ⟨b0,o0+j*3+2,none⟩=some (.string v.2.2):=(HBR.o.cell hbv).trans (hcv j v hvj 2 (by omega));have hbk:=aAg wr (.cells #[.int .i64 v.1,.int .i64 v.2.1,.string v.2.2] 36);have HRV:Hid ((wr.alloc (.cells #[.int .i64 v.1,.int .i64 v.2.1,.string v.2.2] 36)).heap[wr.heap.size]?=some (.cells #[.int .i64 v.1,.int .i64 v.2.1,.string v.2.2] 36 (0,0))):=boxed wr _;have hb23:=HBR.o.trans (hbk.mono HBR.o.size);have HXA:Hid ((fun wx=>wx.cell? ⟨L,1,none⟩=some (.slice (some ⟨b,o,none⟩) n cc)/\wx.cell? ⟨b,o+j*3,none⟩=some (.string c.1)/\wx.cell? ⟨b,o+j*3+1,none⟩=some (.int .i64 c.2.1)/\wx.cell? ⟨b,o+j*3+2,none⟩=some (.int .i64 c.2.2)/\wx.cell? ⟨wr.heap.size,0,none⟩=some (.int .i64 v.1)/\wx.cell? ⟨wr.heap.size,1,none⟩=some (.int .i64 v.2.1)/\wx.cell? ⟨wr.heap.size,2,none⟩=some (.string v.2.2)) (wr.alloc (.cells #[.int .i64 v.1,.int .i64 v.2.1,.string v.2.2] 36))):=by
       subst ec;exact ⟨(hb23.cell (aAe HR2.o)).trans (aAa HR2.o),(hb23.cell hb).trans (hcc j c hcj 0 (by omega)),(hb23.cell hb).trans (hcc j c hcj 1 (by omega)),(hb23.cell hb).trans (hcc j c hcj 2 (by omega)),aAa HRV.o,aAa HRV.o,aAa HRV.o⟩
      have HLV:Hid (L<wr.heap.size/\b<wr.heap.size):=⟨Nat.lt_of_lt_of_le (aAe HR2.o) HBR.o.size,Nat.lt_of_lt_of_le hb HBR.o.size⟩;have HW2x:Hid (Below L w (wr.alloc (.cells #[.int .i64 v.1,.int .i64 v.2.1,.string v.2.2] 36))):=HW2.o.trans (hb23.mono (by have:=aAe HR2.o;omega));have HB23:=aAc hb23;subst ec;clear hcv hcc hvj hcj hbk hb23;go_upto_region 9 with fail;clear y0 y1 y2;have HW2:=HW2x;clear HW2x;generalize wr.alloc (.cells #[.int .i64 v.1,.int .i64 v.2.1,.string v.2.2] 36)=wq at *
      generalize wr.heap.size=V at *
      have HXL:Hid (∀ w3,Below wq.heap.size wq w3->(fun wx=>wx.cell? ⟨L,1,none⟩=some (.slice (some ⟨b,o,none⟩) n cc)/\wx.cell? ⟨b,o+j*3,none⟩=some (.string c.1)/\wx.cell? ⟨b,o+j*3+1,none⟩=some (.int .i64 c.2.1)/\wx.cell? ⟨b,o+j*3+2,none⟩=some (.int .i64 c.2.2)/\wx.cell? ⟨V,0,none⟩=some (.int .i64 v.1)/\wx.cell? ⟨V,1,none⟩=some (.int .i64 v.2.1)/\wx.cell? ⟨V,2,none⟩=some (.string v.2.2)) w3):=fun w3 hb3=>by
       obtain ⟨q1,q2,q3,q4,q5,q6,q7⟩:=HXA.o;have hv:=aAe HRV.o;have hl:=HLV.o;exact ⟨(hb3.cell (by show L<_;omega)).trans q1,(hb3.cell (by show b<_;omega)).trans q2,(hb3.cell (by show b<_;omega)).trans q3,(hb3.cell (by show b<_;omega)).trans q4,(hb3.cell hv).trans q5,(hb3.cell hv).trans q6,(hb3.cell hv).trans q7⟩
      have HX:Hid ((fun wx=>wx.cell? ⟨L,1,none⟩=some (.slice (some ⟨b,o,none⟩) n cc)/\wx.cell? ⟨b,o+j*3,none⟩=some (.string c.1)/\wx.cell? ⟨b,o+j*3+1,none⟩=some (.int .i64 c.2.1)/\wx.cell? ⟨b,o+j*3+2,none⟩=some (.int .i64 c.2.2)/\wx.cell? ⟨V,0,none⟩=some (.int .i64 v.1)/\wx.cell? ⟨V,1,none⟩=some (.int .i64 v.2.1)/\wx.cell? ⟨V,2,none⟩=some (.string v.2.2)) wq.drew):=HXL.o _ (Below.refl _ _).drew;have HFI:=aAc (fits_any c v wq.drew HVS.o)
      cases hf:fitsB c v with
      | false =>
       have HF:Hid (s.fits l=62):=by
        show _=_;rw [HE0.o,if_neg (by rw [fitsN_no (HNX.o.trans hf) (show j+1<=n by omega)];decide)]
       rw [hf] at HFI;clear hf;refine wp_region_noPanic ?_;refine wp_region_held_drew (S:=fun wx=>wx.cell? ⟨L,1,none⟩=some (.slice (some ⟨b,o,none⟩) n cc)/\wx.cell? ⟨b,o+j*3,none⟩=some (.string c.1)/\wx.cell? ⟨b,o+j*3+1,none⟩=some (.int .i64 c.2.1)/\wx.cell? ⟨b,o+j*3+2,none⟩=some (.int .i64 c.2.2)/\wx.cell? ⟨V,0,none⟩=some (.int .i64 v.1)/\wx.cell? ⟨V,1,none⟩=some (.int .i64 v.2.1)/\wx.cell? ⟨V,2,none⟩=some (.string v.2.2)) (by kernel_rfl) HX.o (fun hHeld=>?_);refine aAh (i:=0) (d:=33) (v:=?vax0) (by kernel_rfl) (by kernel_rfl) (by kernel_rfl) (by kernel_rfl) (fun _ _ _ h=>h) ?hyax0 (by assumption) ?restax0
       case hyax0 =>
        intro oi ho;simp only [tG,zG,oI] at ho;subst ho;refine Or.inl ⟨by rfl,?_⟩;intro wx hSw
        try dsimp only at hSw
        obtain ⟨hs1,hs2,hs3,hs4,hs5,hs6,hs7⟩:=hSw;go_simp
        try rfl
       try simp only [Act.put,siT,scZ,scS]
       refine aAh (i:=1) (d:=34) (v:=?vax1) (by kernel_rfl) (by kernel_rfl) (by kernel_rfl) (by kernel_rfl) (fun _ _ _ h=>h) ?hyax1 (by assumption) ?restax1
       case hyax1 =>
        intro oi ho;simp only [tG,sG,zG,oI] at ho;subst ho;refine Or.inl ⟨by rfl,?_⟩;intro wx hSw
        try dsimp only at hSw
        obtain ⟨hs1,hs2,hs3,hs4,hs5,hs6,hs7⟩:=hSw;go_simp
        try rfl
       try simp only [Act.put,siT,scZ,scS]
       refine aAh (i:=2) (d:=35) (v:=?vax2) (by kernel_rfl) (by kernel_rfl) (by kernel_rfl) (by kernel_rfl) (fun _ _ _ h=>h) ?hyax2 (by assumption) ?restax2
       case hyax2 =>
        intro oi ho;simp only [tG,sG,zG,oI] at ho;subst ho;refine Or.inl ⟨by rfl,?_⟩;intro wx hSw
        try dsimp only at hSw
        obtain ⟨hs1,hs2,hs3,hs4,hs5,hs6,hs7⟩:=hSw;go_simp
        try rfl
       try simp only [Act.put,siT,scZ,scS]
       refine aAh (i:=3) (d:=36) (v:=?vax3) (by kernel_rfl) (by kernel_rfl) (by kernel_rfl) (by kernel_rfl) (fun _ _ _ h=>h) ?hyax3 (by assumption) ?restax3
       case hyax3 =>
        intro oi ho;simp only [tG,sG,zG,oI] at ho;subst ho;refine Or.inl ⟨by rfl,?_⟩;intro wx hSw
        try dsimp only at hSw
        obtain ⟨hs1,hs2,hs3,hs4,hs5,hs6,hs7⟩:=hSw;go_simp
        try rfl
       try simp only [Act.put,siT,scZ,scS]
       refine aAh (i:=4) (d:=37) (v:=?vax4) (by kernel_rfl) (by kernel_rfl) (by kernel_rfl) (by kernel_rfl) (fun _ _ _ h=>h) ?hyax4 (by assumption) ?restax4
       case hyax4 =>
        intro oi ho;simp only [tG,sG,zG,oI] at ho;subst ho;refine Or.inl ⟨by rfl,?_⟩;intro wx hSw
        try dsimp only at hSw
        obtain ⟨hs1,hs2,hs3,hs4,hs5,hs6,hs7⟩:=hSw;go_simp
        try rfl
       try simp only [Act.put,siT,scZ,scS]
       refine aAh (i:=5) (d:=38) (v:=?vax5) (by kernel_rfl) (by kernel_rfl) (by kernel_rfl) (by kernel_rfl) (fun _ _ _ h=>h) ?hyax5 (by assumption) ?restax5
       case hyax5 =>
        intro oi ho;simp only [tG,sG,zG,oI] at ho;subst ho;refine Or.inl ⟨by rfl,?_⟩;intro wx hSw
        try dsimp only at hSw
        obtain ⟨hs1,hs2,hs3,hs4,hs5,hs6,hs7⟩:=hSw;go_simp
        try rfl
       try simp only [Act.put,siT,scZ,scS]
       refine aAf 6 ?_;intro K hK;go_simp;refine HFI.o.mono ?_;rintro e w3 ⟨rfl,hb3⟩;have HW3:Hid (Below L w w3):=HW2.o.trans ⟨hb3.os,hb3.tape,hb3.output,hb3.size,fun i hi=>hb3.block i (by show i<wq.heap.size;have:=HLV.o;have:=aAe HRV.o;omega)⟩;have hX3:=HXL.o w3 ⟨hb3.os,hb3.tape,hb3.output,hb3.size,hb3.block⟩;clear hb3 hHeld;refine hK.out _ _ hX3 (fun hHeld=>?_);clear hX3;clear hK K
       try simp only [Act.put,siT,scZ,scS]
       refine aAh (i:=7) (d:=40) (v:=?vbx7) (by kernel_rfl) (by kernel_rfl) (by kernel_rfl) (by kernel_rfl) (fun _ _ _ h=>h) ?hybx7 (by assumption) ?restbx7
       case hybx7 =>
        intro oi ho;simp only [tG,sG,zG,oI] at ho;subst ho;refine Or.inl ⟨by rfl,?_⟩;intro wx hSw
        try dsimp only at hSw
        obtain ⟨hs1,hs2,hs3,hs4,hs5,hs6,hs7⟩:=hSw;go_simp
        try rfl
       try simp only [Act.put,siT,scZ,scS]
       refine wpAnyH_done (by kernel_rfl) ?_ _;refine NoPanic.normal ?_;go_wp2;go_ret;exact ⟨by rw [HF.o];rfl,by first | exact HW3.o | (rw [hL];exact HW3.o)⟩
      | true =>
       have HF:Hid (fitsN s l (j+1)=true):=HNX.o.trans hf;rw [hf] at HFI;clear hf;refine wp_region_noPanic ?_;refine wp_region_held_drew (S:=fun wx=>wx.cell? ⟨L,1,none⟩=some (.slice (some ⟨b,o,none⟩) n cc)/\wx.cell? ⟨b,o+j*3,none⟩=some (.string c.1)/\wx.cell? ⟨b,o+j*3+1,none⟩=some (.int .i64 c.2.1)/\wx.cell? ⟨b,o+j*3+2,none⟩=some (.int .i64 c.2.2)/\wx.cell? ⟨V,0,none⟩=some (.int .i64 v.1)/\wx.cell? ⟨V,1,none⟩=some (.int .i64 v.2.1)/\wx.cell? ⟨V,2,none⟩=some (.string v.2.2)) (by kernel_rfl) HX.o (fun hHeld=>?_);refine aAh (i:=0) (d:=33) (v:=?vay0) (by kernel_rfl) (by kernel_rfl) (by kernel_rfl) (by kernel_rfl) (fun _ _ _ h=>h) ?hyay0 (by assumption) ?restay0
       case hyay0 =>
        intro oi ho;simp only [tG,zG,oI] at ho;subst ho;refine Or.inl ⟨by rfl,?_⟩;intro wx hSw
        try dsimp only at hSw
        obtain ⟨hs1,hs2,hs3,hs4,hs5,hs6,hs7⟩:=hSw;go_simp
        try rfl
       try simp only [Act.put,siT,scZ,scS]
       refine aAh (i:=1) (d:=34) (v:=?vay1) (by kernel_rfl) (by kernel_rfl) (by kernel_rfl) (by kernel_rfl) (fun _ _ _ h=>h) ?hyay1 (by assumption) ?restay1
       case hyay1 =>
        intro oi ho;simp only [tG,sG,zG,oI] at ho;subst ho;refine Or.inl ⟨by rfl,?_⟩;intro wx hSw
        try dsimp only at hSw
        obtain ⟨hs1,hs2,hs3,hs4,hs5,hs6,hs7⟩:=hSw;go_simp
        try rfl
       try simp only [Act.put,siT,scZ,scS]
       refine aAh (i:=2) (d:=35) (v:=?vay2) (by kernel_rfl) (by kernel_rfl) (by kernel_rfl) (by kernel_rfl) (fun _ _ _ h=>h) ?hyay2 (by assumption) ?restay2
       case hyay2 =>
        intro oi ho;simp only [tG,sG,zG,oI] at ho;subst ho;refine Or.inl ⟨by rfl,?_⟩;intro wx hSw
        try dsimp only at hSw
        obtain ⟨hs1,hs2,hs3,hs4,hs5,hs6,hs7⟩:=hSw;go_simp
        try rfl
       try simp only [Act.put,siT,scZ,scS]
       refine aAh (i:=3) (d:=36) (v:=?vay3) (by kernel_rfl) (by kernel_rfl) (by kernel_rfl) (by kernel_rfl) (fun _ _ _ h=>h) ?hyay3 (by assumption) ?restay3
       case hyay3 =>
        intro oi ho;simp only [tG,sG,zG,oI] at ho;subst ho;refine Or.inl ⟨by rfl,?_⟩;intro wx hSw
        try dsimp only at hSw
        obtain ⟨hs1,hs2,hs3,hs4,hs5,hs6,hs7⟩:=hSw;go_simp
        try rfl
       try simp only [Act.put,siT,scZ,scS]
       refine aAh (i:=4) (d:=37) (v:=?vay4) (by kernel_rfl) (by kernel_rfl) (by kernel_rfl) (by kernel_rfl) (fun _ _ _ h=>h) ?hyay4 (by assumption) ?restay4
       case hyay4 =>
        intro oi ho;simp only [tG,sG,zG,oI] at ho;subst ho;refine Or.inl ⟨by rfl,?_⟩;intro wx hSw
        try dsimp only at hSw
        obtain ⟨hs1,hs2,hs3,hs4,hs5,hs6,hs7⟩:=hSw;go_simp
        try rfl
       try simp only [Act.put,siT,scZ,scS]
       refine aAh (i:=5) (d:=38) (v:=?vay5) (by kernel_rfl) (by kernel_rfl) (by kernel_rfl) (by kernel_rfl) (fun _ _ _ h=>h) ?hyay5 (by assumption) ?restay5
       case hyay5 =>
        intro oi ho;simp only [tG,sG,zG,oI] at ho;subst ho;refine Or.inl ⟨by rfl,?_⟩;intro wx hSw
        try dsimp only at hSw
        obtain ⟨hs1,hs2,hs3,hs4,hs5,hs6,hs7⟩:=hSw;go_simp
        try rfl
       try simp only [Act.put,siT,scZ,scS]
       refine aAf 6 ?_;intro K hK;go_simp;refine HFI.o.mono ?_;rintro e w3 ⟨rfl,hb3⟩;have HW3:Hid (Below L w w3):=HW2.o.trans ⟨hb3.os,hb3.tape,hb3.output,hb3.size,fun i hi=>hb3.block i (by show i<wq.heap.size;have:=HLV.o;have:=aAe HRV.o;omega)⟩;have HBZ:Hid (Below w2.heap.size w2 w3):=HB23.o.trans ((show Below wq.heap.size wq w3 from ⟨hb3.os,hb3.tape,hb3.output,hb3.size,hb3.block⟩).mono HB23.o.size);have hX3:=HXL.o w3 ⟨hb3.os,hb3.tape,hb3.output,hb3.size,hb3.block⟩;clear hb3 hHeld;refine hK.out _ _ hX3 (fun hHeld=>?_);clear hX3;clear hK K
       try simp only [Act.put,siT,scZ,scS]
       refine aAh (i:=7) (d:=40) (v:=?vby7) (by kernel_rfl) (by kernel_rfl) (by kernel_rfl) (by kernel_rfl) (fun _ _ _ h=>h) ?hyby7 (by assumption) ?restby7
       case hyby7 =>
        intro oi ho;simp only [tG,sG,zG,oI] at ho;subst ho;refine Or.inl ⟨by rfl,?_⟩;intro wx hSw
        try dsimp only at hSw
        obtain ⟨hs1,hs2,hs3,hs4,hs5,hs6,hs7⟩:=hSw;go_simp
        try rfl
       try simp only [Act.put,siT,scZ,scS]
       refine wpAnyH_done (by kernel_rfl) ?_ _;refine NoPanic.normal ?_;go_wp2;go_roundg (gk-1)
       case measure=>omega
       case rel=>exact ⟨j+1,by omega,rfl,HF.o,HBZ.o⟩
     ·have xj:¬ (j:Int)<(n:Int):=by omega
      have HF:Hid (s.fits l=0):=by
       show _=_;rw [HE0.o,if_pos (by rw [<-show j=n by omega];exact HY.o)]
      have HW3:Hid (Below L w wr):=HW2.o.trans (HBR.o.mono (by have:=aAe HR2.o;omega));go_wp2;go_ret;exact ⟨by rw [HF.o];rfl,by first | exact HW3.o | (rw [hL];exact HW3.o)⟩
  ·rw [if_pos hln] at HE0;have hq:((n:Int) != (cl:Int))=true:=by simp;omega
   go_wp2;go_ret;exact ⟨by rw [HE0.o];rfl,by first | exact HW2.o | (rw [hL];exact HW2.o)⟩
end Go.Proofs.YtdpdjpkmndnaaaaGreat
