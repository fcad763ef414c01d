import Derived.Test.YtdpdjpkmndnaaaaGreatY43
import Derived.Defers
import Derived.Recover
set_option maxRecDepth 100000
set_option maxHeartbeats 16000000
set_option linter.unusedVariables false
namespace Go.Proofs.YtdpdjpkmndnaaaaGreat
open Go.RowKit Tryz
theorem caught_idle (p:Addr) (w:World) :
  CallsD prog 186 #[.pointer (some p)] .returning w fun e u' w'=>e=.returned (.tuple #[])/\u'=.returning/\w'=w:=by
 refine callsD_of_wpS func186 rfl fun c₀ cs hu=>?_
 apply wpS_seq;apply wpS_region;simp [wpOpsS,go_sem,recoverD,hu,ntmps186,Exit.thenS];refine wpS_cond (t:=false) (by simp [Act.eval,Array.replicate]) ?_;simp only [Bool.false_eq_true,if_false];refine wpS_of_wp (wp_skip ?_);cases c₀;simp_all [bodyPostS,results,results186]
theorem aJj {w:World} {fn:Nat} {cap:Array Value} {P:Int->World->Prop} (hcf:∀ ww:World,(callFunc fn cap).run prog ww=.ok (.enter fn cap) ww)
  (hC:Calls prog fn cap (w.alloc (.cells #[.int .i64 0] 45)) fun e w'=>∃ r:Int,e=.returned (.int .i64 r)/\P r w'/\w'.heap[w.heap.size]?=some (.cells #[.int .i64 0] 45 (0,0))) :
  Calls prog 149 #[.func (Fn.func fn) #[] cap] w fun e w'=>∃ r w1,e=.returned (.int .i64 r)/\P r w1/\w'=w1.setCell ⟨w.heap.size,0,none⟩ (.int .i64 r):=by
 have hmf:∀ (fn:Fn) (first cap:Array Value) (w:World),(Instr.makeFunc fn first cap).run prog w=.ok (.func fn first cap) w:=fun _ _ _ _=>rfl
 have HC:=zH hC;clear hC;go_enter_defers func149,ntmps149;go_wp2_with fail;refine HC.o.mono ?_;rintro e w1 ⟨r,rfl,hp,hb⟩;have HP:=zH hp;have HB:=zH hb;have c0:w1.cell? ⟨w.heap.size,0,none⟩=some (.int .i64 0):=aAd hb;have f0:w1.frozen? ⟨w.heap.size,0,none⟩=false:=aAm hb;clear hp hb;go_wp2;refine leaves_cons (f:=186) (args:=#[.pointer (some ⟨w.heap.size,0,none⟩)]) (by simp) (by simp [go_sem]) ?_;refine (caught_idle ⟨w.heap.size,0,none⟩ _).mono ?_;rintro e u' w'' ⟨rfl,rfl,rfl⟩;have c1:(w1.setCell ⟨w.heap.size,0,none⟩ (.int .i64 r)).cell? ⟨w.heap.size,0,none⟩=some (.int .i64 r):=by
  rw [aAd (heap_setCell_same _ _ _ _ _ _ HB.o)];rfl
 simp only [Leaves,settle,results,results149];exact ⟨.int .i64 r,by simp [go_sem,c1],r,w1,rfl,HP.o,rfl⟩
end Go.Proofs.YtdpdjpkmndnaaaaGreat
set_option linter.unusedVariables false
namespace Go.Proofs.YtdpdjpkmndnaaaaGreat
open Tryz
theorem aE6:∀ (l:List It) (c:List (List It)),c.length=l.length+1->l.Sublist (weave l c)
 | l,[],h=>by simp at h
 | [],c::_,_=>List.nil_sublist _
 | x::l,c::cs,h=>by
  show (x::l).Sublist (c++x::weave l cs)
  exact List.Sublist.trans (List.Sublist.cons_cons x (aE6 l cs (by simpa using h))) (List.sublist_append_right c _)
theorem aE7:∀ (l:List It) (c:List (List It)) (k:List It),c.length=l.length+1->k∈c->k.Sublist (weave l c)
 | l,[],k,_,hk=>by simp at hk
 | [],[c],k,_,hk=>by
  simp only [List.mem_singleton] at hk
  subst hk
  exact List.Sublist.refl _
 | [],_::_::_,k,h,_=>by simp at h
 | x::l,c::cs,k,h,hk=>by
  show k.Sublist (c++x::weave l cs)
  rcases List.mem_cons.1 hk with hk | hk
  ·subst hk
   exact List.sublist_append_left _ _
  ·exact List.Sublist.trans (List.Sublist.cons x (aE7 l cs k (by simpa using h) hk)) (List.sublist_append_right c _)
end Go.Proofs.YtdpdjpkmndnaaaaGreat
set_option linter.unusedVariables false
namespace Go.Proofs.YtdpdjpkmndnaaaaGreat
open Tryz
def pgB:(h:Nat)->BT h->List Nat
 | 0,b=>[b.1]
 | h+1,b=>b.1::(b.2.2.map (pgB h)).flatten
theorem aDv:∀ (l:List It) (c:List (List It)),c.length=l.length+1->(weave l c).length=l.length+(c.map List.length).sum
 | [],[c],_=>by simp [weave]
 | [],[],h=>by simp at h
 | [],_::_::_,h=>by simp at h
 | x::l,[],h=>by simp at h
 | x::l,c::cs,h=>by
  have:=aDv l cs (by simpa using h)
  simp only [weave,lA,List.length_cons,List.map_cons,List.sum_cons,this]
  omega
theorem hs_folda:∀ (L:List Nat) (ps:List Nat) (j:Nat),ps.length=64->(∀ x∈L,x<4096)->hsP (L.foldl adP ps) j=(hsP ps j || decide (j∈L))/\(L.foldl adP ps).length=64
 | [],ps,j,h,_=>by simp [h]
 | x::g,ps,j,h,hx=>by
  have e:=hs_folda g (adP ps x) j ((adP_len _ _).trans h) fun y hy=>hx y (List.mem_cons_of_mem _ hy)
  refine ⟨?_,e.2⟩
  rw [List.foldl_cons,e.1,hs_ad h (hx x List.mem_cons_self)]
  by_cases c1:j=x<;>by_cases c2:j∈g<;>simp [c1,c2]
def PgS (ps:List Nat) (l:List Nat):Prop:=ps.length=64/\l.Nodup/\(∀ x∈l,x<4096)/\∀ j,hsP ps j=decide (j∈l)
end Go.Proofs.YtdpdjpkmndnaaaaGreat
set_option linter.unusedVariables false
namespace Go.Proofs.YtdpdjpkmndnaaaaGreat
open Tryz
variable {l:List It} {st:StT}
theorem mem_weave:∀ (l:List It) (c:List (List It)) (x:It),x∈weave l c->x∈l\/∃ k∈c,x∈k
 | l,[],x,h=>by rw [weave_nil] at h;exact Or.inl h
 | [],c::_,x,h=>Or.inr ⟨c,List.mem_cons_self,h⟩
 | y::l,c::cs,x,h=>by
  rcases List.mem_append.1 (show x∈c++y::weave l cs from h) with h | h
  ·exact Or.inr ⟨c,List.mem_cons_self,h⟩
  ·rcases List.mem_cons.1 h with h | h
   ·exact Or.inl (by rw [h];exact List.mem_cons_self)
   ·rcases mem_weave l cs x h with h | ⟨k,h1,h2⟩
    ·exact Or.inl (List.mem_cons_of_mem _ h)
    ·exact Or.inr ⟨k,List.mem_cons_of_mem _ h1,h2⟩
def Tr (s:DS) (t:PS) (st:StT) (l:List It):Prop :=
 (st.root=0/\st.depth=0/\st.keys=0/\l=[]/\PgS st.pgs []) \/
 ∃ (h:Nat) (b:BT h),st.root=((BT.id b:Nat):Int)/\st.depth=((h+1:Nat):Int)/\st.keys=((l.length:Nat):Int)/\flB h b=l/\Srt l/\OnD s t h b/\ShB h b/\1<=(BT.it b).length/\PgS st.pgs (pgB h b)
theorem Tr.keys {s:DS} {t:PS} (h:Tr s t st l):st.keys=((l.length:Nat):Int):=by
 rcases h with ⟨_,_,h,rfl,_⟩ | ⟨h,b,e1,e2,e3,e4,e5,e6,e7,e8,e9⟩
 ·exact h
 ·exact e3
theorem deep:∀ {h:Nat} {b:BT h},ShB h b->2<=(BT.it b).length->3 ^ (h+1)<=(flB h b).length+1
 | 0,b,hs,h2=>by
  have h2:2<=b.2.length:=h2
  show 3<=b.2.length+1
  omega
 | h+1,b,⟨s1,s2,s3⟩,h2=>by
  have h2:2<=b.2.1.length:=h2
  have hw:(flB (h+1) b).length=b.2.1.length+((b.2.2.map (flB h)).map List.length).sum:=aDv _ _ (by rw [List.length_map];exact s2)
  have key:∀ (c:List (BT h)),(∀ k∈c,ShB h k/\2<=(BT.it k).length)->c.length*3 ^ (h+1)<=((c.map (flB h)).map List.length).sum+c.length:=by
   intro c
   induction c with
   | nil=>intro _;simp
   | cons k c ih =>
    intro hc;have i1:=ih fun x hx=>hc x (List.mem_cons_of_mem _ hx)
    obtain ⟨a1,a2⟩:=hc k List.mem_cons_self;have i2:=deep a1 a2;simp only [List.length_cons,List.map_cons,List.sum_cons,Nat.add_mul,Nat.one_mul];omega
  have hk:=key b.2.2 s3;have h3:3*3 ^ (h+1)<=b.2.2.length*3 ^ (h+1):=Nat.mul_le_mul_right _ (by omega);have e:3 ^ (h+1+1)=3*3 ^ (h+1):=by rw [Nat.pow_succ,Nat.mul_comm]
  omega
theorem deepR:∀ {h:Nat} {b:BT h},ShB h b->1<=(BT.it b).length->2*3 ^ h<=(flB h b).length+1
 | 0,b,hs,h2=>by
  have h2:1<=b.2.length:=h2
  show 2<=b.2.length+1
  omega
 | h+1,b,⟨s1,s2,s3⟩,h2=>by
  have h2:1<=b.2.1.length:=h2
  have hw:(flB (h+1) b).length=b.2.1.length+((b.2.2.map (flB h)).map List.length).sum:=aDv _ _ (by rw [List.length_map];exact s2)
  have key:∀ (c:List (BT h)),(∀ k∈c,ShB h k/\2<=(BT.it k).length)->c.length*3 ^ (h+1)<=((c.map (flB h)).map List.length).sum+c.length:=by
   intro c
   induction c with
   | nil=>intro _;simp
   | cons k c ih =>
    intro hc;have i1:=ih fun x hx=>hc x (List.mem_cons_of_mem _ hx)
    obtain ⟨a1,a2⟩:=hc k List.mem_cons_self;have i2:=deep a1 a2;simp only [List.length_cons,List.map_cons,List.sum_cons,Nat.add_mul,Nat.one_mul];omega
  have hk:=key b.2.2 s3;have h3:2*3 ^ (h+1)<=b.2.2.length*3 ^ (h+1):=Nat.mul_le_mul_right _ (by omega);omega
theorem Tr.depth80 {s:DS} {t:PS} (h:Tr s t st l) (hl:l.length<=100):0<=st.depth/\st.depth<=4:=by
 rcases h with ⟨_,h,_,rfl,_⟩ | ⟨h,b,e1,e2,e3,e4,e5,e6,e7,e8,e9⟩
 ·omega
 ·have:=deepR e7 e8;rw [e4] at this;have:h<=3:=by
   apply Classical.byContradiction;intro q;have h4:3 ^ 4<=3 ^ h:=Nat.pow_le_pow_right (by omega) (by omega);omega
  omega
section
variable {s:DS} {t:PS} {h:Nat} {b:BT h} {l:List It}
end
end Go.Proofs.YtdpdjpkmndnaaaaGreat
set_option linter.unusedVariables false
namespace Go.Proofs.YtdpdjpkmndnaaaaGreat
open Tryz
variable {j:Nat} {l:List It}
def frm (l:List It) (lo:List Nat):List It:=l.filter fun x=>decide (0<=cmpB x.1 lo)
theorem frm_app (a b:List It) (lo:List Nat):frm (a++b) lo=frm a lo++frm b lo:=List.filter_append ..
theorem frm_lo {lo:List Nat} (h:Lo l lo):frm l lo=[]:=by
 unfold frm;rw [List.filter_eq_nil_iff];intro x hx;have:=h x hx;simp;omega
theorem frm_all {lo:List Nat} (h:∀ x∈l,0<=cmpB x.1 lo):frm l lo=l:=by
 unfold frm;rw [List.filter_eq_self];intro x hx;simpa using h x hx
theorem wvL_end:∀ (l:List It) (cs:List (List It)) (z:It),cs.length=l.length->l.getLast?=some z->∃ a,wvL l cs=a++[z]:=by
 intro l
 induction l with
 | nil=>intro cs z _ h;simp at h
 | cons x l ih =>
  intro cs z hl h
  match cs,hl with
  | c::cs,hl =>
   cases l with
   | nil =>
    simp only [List.getLast?_singleton,oI] at h;subst h;refine ⟨c,?_⟩
    cases cs<;>simp [wvL]
   | cons x2 l =>
    rw [List.getLast?_cons_cons] at h;obtain ⟨a,ha⟩:=ih cs z (by simpa using hl) h;refine ⟨c++x::a,?_⟩;simp only [wvL] at ha ⊢;rw [ha];simp
theorem aG0 {cs:List (List It)} {x:It} {c:List It} (hx:l[j]?=some x) (hc:cs[j+1]?=some c):wvR (l.drop j) (cs.drop (j+1))=x::(c++wvR (l.drop (j+1)) (cs.drop (j+1+1))):=by
 have h1:l.drop j=x::l.drop (j+1):=by rw [<-(List.getElem?_eq_some_iff.1 hx).2,List.getElem_cons_drop]
 have h2:cs.drop (j+1)=c::cs.drop (j+1+1):=by rw [<-(List.getElem?_eq_some_iff.1 hc).2,List.getElem_cons_drop]
 rw [h1,h2];rfl
theorem wvR_end {cs:List (List It)} (hj:l.length<=j):wvR (l.drop j) (cs.drop (j+1))=[]:=by
 rw [List.drop_eq_nil_of_le hj];simp [wvR]
section
variable {l:List It} {cs:List (List It)} {lo:List Nat} {c:List It}
theorem frm_weave (hs:Srt (weave l cs)) (hl:cs.length=l.length+1) (hc:cs[fndI l lo]?=some c):frm (weave l cs) lo=(if hasI l lo then [] else frm c lo)++wvR (l.drop (fndI l lo)) (cs.drop (fndI l lo+1)):=by
 have hsl:Srt l:=List.Pairwise.sublist (aE6 l cs hl) hs;have hp:=hsl.part lo;have hle:=aKl l lo;have hw:=aDc l cs (fndI l lo) c hl hc;rw [hw] at hs;obtain ⟨p1,p2,p3⟩:=hs.app;obtain ⟨p4,p5,p6⟩:=p2.app;have q1:Lo (wvL (l.take (fndI l lo)) (cs.take (fndI l lo))) lo:=by
  intro y hy;by_cases q:fndI l lo=0
  ·rw [q] at hy;simp [wvL] at hy
  ·obtain ⟨z,hz⟩:∃ z,l[fndI l lo-1]?=some z:=⟨_,gE (by omega)⟩
   have hzk:cmpB z.1 lo<0:=hp.1 z (by
    have:(l.take (fndI l lo))[fndI l lo-1]?=some z:=by rw [List.getElem?_take_of_lt (by omega)];exact hz
    exact mG this)
   obtain ⟨a,ha⟩:=wvL_end (l.take (fndI l lo)) (cs.take (fndI l lo)) z (by simp;omega) (by
    rw [List.getLast?_eq_getElem?,List.length_take,Nat.min_eq_left (by omega),List.getElem?_take_of_lt (by omega)]
    exact hz)
   rw [ha] at hy p1;rcases List.mem_append.1 hy with hy | hy
   ·exact aA6 ((Srt.app p1).2.2 y hy z (by simp)) hzk
   ·simp at hy;subst hy;exact hzk
 have q2:∀ y∈wvR (l.drop (fndI l lo)) (cs.drop (fndI l lo+1)),0<=cmpB y.1 lo:=by
  intro y hy;by_cases q:fndI l lo=l.length
  ·rw [wvR_end (by omega)] at hy;simp at hy
  ·obtain ⟨z,hz⟩:∃ z,l[fndI l lo]?=some z:=⟨_,gE (by omega)⟩;obtain ⟨c2,hc2⟩:∃ c2,cs[fndI l lo+1]?=some c2:=⟨_,gE (by omega)⟩;rw [aG0 hz hc2] at hy p5
   have hz0:=hp.2 z (by
    have hd:l.drop (fndI l lo)=z::l.drop (fndI l lo+1):=by rw [<-(List.getElem?_eq_some_iff.1 hz).2,List.getElem_cons_drop]
    rw [hd];simp)
   rcases List.mem_cons.1 hy with hy | hy
   ·rw [hy];exact hz0
   ·have h1:=(List.pairwise_cons.1 p5).1 y hy;apply Classical.byContradiction;intro q3;have:=aA6 h1 (show cmpB y.1 lo<0 by omega);omega
 rw [hw,frm_app,frm_app,frm_lo q1,frm_all q2,List.nil_append]
 congr 1
 by_cases hh:hasI l lo=true
 ·rw [if_pos hh];obtain ⟨x,hx,ex⟩:=(hsl.has lo).1 hh;obtain ⟨c2,hc2⟩:∃ c2,cs[fndI l lo+1]?=some c2:=⟨_,gE (by have:=(lL hx);omega)⟩;rw [aG0 hx hc2] at p6;refine frm_lo fun y hy=>?_
  have:=p6 y hy x (by simp);rw [ex] at this;exact this
 ·rw [if_neg hh]
end
theorem Srt.kid {cs:List (List It)} {c:List It} (hs:Srt (weave l cs)) (hl:cs.length=l.length+1) (hc:c∈cs):Srt c:=List.Pairwise.sublist (aE7 l cs c hl hc) hs
end Go.Proofs.YtdpdjpkmndnaaaaGreat
set_option linter.unusedVariables false
namespace Go.Proofs.YtdpdjpkmndnaaaaGreat
open Go.RowKit Tryz
variable {B c g k n p q te:Nat} {Q:Exit->Act->World->Prop} {a:Option Addr} {fn:Func} {fz:Nat×Nat} {l:List It} {last now:StT} {left:Int} {ops:Array Oper} {ps xs:List Nat} {rest:List Oper} {sv v:Value} {t:TypeId} {w w' wr:World}
theorem info_pair:(prog.info? 99).map (fun i=>(i.zero,i.size,i.bytes))=some (some (.agg #[.int .i64 0,.slice none 0 0,.slice none 0 0]),3,56):=by kernel_rfl
abbrev CE:=Ch×Value×Value
def f4 (x:CE):List Value:=[.int .i64 x.1.sp,x.2.1,x.2.2,.bool x.1.gone]
def f3 (x:CE):List Value:=[.int .i64 x.1.sp,x.2.1,x.2.2]
def rC (f:CE->List Value) (kv:List CE):List Value:=kv.flatMap f
theorem aBi (x:CE):(f4 x).length=4:=rfl
theorem f3_len (x:CE):(f3 x).length=3:=rfl
theorem rC_len {f:CE->List Value} (hf:∀ x,(f x).length=k) (kv:List CE):(rC f kv).length=kv.length*k:=by
 induction kv with
 | nil=>simp [rC]
 | cons x kv ih =>
  show (f x++rC f kv).length=_;rw [lA,ih,hf,List.length_cons,Nat.add_mul];omega
theorem rC_app (f:CE->List Value) (a b:List CE):rC f (a++b)=rC f a++rC f b:=by simp [rC]
theorem rC_get {f:CE->List Value} {k:Nat} (hf:∀ x,(f x).length=k):∀ {kv:List CE} {i:Nat} {x:CE},kv[i]?=some x->∀ j,j<k->(rC f kv)[i*k+j]?=(f x)[j]?
 | [],i,x,h,_,_=>by simp at h
 | y::kv,0,x,h,j,hj=>by
  simp only [List.getElem?_cons_zero,oI] at h
  subst h
  show (f y++rC f kv)[0*k+j]?=_
  rw [List.getElem?_append_left (by rw [hf];omega),Nat.zero_mul,Nat.zero_add]
 | y::kv,i+1,x,h,j,hj=>by
  show (f y++rC f kv)[(i+1)*k+j]?=_
  rw [List.getElem?_append_right (by rw [hf,Nat.add_mul];omega),hf,show (i+1)*k+j-k=i*k+j by rw [Nat.add_mul];omega]
  exact rC_get hf (by simpa using h) j hj
def EvC (B:Nat) (w:World) (x:CE) (c:Ch):Prop:=x.1=c/\KV B w x.2.1 c.key/\KV B w x.2.2 c.val
theorem EvC.ft {x:CE} {c:Ch} (h:EvC B w x c) (f:FT B w w'):EvC B w' x c:=⟨h.1,h.2.1.ft f,h.2.2.ft f⟩
theorem EvC.one4 {x:CE} {c:Ch} (h:EvC B w x c):∀ u∈f4 x,u.oneCell'=true:=by
 obtain ⟨e,⟨a,d,e1,_⟩,⟨b,g,e2,_⟩⟩:=h;intro u hu;simp only [f4,List.mem_cons,List.not_mem_nil,or_false] at hu;rcases hu with rfl | rfl | rfl | rfl
 ·rfl
 ·rw [e1];rfl
 ·rw [e2];rfl
 ·rfl
theorem EvC.one3 {x:CE} {c:Ch} (h:EvC B w x c):∀ u∈f3 x,u.oneCell'=true:=by
 intro u hu;refine h.one4 u ?_;simp only [f3,f4,List.mem_cons,List.not_mem_nil,or_false] at hu ⊢;rcases hu with h | h | h<;>simp [h]
def RwK (te k:Nat) (f:CE->List Value) (B B1:Nat) (w:World) (v:Value) (F:List Ch):Prop:=∃ kv:List CE,kv.length=F.length/\w.ownsRow B1 te k v F.length (rC f kv)/\∀ (i:Nat) c x,F[i]?=some c->kv[i]?=some x->EvC B w x c
abbrev CRW (B B1:Nat) (w:World) (v:Value) (F:List Ch):Prop:=RwK 164 4 f4 B B1 w v F
abbrev PSW (B B1:Nat) (w:World) (v:Value) (F:List Ch):Prop:=RwK 99 3 f3 B B1 w v F
def RvK (k:Nat) (f:CE->List Value) (B:Nat) (w:World) (v:Value) (F:List Ch):Prop:=∃ (kv:List CE) (a:Option Addr) (c:Nat),v=.slice a F.length c/\kv.length=F.length/\(a=none->F=[]/\c=0)/\(∀ ad,a=some ad->∀ (j:Nat) u,(rC f kv)[j]?=some u->w.cell? (ad.add j)=some u)/\∀ (i:Nat) c x,F[i]?=some c->kv[i]?=some x->EvC B w x c
section
variable {te k:Nat} {f:CE->List Value} {B B1:Nat} {w w':World} {v:Value} {F:List Ch}
theorem RwK.form (h:RwK te k f B B1 w v F):∃ a c,v=.slice a F.length c:=by
 obtain ⟨kv,h1,⟨h2,h3⟩,h4⟩:=h;rcases h3 with ⟨e,h0⟩ | ⟨g,cap,cur,e,_⟩
 ·exact ⟨none,0,by rw [e,h0]⟩
 ·exact ⟨_,_,e⟩
theorem RwK.nil (te k:Nat) (f:CE->List Value) (B B1:Nat) (w:World):RwK te k f B B1 w (.slice none 0 0) []:=⟨[],rfl,⟨by simp [rC],Or.inl ⟨rfl,rfl⟩⟩,fun i c x h=>by simp at h⟩
theorem RwK.keep (h:RwK te k f B B1 w v F) (ft:FT B w w') (hk:∀ i,v.ownBlock=some i->w'.heap[i]?=w.heap[i]?):RwK te k f B B1 w' v F:=by
 obtain ⟨kv,h1,h2,h4⟩:=h;exact ⟨kv,h1,aB0 h2 fun i cs e1 e2=>(hk i e1).trans e2,fun i it x e1 e2=>(h4 i it x e1 e2).ft ft⟩
theorem RwK.blk (h:RwK te k f B B1 w v F) {i:Nat} (hk:v.ownBlock=some i):B1<=i/\i<w.heap.size/\∃ cur,w.heap[i]?=some (.cells cur te (0,0)):=by
 obtain ⟨kv,h1,h2,h4⟩:=h;obtain ⟨a,cur,c⟩:=aC5 h2 hk;exact ⟨a,(lO c),cur,c⟩
theorem RwK.later (h:RwK te k f B B1 w v F) (hb:Below w.heap.size w w') (hB:B<=w.heap.size):RwK te k f B B1 w' v F :=
 h.keep (FT.of hb hB) fun i hi=>hb.block i (h.blk hi).2.1
theorem RwK.mono (h:RwK te k f B B1 w v F) {B2:Nat} (hB:∀ i,v.ownBlock=some i->B2<=i):RwK te k f B B2 w v F:=by
 obtain ⟨kv,h1,⟨h2,h3⟩,h4⟩:=h;refine ⟨kv,h1,⟨h2,?_⟩,h4⟩;rcases h3 with h | ⟨g,cap,cur,e,h5,h6⟩
 ·exact Or.inl h
 ·exact Or.inr ⟨g,cap,cur,e,hB g (by rw [e];rfl),h6⟩
theorem RwK.rv (hk:∀ x,(f x).length=k) (h:RwK te k f B B1 w v F):RvK k f B w v F:=by
 obtain ⟨kv,h1,h2,h4⟩:=h;rcases h2.2 with ⟨e,h0⟩ | ⟨g,cap,cur,e,h5,h6,h7,h8,h9,h10⟩
 ·have e0:F=[]:=List.eq_nil_of_length_eq_zero h0;subst e0;exact ⟨kv,none,0,e,h1,fun _=>⟨rfl,rfl⟩,(fun ad hq=>by cases hq),h4⟩
 ·refine ⟨kv,_,_,e,h1,(fun q=>by cases q),fun ad hq j u hj=>?_,h4⟩;cases hq;rw [Addr.add_lit,Nat.zero_add,aAd h6,<-Array.getElem?_toList];rw [<-h10,List.getElem?_take] at hj
  split at hj
  ·exact hj
  ·cases hj
theorem RwK.at (hk:∀ x,(f x).length=k) (h:RwK te k f B B1 w v F) {j:Nat} {c:Ch} (hj:F[j]?=some c):∃ g cap x,v=.slice (some ⟨g,0,none⟩) F.length cap/\EvC B w x c/\∀ i,i<k->w.cell? ⟨g,j*k+i,none⟩=(f x)[i]?:=by
 obtain ⟨kv,h1,h2,h4⟩:=h;have hlt:=(lL hj);obtain ⟨x,hx⟩:∃ x,kv[j]?=some x:=⟨_,gE (by omega)⟩;rcases h2.2 with ⟨e,h0⟩ | ⟨g,cap,cur,e,h5,h6,h7,h8,h9,h10⟩
 ·omega
 ·refine ⟨g,cap,x,e,h4 j c x hj hx,fun i hi=>?_⟩;have hg:=rC_get hk hx i hi;obtain ⟨u,hu⟩:∃ u,(f x)[i]?=some u:=⟨_,gE (by rw [hk];exact hi)⟩;rw [hu] at hg ⊢;rw [aAd h6,<-Array.getElem?_toList];rw [<-h10,List.getElem?_take] at hg
  split at hg
  ·exact hg
  ·cases hg
theorem RvK.one (hk:∀ x,(f x).length=k) {g:Nat} {t:TypeId} {fz:Nat×Nat} {x:CE} {c:Ch} (h:w.heap[g]?=some (.cells (f x).toArray t fz)) (hx:EvC B w x c):RvK k f B w (.slice (some ⟨g,0,none⟩) 1 1) [c]:=by
 refine ⟨[x],_,_,rfl,rfl,(fun q=>by cases q),fun ad hq j u hj=>?_,fun i it y h1 h2=>?_⟩
 ·cases hq;rw [Addr.add_lit,Nat.zero_add,cell_of_row w g j _ _ _ h];simpa [rC] using hj
 ·have:i=0:=by
   have:=(lL h1);simp at this;omega
  subst this;simp at h1 h2;subst h1 h2;exact hx
end
theorem aKf:(prog.info? 164).map (fun i=>(i.zero,i.size,i.bytes))=some (some (.agg #[.int .i64 0,.slice none 0 0,.slice none 0 0,.bool false]),4,64):=by kernel_rfl
theorem aGj {ts bt:Nat} {z:Value} {f:CE->List Value} (hk:∀ x,(f x).length=k) (hk1:0<k) (hf1:∀ {B w x c},EvC B w x c->∀ u∈f x,u.oneCell'=true) (hu:prog.underlying ts=some (.slice te)) (hinfo:(prog.info? te).map (fun i=>(i.zero,i.size,i.bytes))=some (some z,k,bt)) (hzc:z.cells.size=k) (hbt:bt<=64) (hte:te≠5)
  {o:Oper} {a:Act} {K:Act->World->Prop} {Q:Exit->Act->World->Prop} {wr:World} (s x:Operand)
  (ho:o.op=.call { callee:=.builtin .append,args:=#[s,x],argTypes:=#[ts,ts] })
  {B B1:Nat} {v u:Value} {F G:List Ch} (hs:a.eval s=v) (hx:a.eval x=u) (hF:RwK te k f B B1 wr v F) (hG:RvK k f B wr u G) (hB:B<=B1) (hB1:B1<=wr.heap.size) (hsize:F.length+G.length<=100000)
  (h:∀ v' w',RwK te k f B B1 w' v' (F++G)->FT B wr w'->(∀ i,i<wr.heap.size->v.ownBlock≠some i->w'.heap[i]?=wr.heap[i]?)->Below B1 wr w'->(v'.ownBlock=v.ownBlock\/v'.ownBlock=some wr.heap.size)->K (a.put o.dst v') w'):Oper.wp prog o a wr K Q:=by
 obtain ⟨i0,hi,hz0,hz1,hz2⟩:=info_parts hinfo;obtain ⟨kf,hkl,hown,hall⟩:=hF;obtain ⟨kg,ga,cap,hv,hgl,hnil,hcell,hall2⟩:=hG
 cases ga with
 | none =>
  obtain ⟨e,rfl⟩:=hnil rfl;subst e;have hrun:=run_append_owned_none (P:=prog) (w:=wr) B1 ts o.type te i0 k hu hi v F.length (rC f kf) hown;have hx':a.eval x=.slice none 0 0:=hx.trans hv;have hK:=h v wr (by rw [List.append_nil];exact ⟨kf,hkl,hown,hall⟩) (FT.refl _ _) (fun _ _ _=>rfl) (Below.refl _ _) (Or.inl rfl);unfold Oper.wp;simp [execOp,ho,resolve,invoke,builtin,hs,hx',hrun,Result.andThen];exact hK
 | some ad =>
  have hbt2:(F.length+G.length)*bt<=140737488355328:=nT (Nat.mul_le_mul hsize hbt) (by omega);have hone:∀ u∈rC f kg,u.oneCell'=true:=by
   intro u hu;unfold rC at hu;rw [List.mem_flatMap] at hu;obtain ⟨x,hx,hu⟩:=hu;obtain ⟨i,hi⟩:=List.getElem?_of_mem hx;obtain ⟨c,hc⟩:∃ c,G[i]?=some c:=⟨_,gE (by have:=(lL hi);omega)⟩;exact hf1 (hall2 i c x hc hi) u hu
  obtain ⟨v',w',hr,h1,h2,h4,h5⟩:=run_append_own_at (P:=prog) wr B1 ts o.type te i0 z k bt hu hi hz0 hz1 hz2 hzc hk1 v F.length (rC f kf) hown ad G.length cap (rC f kg) (by rw [rC_len hk,hgl]) (hcell ad rfl) hone (by unfold maxLen;omega) hbt2 hB1;have hx':=hx.trans hv;unfold Oper.wp execOp;simp only [ho,resolve,invoke,builtin,Sem.run_bind,Sem.run_pure,Result.andThen_ok,List.map_toArray,List.map_cons,List.map_nil,hs,hx',hr];have keep:∀ (i:Nat) (c0:Array Value) (t0:TypeId) (fz:Nat×Nat),wr.heap[i]?=some (Obj.cells c0 t0 fz)->t0≠te->w'.heap[i]?=some (Obj.cells c0 t0 fz):=by
   intro i c0 t0 fz e ht;rw [h2.block i (lO e) ?_,e];intro q9;obtain ⟨_,cur9,hc9⟩:=aC5 hown q9.symm;rw [hc9] at e;simp only [oI,cI] at e;exact ht e.2.1.symm
  have bel:Below B1 wr w':=(Below.refl B1 _).grown h2 hB1 (fun i hi=>(hown.lt i hi).1);have hft:FT B wr w':=⟨bel.mono hB,fun i c0 fz e=>keep i c0 _ fz e (Ne.symm hte)⟩;refine h v' w' ⟨kf++kg,by simp [hkl,hgl],?_,fun i it y e1 e2=>?_⟩ hft (fun i hi hn=>h2.block i hi (fun e=>hn e.symm)) bel h5
  ·rw [lA,rC_app];exact h1
  ·by_cases c:i<F.length
   ·rw [List.getElem?_append_left c] at e1;rw [List.getElem?_append_left (by omega)] at e2;exact (hall i it y e1 e2).ft hft
   ·rw [List.getElem?_append_right (by omega)] at e1 e2;rw [hkl] at e2;exact (hall2 _ it y e1 e2).ft hft
theorem aCc {o:Oper} {a:Act} {K:Act->World->Prop} (s x:Operand)
  (ho:o.op=.call { callee:=.builtin .append,args:=#[s,x],argTypes:=#[122,122] })
  {B B1:Nat} {v u:Value} {F G:List Ch} (hs:a.eval s=v) (hx:a.eval x=u) (hF:CRW B B1 wr v F) (hG:RvK 4 f4 B wr u G) (hB:B<=B1) (hB1:B1<=wr.heap.size) (hsize:F.length+G.length<=100000)
  (h:∀ v' w',CRW B B1 w' v' (F++G)->FT B wr w'->(∀ i,i<wr.heap.size->v.ownBlock≠some i->w'.heap[i]?=wr.heap[i]?)->Below B1 wr w'->(v'.ownBlock=v.ownBlock\/v'.ownBlock=some wr.heap.size)->K (a.put o.dst v') w'):Oper.wp prog o a wr K Q :=
 aGj aBi (by omega) (fun h=>h.one4) underlying122 aKf rfl (by omega) (by decide) s x ho hs hx hF hG hB hB1 hsize h
theorem aHg {o:Oper} {a:Act} (hw:Region.wanted o (yielded ops a.tmps)=true) (s x:Operand)
  (ho:o.op=.call { callee:=.builtin .append,args:=#[s,x],argTypes:=#[122,122] })
  {B B1:Nat} {v u:Value} {F G:List Ch} (hs:a.eval s=v) (hx:a.eval x=u) (hF:CRW B B1 wr v F) (hG:RvK 4 f4 B wr u G) (hB:B<=B1) (hB1:B1<=wr.heap.size) (hsize:F.length+G.length<=100000)
  (h:∀ v' w',CRW B B1 w' v' (F++G)->FT B wr w'->(∀ i,i<wr.heap.size->v.ownBlock≠some i->w'.heap[i]?=wr.heap[i]?)->Below B1 wr w'->(v'.ownBlock=v.ownBlock\/v'.ownBlock=some wr.heap.size)->wpList prog ops Q rest (a.put o.dst v') w'):wpList prog ops Q (o::rest) a wr :=
 wpList_step fun K hK=>by
  rw [if_pos hw];exact aCc s x ho hs hx hF hG hB hB1 hsize fun v' w' p1 p2 p3 p4 p5=>hK _ _ (h v' w' p1 p2 p3 p4 p5)
theorem aHf {o:Oper} {a:Act} (hw:Region.wanted o (yielded ops a.tmps)=true) (s x:Operand)
  (ho:o.op=.call { callee:=.builtin .append,args:=#[s,x],argTypes:=#[94,94] })
  {B B1:Nat} {v u:Value} {F G:List Ch} (hs:a.eval s=v) (hx:a.eval x=u) (hF:PSW B B1 wr v F) (hG:RvK 3 f3 B wr u G) (hB:B<=B1) (hB1:B1<=wr.heap.size) (hsize:F.length+G.length<=100000)
  (h:∀ v' w',PSW B B1 w' v' (F++G)->FT B wr w'->(∀ i,i<wr.heap.size->v.ownBlock≠some i->w'.heap[i]?=wr.heap[i]?)->Below B1 wr w'->(v'.ownBlock=v.ownBlock\/v'.ownBlock=some wr.heap.size)->wpList prog ops Q rest (a.put o.dst v') w'):wpList prog ops Q (o::rest) a wr :=
 wpList_step fun K hK=>by
  rw [if_pos hw];exact aGj f3_len (by omega) (fun h=>h.one3) underlying94 info_pair rfl (by omega) (by decide) s x ho hs hx hF hG hB hB1 hsize fun v' w' p1 p2 p3 p4 p5=>hK _ _ (h v' w' p1 p2 p3 p4 p5)
theorem Ex.keepX {cs cs':Array Value} {T0:TypeId} {fz0:Nat×Nat} (h:Ex B [g] w w') (hg:w.heap[g]?=some (.cells cs T0 fz0)) (hk:w.heap[k]?=some (.cells cs' t fz)) (ht:t≠T0):w'.heap[k]?=some (.cells cs' t fz):=by
 rw [h.2 k (lO hk) ?_,hk];intro q9;simp only [List.mem_singleton] at q9;subst q9;rw [hg] at hk;simp only [oI,cI] at hk;exact ht hk.2.1.symm
structure TM [Gd] (B p q g:Nat) (s:DS) (t:PS) (now last:StT) (sv:Value) (left:Int) (w:World):Prop where
 st:ST B p q s t w
 bw:B<=w.heap.size
 bg:B<=g
 tv:∃ cs,w.heap[g]?=some (.cells cs 214 (0,0))/\TV cs p q now last sv left false
 lf:s.life=t.life
 dn:s.down=false
 af:s.after<1
 l1:s.life<100000
 sn:t.st.length=s.n
 hd:t.st.getD 0 0=0/\t.st.getD 1 0=0
theorem TM.later [Gd] {s:DS} {t:PS} (h:TM B p q g s t now last sv left w) (hb:Below w.heap.size w w'):TM B p q g s t now last sv left w':=by
 obtain ⟨cs,h1,h2⟩:=h.tv;exact ⟨h.st.later hb,nT h.bw hb.size,h.bg,⟨cs,(hb.block g (lO h1)).trans h1,h2⟩,h.lf,h.dn,h.af,h.l1,h.sn,h.hd⟩
theorem id_mem:∀ {h:Nat} (b:BT h),BT.id b∈pgB h b
 | 0,_=>List.mem_singleton.2 rfl
 | _+1,_=>List.mem_cons_self
def valL (L:List It) (k:List Nat):Option (List Nat):=(L.find? fun y=>decide (y.1=k)).map (·.2)
theorem Srt.inj {L:List It} (hs:Srt L) {x y:It} (hx:x∈L) (hy:y∈L) (h:x.1=y.1):x=y:=by
 obtain ⟨i,hi,rfl⟩:=List.getElem_of_mem hx;obtain ⟨j,hj,rfl⟩:=List.getElem_of_mem hy;have hp:=List.pairwise_iff_getElem.1 hs;rcases Nat.lt_trichotomy i j with q | q | q
 ·have:=hp i j hi hj q;rw [h,aAu] at this;omega
 ·subst q;rfl
 ·have:=hp j i hj hi q;rw [h,aAu] at this;omega
theorem aG1 {L:List It} (hs:Srt L) {x:It} (hx:x∈L):valL L x.1=some x.2:=by
 unfold valL
 cases h:L.find? fun y=>decide (y.1=x.1) with
 | none =>
  have:=List.find?_eq_none.1 h x hx;simp at this
 | some y =>
  have h1:=List.mem_of_find?_eq_some h;have h2:=List.find?_some h;simp only [decide_eq_true_eq] at h2;rw [hs.inj h1 hx h2];rfl
theorem aHj {L:List It} {k:List Nat} (h:∀ x∈L,x.1≠k):valL L k=none:=by
 unfold valL;rw [List.find?_eq_none.2 fun x hx=>by simpa using h x hx];rfl
theorem valL_same {L M:List It} (hs:Srt L) (hsm:Srt M) {k:List Nat} (h1:∀ x∈M,x∈L) (h2:∀ x∈L,x.1=k->x∈M):valL L k=valL M k:=by
 by_cases c:∃ x∈M,x.1=k
 ·obtain ⟨x,hx,rfl⟩:=c;rw [aG1 hs (h1 x hx),aG1 hsm hx]
 ·rw [aHj (L:=M) fun x hx q=>c ⟨x,hx,q⟩,aHj fun x hx q=>c ⟨x,h2 x hx q,q⟩]
theorem aHi:∀ (l:List It) (c:List (List It)),c.length=l.length+1->∀ x∈l,x∈weave l c:=fun l c h x hx=>(aE6 l c h).subset hx
theorem valL_kid {cs:List (List It)} {c:List It} {k:List Nat} (hs:Srt (weave l cs)) (hl:cs.length=l.length+1) (hc:cs[fndI l k]?=some c) (hh:hasI l k=false):valL (weave l cs) k=valL c k:=by
 refine valL_same hs (Srt.kid hs hl (mG hc)) (fun x hx=>(aE7 l cs c hl (mG hc)).subset hx) fun x hx ek=>?_
 have e0:0<=cmpB x.1 k:=by rw [ek,aAu];omega
 have hf:x∈frm (weave l cs) k:=List.mem_filter.2 ⟨hx,by simpa using e0⟩;rw [frm_weave hs hl hc,hh] at hf;simp only [Bool.false_eq_true,if_false] at hf;rcases List.mem_append.1 hf with q | q
 ·exact (List.mem_filter.1 q).1
 ·exfalso;have hsl:Srt l:=List.Pairwise.sublist (aE6 l cs hl) hs;have hle:=aKl l k;by_cases e:fndI l k=l.length
  ·rw [wvR_end (by omega)] at q;simp at q
  ·obtain ⟨z,hz⟩:∃ z,l[fndI l k]?=some z:=⟨_,gE (by omega)⟩;obtain ⟨c2,hc2⟩:∃ c2,cs[fndI l k+1]?=some c2:=⟨_,gE (by omega)⟩;have hw:=aDc l cs (fndI l k) c hl hc;rw [hw] at hs;have p5:=hs.app.2.1.app.2.1
   have hz0:=(hsl.part k).2 z (by
    have hd:l.drop (fndI l k)=z::l.drop (fndI l k+1):=by rw [<-(List.getElem?_eq_some_iff.1 hz).2,List.getElem_cons_drop]
    rw [hd];simp)
   have hzk:cmpB z.1 k≠0:=fun q3=>by
    have:=(hsl.has k).2 ⟨z,hz,aDm q3⟩;rw [hh] at this;cases this
   rw [aG0 hz hc2] at q p5;rcases List.mem_cons.1 q with q | q
   ·rw [q] at ek;rw [ek,aAu] at hzk;exact hzk rfl
   ·have h1:=(List.pairwise_cons.1 p5).1 x q;rw [ek] at h1;omega
def VlR (B:Nat) (o:Option (List Nat)) (e:Ending) (w':World):Prop:=match o with
 | some x=>∃ v,e=.returned (.tuple #[v,.bool true])/\KV B w' v x
 | none=>e=.returned (.tuple #[.slice none 0 0,.bool false])
def VlI (s:DS) (t:PS) (o:Option (List Nat)) (k:List Nat) (a d:Value):Prop :=
 (d=.int .i64 0/\o=none/\∃ i:Nat,a=.int .i64 (i:Int))\/∃ (h:Nat) (b:BT h),a=.int .i64 (BT.id b:Int)/\d=.int .i64 ((h:Int)+1)/\h<100000/\OnD s t h b/\Srt (flB h b)/\valL (flB h b) k=o
theorem valueIn_any [Gd] {gs so:Nat} {s:DS} {t:PS} {st:StT} (hST:ST B p q s t w) (hB:B<=w.heap.size) (hlf:s.life=t.life) (hdn:s.down=false) (hTr:Tr s t st l) (hdp:st.depth<100000) (hr0:w.cell? ⟨gs,so,none⟩=some (.int .i64 st.root)) (hd0:w.cell? ⟨gs,so+1,none⟩=some (.int .i64 st.depth)) {ka:Option Addr} {kn kc:Nat} {key:List Nat} (hk:BK B w ka kn kc key) :
  Calls prog 228 #[.pointer (some ⟨q,0,none⟩),.pointer (some ⟨gs,so,none⟩),.slice ka kn kc] w fun e w'=>VlR B (valL l key) e w'/\Below w.heap.size w w':=by
 have HST:=zH hST;have HB:=zH hB;have HK:=zH hk;have HI0:Hid (VlI s t (valL l key) key (.int .i64 st.root) (.int .i64 st.depth)):=by
  rcases hTr with ⟨r1,r2,r3,r4,r5⟩ | ⟨h,b,q1,q2,q3,q4,q5,q6,q7,q8,q9⟩
  ·subst r4;exact Or.inl ⟨by rw [r2],rfl,0,by rw [r1];rfl⟩
  ·exact Or.inr ⟨h,b,by rw [q1],by rw [q2];simp,by omega,q6,by rw [q4];exact q5,by rw [q4]⟩
 clear hST hB hTr hdp hk;generalize st.root=rt at *
 generalize st.depth=dp at *
 generalize valL l key=o at *
 go_enter func228,ntmps228;go_wp2_with fail;go_loopw [8,9] (fun a d wx=>VlI s t o key a d/\Below w.heap.size w wx) (fun _ d _=>(intOf d).toNat)
 case atStart=>exact ⟨HI0.o,Below.refl _ _⟩
 case round =>
  obtain ⟨hI,hbr⟩:=hrel;have HBR:=zH hbr;have HBw:Hid (B<=wr.heap.size):=nT HB.o hbr.size;rcases hI with ⟨rfl,rfl,i0,rfl⟩ | ⟨h,b,rfl,rfl,hh,hon,hsr,hvl⟩
  ·clear hbr;go_wp2;(try simp only [Exit.inBlock,Exit.then]);go_ret2;exact ⟨rfl,HBR.o⟩
  ·have HVL:=zH hvl;have HSR:=zH hsr
   cases h with
   | zero =>
    obtain ⟨hpg,hit⟩:=hon;have HLD:=zH (aJ8 b.1 (HST.o.later hbr) HBw.o hlf hpg.lt (by rw [hpg.of];decide) hdn b.2 hpg.pg hit.n1 hit.n4 hit.ok hit.so hpg.ln hpg.bt);have HIT:=zH hit;have hl4:=hit.n4;clear hpg hit hvl hsr hbr;generalize hl:b.2=l0 at *
    generalize hLL:l0.length=L at *
    generalize hFi:fndI l0 key=Fi at *
    generalize hhb:hasI l0 key=hb0 at *
    have HBI:Hid (flB 0 b=l0):=hl;have x0:(0:Int)<((0:Nat):Int)+1:=by omega
    have x1:((0:Nat):Int)+1=1:=rfl;rw [x1];go_wp2_with fail;refine HLD.o.mono ?_;rintro e w1 ⟨v1,rfl,⟨gl,gi,rfl,z1,z2,z3,z4⟩,hb1⟩;rw [hLL] at z3;have HZ3:=zH z3;have HIO:=zH (aD6 z3);have HBw1:Hid (B<=w1.heap.size):=nT HBw.o hb1.size;have HB1:Hid (Below w.heap.size w w1):=HBR.o.trans (hb1.mono HBR.o.size);have HFN:Hid (Calls prog 219 #[.slice (some ⟨gi,0,none⟩) L L,.slice ka kn kc] w1 fun e w'=>e=.returned (.tuple #[.int .i64 (Fi:Int),.bool hb0])/\Below w1.heap.size w1 w'):=by
     have:=find_ok z4 HBw1.o ((HK.o.later HB1.o HB.o).1) (by omega) HIT.o.so hLL;rw [hFi,hhb] at this;exact this
    have HZ4:=zH z4;clear z3 z4 hb1 HLD;unfold lfP at HIO;go_wp2_with fail;refine HIO.o.mono ?_;rintro e w1' ⟨rfl,rfl⟩;go_wp2_with fail;refine HFN.o.mono ?_;rintro e w2 ⟨rfl,hb2⟩;have HIR2:=zH (HZ4.o.later hb2 HBw1.o);have HB2:Hid (Below w.heap.size w w2):=HB1.o.trans (hb2.mono HB1.o.size);have HG2:=zH ((hb2.block gl (lO HZ3.o)).trans HZ3.o);have ta:=aDo (.pointer (some ⟨gl,0,none⟩)) w2;clear hb2 HFN HIO HZ4 HZ3
    cases hb0 with
    | true =>
     obtain ⟨x,hx,hxk⟩:=(HIT.o.so.has key).1 hhb;have hFL:Fi<L:=by
      rw [hFi] at hx;have:=(lL hx);omega
     rw [hFi] at hx;obtain ⟨kf,vf,hg1,hg2⟩:=HIR2.o;rw [hLL] at hg1;obtain ⟨hk1,hv1⟩:=hg2 Fi x hx;have HVV:=zH hv1;have y6:w2.cell? ⟨gi,Fi*2+1,none⟩=some (vf Fi):=by rw [aAd hg1,List.getElem?_toArray];exact aDd kf vf Fi L hFL
     have xF:(Fi:Int)<(L:Int):=by omega
     have HOV:Hid (o=some x.2):=by
      show _=_;rw [<-HVL.o,<-hxk];exact aG1 HSR.o (by rw [HBI.o];exact mG hx)
     have HIO2:=zH (by have h9:=aD6 HG2.o;unfold lfP at h9;exact h9);obtain ⟨va,vc,hva,_⟩:=hv1;rw [hva] at y6 HVV;generalize hvn:x.2.length=vn at *
     clear hg1 hg2 hk1 hva;go_wp2_with fail;refine HIO2.o.mono ?_;rintro e w4 ⟨rfl,rfl⟩;go_wp2;(try simp only [Exit.inBlock,Exit.then]);go_ret2;refine ⟨?_,HB2.o⟩;rw [HOV.o];exact ⟨_,rfl,HVV.o⟩
    | false =>
     have HOV:Hid (o=none):=by
      show _=_;rw [<-HVL.o,HBI.o];refine aHj fun x hx q9=>?_
      have:hasI l0 key=true:=by
       simp only [hasI,List.contains_eq_mem,List.mem_map,decide_eq_true_eq];exact ⟨x,hx,q9⟩
      rw [hhb] at this;cases this
     go_wp2_with fail;go_roundw
     case rel=>exact ⟨Or.inl ⟨by go_num,HOV.o,b.1,rfl⟩,HB2.o⟩
     case measure=>simp [intOf]
   | succ h =>
    obtain ⟨hpg,hit,hcl,hid,hkd⟩:=hon;have hidl:(b.2.2.map BT.id).length=b.2.1.length+1:=by rw [List.length_map];exact hcl
    have HLD:=aH4 b.1 (h+2) (by omega) (HST.o.later hbr) HBw.o hlf hpg.lt (by rw [hpg.of];decide) hdn b.2.1 (b.2.2.map BT.id) hpg.pg hidl (by intro x hx;obtain ⟨k,hk,rfl⟩:=List.mem_map.1 hx;exact hid k hk) hit.n1 hit.n4 hit.ok hit.so hpg.ln hpg.bt;rw [show (((h+2:Nat):Nat):Int)=(h:Int)+1+1 by omega] at HLD
    replace HLD:=zH HLD
    have HIT:=zH hit;have hl4:=hit.n4;have HKD:=zH hkd;have HCL:=zH hcl;have hfl:=aKl b.2.1 key;have HSW:Hid (Srt (weave b.2.1 (b.2.2.map (flB h)))):=hsr;have HBI:Hid (flB (h+1) b=weave b.2.1 (b.2.2.map (flB h))):=rfl;have HCS:Hid ((b.2.2.map (flB h)).length=b.2.1.length+1):=by rw [List.length_map];exact hcl
    clear hpg hit hvl hsr hbr hid hkd;have hn2:(b.2.2.map BT.id).length=b.2.1.length+1:=hidl;generalize hl:b.2.1=l0 at *
    generalize hLL:l0.length=L at *
    generalize hFi:fndI l0 key=Fi at *
    generalize hhb:hasI l0 key=hb0 at *
    have x0:(0:Int)<(((h+1:Nat):Nat):Int)+1:=by omega
    have x1:(((h+1:Nat):Nat):Int)+1=(h:Int)+1+1:=by omega
    rw [x1];rw [x1] at x0;go_wp2_with fail;refine HLD.o.mono ?_;rintro e w1 ⟨v1,rfl,⟨gb,gi,gc,rfl,z1,z2,z5,z3,z4,z6⟩,hb1⟩;rw [hLL,hn2] at z3;have HZ3:=zH z3;have HIO:=zH (aCu z3);have HBw1:Hid (B<=w1.heap.size):=nT HBw.o hb1.size;have HB1:Hid (Below w.heap.size w w1):=HBR.o.trans (hb1.mono HBR.o.size);have HFN:Hid (Calls prog 219 #[.slice (some ⟨gi,0,none⟩) L L,.slice ka kn kc] w1 fun e w'=>e=.returned (.tuple #[.int .i64 (Fi:Int),.bool hb0])/\Below w1.heap.size w1 w'):=by
     have:=find_ok z4 HBw1.o ((HK.o.later HB1.o HB.o).1) (by omega) HIT.o.so hLL;rw [hFi,hhb] at this;exact this
    have HZ4:=zH z4;have HZ6:=zH z6;clear z3 z4 z6 hb1 HLD;unfold brP at HIO;go_wp2_with fail;refine HIO.o.mono ?_;rintro e w1' ⟨rfl,rfl⟩;go_wp2_with fail;refine HFN.o.mono ?_;rintro e w2 ⟨rfl,hb2⟩;have HIR2:=zH (HZ4.o.later hb2 HBw1.o);have HB2:Hid (Below w.heap.size w w2):=HB1.o.trans (hb2.mono HB1.o.size);have HG2:=zH ((hb2.block gb (lO HZ3.o)).trans HZ3.o);have HGC2:=zH ((hb2.block gc (lO HZ6.o)).trans HZ6.o);have ta:=aCw (.pointer (some ⟨gb,0,none⟩)) w2;clear hb2 HFN HIO HZ4 HZ3 HZ6
    cases hb0 with
    | true =>
     obtain ⟨x,hx,hxk⟩:=(HIT.o.so.has key).1 hhb;have hFL:Fi<L:=by
      rw [hFi] at hx;have:=(lL hx);omega
     rw [hFi] at hx;obtain ⟨kf,vf,hg1,hg2⟩:=HIR2.o;rw [hLL] at hg1;obtain ⟨hk1,hv1⟩:=hg2 Fi x hx;have HVV:=zH hv1;have y6:w2.cell? ⟨gi,Fi*2+1,none⟩=some (vf Fi):=by rw [aAd hg1,List.getElem?_toArray];exact aDd kf vf Fi L hFL
     have xF:(Fi:Int)<(L:Int):=by omega
     have HOV:Hid (o=some x.2):=by
      show _=_;rw [<-HVL.o,<-hxk];exact aG1 HSR.o (by rw [HBI.o];exact aHi _ _ (by rw [hLL];exact HCS.o) _ (mG hx))
     have HIO2:=zH (by have h9:=aCu HG2.o;unfold brP at h9;exact h9);obtain ⟨va,vc,hva,_⟩:=hv1;rw [hva] at y6 HVV;generalize hvn:x.2.length=vn at *
     clear hg1 hg2 hk1 hva;go_wp2_with fail;refine HIO2.o.mono ?_;rintro e w4 ⟨rfl,rfl⟩;go_wp2;(try simp only [Exit.inBlock,Exit.then]);go_ret2;refine ⟨?_,HB2.o⟩;rw [HOV.o];exact ⟨_,rfl,HVV.o⟩
    | false =>
     obtain ⟨kb,hkb⟩:∃ kb,b.2.2[Fi]?=some kb:=⟨_,gE (by have:=HCL.o;omega)⟩;have hkm:=mG hkb;have HOV:Hid (valL (flB h kb) key=o):=by
      show _=_;rw [<-HVL.o,HBI.o];exact (valL_kid HSW.o (by rw [hLL];exact HCS.o) (by rw [hFi,List.getElem?_map,hkb];rfl) hhb).symm
     have HKS:Hid (Srt (flB h kb)):=Srt.kid HSW.o (by rw [hLL];exact HCS.o) (List.mem_map_of_mem hkm);have HKO:=zH (HKD.o kb hkm);have g1:w2.cell? ⟨gb,1,none⟩=some (.slice (some ⟨gc,0,none⟩) (L+1) (L+1)):=aAd HG2.o;have g2:w2.cell? ⟨gc,Fi,none⟩=some (.iface 257 (.int .i64 (BT.id kb:Int))):=by
      rw [aAd HGC2.o,List.getElem?_toArray,List.getElem?_map,List.getElem?_map,hkb];rfl
     have g3:=asr_place (.int .i64 (BT.id kb:Int)) w2;have xl:(Fi:Int)<((L+1:Nat):Int):=by omega
     clear hkb hkm;go_wp2_with fail;go_roundw
     case rel=>exact ⟨Or.inr ⟨h,kb,rfl,by go_num,by omega,HKO.o,HKS.o,HOV.o⟩,HB2.o⟩
     case measure=>simp [intOf];omega
theorem aA3:∀ (l:List Obj) (w:World),Below w.heap.size w (l.foldl World.alloc w)/\(l.foldl World.alloc w).heap.size=w.heap.size+l.length
 | [],w=>⟨Below.refl _ _,rfl⟩
 | o::l,w=>by
  have h:=aA3 l (w.alloc o)
  have b:=aAk w o
  have e:(w.alloc o).heap.size=w.heap.size+1:=Array.size_push _
  refine ⟨b.trans (h.1.mono b.size),?_⟩
  rw [List.foldl_cons,h.2,e,List.length_cons]
  omega
theorem aAp:∀ (l:List Obj) (w:World) (i:Nat) (o:Obj),l[i]?=some o->(l.foldl World.alloc w).heap[w.heap.size+i]?=some o
 | [],w,i,o,h=>by simp at h
 | a::l,w,0,o,h=>by
  simp only [List.getElem?_cons_zero,oI] at h
  subst h
  have e:(w.alloc a).heap.size=w.heap.size+1:=Array.size_push _
  have hb:=(aA3 l (w.alloc a)).1
  rw [List.foldl_cons,Nat.add_zero,hb.block _ (by omega)]
  exact heap_alloc_new w a
 | a::l,w,i+1,o,h=>by
  have e:(w.alloc a).heap.size=w.heap.size+1:=Array.size_push _
  have:=aAp l (w.alloc a) i o (by simpa using h)
  rw [e,show w.heap.size+1+i=w.heap.size+(i+1) by omega] at this
  exact this
theorem Ex.ftX {cs:Array Value} {T0:TypeId} (f:Ex B [g] w w') (hg:w.heap[g]?=some (.cells cs T0 fz)) (h0:5≠T0):FT B w w':=⟨f.1,fun k cs' fz e=>f.keepX hg e h0⟩
theorem results_cct {p q u:Tmp} {ty ty2:TypeId} (h:fn.results=#[.cell p ty,.cell q ty2,.tmp u]) (tmps:Array Value) (P:Program) (w:World) {a b:Addr} {v1 v2:Value} (hp:tmps.getD p undef=.pointer (some a)) (hq:tmps.getD q undef=.pointer (some b)) (h1:(loadVar ty a).run P w=.ok v1 w) (h2:(loadVar ty2 b).run P w=.ok v2 w) :
  (results fn tmps).run P w=.ok (.tuple #[v1,v2,tmps.getD u undef]) w:=by
 have hp':tmps[p]?.getD undef=.pointer (some a):=by simpa using hp
 have hq':tmps[q]?.getD undef=.pointer (some b):=by simpa using hq
 simp [results,h,hp',hq',asAddr,Sem.run_bind,Result.andThen,h1,h2]
def VlV (B:Nat) (w:World) (o:Option (List Nat)) (v:Value) (isb:Bool):Prop:=match o with
 | some x=>isb=true/\KV B w v x
 | none=>isb=false/\v=.slice none 0 0
theorem VlV.ft {o:Option (List Nat)} {isb:Bool} (h:VlV B w o v isb) (f:FT B w w'):VlV B w' o v isb:=by
 cases o with
 | some x=>exact ⟨h.1,h.2.ft f⟩
 | none=>exact h
theorem VlV.form {o:Option (List Nat)} {isb:Bool} (h:VlV B w o v isb):∃ a n c,v=.slice a n c:=by
 cases o with
 | some x=>obtain ⟨a,c,e,_⟩:=h.2;exact ⟨a,_,c,e⟩
 | none=>exact ⟨none,0,0,h.2⟩
theorem VlR.vv {o:Option (List Nat)} {e:Ending} (h:VlR B o e w):∃ v isb,e=.returned (.tuple #[v,.bool isb])/\VlV B w o v isb:=by
 cases o with
 | some x=>obtain ⟨v,h1,h2⟩:=h;exact ⟨v,true,h1,rfl,h2⟩
 | none=>exact ⟨_,false,h,rfl,rfl⟩
def GtR (B:Nat) (w:World) (o:Option (List Nat)) (vb ib:Nat) (w':World):Prop:=∃ w1 v isb,VlV B w1 o v isb/\Below w.heap.size w w1/\w'=(w1.setCell ⟨vb,0,none⟩ v).setCell ⟨ib,0,none⟩ (.bool isb)
theorem get1_any [Gd] {tb sb kb vb ib gs so:Nat} {s:DS} {t:PS} {st:StT} (hST:ST B p q s t w) (hB:B<=w.heap.size) (hlf:s.life=t.life) (hdn:s.down=false) (hTr:Tr s t st l) (hdp:st.depth<100000) (hr0:w.cell? ⟨gs,so,none⟩=some (.int .i64 st.root)) (hd0:w.cell? ⟨gs,so+1,none⟩=some (.int .i64 st.depth)) {ka:Option Addr} {kn kc:Nat} {key:List Nat} (hk:BK B w ka kn kc key)
  (c1:w.cell? ⟨tb,0,none⟩=some (.pointer (some ⟨g,0,none⟩))) (c2:w.cell? ⟨g,1,none⟩=some (.pointer (some ⟨q,0,none⟩))) (c3:w.cell? ⟨sb,0,none⟩=some (.pointer (some ⟨gs,so,none⟩))) (c4:w.cell? ⟨kb,0,none⟩=some (.slice ka kn kc)) (hvb:w.heap[vb]?=some (.cells #[.slice none 0 0] 97 (0,0))) (hib:w.heap[ib]?=some (.cells #[.bool false] 4 (0,0))) (n1:tb≠vb/\g≠vb/\sb≠vb/\kb≠vb) (n2:tb≠ib/\g≠ib/\sb≠ib/\kb≠ib) :
  Calls prog 227 #[.pointer (some ⟨tb,0,none⟩),.pointer (some ⟨sb,0,none⟩),.pointer (some ⟨kb,0,none⟩),.pointer (some ⟨vb,0,none⟩),.pointer (some ⟨ib,0,none⟩)] w fun e w'=>e=.returned (.int .i64 0)/\GtR B w (valL l key) vb ib w':=by
 have HBd:=zH ((Below.refl w.heap.size w).drew);have HVI:=zH (valueIn_any (w:=w.drew) (hST.later HBd.o) hB hlf hdn hTr hdp hr0 hd0 (hk.later HBd.o hB));have HVB:=zH hvb;have HIB:=zH hib;have hnvi:vb≠ib:=by
  intro q9;subst q9;rw [hvb] at hib;simp only [oI,cI] at hib;exact absurd hib.2.1 (by decide)
 have HX0:Hid ((fun wx=>wx.cell? ⟨tb,0,none⟩=some (.pointer (some ⟨g,0,none⟩))/\wx.cell? ⟨g,1,none⟩=some (.pointer (some ⟨q,0,none⟩))/\wx.cell? ⟨sb,0,none⟩=some (.pointer (some ⟨gs,so,none⟩))/\wx.cell? ⟨kb,0,none⟩=some (.slice ka kn kc)) w.drew):=⟨c1,c2,c3,c4⟩;have HKK:=zH (show ∀ w',Below w.heap.size w.drew w'->((fun wx=>wx.cell? ⟨tb,0,none⟩=some (.pointer (some ⟨g,0,none⟩))/\wx.cell? ⟨g,1,none⟩=some (.pointer (some ⟨q,0,none⟩))/\wx.cell? ⟨sb,0,none⟩=some (.pointer (some ⟨gs,so,none⟩))/\wx.cell? ⟨kb,0,none⟩=some (.slice ka kn kc)) w') from fun w' hb=>⟨(hb.cell (p:=⟨tb,0,none⟩) (block_lt_of_cell c1)).trans c1,(hb.cell (p:=⟨g,1,none⟩) (block_lt_of_cell c2)).trans c2,(hb.cell (p:=⟨sb,0,none⟩) (block_lt_of_cell c3)).trans c3,(hb.cell (p:=⟨kb,0,none⟩) (block_lt_of_cell c4)).trans c4⟩);clear hST hTr hr0 hd0 hk c1 c2 c3 c4 hvb hib;go_enter func227,ntmps227;go_upto_region 1 with fail;refine wp_region_noPanic ?_;refine wp_region_held_drew (S:=fun wx=>wx.cell? ⟨tb,0,none⟩=some (.pointer (some ⟨g,0,none⟩))/\wx.cell? ⟨g,1,none⟩=some (.pointer (some ⟨q,0,none⟩))/\wx.cell? ⟨sb,0,none⟩=some (.pointer (some ⟨gs,so,none⟩))/\wx.cell? ⟨kb,0,none⟩=some (.slice ka kn kc)) (by kernel_rfl) HX0.o (fun hHeld=>?_);refine aAb 0 7 ?_;refine aAb 1 8 ?_;refine aAb 2 9 ?_;refine aAb 3 10 ?_;refine aAb 4 11 ?_;refine aAb 5 12 ?_;refine aAf 6 ?_;intro K hK;go_simp;refine HVI.o.mono ?_;rintro e w1 ⟨hv,hb1⟩;obtain ⟨v,isb,rfl,hvv⟩:=hv.vv;obtain ⟨va,vn,vc,hva⟩:=hvv.form;subst hva;have HVV:=zH hvv;have HB1:=zH hb1;have HX1:=zH (HKK.o w1 hb1);have HV1:=zH ((hb1.block vb (lO HVB.o)).trans (show w.drew.heap[vb]?=_ from HVB.o));have HI1:=zH ((hb1.block ib (lO HIB.o)).trans (show w.drew.heap[ib]?=_ from HIB.o));have f1:w1.frozen? ⟨vb,0,none⟩=false:=aAm HV1.o;have d1:w1.cell? ⟨vb,0,none⟩=some (.slice none 0 0):=aAd HV1.o;have HI2:Hid ((w1.setCell ⟨vb,0,none⟩ (.slice va vn vc)).heap[ib]?=some (.cells #[.bool false] 4 (0,0))):=(heap_setCell_other _ _ _ _ (Ne.symm hnvi)).trans HI1.o;have f2:(w1.setCell ⟨vb,0,none⟩ (.slice va vn vc)).frozen? ⟨ib,0,none⟩=false:=aAm HI2.o;have d2:(w1.setCell ⟨vb,0,none⟩ (.slice va vn vc)).cell? ⟨ib,0,none⟩=some (.bool false):=aAd HI2.o;have HX2:Hid ((fun wx=>wx.cell? ⟨tb,0,none⟩=some (.pointer (some ⟨g,0,none⟩))/\wx.cell? ⟨g,1,none⟩=some (.pointer (some ⟨q,0,none⟩))/\wx.cell? ⟨sb,0,none⟩=some (.pointer (some ⟨gs,so,none⟩))/\wx.cell? ⟨kb,0,none⟩=some (.slice ka kn kc)) (w1.setCell ⟨vb,0,none⟩ (.slice va vn vc))):=⟨(World.cell?_of_block (heap_setCell_other _ _ _ _ n1.1)).trans HX1.o.1,(World.cell?_of_block (heap_setCell_other _ _ _ _ n1.2.1)).trans HX1.o.2.1,(World.cell?_of_block (heap_setCell_other _ _ _ _ n1.2.2.1)).trans HX1.o.2.2.1,(World.cell?_of_block (heap_setCell_other _ _ _ _ n1.2.2.2)).trans HX1.o.2.2.2⟩;have HX3:Hid ((fun wx=>wx.cell? ⟨tb,0,none⟩=some (.pointer (some ⟨g,0,none⟩))/\wx.cell? ⟨g,1,none⟩=some (.pointer (some ⟨q,0,none⟩))/\wx.cell? ⟨sb,0,none⟩=some (.pointer (some ⟨gs,so,none⟩))/\wx.cell? ⟨kb,0,none⟩=some (.slice ka kn kc)) ((w1.setCell ⟨vb,0,none⟩ (.slice va vn vc)).setCell ⟨ib,0,none⟩ (.bool isb))):=⟨(World.cell?_of_block (heap_setCell_other _ _ _ _ n2.1)).trans HX2.o.1,(World.cell?_of_block (heap_setCell_other _ _ _ _ n2.2.1)).trans HX2.o.2.1,(World.cell?_of_block (heap_setCell_other _ _ _ _ n2.2.2.1)).trans HX2.o.2.2.1,(World.cell?_of_block (heap_setCell_other _ _ _ _ n2.2.2.2)).trans HX2.o.2.2.2⟩;clear hv hb1 hvv hHeld;refine hK.out _ _ HX1.o (fun hHeld=>?_);clear hK K
 try simp only [Act.put,siT,scZ,scS]
 refine aAb 7 6 ?_;refine aAb 8 14 ?_;refine aAb 9 15 ?_;refine aAf 10 ?_;intro K hK;go_simp;clear hHeld;refine hK.out _ _ HX2.o (fun hHeld=>?_);clear hK K
 try simp only [Act.put,siT,scZ,scS]
 refine aAf 11 ?_;intro K hK;go_simp;clear hHeld;refine hK.out _ _ HX3.o (fun hHeld=>?_);clear hK K
 try simp only [Act.put,siT,scZ,scS]
 refine wpAnyH_done (by kernel_rfl) ?_ _;refine NoPanic.normal ?_;clear hHeld f1 f2 d1 d2;go_wp2;go_ret;exact ⟨rfl,w1,_,isb,HVV.o,HBd.o.trans HB1.o,rfl⟩
theorem getC_any [Gd] {n0 gs so:Nat} {s:DS} {t:PS} {st:StT} (hM:TM B p q g s t now last sv left w) (hTr:Tr s t st l) (hdp:st.depth<100000) (hr0:w.cell? ⟨gs,so,none⟩=some (.int .i64 st.root)) (hd0:w.cell? ⟨gs,so+1,none⟩=some (.int .i64 st.depth)) {ka:Option Addr} {kn kc:Nat} {key:List Nat} (hk:BK B w ka kn kc key) (hn0:B<=n0) (hgn:g<n0)
  (x:w.heap[n0]?=some (.cells #[.pointer (some ⟨g,0,none⟩)] 142 (0,0))/\w.heap[n0+1]?=some (.cells #[.pointer (some ⟨gs,so,none⟩)] 264 (0,0))/\w.heap[n0+2]?=some (.cells #[.slice ka kn kc] 97 (0,0))/\w.heap[n0+3]?=some (.cells #[.slice none 0 0] 97 (0,0))/\w.heap[n0+4]?=some (.cells #[.bool false] 4 (0,0))) :
  Calls prog 149 #[.func (Fn.func 227) #[] #[.pointer (some ⟨n0,0,none⟩),.pointer (some ⟨n0+1,0,none⟩),.pointer (some ⟨n0+2,0,none⟩),.pointer (some ⟨n0+3,0,none⟩),.pointer (some ⟨n0+4,0,none⟩)]] w fun e w'=>e=.returned (.int .i64 0)/\∃ v isb,VlV B w' (valL l key) v isb/\Below n0 w w'/\w'.heap[n0+3]?=some (.cells #[v] 97 (0,0))/\w'.heap[n0+4]?=some (.cells #[.bool isb] 4 (0,0)):=by
 obtain ⟨x0,x1,x2,x3,x4⟩:=x;have b3:=aAk w (.cells #[.int .i64 0] 45);have xe:(w.alloc (.cells #[.int .i64 0] 45)).heap[w.heap.size]?=some (.cells #[.int .i64 0] 45 (0,0)):=heap_alloc_new w _;have hn4:=lO x4;obtain ⟨cs,hg,hT⟩:=hM.tv;have yg:=(b3.block _ (lO hg)).trans hg;have y0:=(b3.block _ (lO x0)).trans x0;have y1:=(b3.block _ (lO x1)).trans x1;have y2:=(b3.block _ (lO x2)).trans x2;have y3:=(b3.block _ (lO x3)).trans x3;have y4:=(b3.block _ (lO x4)).trans x4;have hC:=get1_any (w:=w.alloc (.cells #[.int .i64 0] 45)) (hM.st.later b3) (nT hM.bw b3.size) hM.lf hM.dn hTr hdp ((b3.cell (p:=⟨gs,so,none⟩) (block_lt_of_cell hr0)).trans hr0) ((b3.cell (p:=⟨gs,so+1,none⟩) (block_lt_of_cell hd0)).trans hd0) (hk.later b3 hM.bw) (aAd y0) ((aAd yg).trans hT.c1) (aAd y1) (aAd y2) y3 y4 ⟨by omega,by omega,by omega,by omega⟩ ⟨by omega,by omega,by omega,by omega⟩;refine (aJj (w:=w) (P:=fun r' ww=>r'=0/\GtR B (w.alloc (.cells #[.int .i64 0] 45)) (valL l key) (n0+3) (n0+4) ww) (fun ww=>by rfl) (hC.mono ?_)).mono ?_
 ·rintro e9 w9 ⟨rfl,hG⟩;refine ⟨0,rfl,⟨rfl,hG⟩,?_⟩;obtain ⟨w1,v,isb,g1,g2,rfl⟩:=hG;rw [heap_setCell_other _ _ _ _ (by show w.heap.size≠n0+4;omega),heap_setCell_other _ _ _ _ (by show w.heap.size≠n0+3;omega),g2.block _ (lO xe),xe]
 ·rintro e9 w9 ⟨r',w8,rfl,⟨rfl,hG⟩,rfl⟩;obtain ⟨w1,v,isb,g1,g2,rfl⟩:=hG;have z3:=(g2.block _ (lO y3)).trans y3;have z4:=(g2.block _ (lO y4)).trans y4;have ze:=(g2.block _ (lO xe)).trans xe;have a1:Ex B [n0+3] w1 (w1.setCell ⟨n0+3,0,none⟩ v):=Ex.set (by omega);have z4':(w1.setCell ⟨n0+3,0,none⟩ v).heap[n0+4]?=_:=(heap_setCell_other _ _ _ _ (by show n0+4≠n0+3;omega)).trans z4;have a2:Ex B [n0+4] (w1.setCell ⟨n0+3,0,none⟩ v) ((w1.setCell ⟨n0+3,0,none⟩ v).setCell ⟨n0+4,0,none⟩ (.bool isb)):=Ex.set (by omega);have ze':((w1.setCell ⟨n0+3,0,none⟩ v).setCell ⟨n0+4,0,none⟩ (.bool isb)).heap[w.heap.size]?=_:=(heap_setCell_other _ _ _ _ (by show w.heap.size≠n0+4;omega)).trans ((heap_setCell_other _ _ _ _ (by show w.heap.size≠n0+3;omega)).trans ze);have a3:Ex B [w.heap.size] ((w1.setCell ⟨n0+3,0,none⟩ v).setCell ⟨n0+4,0,none⟩ (.bool isb)) (((w1.setCell ⟨n0+3,0,none⟩ v).setCell ⟨n0+4,0,none⟩ (.bool isb)).setCell ⟨w.heap.size,0,none⟩ (.int .i64 0)):=Ex.set hM.bw;refine ⟨rfl,v,isb,((g1.ft (a1.ftX z3 (by decide))).ft (a2.ftX z4' (by decide))).ft (a3.ftX ze' (by decide)),?_,?_,?_⟩
  ·have c0:Below n0 w w1:=(b3.mono (by omega)).trans (g2.mono (by have:=b3.size;omega));exact ((c0.setCell (p:=⟨n0+3,0,none⟩) (by show n0<=n0+3;omega) _).setCell (p:=⟨n0+4,0,none⟩) (by show n0<=n0+4;omega) _).setCell (p:=⟨w.heap.size,0,none⟩) (by show n0<=w.heap.size;omega) _
  ·rw [heap_setCell_other _ _ _ _ (by show n0+3≠w.heap.size;omega),heap_setCell_other _ _ _ _ (by show n0+3≠n0+4;omega),heap_setCell_same _ _ _ _ _ _ z3];rfl
  ·rw [heap_setCell_other _ _ _ _ (by show n0+4≠w.heap.size;omega),heap_setCell_same _ _ _ _ _ _ z4'];rfl
theorem get_any' [Gd] {gs so:Nat} {s:DS} {t:PS} {st:StT} (hM:TM B p q g s t now last sv left w) (hTr:Tr s t st l) (hdp:st.depth<100000) (hr0:w.cell? ⟨gs,so,none⟩=some (.int .i64 st.root)) (hd0:w.cell? ⟨gs,so+1,none⟩=some (.int .i64 st.depth)) {ka:Option Addr} {kn kc:Nat} {key:List Nat} (hk:BK B w ka kn kc key) (hk0:0<kn) (hk6:kn<=64) :
  Calls prog 205 #[.pointer (some ⟨g,0,none⟩),.pointer (some ⟨gs,so,none⟩),.slice ka kn kc] w fun e w'=>∃ v isb,e=.returned (.tuple #[v,.bool isb,.int .i64 0])/\VlV B w' (valL l key) v isb/\Below w.heap.size w w':=by
 have hmf:∀ (fn:Fn) (first cap:Array Value) (w:World),(Instr.makeFunc fn first cap).run prog w=.ok (.func fn first cap) w:=fun _ _ _ _=>rfl
 have HM:=zH hM;have HTR:=zH hTr;have HK:=zH hk;have HR0:=zH hr0;have HD0:=zH hd0;have HGL:Hid (g<w.heap.size):=by obtain ⟨cs,hg,hT⟩:=hM.tv;exact lO hg
 have HBB:=zH (aA3 [(Obj.cells #[.pointer (some ⟨g,0,none⟩)] 142),(Obj.cells #[.pointer (some ⟨gs,so,none⟩)] 264),(Obj.cells #[.slice ka kn kc] 97),(Obj.cells #[.slice none 0 0] 97),(Obj.cells #[.bool false] 4)] w);have HXX:Hid ((((((w.alloc (.cells #[.pointer (some ⟨g,0,none⟩)] 142)).alloc (.cells #[.pointer (some ⟨gs,so,none⟩)] 264)).alloc (.cells #[.slice ka kn kc] 97)).alloc (.cells #[.slice none 0 0] 97)).alloc (.cells #[.bool false] 4)).heap[w.heap.size]?=some (.cells #[.pointer (some ⟨g,0,none⟩)] 142 (0,0))/\(((((w.alloc (.cells #[.pointer (some ⟨g,0,none⟩)] 142)).alloc (.cells #[.pointer (some ⟨gs,so,none⟩)] 264)).alloc (.cells #[.slice ka kn kc] 97)).alloc (.cells #[.slice none 0 0] 97)).alloc (.cells #[.bool false] 4)).heap[w.heap.size+1]?=some (.cells #[.pointer (some ⟨gs,so,none⟩)] 264 (0,0))/\(((((w.alloc (.cells #[.pointer (some ⟨g,0,none⟩)] 142)).alloc (.cells #[.pointer (some ⟨gs,so,none⟩)] 264)).alloc (.cells #[.slice ka kn kc] 97)).alloc (.cells #[.slice none 0 0] 97)).alloc (.cells #[.bool false] 4)).heap[w.heap.size+2]?=some (.cells #[.slice ka kn kc] 97 (0,0))/\(((((w.alloc (.cells #[.pointer (some ⟨g,0,none⟩)] 142)).alloc (.cells #[.pointer (some ⟨gs,so,none⟩)] 264)).alloc (.cells #[.slice ka kn kc] 97)).alloc (.cells #[.slice none 0 0] 97)).alloc (.cells #[.bool false] 4)).heap[w.heap.size+3]?=some (.cells #[.slice none 0 0] 97 (0,0))/\(((((w.alloc (.cells #[.pointer (some ⟨g,0,none⟩)] 142)).alloc (.cells #[.pointer (some ⟨gs,so,none⟩)] 264)).alloc (.cells #[.slice ka kn kc] 97)).alloc (.cells #[.slice none 0 0] 97)).alloc (.cells #[.bool false] 4)).heap[w.heap.size+4]?=some (.cells #[.bool false] 4 (0,0))):=⟨aAp [(Obj.cells #[.pointer (some ⟨g,0,none⟩)] 142),(Obj.cells #[.pointer (some ⟨gs,so,none⟩)] 264),(Obj.cells #[.slice ka kn kc] 97),(Obj.cells #[.slice none 0 0] 97),(Obj.cells #[.bool false] 4)] w 0 _ rfl,aAp [(Obj.cells #[.pointer (some ⟨g,0,none⟩)] 142),(Obj.cells #[.pointer (some ⟨gs,so,none⟩)] 264),(Obj.cells #[.slice ka kn kc] 97),(Obj.cells #[.slice none 0 0] 97),(Obj.cells #[.bool false] 4)] w 1 _ rfl,aAp [(Obj.cells #[.pointer (some ⟨g,0,none⟩)] 142),(Obj.cells #[.pointer (some ⟨gs,so,none⟩)] 264),(Obj.cells #[.slice ka kn kc] 97),(Obj.cells #[.slice none 0 0] 97),(Obj.cells #[.bool false] 4)] w 2 _ rfl,aAp [(Obj.cells #[.pointer (some ⟨g,0,none⟩)] 142),(Obj.cells #[.pointer (some ⟨gs,so,none⟩)] 264),(Obj.cells #[.slice ka kn kc] 97),(Obj.cells #[.slice none 0 0] 97),(Obj.cells #[.bool false] 4)] w 3 _ rfl,aAp [(Obj.cells #[.pointer (some ⟨g,0,none⟩)] 142),(Obj.cells #[.pointer (some ⟨gs,so,none⟩)] 264),(Obj.cells #[.slice ka kn kc] 97),(Obj.cells #[.slice none 0 0] 97),(Obj.cells #[.bool false] 4)] w 4 _ rfl⟩;have HB1:Hid (Below w.heap.size w (((((w.alloc (.cells #[.pointer (some ⟨g,0,none⟩)] 142)).alloc (.cells #[.pointer (some ⟨gs,so,none⟩)] 264)).alloc (.cells #[.slice ka kn kc] 97)).alloc (.cells #[.slice none 0 0] 97)).alloc (.cells #[.bool false] 4))):=HBB.o.1;have c0:(((((w.alloc (.cells #[.pointer (some ⟨g,0,none⟩)] 142)).alloc (.cells #[.pointer (some ⟨gs,so,none⟩)] 264)).alloc (.cells #[.slice ka kn kc] 97)).alloc (.cells #[.slice none 0 0] 97)).alloc (.cells #[.bool false] 4)).cell? ⟨w.heap.size,0,none⟩=some (.pointer (some ⟨g,0,none⟩)):=aAd HXX.o.1;have c2:(((((w.alloc (.cells #[.pointer (some ⟨g,0,none⟩)] 142)).alloc (.cells #[.pointer (some ⟨gs,so,none⟩)] 264)).alloc (.cells #[.slice ka kn kc] 97)).alloc (.cells #[.slice none 0 0] 97)).alloc (.cells #[.bool false] 4)).cell? ⟨w.heap.size+2,0,none⟩=some (.slice ka kn kc):=aAd HXX.o.2.2.1;have HBW:=zH hM.bw;clear hM hTr hk hr0 hd0 HBB;generalize hn0:w.heap.size=n0 at *
 generalize hW:(((((w.alloc (.cells #[.pointer (some ⟨g,0,none⟩)] 142)).alloc (.cells #[.pointer (some ⟨gs,so,none⟩)] 264)).alloc (.cells #[.slice ka kn kc] 97)).alloc (.cells #[.slice none 0 0] 97)).alloc (.cells #[.bool false] 4))=w1 at *
 have HRF:Hid (Calls prog 226 #[.pointer (some ⟨g,0,none⟩),.slice ka kn kc] w1 fun e w'=>e=.returned (.int .i64 0)/\Below w1.heap.size w1 w'):=by
  have h1:=HM.o.later (by rw [hn0];exact HB1.o);obtain ⟨cs,hg,hT⟩:=h1.tv;have hr:=refusal_any h1.st HM.o.lf hg hT ka kn kc;rw [if_neg (by omega),if_neg (by omega)] at hr;exact hr
 go_enter func205,ntmps205;go_wp2_with fail;refine HRF.o.mono ?_;rintro e w2 ⟨rfl,hb2⟩;have HB2:Hid (Below n0 w w2):=HB1.o.trans (hb2.mono (by have:=HB1.o.size;omega));have HY:Hid (w2.heap[n0]?=some (.cells #[.pointer (some ⟨g,0,none⟩)] 142 (0,0))/\w2.heap[n0+1]?=some (.cells #[.pointer (some ⟨gs,so,none⟩)] 264 (0,0))/\w2.heap[n0+2]?=some (.cells #[.slice ka kn kc] 97 (0,0))/\w2.heap[n0+3]?=some (.cells #[.slice none 0 0] 97 (0,0))/\w2.heap[n0+4]?=some (.cells #[.bool false] 4 (0,0))):=⟨(hb2.block _ (lO HXX.o.1)).trans HXX.o.1,(hb2.block _ (lO HXX.o.2.1)).trans HXX.o.2.1,(hb2.block _ (lO HXX.o.2.2.1)).trans HXX.o.2.2.1,(hb2.block _ (lO HXX.o.2.2.2.1)).trans HXX.o.2.2.2.1,(hb2.block _ (lO HXX.o.2.2.2.2)).trans HXX.o.2.2.2.2⟩;have HB2':Hid (Below w.heap.size w w2):=by rw [hn0];exact HB2.o
 have HCC:=zH (getC_any (n0:=n0) (HM.o.later HB2'.out) HTR.o hdp ((HB2'.out.cell (p:=⟨gs,so,none⟩) (block_lt_of_cell HR0.o)).trans HR0.o) ((HB2'.out.cell (p:=⟨gs,so+1,none⟩) (block_lt_of_cell HD0.o)).trans HD0.o) (HK.o.later HB2'.out HM.o.bw) HBW.o HGL.o HY.o);clear hb2 c0 c2 HRF;go_wp2_with fail;refine HCC.o.mono ?_;rintro e w3 ⟨rfl,v,isb,h1,h2,h3,h4⟩;obtain ⟨va,vn,vc,hva⟩:=h1.form;subst hva;have HV3:=zH h1;have HB3:Hid (Below n0 w w3):=HB2.o.trans h2;have H3:=zH h3;have H4:=zH h4;have d3:w3.cell? ⟨n0+3,0,none⟩=some (.slice va vn vc):=aAd h3;have d4:w3.cell? ⟨n0+4,0,none⟩=some (.bool isb):=aAd h4;have f3:w3.frozen? ⟨n0+3,0,none⟩=false:=aAm h3;have f4:w3.frozen? ⟨n0+4,0,none⟩=false:=aAm h4;clear h1 h2 h3 h4 HCC;have e4:(w3.setCell ⟨n0+3,0,none⟩ (.slice va vn vc)).heap[n0+4]?=some (.cells #[.bool isb] 4 (0,0)):=(heap_setCell_other _ _ _ _ (by show n0+4≠n0+3;omega)).trans H4.o;have f5:(w3.setCell ⟨n0+3,0,none⟩ (.slice va vn vc)).frozen? ⟨n0+4,0,none⟩=false:=aAm e4;have d5:(w3.setCell ⟨n0+3,0,none⟩ (.slice va vn vc)).cell? ⟨n0+4,0,none⟩=some (.bool isb):=aAd e4;clear e4;go_wp2;go_region;go_wp2;have a1:Ex B [n0+3] w3 (w3.setCell ⟨n0+3,0,none⟩ (.slice va vn vc)):=Ex.set (by have:=HBW.o;omega);have z4:(w3.setCell ⟨n0+3,0,none⟩ (.slice va vn vc)).heap[n0+4]?=some (.cells #[.bool isb] 4 (0,0)):=(heap_setCell_other _ _ _ _ (by show n0+4≠n0+3;omega)).trans H4.o;have a2:Ex B [n0+4] (w3.setCell ⟨n0+3,0,none⟩ (.slice va vn vc)) ((w3.setCell ⟨n0+3,0,none⟩ (.slice va vn vc)).setCell ⟨n0+4,0,none⟩ (.bool isb)):=Ex.set (by have:=HBW.o;omega);have z3:(w3.setCell ⟨n0+3,0,none⟩ (.slice va vn vc)).heap[n0+3]?=some (.cells #[.slice va vn vc] 97 (0,0)):=by rw [heap_setCell_same _ _ _ _ _ _ H3.o];rfl
 have z3':((w3.setCell ⟨n0+3,0,none⟩ (.slice va vn vc)).setCell ⟨n0+4,0,none⟩ (.bool isb)).drew.heap[n0+3]?=some (.cells #[.slice va vn vc] 97 (0,0)):=(heap_setCell_other _ _ _ _ (by show n0+3≠n0+4;omega)).trans z3;have z4':((w3.setCell ⟨n0+3,0,none⟩ (.slice va vn vc)).setCell ⟨n0+4,0,none⟩ (.bool isb)).drew.heap[n0+4]?=some (.cells #[.bool isb] 4 (0,0)):=by
  show ((w3.setCell ⟨n0+3,0,none⟩ (.slice va vn vc)).setCell ⟨n0+4,0,none⟩ (.bool isb)).heap[n0+4]?=_;rw [heap_setCell_same _ _ _ _ _ _ z4];rfl
 have HBF:Hid (Below n0 w ((w3.setCell ⟨n0+3,0,none⟩ (.slice va vn vc)).setCell ⟨n0+4,0,none⟩ (.bool isb)).drew):=((HB3.o.setCell (p:=⟨n0+3,0,none⟩) (by show n0<=n0+3;omega) _).setCell (p:=⟨n0+4,0,none⟩) (by show n0<=n0+4;omega) _).drew;have HVF:Hid (VlV B ((w3.setCell ⟨n0+3,0,none⟩ (.slice va vn vc)).setCell ⟨n0+4,0,none⟩ (.bool isb)).drew (valL l key) (.slice va vn vc) isb):=((HV3.o.ft (a1.ftX H3.o (by decide))).ft (a2.ftX z4 (by decide))).ft (FT.of (Below.refl _ _).drew (nT HM.o.bw (by have:=HBF.o.size;exact this)));have c3:=aAd (i:=0) z3';have c4:=aAd (i:=0) z4';simp only [show n0+1+1+1=n0+3 from rfl,show n0+1+1+1+1=n0+4 from rfl];generalize ((w3.setCell ⟨n0+3,0,none⟩ (.slice va vn vc)).setCell ⟨n0+4,0,none⟩ (.bool isb)).drew=w4 at *
 refine bodyPost_ret (results_cct (v1:=.slice va vn vc) (v2:=.bool isb) rfl _ _ _ rfl rfl (by simp [go_sem,c3]) (by simp [go_sem,c4])) rfl ⟨_,isb,rfl,HVF.o,HBF.o⟩
theorem Get_ok [Gd] {s:DS} {t:PS} (hM:TM B p q g s t now last sv left w) (hTr:Tr s t now l) (hdp:now.depth<100000) {ka:Option Addr} {kn kc:Nat} {key:List Nat} (hk:BK B w ka kn kc key) (hk0:0<kn) (hk6:kn<=64) :
  Calls prog 166 #[.pointer (some ⟨g,0,none⟩),.slice ka kn kc] w fun e w'=>∃ v isb,e=.returned (.tuple #[v,.bool isb,.int .i64 0])/\VlV B w' (valL l key) v isb/\Below w.heap.size w w':=by
 obtain ⟨cs,hg,hT⟩:=hM.tv;have HGT:=zH (get_any' (gs:=g) (so:=2) hM hTr hdp ((aAd hg).trans hT.n0) ((aAd hg).trans hT.n1) hk hk0 hk6);clear hM hTr hdp hk hg hT;go_enter func166,ntmps166;go_wp2_with fail;refine HGT.o.mono ?_;rintro e w1 ⟨v,isb,rfl,h1,h2⟩;obtain ⟨va,vn,vc,hva⟩:=h1.form;subst hva;have H1:=zH h1;have H2:=zH h2;clear h1 h2;go_wp2;go_ret3;exact ⟨_,isb,rfl,H1.o,H2.o⟩
structure StV (cs:Array Value) (root dp k:Int) (ps:List Nat):Prop where
 sz:cs.size=67
 c0:cs[0]?=some (.int .i64 root)
 c1:cs[1]?=some (.int .i64 dp)
 c2:cs[2]?=some (.int .i64 k)
 wd:Wd cs 3 ps
theorem StV.keys {cs:Array Value} {root dp k k':Int} (h:StV cs root dp k ps):StV (cs.setIfInBounds 2 (.int .i64 k')) root dp k' ps:=by
 have ne:∀ i,i≠2->(cs.setIfInBounds 2 (.int .i64 k'))[i]?=cs[i]?:=fun i hi=>Array.getElem?_setIfInBounds_ne (Ne.symm hi)
 exact ⟨by rw [Array.size_setIfInBounds,h.sz],(ne 0 (by decide)).trans h.c0,(ne 1 (by decide)).trans h.c1,Array.getElem?_setIfInBounds_self_of_lt (by rw [h.sz];decide),h.wd.same fun i hi _=>ne i (by omega)⟩
theorem StV.words {cs cs':Array Value} {root dp k:Int} {ps':List Nat} (h:StV cs root dp k ps) (hw:Wd cs' 3 ps') (hs:Sm cs cs' 3):StV cs' root dp k ps' :=
 ⟨hs.1.trans h.sz,(hs.2 0 (by omega)).trans h.c0,(hs.2 1 (by omega)).trans h.c1,(hs.2 2 (by omega)).trans h.c2,hw⟩
theorem ST.exS [Gd] {s:DS} {t:PS} {cs:Array Value} (h:ST B p q s t w) (f:Ex B [g] w w') (hg:w.heap[g]?=some (.cells cs 207 (0,0))):ST B p q s t w':=by
 obtain ⟨h1,gs,h2⟩:=h;refine ⟨?_,gs,f.keepX hg h2.hq (by decide),f.keepX hg h2.hs (by decide),h2.qB,h2.gB,h2.ok,h2.hG⟩;exact h1.of_stay (fun k cs t e ht=>f.keepX hg e (by rcases ht with rfl | rfl | rfl | rfl | rfl | rfl | rfl<;>decide))
def WkR (B fb:Nat) (root dp k:Int) (ps:List Nat) (n:Nat) (pg:List Nat) (w w':World):Prop:=∃ cs',w'.heap[fb]?=some (.cells cs' 207 (0,0))/\StV cs' root dp (k+(n:Int)) (pg.foldl adP ps)/\Ex B [fb] w w'
def Bnd (lo hi:List Nat) (l:List It):Prop:=∀ x∈l,0<cmpB x.1 lo/\(hi=[]\/cmpB x.1 hi<0)
structure PgW (s:DS) (t:PS) (i:Nat) (b:List Nat):Prop where
 lt:i<s.n
 of:t.of (i:Int)≠0
 pg:pageOf (pad (s.show i))=some b
 ln:b.length<=8192
 bt:∀ c∈b,c<256
def OnW (s:DS) (t:PS):(h:Nat)->BT h->Prop
 | 0,b=>PgW s t b.1 (leafB b.2)/\ItsOk b.2
 | h+1,b=>PgW s t b.1 (branB b.2.1 (b.2.2.map BT.id))/\ItsOk b.2.1/\b.2.2.length=b.2.1.length+1/\(∀ k∈b.2.2,BT.id k<9223372036854775808)/\∀ k∈b.2.2,OnW s t h k
theorem OnW.ok {s:DS} {t:PS}:∀ {h:Nat} {b:BT h},OnW s t h b->∀ x∈flB h b,ItOk x
 | 0,b,⟨_,hi⟩,x,hx=>hi.ok x hx
 | h+1,b,⟨_,hi,_,_,hk⟩,x,hx=>by
  rcases mem_weave _ _ x hx with q | ⟨k,q1,q2⟩
  ·exact hi.ok x q
  ·obtain ⟨kb,q3,rfl⟩:=List.mem_map.1 q1
   exact OnW.ok (hk kb q3) x q2
theorem OnW.pgs {s:DS} {t:PS}:∀ {h:Nat} {b:BT h},OnW s t h b->∀ x∈pgB h b,t.st.getD x 0≠0/\x<s.n
 | 0,b,⟨hp,_⟩,x,hx=>by
  simp only [pgB,List.mem_singleton] at hx
  subst hx
  exact ⟨by rw [<-of_getD];exact hp.of,hp.lt⟩
 | h+1,b,⟨hp,_,_,_,hk⟩,x,hx=>by
  rcases List.mem_cons.1 hx with rfl | hx
  ·exact ⟨by rw [<-of_getD];exact hp.of,hp.lt⟩
  ·obtain ⟨k,q1,q2⟩:=List.mem_flatten.1 hx
   obtain ⟨kb,q3,rfl⟩:=List.mem_map.1 q1
   exact OnW.pgs (hk kb q3) x q2
def WkC [Gd] (B p q fb:Nat) (s:DS) (t:PS) (h:Nat):Prop :=
 ∀ (w:World) (b:BT h) (cs:Array Value) (root dp k:Int) (ps:List Nat) (lo hi:List Nat) (la:Option Addr) (ln lc:Nat) (ha:Option Addr) (hn hc:Nat),
  ST B p q s t w->B<=w.heap.size->B<=fb->w.heap[fb]?=some (.cells cs 207 (0,0))->StV cs root dp k ps->OnW s t h b->ShB h b->Srt (flB h b)->((BT.id b:Int)=root\/2<=(BT.it b).length)->0<=k->k+((flB h b).length:Int)<=1000000->BK B w la ln lc lo->BK B w ha hn hc hi->lo.length=ln->hi.length=hn->Bnd lo hi (flB h b) ->
  Calls prog 151 #[.pointer (some ⟨fb,0,none⟩),.pointer (some ⟨q,0,none⟩),.int .i64 (BT.id b:Int),.slice la ln lc,.slice ha hn hc] w fun e w'=>e=.returned (.int .i64 ((h:Int)+1))/\WkR B fb root dp k ps (flB h b).length (pgB h b) w w'
theorem BK.len (h:BK B w a n c xs):xs.length=n:=h.1.hlen
theorem walk_leaf [Gd] {fb:Nat} {s:DS} {t:PS} (hlf:s.life=t.life) (hdn:s.down=false) (hsn:s.n<=4096):WkC B p q fb s t 0:=by
 intro w b cs root dp k ps lo hi la ln lc ha hn hc hST hB hBf hfb hsv hon hsh hsr hro hk0 hk1 hlo hhi hln hhn hbd;obtain ⟨hpg,hit⟩:=hon;have hkk:k+(b.2.length:Int)<=1000000:=hk1;show Calls prog 151 #[.pointer (some ⟨fb,0,none⟩),.pointer (some ⟨q,0,none⟩),.int .i64 (b.1:Int),.slice la ln lc,.slice ha hn hc] w fun e w'=>e=.returned (.int .i64 1)/\WkR B fb root dp k ps b.2.length [b.1] w w'
 have HLD:=zH (aH3 b.1 hST hB hlf hpg.lt hpg.of hdn b.2 hpg.pg hit.n1 hit.n4 hit.ok hit.so hpg.ln hpg.bt);have HST:=zH hST;have HIT:=zH hit;have hl4:=hit.n4;have hl1:=hit.n1;have HB:=zH hB;have HFB:=zH hfb;have HSV:=zH hsv;have HBF:=zH hBf;have hfl:=(lO hfb);have HLO:=zH hlo;have HHI:=zH hhi;have HID:Hid (b.1<4096):=Nat.lt_of_lt_of_le hpg.lt hsn;have HBI:Hid (∀ x∈b.2,0<cmpB x.1 lo/\(hi=[]\/cmpB x.1 hi<0)):=fun x hx=>hbd x (hx)
 clear hST hfb hsv hpg hit hlo hhi hB hBf hsn hlf hdn hbd hsh hsr hk1;generalize hl:b.2=l at *
 generalize hLL:l.length=L at *
 go_enter func151,ntmps151;go_wp2_with fail;refine HLD.o.mono ?_;rintro e w1 ⟨v1,rfl,⟨gl,gi,rfl,z1,z2,z3,z4⟩,hb1⟩;rw [hLL] at z3;have HIO:=zH (aD6 z3);unfold lfP at HIO;have HZ3:=zH z3;have HB1:=zH hb1;have HBw1:Hid (B<=w1.heap.size):=nT HB.o hb1.size;obtain ⟨kf,vf,hg1,hg2⟩:=z4;rw [hLL] at hg1;have HG1:=zH hg1;have HG2:=zH hg2;have HFB1:=zH ((hb1.block fb hfl).trans HFB.o);have r0:w1.cell? ⟨fb,0,none⟩=some (.int .i64 root):=(aAd HFB1.o).trans HSV.o.c0;have HF1:=zH (FT.of hb1 HB.o);clear z3 hb1 HLD hg1 hg2;go_wp2_with fail;refine HIO.o.mono ?_;rintro e w1' ⟨rfl,rfl⟩;go_upto_region 3 with fail;go_cut [] from 26 to 37 (fun wx=>wx=w1')
 case first =>
  by_cases hrt:(b.1:Int)=root
  ·have drt:((b.1:Int) == root)=true:=by simp;exact hrt
   subst hrt;go_wp2_with fail;refine (aA1 _).mono ?_;rintro e w2 ⟨rfl,rfl⟩;go_wp2;go_meet;rfl
  ·have drt:((b.1:Int) == root)=false:=by simp;exact hrt
   have x2:(2:Int)<=(L:Int):=by
    rcases hro with h9 | h9
    ·exact absurd h9 hrt
    ·have h9:2<=b.2.length:=h9;rw [hl,hLL] at h9;omega
   go_wp2_with fail;refine (aA1 _).mono ?_;rintro e w2 ⟨rfl,rfl⟩;go_wp2;go_meet;rfl
 case rest =>
  subst hcut;obtain ⟨x0,hx0⟩:∃ x,l[0]?=some x:=⟨_,gE (by omega)⟩;obtain ⟨x9,hx9⟩:∃ x,l[L-1]?=some x:=⟨_,gE (by omega)⟩;obtain ⟨ka0,kc0,hk0,hb0⟩:=(HG2.o 0 x0 hx0).1;obtain ⟨ka9,kc9,hk9,hb9⟩:=(HG2.o (L-1) x9 hx9).1;have y0:wc.cell? ⟨gi,0,none⟩=some (.slice ka0 x0.1.length kc0):=by rw [aAd HG1.o,List.getElem?_toArray,<-hk0];exact aBh kf vf 0 L (by omega)
  have y9:wc.cell? ⟨gi,(L-1)*2,none⟩=some (.slice ka9 x9.1.length kc9):=by rw [aAd HG1.o,List.getElem?_toArray,<-hk9];exact aBh kf vf (L-1) L (by omega)
  have HC0:=zH (aA9 ka0 la x0.1.length kc0 ln lc x0.1 lo wc hb0.1 (HLO.o.ft HF1.o).1);have HC9:=zH (aA9 ka9 ha x9.1.length kc9 hn hc x9.1 hi wc hb9.1 (HHI.o.ft HF1.o).1);have xc0:(0:Int)<cmpB x0.1 lo:=(HBI.o x0 (mG hx0)).1;have HX9:=zH (HBI.o x9 (mG hx9)).2;clear hx0 hx9 hb0 hb9 hk0 hk9;generalize cmpB x0.1 lo=cc0 at *
  generalize cmpB x9.1 hi=cc9 at *
  generalize x0.1.length=n00 at *
  generalize x9.1.length=n99 at *
  have xL0:(0:Int)<(L:Int):=by omega
  have xL1:((L:Int)-1)=((L-1:Nat):Int):=by omega
  have xL2:((L-1:Nat):Int)<(L:Int):=by omega
  go_wp2_with fail;refine HC0.o.mono ?_;rintro e w2 ⟨rfl,rfl⟩;go_wp2_with fail;refine (aA1 _).mono ?_;rintro e w3 ⟨rfl,rfl⟩;go_upto_region 5 with fail;go_cut [] from 46 to 61 (fun wx=>wx=w3)
  case first =>
   by_cases hhe:hn=0
   ·subst hhe;go_wp2_with fail;refine (aA1 _).mono ?_;rintro e w4 ⟨rfl,rfl⟩;go_wp2;go_meet;rfl
   ·have xh:¬ (hn:Int)=0:=by omega
    have dh:((hn:Int) == 0)=false:=by simp;omega
    have xc9:cc9<0:=by
     rcases HX9.o with h9 | h9
     ·rw [h9] at hhn;simp at hhn;omega
     ·exact h9
    go_wp2_with fail;refine HC9.o.mono ?_;rintro e w4 ⟨rfl,rfl⟩;go_wp2_with fail;refine (aA1 _).mono ?_;rintro e w5 ⟨rfl,rfl⟩;go_wp2;go_meet;rfl
  case rest =>
   subst hcut;have r2:wc.cell? ⟨fb,2,none⟩=some (.int .i64 k):=(aAd HFB1.o).trans HSV.o.c2;have f2:wc.frozen? ⟨fb,2,none⟩=false:=aAm HFB1.o;have HFB2:Hid ((wc.setCell ⟨fb,2,none⟩ (.int .i64 (k+(L:Int)))).heap[fb]?=some (.cells (cs.setIfInBounds 2 (.int .i64 (k+(L:Int)))) 207 (0,0))):=heap_setCell_same _ _ _ _ _ _ HFB1.o;have HSV2:=zH (HSV.o.keys (k':=k+(L:Int)));have HEX2:Hid (Ex B [fb] wc (wc.setCell ⟨fb,2,none⟩ (.int .i64 (k+(L:Int))))):=Ex.set HBF.o;have HAD:=zH (add_ok (B:=B) (o:=3) HBF.o HFB2.o HSV2.o.wd HID.o);clear y0 y9 r0 HC0 HC9 HX9;go_wp2_with fail;refine HAD.o.mono ?_;rintro e w4 ⟨rfl,cs4,p1,p2,p3,p4⟩;have HFB4:=zH p1;have HSV4:=zH (HSV2.o.words p2 p3);have HEX4:=zH (HEX2.o.trans p4);have HEXw:Hid (Ex B [fb] w w4):=⟨(HB1.o.mono HB.o).trans HEX4.o.1,fun k9 h8 h9=>by rw [HEX4.o.2 k9 (Nat.lt_of_lt_of_le h8 HB1.o.size) h9,HB1.o.block k9 h8]⟩;have ta:=aDo (.pointer (some ⟨gl,0,none⟩)) w4;clear p1 p2 p3 p4 r2 f2 HAD;go_wp2;go_ret;exact ⟨rfl,cs4,HFB4.o,HSV4.o,HEXw.o⟩
end Go.Proofs.YtdpdjpkmndnaaaaGreat
set_option maxRecDepth 100000
set_option maxHeartbeats 16000000
set_option linter.unusedVariables false
namespace Go.Proofs.YtdpdjpkmndnaaaaGreat
open Go.RowKit Tryz
theorem kid_bounds {l:List It} {cs:List (List It)} {c:List It} {j:Nat} (hs:Srt (weave l cs)) (hl:cs.length=l.length+1) (hc:cs[j]?=some c):(∀ z,0<j->l[j-1]?=some z->∀ x∈c,0<cmpB x.1 z.1)/\(∀ z,l[j]?=some z->∀ x∈c,cmpB x.1 z.1<0):=by
 have hjl:=(lL hc);have hw:=aDc l cs j c hl hc;rw [hw] at hs;obtain ⟨p1,p2,p3⟩:=hs.app;obtain ⟨p4,p5,p6⟩:=p2.app;constructor
 ·intro z h0 hz x hx
  obtain ⟨a,ha⟩:=wvL_end (l.take j) (cs.take j) z (by simp;omega) (by
   rw [List.getLast?_eq_getElem?,List.length_take,Nat.min_eq_left (by omega),List.getElem?_take_of_lt (by omega)]
   exact hz)
  have h1:=p3 z (by rw [ha];simp) x (List.mem_append_left _ hx);rw [aDl] at h1;omega
 ·intro z hz x hx;obtain ⟨c2,hc2⟩:∃ c2,cs[j+1]?=some c2:=⟨_,gE (by have:=(lL hz);omega)⟩;rw [aG0 hz hc2] at p6;exact p6 x hx z (by simp)
theorem Ex.wk {B fb:Nat} {a b c:World} (h:Ex B [fb] a b) (k:Ex B [fb] b c):Ex B [fb] a c:=h.trans k
theorem walk_branch [Gd] {B p q fb h:Nat} {s:DS} {t:PS} (hlf:s.life=t.life) (hdn:s.down=false) (hsn:s.n<=4096) (hh:h<100000) (hIH:WkC B p q fb s t h):WkC B p q fb s t (h+1):=by
 intro w b cs root dp k ps lo hi la ln lc ha hn hc hST hB hBf hfb hsv hon hsh hsr hro hk0 hk1 hlo hhi hln hhn hbd;obtain ⟨hpg,hit,hcl,hid,hkd⟩:=hon;obtain ⟨s1,s2,s3⟩:=hsh;have hidl:(b.2.2.map BT.id).length=b.2.1.length+1:=by rw [List.length_map];exact hcl
 have hcs:(b.2.2.map (flB h)).length=b.2.1.length+1:=by rw [List.length_map];exact hcl
 have HIH:=zH hIH;have HBD:=zH hbd;have HSR:Hid (Srt (weave b.2.1 (b.2.2.map (flB h)))):=hsr;have HCS:=zH hcs;have HLN:Hid ((flB (h+1) b).length=b.2.1.length+((b.2.2.map (flB h)).map List.length).sum):=aDv _ _ hcs;have HPG:Hid (pgB (h+1) b=b.1::(b.2.2.map (pgB h)).flatten):=rfl;have HK1:=zH hk1;have HFL:Hid (flB (h+1) b=weave b.2.1 (b.2.2.map (flB h))):=rfl;rw [HPG.o];show Calls prog 151 #[.pointer (some ⟨fb,0,none⟩),.pointer (some ⟨q,0,none⟩),.int .i64 (b.1:Int),.slice la ln lc,.slice ha hn hc] w fun e w'=>e=.returned (.int .i64 ((((h+1:Nat):Nat):Int)+1))/\WkR B fb root dp k ps (flB (h+1) b).length (b.1::(b.2.2.map (pgB h)).flatten) w w'
 rw [show (((h+1:Nat):Nat):Int)+1=(h:Int)+1+1 by omega];have hkk:k+(b.2.1.length:Int)<=1000000:=by have:=HLN.o;omega
 clear hIH hsr hk1;generalize hALL:flB (h+1) b=all at *
 have HLD:=zH (aFu b.1 hST hB hlf hpg.lt hpg.of hdn b.2.1 (b.2.2.map BT.id) hpg.pg hidl (by intro x hx;obtain ⟨k,hk,rfl⟩:=List.mem_map.1 hx;exact hid k hk) hit.n1 hit.n4 hit.ok hit.so hpg.ln hpg.bt);have HST:=zH hST;have HIT:=zH hit;have hl4:=hit.n4;have hl1:=hit.n1;have HB:=zH hB;have HFB:=zH hfb;have HSV:=zH hsv;have HBF:=zH hBf;have hfl:=(lO hfb);have HLO:=zH hlo;have HHI:=zH hhi;have HID:Hid (b.1<4096):=Nat.lt_of_lt_of_le hpg.lt hsn;have HKD:=zH hkd;have HS3:=zH s3;have HBI:Hid (∀ x∈b.2.1,0<cmpB x.1 lo/\(hi=[]\/cmpB x.1 hi<0)):=fun x hx=>hbd x (by rw [HFL.o];exact aHi _ _ hcs _ hx)
 clear hST hfb hsv hpg hit hlo hhi hB hBf hsn hlf hdn hbd;generalize hl:b.2.1=l at *
 generalize hLL:l.length=L at *
 have hn2:(b.2.2.map BT.id).length=L+1:=hidl;go_enter func151,ntmps151;go_wp2_with fail;refine HLD.o.mono ?_;rintro e w1 ⟨v1,rfl,⟨gb,gi,gc,rfl,z1,z2,z5,z3,z4,z6⟩,hb1⟩;rw [hLL,hn2] at z3;have HIO:=zH (aCu z3);unfold brP at HIO;have HZ6:=zH z6;have HZ3:=zH z3;have HB1:=zH hb1;have HBw1:Hid (B<=w1.heap.size):=nT HB.o hb1.size;obtain ⟨kf,vf,hg1,hg2⟩:=z4;rw [hLL] at hg1;have HG1:=zH hg1;have HG2:=zH hg2;have HFB1:=zH ((hb1.block fb hfl).trans HFB.o);have r0:w1.cell? ⟨fb,0,none⟩=some (.int .i64 root):=(aAd HFB1.o).trans HSV.o.c0;have HF1:=zH (FT.of hb1 HB.o);clear z3 hb1 HLD hg1 hg2;go_wp2_with fail;refine HIO.o.mono ?_;rintro e w1' ⟨rfl,rfl⟩;go_upto_region 3 with fail;go_cut [] from 26 to 37 (fun wx=>wx=w1')
 case first =>
  by_cases hrt:(b.1:Int)=root
  ·have drt:((b.1:Int) == root)=true:=by simp;exact hrt
   subst hrt;go_wp2_with fail;refine (aA1 _).mono ?_;rintro e w2 ⟨rfl,rfl⟩;go_wp2;go_meet;rfl
  ·have drt:((b.1:Int) == root)=false:=by simp;exact hrt
   have x2:(2:Int)<=(L:Int):=by
    rcases hro with h9 | h9
    ·exact absurd h9 hrt
    ·have h9:2<=b.2.1.length:=h9;rw [hl,hLL] at h9;omega
   go_wp2_with fail;refine (aA1 _).mono ?_;rintro e w2 ⟨rfl,rfl⟩;go_wp2;go_meet;rfl
 case rest =>
  subst hcut;obtain ⟨x0,hx0⟩:∃ x,l[0]?=some x:=⟨_,gE (by omega)⟩;obtain ⟨x9,hx9⟩:∃ x,l[L-1]?=some x:=⟨_,gE (by omega)⟩;obtain ⟨ka0,kc0,hk0,hb0⟩:=(HG2.o 0 x0 hx0).1;obtain ⟨ka9,kc9,hk9,hb9⟩:=(HG2.o (L-1) x9 hx9).1;have y0:wc.cell? ⟨gi,0,none⟩=some (.slice ka0 x0.1.length kc0):=by rw [aAd HG1.o,List.getElem?_toArray,<-hk0];exact aBh kf vf 0 L (by omega)
  have y9:wc.cell? ⟨gi,(L-1)*2,none⟩=some (.slice ka9 x9.1.length kc9):=by rw [aAd HG1.o,List.getElem?_toArray,<-hk9];exact aBh kf vf (L-1) L (by omega)
  have HC0:=zH (aA9 ka0 la x0.1.length kc0 ln lc x0.1 lo wc hb0.1 (HLO.o.ft HF1.o).1);have HC9:=zH (aA9 ka9 ha x9.1.length kc9 hn hc x9.1 hi wc hb9.1 (HHI.o.ft HF1.o).1);have xc0:(0:Int)<cmpB x0.1 lo:=(HBI.o x0 (mG hx0)).1;have HX9:=zH (HBI.o x9 (mG hx9)).2;clear hx0 hx9 hb0 hb9 hk0 hk9;generalize cmpB x0.1 lo=cc0 at *
  generalize cmpB x9.1 hi=cc9 at *
  generalize x0.1.length=n00 at *
  generalize x9.1.length=n99 at *
  have xL0:(0:Int)<(L:Int):=by omega
  have xL1:((L:Int)-1)=((L-1:Nat):Int):=by omega
  have xL2:((L-1:Nat):Int)<(L:Int):=by omega
  go_wp2_with fail;refine HC0.o.mono ?_;rintro e w2 ⟨rfl,rfl⟩;go_wp2_with fail;refine (aA1 _).mono ?_;rintro e w3 ⟨rfl,rfl⟩;go_upto_region 5 with fail;go_cut [] from 46 to 61 (fun wx=>wx=w3)
  case first =>
   by_cases hhe:hn=0
   ·subst hhe;go_wp2_with fail;refine (aA1 _).mono ?_;rintro e w4 ⟨rfl,rfl⟩;go_wp2;go_meet;rfl
   ·have xh:¬ (hn:Int)=0:=by omega
    have dh:((hn:Int) == 0)=false:=by simp;omega
    have xc9:cc9<0:=by
     rcases HX9.o with h9 | h9
     ·rw [h9] at hhn;simp at hhn;omega
     ·exact h9
    go_wp2_with fail;refine HC9.o.mono ?_;rintro e w4 ⟨rfl,rfl⟩;go_wp2_with fail;refine (aA1 _).mono ?_;rintro e w5 ⟨rfl,rfl⟩;go_wp2;go_meet;rfl
  case rest =>
   subst hcut;have r2:wc.cell? ⟨fb,2,none⟩=some (.int .i64 k):=(aAd HFB1.o).trans HSV.o.c2;have f2:wc.frozen? ⟨fb,2,none⟩=false:=aAm HFB1.o;have HFB2:Hid ((wc.setCell ⟨fb,2,none⟩ (.int .i64 (k+(L:Int)))).heap[fb]?=some (.cells (cs.setIfInBounds 2 (.int .i64 (k+(L:Int)))) 207 (0,0))):=heap_setCell_same _ _ _ _ _ _ HFB1.o;have HSV2:=zH (HSV.o.keys (k':=k+(L:Int)));have HEX2:Hid (Ex B [fb] wc (wc.setCell ⟨fb,2,none⟩ (.int .i64 (k+(L:Int))))):=Ex.set HBF.o;have HAD:=zH (add_ok (B:=B) (o:=3) HBF.o HFB2.o HSV2.o.wd HID.o);clear y0 y9 r0 HC0 HC9 HX9;go_wp2_with fail;refine HAD.o.mono ?_;rintro e w4 ⟨rfl,cs4,p1,p2,p3,p4⟩;have HFB4:=zH p1;have HSV4:=zH (HSV2.o.words p2 p3);have HEX4:=zH (HEX2.o.trans p4);have HEXw:Hid (Ex B [fb] w w4):=⟨(HB1.o.mono HB.o).trans HEX4.o.1,fun k9 h8 h9=>by rw [HEX4.o.2 k9 (Nat.lt_of_lt_of_le h8 HB1.o.size) h9,HB1.o.block k9 h8]⟩;have ta:=aCw (.pointer (some ⟨gb,0,none⟩)) w4;clear p1 p2 p3 p4 r2 f2 HAD;have hm:∀ (ds:List (BT h)),((ds.map (flB h)).map List.length).sum=(ds.map fun d=>(flB h d).length).sum:=fun ds=>by rw [List.map_map];rfl
   have HSUM:Hid (all.length=L+(b.2.2.map fun d=>(flB h d).length).sum):=by
    show _=_;rw [HLN.o,hm]
   have HG1':=zH ((HEX4.o.2 gi (lO HG1.o) (by
    intro q9;simp only [List.mem_singleton] at q9;have h9:=HG1.o;rw [q9,HFB1.o] at h9;simp only [oI,cI] at h9
    exact absurd h9.2.1 (by decide))).trans HG1.o)
   have HGB4:=zH (HEX4.o.keepX HFB1.o HZ3.o (by decide));have HGC4:=zH (HEX4.o.keepX HFB1.o HZ6.o (by decide));have HF4:Hid (FT B wc w4):=HEX4.o.ftX HFB1.o (by decide);have g1:w4.cell? ⟨gb,1,none⟩=some (.slice (some ⟨gc,0,none⟩) (L+1) (L+1)):=aAd HGB4.o;have HST4:Hid (ST B p q s t w4):=HST.o.exS HEXw.o HFB.o;have HBw4:Hid (B<=w4.heap.size):=nT HB.o HEXw.o.1.size;go_wp2_with fail;go_loopw [88,15] (fun i hgt wx=>∃ j:Nat,j<=L+1/\i=.int .i64 j/\hgt=.int .i64 (if j=0 then 0 else (h:Int)+1)/\∃ csj,wx.heap[fb]?=some (.cells csj 207 (0,0))/\StV csj root dp (k+(L:Int)+(((b.2.2.take j).map fun d=>(flB h d).length).sum:Nat)) (((b.2.2.take j).map (pgB h)).flatten.foldl adP (adP ps b.1))/\Ex B [fb] w4 wx) (fun i _ _=>L+1-(intOf i).toNat)
   case atStart=>exact ⟨0,by omega,rfl,rfl,cs4,HFB4.o,by simpa using HSV4.o,Ex.refl _ _ _⟩
   case round =>
    obtain ⟨j,hj,rfl,rfl,csj,hfj,hsj,hej⟩:=hrel;have HFBj:=zH hfj;have HSVj:=zH hsj;have HEXj:=zH hej;have HEWj:=zH (HEXw.o.wk hej);clear hfj hsj hej g1 ta;by_cases hjn:j<L+1
    ·have xj:(j:Int)<((L+1:Nat):Int):=by omega
     obtain ⟨kb,hkb⟩:∃ kb,b.2.2[j]?=some kb:=⟨_,gE (by omega)⟩;have hkm:=mG hkb;have hkc:(b.2.2.map (flB h))[j]?=some (flB h kb):=by rw [List.getElem?_map,hkb];rfl
     have HKB:=zH (kid_bounds HSR.o (by rw [hLL];exact HCS.o) hkc);have HKS:Hid (Srt (flB h kb)):=Srt.kid HSR.o (by rw [hLL];exact HCS.o) (mG hkc);have HCB:Hid (∀ x∈flB h kb,0<cmpB x.1 lo/\(hi=[]\/cmpB x.1 hi<0)):=fun x hx=>HBD.o x (by rw [HFL.o];exact (aE7 l _ _ (by rw [hLL];exact HCS.o) (mG hkc)).subset hx)
     have HGR:=zH (HEXj.o.keepX HFB4.o HG1'.out (by decide));have HFT:Hid (FT B wc wr):=HF4.o.trans (HEXj.o.ftX HFB4.o (by decide));have HSTr:Hid (ST B p q s t wr):=HST4.o.exS HEXj.o HFB4.o;have HBr:Hid (B<=wr.heap.size):=nT HBw4.o HEXj.o.1.size;have hgc:=HEXj.o.keepX HFB4.o HGC4.o (by decide);have g2:wr.cell? ⟨gc,j,none⟩=some (.iface 257 (.int .i64 (BT.id kb:Int))):=by
      rw [aAd hgc,List.getElem?_toArray,List.getElem?_map,List.getElem?_map,hkb];rfl
     have g3:=asr_place (.int .i64 (BT.id kb:Int)) wr;have htk:(b.2.2.take (j+1)).map (fun d=>(flB h d).length)=(b.2.2.take j).map (fun d=>(flB h d).length)++[(flB h kb).length]:=by
      rw [List.take_add_one,hkb];simp
     have htp:((b.2.2.take (j+1)).map (pgB h)).flatten=((b.2.2.take j).map (pgB h)).flatten++pgB h kb:=by
      rw [List.take_add_one,hkb];simp
     have hle:((b.2.2.take (j+1)).map fun d=>(flB h d).length).sum<=(b.2.2.map fun d=>(flB h d).length).sum:=by
      conv=>rhs;rw [<-List.take_append_drop (j+1) b.2.2,List.map_append,List.sum_append]
      omega
     rw [htk,List.sum_append] at hle;simp only [List.sum_cons,List.sum_nil,Nat.add_zero] at hle;generalize hkj:k+(L:Int)+(((b.2.2.take j).map fun d=>(flB h d).length).sum:Nat)=kj at *
     generalize hpj:((b.2.2.take j).map (pgB h)).flatten.foldl adP (adP ps b.1)=psj at *
     have HKJ0:Hid (0<=kj):=by show 0<=kj;omega
     have HKJ1:Hid (kj+((flB h kb).length:Int)<=1000000):=by
      have h1:=HK1.o;have h2:=HSUM.o;show kj+((flB h kb).length:Int)<=1000000;omega
     have HNX:Hid (∀ (csn:Array Value) (wn:World),wn.heap[fb]?=some (.cells csn 207 (0,0))->StV csn root dp (kj+((flB h kb).length:Int)) ((pgB h kb).foldl adP psj)->Ex B [fb] w4 wn->∃ j':Nat,j'<=L+1/\Value.int .i64 (j+1)=.int .i64 j'/\Value.int .i64 ((h:Int)+1)=.int .i64 (if j'=0 then 0 else (h:Int)+1)/\∃ csj,wn.heap[fb]?=some (.cells csj 207 (0,0))/\StV csj root dp (k+(L:Int)+(((b.2.2.take j').map fun d=>(flB h d).length).sum:Nat)) (((b.2.2.take j').map (pgB h)).flatten.foldl adP (adP ps b.1))/\Ex B [fb] w4 wn):=by
      intro csn wn a1 a2 a3;refine ⟨j+1,by omega,by simp,by simp,csn,a1,?_,a3⟩;rw [htk,htp,List.sum_append,List.foldl_append,hpj];rw [<-hkj] at a2;have:k+(L:Int)+((((b.2.2.take j).map fun d=>(flB h d).length).sum+[(flB h kb).length].sum:Nat):Int)=k+(L:Int)+(((b.2.2.take j).map fun d=>(flB h d).length).sum:Nat)+((flB h kb).length:Int):=by
       simp only [List.sum_cons,List.sum_nil,Nat.add_zero];omega
      rw [this];exact a2
     clear hgc htk htp hle hkb hkc hkj hpj;by_cases hj00:j=0
     ·obtain ⟨x1,hx1⟩:∃ x,l[j]?=some x:=⟨_,gE (by omega)⟩;obtain ⟨ka1,kc1,hka1,hkb1⟩:=(HG2.o j x1 hx1).1;have y1:wr.cell? ⟨gi,j*2,none⟩=some (.slice ka1 x1.1.length kc1):=by rw [aAd HGR.o,List.getElem?_toArray,<-hka1];exact aBh kf vf j L (by omega)
      have hb1':=hkb1.ft HFT.o;have hx11:=HKB.o.2 x1 hx1;have HCW:=zH (HIH.o wr kb csj root dp kj psj lo x1.1 la ln lc ka1 x1.1.length kc1 HSTr.o HBr.o HBF.o HFBj.o HSVj.o (HKD.o kb hkm) (HS3.o kb hkm).1 HKS.o (Or.inr (HS3.o kb hkm).2) HKJ0.o HKJ1.o ((HLO.o.ft HF1.o).ft HFT.o) (hb1') hln rfl (fun x hx=>⟨(HCB.o x hx).1,Or.inr (hx11 x hx)⟩));generalize x1.1.length=n1 at *
      subst hj00;clear hkb1 hb1' hka1 hx1 hx11;go_wp2_with fail;refine HCW.o.mono ?_;rintro e w5 ⟨rfl,csn,p1,p2,p3⟩;have HFBn:=zH p1;have HSVn:=zH p2;have HEXn:=zH (HEXj.o.wk p3);clear p1 p2 p3 HCW;go_wp2_with fail;refine (aA1 _).mono ?_;rintro e w6 ⟨rfl,rfl⟩;go_wp2_with fail;go_roundw
      case rel=>exact HNX.o _ _ HFBn.o HSVn.o HEXn.o
      case measure=>simp [intOf]
     ·have xj0:(0:Int)<(j:Int):=by omega
      have xj00:¬ (j:Int)=0:=by omega
      have dj00:((j:Int) == 0)=false:=by simp;omega
      simp only [if_neg hj00];by_cases hjl:j<L
      ·have xjl:(j:Int)<(L:Int):=by omega
       obtain ⟨x0,hx0⟩:∃ x,l[j-1]?=some x:=⟨_,gE (by omega)⟩;obtain ⟨ka0,kc0,hka0,hkb0⟩:=(HG2.o (j-1) x0 hx0).1;have y0:wr.cell? ⟨gi,(j-1)*2,none⟩=some (.slice ka0 x0.1.length kc0):=by rw [aAd HGR.o,List.getElem?_toArray,<-hka0];exact aBh kf vf (j-1) L (by omega)
       have xj1:((j:Int)-1)=((j-1:Nat):Int):=by omega
       have xj2:((j-1:Nat):Int)<(L:Int):=by omega
       have hb0':=hkb0.ft HFT.o;have hx01:=HKB.o.1 x0 (by omega) hx0;obtain ⟨x1,hx1⟩:∃ x,l[j]?=some x:=⟨_,gE (by omega)⟩;obtain ⟨ka1,kc1,hka1,hkb1⟩:=(HG2.o j x1 hx1).1;have y1:wr.cell? ⟨gi,j*2,none⟩=some (.slice ka1 x1.1.length kc1):=by rw [aAd HGR.o,List.getElem?_toArray,<-hka1];exact aBh kf vf j L (by omega)
       have hb1':=hkb1.ft HFT.o;have hx11:=HKB.o.2 x1 hx1;have HCW:=zH (HIH.o wr kb csj root dp kj psj x0.1 x1.1 ka0 x0.1.length kc0 ka1 x1.1.length kc1 HSTr.o HBr.o HBF.o HFBj.o HSVj.o (HKD.o kb hkm) (HS3.o kb hkm).1 HKS.o (Or.inr (HS3.o kb hkm).2) HKJ0.o HKJ1.o (hb0') (hb1') rfl rfl (fun x hx=>⟨hx01 x hx,Or.inr (hx11 x hx)⟩));generalize x0.1.length=n0 at *
       generalize x1.1.length=n1 at *
       clear hkb0 hb0' hka0 hx0 hx01;clear hkb1 hb1' hka1 hx1 hx11;go_wp2_with fail;refine HCW.o.mono ?_;rintro e w5 ⟨rfl,csn,p1,p2,p3⟩;have HFBn:=zH p1;have HSVn:=zH p2;have HEXn:=zH (HEXj.o.wk p3);clear p1 p2 p3 HCW;go_wp2_with fail;refine (aA1 _).mono ?_;rintro e w6 ⟨rfl,rfl⟩;go_wp2_with fail;go_roundw
       case rel=>exact HNX.o _ _ HFBn.o HSVn.o HEXn.o
       case measure=>simp [intOf];omega
      ·have xjl:¬ (j:Int)<(L:Int):=by omega
       obtain ⟨x0,hx0⟩:∃ x,l[j-1]?=some x:=⟨_,gE (by omega)⟩;obtain ⟨ka0,kc0,hka0,hkb0⟩:=(HG2.o (j-1) x0 hx0).1;have y0:wr.cell? ⟨gi,(j-1)*2,none⟩=some (.slice ka0 x0.1.length kc0):=by rw [aAd HGR.o,List.getElem?_toArray,<-hka0];exact aBh kf vf (j-1) L (by omega)
       have xj1:((j:Int)-1)=((j-1:Nat):Int):=by omega
       have xj2:((j-1:Nat):Int)<(L:Int):=by omega
       have hb0':=hkb0.ft HFT.o;have hx01:=HKB.o.1 x0 (by omega) hx0;have HCW:=zH (HIH.o wr kb csj root dp kj psj x0.1 hi ka0 x0.1.length kc0 ha hn hc HSTr.o HBr.o HBF.o HFBj.o HSVj.o (HKD.o kb hkm) (HS3.o kb hkm).1 HKS.o (Or.inr (HS3.o kb hkm).2) HKJ0.o HKJ1.o (hb0') ((HHI.o.ft HF1.o).ft HFT.o) rfl hhn (fun x hx=>⟨hx01 x hx,(HCB.o x hx).2⟩));generalize x0.1.length=n0 at *
       clear hkb0 hb0' hka0 hx0 hx01;go_wp2_with fail;refine HCW.o.mono ?_;rintro e w5 ⟨rfl,csn,p1,p2,p3⟩;have HFBn:=zH p1;have HSVn:=zH p2;have HEXn:=zH (HEXj.o.wk p3);clear p1 p2 p3 HCW;go_wp2_with fail;refine (aA1 _).mono ?_;rintro e w6 ⟨rfl,rfl⟩;go_wp2_with fail;go_roundw
       case rel=>exact HNX.o _ _ HFBn.o HSVn.o HEXn.o
       case measure=>simp [intOf];omega
    ·have xj:¬ (j:Int)<((L+1:Nat):Int):=by omega
     obtain rfl:j=L+1:=by omega
     have htt:b.2.2.take (L+1)=b.2.2:=List.take_of_length_le (by omega);rw [htt] at HSVj;have hjz:¬ L+1=0:=by omega
     simp only [if_neg hjz];go_wp2;go_ret;refine ⟨rfl,csj,HFBj.o,?_,HEWj.o⟩;rw [HSUM.o,List.foldl_cons];have:k+((L+(b.2.2.map fun d=>(flB h d).length).sum:Nat):Int)=k+(L:Int)+((b.2.2.map fun d=>(flB h d).length).sum:Nat):=by omega
     rw [this];exact HSVj.o
theorem walk_ok [Gd] {B p q fb:Nat} {s:DS} {t:PS} (hlf:s.life=t.life) (hdn:s.down=false) (hsn:s.n<=4096):∀ h,h<100000->WkC B p q fb s t h
 | 0,_=>walk_leaf hlf hdn hsn
 | h+1,hh=>walk_branch hlf hdn hsn (by omega) (walk_ok hlf hdn hsn h (by omega))
end Go.Proofs.YtdpdjpkmndnaaaaGreat
set_option linter.unusedVariables false
namespace Go.Proofs.YtdpdjpkmndnaaaaGreat
open Tryz
def mk8 (c:Nat):Nat->Nat
 | 0=>0
 | n+1=>c+256*mk8 c n
def st2 (n x:Nat):Nat:=(x / 4 &&& mk8 51 n)+(x &&& mk8 51 n)
def y1 (b:Nat):Nat:=(b / 2 &&& 85)+(b &&& 85)
def y2 (b:Nat):Nat:=(b / 4 &&& 51)+(b &&& 51)
end Go.Proofs.YtdpdjpkmndnaaaaGreat
