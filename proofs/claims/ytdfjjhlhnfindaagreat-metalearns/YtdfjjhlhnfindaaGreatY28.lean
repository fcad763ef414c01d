import Derived.Test.YtdfjjhlhnfindaaGreatY27
import Derived.Lib.AppendZerosOnto
set_option maxRecDepth 100000
set_option maxHeartbeats 16000000
set_option linter.unusedVariables false
namespace Go.Proofs.YtdfjjhlhnfindaaGreat
open Go.RowKit Tryz
variable {B B1 c g gb gi gl gv h i kc kn m n o p px q vc vn:Nat} {S gone:List Nat} {a ka va:Option Addr} {cs cur:Array Value} {cv:List Value} {d:Int} {it:It} {l:List It} {rv v:Value} {s:DS} {t:PS} {w w':World}
theorem aCi (w:World) (dT sT ty elem:TypeId) (z g o dLen dCap:Nat) (a:Addr) (sLen sCap:Nat) (cur:Array Value) (t:TypeId) (cs:List Value)
  (hu:prog.underlying dT=some (.slice elem)) (hs:(prog.info? elem).map (·.size)=some z)
  (hg:w.heap[g]?=some (.cells cur t (0,0))) (hn:cs.length=Nat.min sLen dLen*z)
  (hsrc:∀ j v,cs[j]?=some v->w.cell? (a.add j)=some v) (hfit:o+cs.length<=cur.size) (h1:∀ v∈cs,v.oneCell'=true) :
  (Builtin.copy_ #[dT,sT] ty #[.slice (some ⟨g,o,none⟩) dLen dCap,.slice (some a) sLen sCap]).run prog w =
   .ok (goInt (Nat.min sLen dLen)) (w.setRow g (cur.toList.take o++cs++cur.toList.drop (o+cs.length)).toArray):=by
 have hl:=run_loadCells_list (P:=prog) w a cs hsrc;have hst:=run_storeCells_at prog g o t cs 0 cur w hg (by simpa using hfit) h1
 cases hq:prog.info? elem with
 | none=>simp [hq] at hs
 | some i =>
  have hi:i.size=z:=by simpa [hq] using hs
  rw [hn] at hl;simp [Builtin.copy_,run_underlying hu,Builtin.lenOf,Builtin.firstCells,sizeOf,typeInfo,hq,hi,hl,hst]
theorem aCc {new:Array Value} {t:TypeId} (hg:w.heap[g]?=some (.cells cur t (0,0))):(w.setRow g new).heap[g]?=some (.cells new t (0,0)):=setRow_heap w g cur new t _ hg
theorem size_item:(prog.info? 245).map (·.size)=some 2:=by kernel_rfl
theorem size_node:(prog.info? 238).map (·.size)=some 1:=by kernel_rfl
theorem aCb (w:World) {ops:Array Oper} {rest:List Oper} {o:Oper} {a:Act} {Q:Exit->Act->World->Prop} (hgd:o.guard=none) (s x:Operand) (t e:TypeId)
  (ho:o.op=.call { callee:=.builtin .append,args:=#[s,x],argTypes:=#[t,3] }) (i:TypeInfo) (z:Value) (size bytes:Nat) (ht:prog.underlying t=some (.slice e)) (hi:prog.info? e=some i) (hz:i.zero=some z) (hsz:i.size=size) (hby:i.bytes=bytes) (hzs:z.cells.size=size) (h0s:0<size) (hb:bytes<=48)
  (b off n cap k:Nat) (olds:List Value) (hs:a.eval s=.slice (some ⟨b,off,none⟩) n cap) (hx:a.eval x=.int .i64 (k:Int)) (hlo:olds.length=n*size) (hold:∀ j u,olds[j]?=some u->w.cell? ⟨b,off+j,none⟩=some u)
  (h0:0<k) (hfull:cap<n+k) (hsm:n+k<=100000)
  (h:∀ c' w' row,Hid (w'.heap[w.heap.size]?=some (.cells (olds++row).toArray e (0,0)))->Hid (k*size<=row.length)->Hid (n+k<=c')->Hid (c'<=9223372036854775807)->Hid (Below w.heap.size w w')->wpList prog ops Q rest (a.put o.dst (.slice (some ⟨w.heap.size,0,none⟩) (n+k) c')) w'):wpList prog ops Q (o::rest) a w:=by
 have hfc:(Builtin.firstCells i.size n (.slice (some ⟨b,off,none⟩) n cap)).run prog w.drew=.ok olds.toArray w.drew:=by
  rw [hsz]
  exact run_firstCells_some w.drew size n ⟨b,off,none⟩ n cap olds hlo (fun j v hj=>by
   rw [Addr.add_lit]
   exact hold j v hj)
 have hfit:=growslice_fits (need:=n+k) (old:=cap) (bytes:=i.bytes) hfull (by rw [hby];have:(n+k)*bytes<=(n+k)*48:=Nat.mul_le_mul_left _ hb;omega);have hr:=Go.Lib.run_append_grow_zeros w t 3 o.type e i z .i64 .i64 ht underlying3 hi hz (some ⟨b,off,none⟩) n cap olds hfc k h0 (by omega) hfull (by omega) (by rw [hby];have:k*bytes<=k*48:=Nat.mul_le_mul_left _ hb;omega) hfit;refine Go.Lib.wpList_append_run w hgd s x _ _ ho _ _ hs hx _ _ hr (h _ _ (Builtin.zeroCells z.cells k++Builtin.zeroCells z.cells (grownCap w (n+k) cap e-(n+k))).toList ?_ ?_ (grownCap_ge w (n+k) cap e) ?_ ?_)
 ·have e9:∀ A C:Array Value,olds.toArray++A++C=(olds++(A++C).toList).toArray:=by
   intro A C;apply Array.toList_inj.1;simp
  show _=_;rw [<-e9];exact heap_alloc_new w.drew _
 ·show _<=_;rw [Array.length_toList,Array.size_append,size_zeroCells,hzs];omega
 ·exact grownCap_le_maxLen w (n+k) cap e (by simp only [maxLen];omega)
 ·exact (Below.refl _ _).drew.trans ((Below.refl w.heap.size w.drew).alloc (nR _) _)
def RowN (w:World) (g:Nat) (t:TypeId) (ys:List Value):Prop:=∃ row:List Value,w.heap[g]?=some (.cells (ys++row).toArray t (0,0))
theorem RowN.ofOwns {z:Nat} {t:TypeId} {ys:List Value} (h:w.ownsRow B t z v n ys) (hn:0<n):∃ g c,v=.slice (some ⟨g,0,none⟩) n c/\B<=g/\n<=c/\c<=9223372036854775807/\RowN w g t ys:=by
 rcases h.2 with ⟨_,h1⟩ | ⟨g,cap,cur,rfl,hB,hg,hnc,hcm,hcs,ht⟩
 ·omega
 ·refine ⟨g,cap,rfl,hB,hnc,by simpa [maxLen] using hcm,cur.toList.drop (n*z),?_⟩;rw [hg]
  congr 2
  rw [<-ht,List.take_append_drop]
theorem aGw {L:Nat} {cs:List Value} {k:Value} (hg:w.heap[g]?=some (.cells cs.toArray 245 (0,0))) (hl:cs.length=L*2) (hL:L<=10) (hL0:0<L) (hv:w.heap[gv]?=some (.cells #[k,v] 245 (0,0))) (h1:∀ u∈cs,u.oneCell'=true) (hk1:k.oneCell'=true) (hv1:v.oneCell'=true) :
  Calls prog 213 #[.slice (some ⟨g,0,none⟩) L L,.int .i64 (L:Int),.slice (some ⟨gv,0,none⟩) 1 1] w fun e w'=>∃ gn c,e=.returned (.slice (some ⟨gn,0,none⟩) (L+1) c)/\w.heap.size<=gn/\L+1<=c/\c<=9223372036854775807/\RowN w' gn 245 (cs++[k,v])/\Below w.heap.size w w':=by
 obtain ⟨i0,hi0,hz0,hz1,hz2⟩:=info_parts aD1;have HOL:Hid (∀ b,some (⟨g,0,none⟩:Addr)=some b->∀ j u,cs[j]?=some u->w.cell? (b.add j)=some u):=by
  intro b hb j u hu;simp only [oI] at hb;subst hb;rw [Addr.add_lit,Nat.zero_add,aAa hg,List.getElem?_toArray];exact hu
 have HNW:Hid (∀ j u,[k,v][j]?=some u->w.cell? ((⟨gv,0,none⟩:Addr).add j)=some u):=by
  intro j u hu;rw [Addr.add_lit,Nat.zero_add,aAa hv];simpa using hu
 have HO1:Hid (∀ u∈[k,v],u.oneCell'=true):=by
  intro u hu;simp only [List.mem_cons,List.not_mem_nil,or_false] at hu;rcases hu with rfl | rfl
  ·exact hk1
  ·exact hv1
 have HL:=zH hl;clear hg hv h1 hk1 hv1 hl;go_enter func213,ntmps213;go_wp2_with (at_builtin;refine wpList_append_grows w rfl (.tmp 23) (.tmp 24) 240 rfl 245 i0 _ 2 48 underlying240 hi0 hz0 hz1 hz2 rfl (by omega) (some ⟨g,0,none⟩) L L cs rfl (fun h=>by cases h) HL.o HOL.o ⟨gv,0,none⟩ 1 1 [k,v] rfl rfl HNW.o HO1.o (by omega) (by unfold maxLen;omega) (by omega) ?_;intro v3 w3 ho3 hg3;obtain ⟨gn,cn,rfl,hgn,hcn,hcm,hrow⟩:=RowN.ofOwns ho3 (by omega);have HROW:=zH hrow;have HGN:=zH hgn;have HCN:=zH hcn;have HCM:=zH hcm;have HB3:=zH ((Below.refl w.heap.size w).grown hg3 (nR _) (fun k hk=>by cases hk));clear ho3 hg3 hrow hgn hcn hcm);go_ret;exact ⟨gn,cn,rfl,HGN.o,HCN.o,HCM.o,HROW.o,HB3.o⟩
theorem aGu {k:Value} (hv:w.heap[gv]?=some (.cells #[k,v] 245 (0,0))) (hk1:k.oneCell'=true) (hv1:v.oneCell'=true) :
  Calls prog 213 #[.slice none 0 0,.int .i64 0,.slice (some ⟨gv,0,none⟩) 1 1] w fun e w'=>∃ gn c,e=.returned (.slice (some ⟨gn,0,none⟩) 1 c)/\w.heap.size<=gn/\1<=c/\c<=9223372036854775807/\RowN w' gn 245 [k,v]/\Below w.heap.size w w':=by
 obtain ⟨i0,hi0,hz0,hz1,hz2⟩:=info_parts aD1;have HNW:Hid (∀ j u,[k,v][j]?=some u->w.cell? ((⟨gv,0,none⟩:Addr).add j)=some u):=by
  intro j u hu;rw [Addr.add_lit,Nat.zero_add,aAa hv];simpa using hu
 have HO1:Hid (∀ u∈[k,v],u.oneCell'=true):=by
  intro u hu;simp only [List.mem_cons,List.not_mem_nil,or_false] at hu;rcases hu with rfl | rfl
  ·exact hk1
  ·exact hv1
 clear hv hk1 hv1;go_enter func213,ntmps213;go_wp2_with (at_builtin;refine wpList_append_grows w rfl (.tmp 23) (.tmp 24) 240 rfl 245 i0 _ 2 48 underlying240 hi0 hz0 hz1 hz2 rfl (by omega) none 0 0 [] rfl (fun _=>⟨rfl,rfl⟩) rfl (fun b h=>by cases h) ⟨gv,0,none⟩ 1 1 [k,v] rfl rfl HNW.o HO1.o (by omega) (by unfold maxLen;omega) (by omega) ?_;intro v3 w3 ho3 hg3;obtain ⟨gn,cn,rfl,hgn,hcn,hcm,hrow⟩:=RowN.ofOwns ho3 (by omega);have HROW:=zH hrow;have HGN:=zH hgn;have HCN:=zH hcn;have HCM:=zH hcm;have HB3:=zH ((Below.refl w.heap.size w).grown hg3 (nR _) (fun k hk=>by cases hk));clear ho3 hg3 hrow hgn hcn hcm);go_ret;exact ⟨gn,cn,rfl,HGN.o,HCN.o,HCM.o,HROW.o,HB3.o⟩
theorem aGv {L:Nat} {cs:List Value} {k:Value} (hg:w.heap[g]?=some (.cells cs.toArray 245 (0,0))) (hl:cs.length=L*2) (hL:L<=10) (hi:i<L) (hv:w.heap[gv]?=some (.cells #[k,v] 245 (0,0))) (h1:∀ u∈cs,u.oneCell'=true) (hk1:k.oneCell'=true) (hv1:v.oneCell'=true) :
  Calls prog 213 #[.slice (some ⟨g,0,none⟩) L L,.int .i64 (i:Int),.slice (some ⟨gv,0,none⟩) 1 1] w fun e w'=>∃ gn c,e=.returned (.slice (some ⟨gn,0,none⟩) (L+1) c)/\w.heap.size<=gn/\L+1<=c/\c<=9223372036854775807/\RowN w' gn 245 (cs.take (i*2)++(k::v::cs.drop (i*2)))/\Below w.heap.size w w':=by
 obtain ⟨i0,hi0,hz0,hz1,hz2⟩:=info_parts aD1;have HG:=zH hg;have HV:=zH hv;have HTL:Hid ((cs.take (i*2)).length=i*2):=by show _=_;rw [List.length_take];omega
 have HTC:Hid (∀ j u,(cs.take (i*2))[j]?=some u->w.cell? ⟨g,0+j,none⟩=some u):=by
  intro j u hu;rw [Nat.zero_add,aAa hg,List.getElem?_toArray];rw [List.getElem?_take] at hu
  split at hu
  ·exact hu
  ·cases hu
 have hik:i+(L+1-i)=L+1:=by omega
 have hk9:(L:Int)+1-(i:Int)=((L+1-i:Nat):Int):=by omega
 have b1:((i:Int) == (L:Int))=false:=by simp;omega
 have hwr:IntKind.i64.wrap ((i:Int)+1)=((i+1:Nat):Int):=by rw [IntKind.wrap_i64];omega
 have x2:(L:Int)<(L:Int)+1:=by omega
 have HL:=zH hl;have hmove:∀ (w1:World) (row:List Value),w1.heap[w.heap.size]?=some (.cells (cs.take (i*2)++row).toArray 245 (0,0))->(L+1-i)*2<=row.length->Below w.heap.size w w1->∃ R2 R3:Array Value,
   (∀ ty c,(Builtin.copy_ #[240,240] ty #[.slice (some ⟨w.heap.size,i*2,none⟩) (L+1-i) c,.slice (some ⟨gv,0,none⟩) 1 1]).run prog w1=.ok (goInt (Nat.min 1 (L+1-i))) (w1.setRow w.heap.size R2)) /\
   ((∀ ty c,(Builtin.copy_ #[240,240] ty #[.slice (some ⟨w.heap.size,(i+1)*2,none⟩) (L-i) c,.slice (some ⟨g,i*2,none⟩) (L-i) (L-i)]).run prog (w1.setRow w.heap.size R2).drew=.ok (goInt (Nat.min (L-i) (L-i))) ((w1.setRow w.heap.size R2).drew.setRow w.heap.size R3)) /\
    (RowN ((w1.setRow w.heap.size R2).drew.setRow w.heap.size R3) w.heap.size 245 (cs.take (i*2)++(k::v::cs.drop (i*2)))/\Below w.heap.size w ((w1.setRow w.heap.size R2).drew.setRow w.heap.size R3))):=by
  intro w1 row hh hr hb;have hgl:=(lO hg);have hvl:=(lO hv);have hT:=HTL.o;have e2:(cs.take (i*2)++row).toArray.toList.take (i*2)++[k,v]++(cs.take (i*2)++row).toArray.toList.drop (i*2+[k,v].length)=cs.take (i*2)++(k::v::row.drop 2):=by
   rw [List.toList_toArray,List.take_left' hT,List.drop_append,List.drop_of_length_le (by rw [hT];simp),hT];simp
  have hh2:(w1.setRow w.heap.size (cs.take (i*2)++(k::v::row.drop 2)).toArray).drew.heap[w.heap.size]?=some (.cells (cs.take (i*2)++(k::v::row.drop 2)).toArray 245 (0,0)):=aCc hh;have hb2:Below w.heap.size w (w1.setRow w.heap.size (cs.take (i*2)++(k::v::row.drop 2)).toArray).drew:=(below_setRow hb (nR _) _).drew;have hdl:(cs.drop (i*2)).length=(L-i)*2:=by rw [List.length_drop];omega
  have e3:(cs.take (i*2)++(k::v::row.drop 2)).toArray.toList.take ((i+1)*2)++cs.drop (i*2)++(cs.take (i*2)++(k::v::row.drop 2)).toArray.toList.drop ((i+1)*2+(cs.drop (i*2)).length)=(cs.take (i*2)++(k::v::cs.drop (i*2)))++row.drop (2+(L-i)*2):=by
   have t1:(cs.take (i*2)++(k::v::row.drop 2)).take ((i+1)*2)=cs.take (i*2)++[k,v]:=by
    rw [List.take_append,hT,List.take_of_length_le (by rw [hT];omega),show (i+1)*2-i*2=2 by omega];rfl
   have t2:(cs.take (i*2)++(k::v::row.drop 2)).drop ((i+1)*2+(cs.drop (i*2)).length)=row.drop (2+(L-i)*2):=by
    rw [List.drop_append,hT,List.drop_of_length_le (by rw [hT];omega),hdl,show (i+1)*2+(L-i)*2-i*2=(L-i)*2+1+1 by omega,List.drop_succ_cons,List.drop_succ_cons,List.drop_drop];rfl
   rw [List.toList_toArray,t1,t2];simp
  refine ⟨(cs.take (i*2)++(k::v::row.drop 2)).toArray,((cs.take (i*2)++(k::v::cs.drop (i*2)))++row.drop (2+(L-i)*2)).toArray,fun ty c=>?_,fun ty c=>?_,⟨_,aCc hh2⟩,below_setRow hb2 (nR _) _⟩
  ·have:=aCi w1 240 240 ty 245 2 w.heap.size (i*2) (L+1-i) c ⟨gv,0,none⟩ 1 1 _ 245 [k,v] underlying240 size_item hh (by rw [show Nat.min 1 (L+1-i)=1 from Nat.min_eq_left (by omega)];rfl) (fun j u hu=>by
    rw [Addr.add_lit,Nat.zero_add];rw [(hb.cell (p:=⟨gv,j,none⟩) hvl),aAa hv];simpa using hu) (by simp [hT];omega) (fun u hu=>by
    simp only [List.mem_cons,List.not_mem_nil,or_false] at hu;rcases hu with rfl | rfl
    ·exact hk1
    ·exact hv1)
   rw [e2] at this;exact this
  ·have:=aCi (w1.setRow w.heap.size (cs.take (i*2)++(k::v::row.drop 2)).toArray).drew 240 240 ty 245 2 w.heap.size ((i+1)*2) (L-i) c ⟨g,i*2,none⟩ (L-i) (L-i) _ 245 (cs.drop (i*2)) underlying240 size_item hh2 (by rw [hdl,show Nat.min (L-i) (L-i)=L-i from Nat.min_self _]) (fun j u hu=>by
    rw [Addr.add_lit,(hb2.cell (p:=⟨g,i*2+j,none⟩) hgl),aAa hg,List.getElem?_toArray];rw [List.getElem?_drop] at hu
    exact hu) (by rw [hdl];simp [hT];omega) (fun u hu=>h1 u (List.mem_of_mem_drop hu))
   rw [e3] at this;exact this
 clear hg hv h1 hk1 hv1 hl;go_enter func213,ntmps213;go_upto_region 10 with (at_builtin;refine aCb w rfl (.tmp 34) (.tmp 39) 240 245 rfl i0 _ 2 48 underlying240 hi0 hz0 hz1 hz2 rfl (by omega) (nR _) g 0 i L (L+1-i) (cs.take (i*2)) rfl (by rw [<-hk9];rfl) HTL.o HTC.o (by omega) (by omega) (by omega) ?_;intro c1 w1 row hh1 hr1 hc1 hc2 hb1;rw [hik] at hc1 ⊢;have hc3:L+1<=c1:=hc1.out;have hn1:¬ c1=i:=(by omega);have hn2:¬ c1=i+1:=(by omega);have HH1:=hh1;have HR1:=hr1;have HB1:=hb1;clear hh1 hr1 hb1);obtain ⟨R2,R3,hm1,hm2⟩:=hmove w1 row HH1.o HR1.o HB1.o;have cp1:=hm1 3 (c1-i);have HW1:=zH hm2;clear hm1 hm2 hmove;go_upto_region 11 with fail;clear cp1;generalize hw2:w1.setRow _ _=w2;have HW2:=zH HW1.o;rw [hw2] at HW2;clear hw2 HW1;have cp2:=HW2.o.1 3 (c1-(i+1));go_wp2_with fail;refine wp_region_noPanic ?_;refine wp_region_held_drew (S:=fun _=>True) (by kernel_rfl) trivial (fun hHeld=>?_);refine kT 0 46 ?_;refine kT 1 47 ?_;refine kT 2 48 ?_;refine kT 3 49 ?_;refine aAe (i:=4) (d:=50) (v:=?v4) (by kernel_rfl) (by kernel_rfl) (by kernel_rfl) (by kernel_rfl) (fun _ _ _ h=>h) ?hy4 (by assumption) ?rest4
 case hy4 =>
  intro oi ho;simp only [List.getElem?_toArray,List.getElem?_cons_succ,List.getElem?_cons_zero,oI] at ho;subst ho;refine Or.inl ⟨by rfl,?_⟩;intro wx hSw
  try dsimp only at hSw
  go_simp
  try rfl
  rw [if_pos ⟨by omega,by omega⟩]
 try simp only [Act.put,siT,scZ,scS]
 refine kT 5 51 ?_;refine kT 6 52 ?_;refine aAe (i:=7) (d:=53) (v:=?v7) (by kernel_rfl) (by kernel_rfl) (by kernel_rfl) (by kernel_rfl) (fun _ _ _ h=>h) ?hy7 (by assumption) ?rest7
 case hy7 =>
  intro oi ho;simp only [List.getElem?_toArray,List.getElem?_cons_succ,List.getElem?_cons_zero,oI] at ho;subst ho;refine Or.inl ⟨by rfl,?_⟩;intro wx hSw
  try dsimp only at hSw
  go_simp
  try rfl
  rw [if_pos (by omega),if_neg (by omega)]
 try simp only [Act.put,siT,scZ,scS]
 refine kC 8 ?_;intro K hK;go_simp;refine hK.out _ _ trivial (fun hHeld=>?_);clear hK K
 try simp only [Act.put,siT,scZ,scS]
 refine wpAnyH_done (by kernel_rfl) ?_ _;refine NoPanic.normal ?_;generalize hw3:w2.drew.setRow _ _=w3;have HW3:=zH HW2.o.2;rw [hw3] at HW3;clear hw3 HW2 cp2;go_wp2;go_ret;exact ⟨w.heap.size,c1,rfl,nR _,hc3,hc2.out,HW3.o.1,HW3.o.2⟩
theorem replace_end {cs:List Value} {l r:Value} (hg:w.heap[g]?=some (.cells cs.toArray 238 (0,0))) (hl:cs.length=n) (hL:n<=10) (hi:i+1=n) (hv:w.heap[gv]?=some (.cells #[l,r] 238 (0,0))) (hk1:l.oneCell'=true) (hv1:r.oneCell'=true) :
  Calls prog 215 #[.slice (some ⟨g,0,none⟩) n n,.int .i64 (i:Int),.int .i64 (n:Int),.slice (some ⟨gv,0,none⟩) 2 2] w fun e w'=>∃ gn c,e=.returned (.slice (some ⟨gn,0,none⟩) (n+1) c)/\w.heap.size<=gn/\n+1<=c/\c<=9223372036854775807/\RowN w' gn 238 (cs.take i++[l,r])/\Below w.heap.size w w':=by
 obtain ⟨i0,hi0,hz0,hz1,hz2⟩:=info_parts aFu;have HOL:Hid (∀ b,some (⟨g,0,none⟩:Addr)=some b->∀ j u,(cs.take i)[j]?=some u->w.cell? (b.add j)=some u):=by
  intro b hb j u hu;simp only [oI] at hb;subst hb;rw [Addr.add_lit,Nat.zero_add,aAa hg,List.getElem?_toArray];rw [List.getElem?_take] at hu
  split at hu
  ·exact hu
  ·cases hu
 have HNW:Hid (∀ j u,[l,r][j]?=some u->w.cell? ((⟨gv,0,none⟩:Addr).add j)=some u):=by
  intro j u hu;rw [Addr.add_lit,Nat.zero_add,aAa hv];simpa using hu
 have HO1:Hid (∀ u∈[l,r],u.oneCell'=true):=by
  intro u hu;simp only [List.mem_cons,List.not_mem_nil,or_false] at hu;rcases hu with rfl | rfl
  ·exact hk1
  ·exact hv1
 have HTL:Hid ((cs.take i).length=i*1):=by show _=_;rw [List.length_take];omega
 have b1:((i:Int) == (n:Int))=false:=by simp;omega
 have hin:i<=n:=by omega
 have hni:i+2=n+1:=by omega
 have x2:¬ (n:Int)+1<(n:Int):=by omega
 clear hg hv hk1 hv1 hl;go_enter func215,ntmps215;go_wp2_with (at_builtin;refine wpList_append_grows w rfl (.tmp 32) (.tmp 33) 249 rfl 238 i0 _ 1 16 underlying249 hi0 hz0 hz1 hz2 rfl (by omega) (some ⟨g,0,none⟩) i n (cs.take i) rfl (fun h=>by cases h) HTL.o HOL.o ⟨gv,0,none⟩ 2 2 [l,r] rfl rfl HNW.o HO1.o (by omega) (by unfold maxLen;omega) (by omega) ?_;intro v3 w3 ho3 hg3;rw [hni] at ho3;obtain ⟨gn,cn,rfl,hgn,hcn,hcm,hrow⟩:=RowN.ofOwns ho3 (by omega);have HROW:=zH hrow;have HGN:=zH hgn;have HCN:=zH hcn;have HCM:=zH hcm;have HB3:=zH ((Below.refl w.heap.size w).grown hg3 (nR _) (fun k hk=>by cases hk));clear ho3 hg3 hrow hgn hcn hcm);go_ret;exact ⟨gn,cn,rfl,HGN.o,HCN.o,HCM.o,HROW.o,HB3.o⟩
theorem replace_mid {cs:List Value} {l r:Value} (hg:w.heap[g]?=some (.cells cs.toArray 238 (0,0))) (hl:cs.length=n) (hL:n<=10) (hi:i+1<n) (hv:w.heap[gv]?=some (.cells #[l,r] 238 (0,0))) (h1:∀ u∈cs,u.oneCell'=true) (hk1:l.oneCell'=true) (hv1:r.oneCell'=true) :
  Calls prog 215 #[.slice (some ⟨g,0,none⟩) n n,.int .i64 (i:Int),.int .i64 ((i:Int)+1),.slice (some ⟨gv,0,none⟩) 2 2] w fun e w'=>∃ gn c,e=.returned (.slice (some ⟨gn,0,none⟩) (n+1) c)/\w.heap.size<=gn/\n+1<=c/\c<=9223372036854775807/\RowN w' gn 238 (cs.take i++(l::r::cs.drop (i+1)))/\Below w.heap.size w w':=by
 obtain ⟨i0,hi0,hz0,hz1,hz2⟩:=info_parts aFu;have HTL:Hid ((cs.take i).length=i*1):=by show _=_;rw [List.length_take];omega
 have HTC:Hid (∀ j u,(cs.take i)[j]?=some u->w.drew.cell? ⟨g,0+j,none⟩=some u):=by
  intro j u hu;rw [Nat.zero_add,World.cell?_drew,aAa hg,List.getElem?_toArray];rw [List.getElem?_take] at hu
  split at hu
  ·exact hu
  ·cases hu
 have hik:i+(n+1-i)=n+1:=by omega
 have hk9:(n:Int)+1-(i:Int)=((n+1-i:Nat):Int):=by omega
 have b1:((i:Int) == (i:Int)+1)=false:=by simp;omega
 have b2:((i:Int)+1 == (n:Int))=false:=by simp;omega
 have hwr:IntKind.i64.wrap ((i:Int)+1)=((i+1:Nat):Int):=by rw [IntKind.wrap_i64];omega
 have hw2:IntKind.i64.wrap ((i:Int)+2)=((i+2:Nat):Int):=by rw [IntKind.wrap_i64];omega
 have hwt:IntKind.i64.wrap ((i:Int)+2+((n-(i+1):Nat):Int))=(n:Int)+1:=by rw [IntKind.wrap_i64];omega
 have x2:(n:Int)<(n:Int)+1:=by omega
 have hin:i<=n:=by omega
 have hin1:(i:Int)+1<=(n:Int):=by omega
 have hmove:∀ (w1:World) (row:List Value),w1.heap[w.drew.heap.size]?=some (.cells (cs.take i++row).toArray 238 (0,0))->(n+1-i)*1<=row.length->Below w.drew.heap.size w.drew w1->∃ R2 R3:Array Value,
   (∀ ty c,(Builtin.copy_ #[249,249] ty #[.slice (some ⟨w.heap.size,i,none⟩) (n+1-i) c,.slice (some ⟨gv,0,none⟩) 2 2]).run prog w1=.ok (goInt (Nat.min 2 (n+1-i))) (w1.setRow w.heap.size R2)) /\
   ((∀ ty c,(Builtin.copy_ #[249,249] ty #[.slice (some ⟨w.heap.size,i+2,none⟩) (n-(i+1)) c,.slice (some ⟨g,i+1,none⟩) (n-(i+1)) (n-(i+1))]).run prog (w1.setRow w.heap.size R2).drew=.ok (goInt (Nat.min (n-(i+1)) (n-(i+1)))) ((w1.setRow w.heap.size R2).drew.setRow w.heap.size R3)) /\
    (RowN ((w1.setRow w.heap.size R2).drew.setRow w.heap.size R3) w.heap.size 238 (cs.take i++(l::r::cs.drop (i+1)))/\Below w.heap.size w ((w1.setRow w.heap.size R2).drew.setRow w.heap.size R3))):=by
  intro w1 row hh hr hb0;have hh:w1.heap[w.heap.size]?=some (.cells (cs.take i++row).toArray 238 (0,0)):=hh;have hb:Below w.heap.size w w1:=(Below.refl w.heap.size w).drew.trans hb0;have hgl:=(lO hg);have hvl:=(lO hv);have hT:(cs.take i).length=i:=by rw [List.length_take];omega
  have e2:(cs.take i++row).toArray.toList.take i++[l,r]++(cs.take i++row).toArray.toList.drop (i+[l,r].length)=cs.take i++(l::r::row.drop 2):=by
   rw [List.toList_toArray,List.take_left' hT,List.drop_append,List.drop_of_length_le (by rw [hT];simp),hT];simp
  have hh2:(w1.setRow w.heap.size (cs.take i++(l::r::row.drop 2)).toArray).drew.heap[w.heap.size]?=some (.cells (cs.take i++(l::r::row.drop 2)).toArray 238 (0,0)):=aCc hh;have hb2:Below w.heap.size w (w1.setRow w.heap.size (cs.take i++(l::r::row.drop 2)).toArray).drew:=(below_setRow hb (nR _) _).drew;have hdl:(cs.drop (i+1)).length=n-(i+1):=by rw [List.length_drop];omega
  have e3:(cs.take i++(l::r::row.drop 2)).toArray.toList.take (i+2)++cs.drop (i+1)++(cs.take i++(l::r::row.drop 2)).toArray.toList.drop (i+2+(cs.drop (i+1)).length)=(cs.take i++(l::r::cs.drop (i+1)))++row.drop (2+(n-(i+1))):=by
   have t1:(cs.take i++(l::r::row.drop 2)).take (i+2)=cs.take i++[l,r]:=by
    rw [List.take_append,hT,List.take_of_length_le (by rw [hT];omega),show i+2-i=2 by omega];rfl
   have t2:(cs.take i++(l::r::row.drop 2)).drop (i+2+(cs.drop (i+1)).length)=row.drop (2+(n-(i+1))):=by
    rw [List.drop_append,hT,List.drop_of_length_le (by rw [hT];omega),hdl,show i+2+(n-(i+1))-i=(n-(i+1))+1+1 by omega,List.drop_succ_cons,List.drop_succ_cons,List.drop_drop];rfl
   rw [List.toList_toArray,t1,t2];simp
  refine ⟨(cs.take i++(l::r::row.drop 2)).toArray,((cs.take i++(l::r::cs.drop (i+1)))++row.drop (2+(n-(i+1)))).toArray,fun ty c=>?_,fun ty c=>?_,⟨_,aCc hh2⟩,below_setRow hb2 (nR _) _⟩
  ·have:=aCi w1 249 249 ty 238 1 w.heap.size i (n+1-i) c ⟨gv,0,none⟩ 2 2 _ 238 [l,r] underlying249 size_node hh (by rw [show Nat.min 2 (n+1-i)=2 from Nat.min_eq_left (by omega)];rfl) (fun j u hu=>by
    rw [Addr.add_lit,Nat.zero_add];rw [(hb.cell (p:=⟨gv,j,none⟩) hvl),aAa hv];simpa using hu) (by simp [hT];omega) (fun u hu=>by
    simp only [List.mem_cons,List.not_mem_nil,or_false] at hu;rcases hu with rfl | rfl
    ·exact hk1
    ·exact hv1)
   rw [e2] at this;exact this
  ·have:=aCi (w1.setRow w.heap.size (cs.take i++(l::r::row.drop 2)).toArray).drew 249 249 ty 238 1 w.heap.size (i+2) (n-(i+1)) c ⟨g,i+1,none⟩ (n-(i+1)) (n-(i+1)) _ 238 (cs.drop (i+1)) underlying249 size_node hh2 (by rw [hdl,show Nat.min (n-(i+1)) (n-(i+1))=n-(i+1) from Nat.min_self _,Nat.mul_one]) (fun j u hu=>by
    rw [Addr.add_lit,(hb2.cell (p:=⟨g,i+1+j,none⟩) hgl),aAa hg,List.getElem?_toArray];rw [List.getElem?_drop] at hu
    exact hu) (by rw [hdl];simp [hT];omega) (fun u hu=>h1 u (List.mem_of_mem_drop hu))
   rw [e3] at this;exact this
 clear hg hv h1 hk1 hv1 hl;go_enter func215,ntmps215;go_upto_region 9 with fail;refine wp_region_noPanic ?_;refine wp_region_held_drew (S:=fun _=>True) (by kernel_rfl) trivial (fun hHeld=>?_);refine kT 0 45 ?_;refine kT 1 46 ?_;refine aAe (i:=2) (d:=47) (v:=?va2) (by kernel_rfl) (by kernel_rfl) (by kernel_rfl) (by kernel_rfl) (fun _ _ _ h=>h) ?hya2 (by assumption) ?resta2
 case hya2 =>
  intro oi ho;simp only [List.getElem?_toArray,List.getElem?_cons_succ,List.getElem?_cons_zero,oI] at ho;subst ho;refine Or.inl ⟨by rfl,?_⟩;intro wx hSw
  try dsimp only at hSw
  go_simp
  try rfl
  try rw [if_pos (by omega)]
 try simp only [Act.put,siT,scZ,scS]
 refine kT 3 48 ?_;refine kT 4 49 ?_;refine kT 5 50 ?_;refine aAe (i:=6) (d:=51) (v:=?va6) (by kernel_rfl) (by kernel_rfl) (by kernel_rfl) (by kernel_rfl) (fun _ _ _ h=>h) ?hya6 (by assumption) ?resta6
 case hya6 =>
  intro oi ho;simp only [List.getElem?_toArray,List.getElem?_cons_succ,List.getElem?_cons_zero,oI] at ho;subst ho;refine Or.inl ⟨by rfl,?_⟩;intro wx hSw
  try dsimp only at hSw
  go_simp
  try rfl
  try simp only [hw2]
 try simp only [Act.put,siT,scZ,scS]
 refine kT 7 52 ?_;refine kT 8 53 ?_;refine aAe (i:=9) (d:=54) (v:=?va9) (by kernel_rfl) (by kernel_rfl) (by kernel_rfl) (by kernel_rfl) (fun _ _ _ h=>h) ?hya9 (by assumption) ?resta9
 case hya9 =>
  intro oi ho;simp only [List.getElem?_toArray,List.getElem?_cons_succ,List.getElem?_cons_zero,oI] at ho;subst ho;refine Or.inl ⟨by rfl,?_⟩;intro wx hSw
  try dsimp only at hSw
  go_simp
  try rfl
  try rw [if_pos (by omega),if_neg (by omega)]
 try simp only [Act.put,siT,scZ,scS]
 refine kT 10 55 ?_;refine aAe (i:=11) (d:=56) (v:=?va11) (by kernel_rfl) (by kernel_rfl) (by kernel_rfl) (by kernel_rfl) (fun _ _ _ h=>h) ?hya11 (by assumption) ?resta11
 case hya11 =>
  intro oi ho;simp only [List.getElem?_toArray,List.getElem?_cons_succ,List.getElem?_cons_zero,oI] at ho;subst ho;refine Or.inl ⟨by rfl,?_⟩;intro wx hSw
  try dsimp only at hSw
  go_simp
  try rfl
  try simp only [hwt]
 try simp only [Act.put,siT,scZ,scS]
 refine kT 12 10 ?_;refine wpAnyH_done (by kernel_rfl) ?_ _;refine NoPanic.normal ?_;clear hHeld;go_upto_region 12 with (at_builtin;refine aCb _ rfl (.tmp 63) (.tmp 66) 249 238 rfl i0 _ 1 16 underlying249 hi0 hz0 hz1 hz2 rfl (by omega) (by omega) g 0 i n (n+1-i) (cs.take i) rfl (by rw [<-hk9];rfl) HTL.o HTC.o (by omega) (by omega) (by omega) ?_;intro c1 w1 row hh1 hr1 hc1 hc2 hb1;rw [hik] at hc1 ⊢;have hc3:n+1<=c1:=hc1.out;have hn1:¬ c1=i:=(by omega);have hn2:¬ c1=i+2:=(by omega);have HH1:=hh1;have HR1:=hr1;have HB1:=hb1;clear hh1 hr1 hb1);obtain ⟨R2,R3,hm1,hm2⟩:=hmove w1 row HH1.o HR1.o HB1.o;have cp1:=hm1 3 (c1-i);have HW1:=zH hm2;clear hm1 hm2 hmove;go_upto_region 13 with fail;clear cp1;generalize hw2:w1.setRow _ _=w2;have HW2:=zH HW1.o;rw [hw2] at HW2;clear hw2 HW1;have cp2:=HW2.o.1 3 (c1-(i+2));have ht2:((i:Int)+2).toNat=i+2:=by omega
 have hn3:¬ n=i+1:=by omega
 have hsub:n+1-(i+2)=n-(i+1):=by omega
 refine wp_region_noPanic ?_;refine wp_region_held_drew (S:=fun _=>True) (by kernel_rfl) trivial (fun hHeld=>?_);refine kT 0 73 ?_;refine kT 1 74 ?_;refine kT 2 75 ?_;refine kT 3 76 ?_;refine aAe (i:=4) (d:=77) (v:=?vb4) (by kernel_rfl) (by kernel_rfl) (by kernel_rfl) (by kernel_rfl) (fun _ _ _ h=>h) ?hyb4 (by assumption) ?restb4
 case hyb4 =>
  intro oi ho;simp only [List.getElem?_toArray,List.getElem?_cons_succ,List.getElem?_cons_zero,oI] at ho;subst ho;refine Or.inl ⟨by rfl,?_⟩;intro wx hSw
  try dsimp only at hSw
  go_simp
  try rfl
  try simp only [hw2]
 try simp only [Act.put,siT,scZ,scS]
 refine aAe (i:=5) (d:=78) (v:=?vb5) (by kernel_rfl) (by kernel_rfl) (by kernel_rfl) (by kernel_rfl) (fun _ _ _ h=>h) ?hyb5 (by assumption) ?restb5
 case hyb5 =>
  intro oi ho;simp only [List.getElem?_toArray,List.getElem?_cons_succ,List.getElem?_cons_zero,oI] at ho;subst ho;refine Or.inl ⟨by rfl,?_⟩;intro wx hSw
  try dsimp only at hSw
  go_simp
  try rfl
  try rw [if_pos ⟨by omega,by omega⟩]
  try rw [if_neg (by omega)]
 try simp only [Act.put,siT,scZ,scS]
 refine kT 6 79 ?_;refine kT 7 80 ?_;refine aAe (i:=8) (d:=81) (v:=?vb8) (by kernel_rfl) (by kernel_rfl) (by kernel_rfl) (by kernel_rfl) (fun _ _ _ h=>h) ?hyb8 (by assumption) ?restb8
 case hyb8 =>
  intro oi ho;simp only [List.getElem?_toArray,List.getElem?_cons_succ,List.getElem?_cons_zero,oI] at ho;subst ho;refine Or.inl ⟨by rfl,?_⟩;intro wx hSw
  try dsimp only at hSw
  go_simp
  try rfl
  try rw [if_pos (by omega),if_neg (by omega)]
 try simp only [Act.put,siT,scZ,scS]
 refine kC 9 ?_;intro K hK;simp only [ht2,if_neg hn3,hsub] at *
 go_simp;refine hK.out _ _ trivial (fun hHeld=>?_);clear hK K
 try simp only [Act.put,siT,scZ,scS]
 refine wpAnyH_done (by kernel_rfl) ?_ _;refine NoPanic.normal ?_;generalize hw3:w2.drew.setRow _ _=w3;have HW3:=zH HW2.o.2;rw [hw3] at HW3;clear hw3 HW2;go_wp2;go_ret;exact ⟨w.heap.size,c1,rfl,nR _,hc3,hc2.out,HW3.o.1,HW3.o.2⟩
def lfP (g:Nat):Value:=.iface 268 (.pointer (some ⟨g,0,none⟩))
def brP (g:Nat):Value:=.iface 247 (.pointer (some ⟨g,0,none⟩))
def NV (B B1:Nat) (w:World):(h:Nat)->ED h->List Nat->Value->Prop
 | 0,.inl t,S,v=>S=[]/\v=plV t.1
 | 0,.inr l,S,v=>∃ g iv,S=[g]/\v=lfP g/\B1<=g/\w.heap[g]?=some (.cells #[iv] 267 (0,0))/\IV B B1 w iv l
 | _+1,.inl t,S,v=>S=[]/\v=plV t.1
 | h+1,.inr x,S,v=>∃ g iv gc oc cc Sk,S=g::List.flatten Sk/\v=brP g/\B1<=g/\w.heap[g]?=some (.cells #[iv,.slice (some ⟨gc,oc,none⟩) x.2.length cc] 251 (0,0))/\IV B B1 w iv x.1 /\
   B1<=gc/\x.2.length<=cc/\cc<=9223372036854775807/\(∃ cs,w.heap[gc]?=some (.cells cs 238 (0,0)))/\Sk.length=x.2.length/\∀ i k Si,x.2[i]?=some k->Sk[i]?=some Si->∃ vk,w.cell? ⟨gc,oc+i,none⟩=some vk/\NV B B1 w h k Si vk
theorem IV.up {B2:Nat} (h:IV B B1 w v l) (f:FT B w w') (hk:∀ k,B1<=k->k<w.heap.size->w'.heap[k]?=w.heap[k]?) (hB:B2<=B1):IV B B2 w' v l:=by
 obtain ⟨a,c,h1,h2,h3,h4,h5⟩:=h;refine ⟨a,c,h1,h2,h3,h4,fun x hx=>?_⟩;obtain ⟨g,o,e,hb,⟨cs,hc⟩,hI⟩:=h5 x hx;have:=hk g hb (lO hc);exact ⟨g,o,e,by omega,⟨cs,this.trans hc⟩,hI.ft f this⟩
theorem NV.up {B2:Nat} (f:FT B w w') (hk:∀ k,B1<=k->k<w.heap.size->w'.heap[k]?=w.heap[k]?) (hB:B2<=B1):∀ {h:Nat} {e:ED h} {S:List Nat} {v:Value},NV B B1 w h e S v->NV B B2 w' h e S v
 | 0,.inl t,S,v,hn=>hn
 | 0,.inr l,S,v,hn=>by
  obtain ⟨g,iv,h1,h2,h3,h4,h5⟩:=hn
  exact ⟨g,iv,h1,h2,by omega,(hk g h3 (lO h4)).trans h4,h5.up f hk hB⟩
 | h+1,.inl t,S,v,hn=>hn
 | h+1,.inr x,S,v,hn=>by
  obtain ⟨g,iv,gc,oc,cc,Sk,h1,h2,h3,h4,h5,h6,h7,h8,⟨cs,h9⟩,h10,h11⟩:=hn
  have hc:=hk gc h6 (lO h9)
  refine ⟨g,iv,gc,oc,cc,Sk,h1,h2,by omega,(hk g h3 (lO h4)).trans h4,h5.up f hk hB,by omega,h7,h8,⟨cs,hc.trans h9⟩,h10,fun i k Si hi hS=>?_⟩
  obtain ⟨vk,q1,q2⟩:=h11 i k Si hi hS
  exact ⟨vk,(World.cell?_of_block hc).trans q1,NV.up f hk hB q2⟩
theorem NV.later {B2:Nat} {e:ED h} (hn:NV B B1 w h e S v) (hb:Below w.heap.size w w') (hB:B<=w.heap.size) (h2:B2<=B1):NV B B2 w' h e S v :=
 NV.up (FT.of hb hB) (fun k _ hk=>hb.block k hk) h2 hn
theorem NV.old (B B1:Nat) (w:World):∀ {h:Nat} (t:BT h),NV B B1 w h (old t) [] (plV t.id)
 | 0,_=>⟨rfl,rfl⟩
 | _+1,_=>⟨rfl,rfl⟩
def isNew:{h:Nat}->ED h->Prop
 | 0,.inl _=>False
 | 0,.inr _=>True
 | _+1,.inl _=>False
 | _+1,.inr _=>True
theorem aBu {iv:Value} (h:w.heap[g]?=some (.cells #[iv] 267 (0,0))) :
  Calls prog 139 #[lfP g] w fun e w'=>e=.returned iv/\w'=w:=by
 have t1:=aAx (.pointer (some ⟨g,0,none⟩)) w;have t2:=aEa (.pointer (some ⟨g,0,none⟩)) w;have r0:w.cell? ⟨g,0,none⟩=some iv:=aAa h;unfold lfP;clear h;go_enter func139,ntmps139;go_wp2;go_ret;exact ⟨rfl,rfl⟩
theorem aBf {iv cv:Value} (h:w.heap[g]?=some (.cells #[iv,cv] 251 (0,0))) :
  Calls prog 139 #[brP g] w fun e w'=>e=.returned iv/\w'=w:=by
 have t1:=aAy (.pointer (some ⟨g,0,none⟩)) w;have r0:w.cell? ⟨g,0,none⟩=some iv:=aAa h;unfold brP;clear h;go_enter func139,ntmps139;go_wp2;go_ret;exact ⟨rfl,rfl⟩
theorem aGs {e:ED h} (hn:NV B B1 w h e S v) (hnew:isNew e) :
  Calls prog 139 #[v] w fun e' w'=>∃ iv,e'=.returned iv/\IV B B1 w iv (itE e)/\w'=w:=by
 match h,e,hn,hnew with
 | 0,.inr l,⟨g,iv,h1,h2,h3,h4,h5⟩,_ =>
  rw [h2];refine (aBu h4).mono ?_;rintro e' w' ⟨rfl,rfl⟩;exact ⟨iv,rfl,h5,rfl⟩
 | h+1,.inr x,⟨g,iv,gc,oc,cc,Sk,h1,h2,h3,h4,h5,_⟩,_ =>
  rw [h2];refine (aBf h4).mono ?_;rintro e' w' ⟨rfl,rfl⟩;exact ⟨iv,rfl,h5,rfl⟩
def FE (B:Nat) (w w':World):Prop:=Below B w w'/\∀ (k:Nat) (cs:Array Value) (t:TypeId) (fz:Nat×Nat),w.heap[k]?=some (Obj.cells cs t fz)->t≠279->t≠217->w'.heap[k]?=some (Obj.cells cs t fz)
theorem FE.refl (B:Nat) (w:World):FE B w w:=⟨Below.refl _ _,fun _ _ _ _ h _ _=>h⟩
theorem FE.trans {a b c:World} (h:FE B a b) (k:FE B b c):FE B a c:=⟨h.1.trans k.1,fun i cs t fz e n1 n2=>k.2 i cs t fz (h.2 i cs t fz e n1 n2) n1 n2⟩
theorem FE.of (h:Below w.heap.size w w') (hB:B<=w.heap.size):FE B w w':=⟨h.mono hB,fun i cs t fz e _ _=>(h.block i (lO e)).trans e⟩
theorem FE.ft (h:FE B w w'):FT B w w':=⟨h.1,fun k cs fz e=>h.2 k cs _ _ e (by decide) (by decide)⟩
theorem FE.gdk [Gd] (f:FE B w w'):GdK w w':=fun k _ hf=>by
 obtain ⟨cs,t,e,ht⟩:=hf
 rw [e]
 exact f.2 k cs t _ e (by rcases ht with rfl | rfl | rfl | rfl | rfl | rfl<;>decide) (by rcases ht with rfl | rfl | rfl | rfl | rfl | rfl<;>decide)
theorem FE.st [Gd] (f:FE B w w') (h:ST B p q s t w) (hg:True):ST B p q s t w':=by
 obtain ⟨h1,gs,h2⟩:=h;refine ⟨?_,gs,f.2 _ _ _ _ h2.hq (by decide) (by decide),f.2 _ _ _ _ h2.hs (by decide) (by decide),h2.qB,h2.gB,h2.ok,h2.hG⟩;exact h1.of_stay (fun k cs t e ht=>f.2 k cs t _ e (by rcases ht with rfl | rfl | rfl | rfl | rfl | rfl | rfl<;>decide) (by rcases ht with rfl | rfl | rfl | rfl | rfl | rfl | rfl<;>decide))
def plC (l:List Nat):List Value:=l.map fun (i:Nat)=>Value.int .i64 (i:Int)
theorem plC_app (l m:List Nat):plC (l++m)=plC l++plC m:=by simp [plC]
def edV (q:Nat) (rv:Value) (d n:Int) (gv lv:Value):Array Value:=#[.pointer (some ⟨q,0,none⟩),rv,.int .i64 d,.int .i64 n,gv,lv]
structure EV (B:Nat) (w:World) (px q:Nat) (rv:Value) (d n:Int) (gone:List Nat):Prop where
 hB:B<=px
 hx:∃ gv,w.heap[px]?=some (.cells (edV q rv d n gv (.slice none 0 0)) 279 (0,0))/\w.ownsRow B 217 1 gv gone.length (plC gone)
 hn:gone.length<=1000
theorem EV.later {n:Int} (h:EV B w px q rv d n gone) (hb:Below w.heap.size w w'):EV B w' px q rv d n gone:=by
 obtain ⟨gv,h1,h2⟩:=h.hx;exact ⟨h.hB,⟨gv,(hb.block _ (lO h1)).trans h1,aAh h2 hb⟩,h.hn⟩
theorem EV.set {u:Value} {n:Int} {t:TypeId} (h:EV B w px q rv d n gone) (hg:w.heap[g]?=some (.cells cs t (0,0))) (h1:t≠279) (h2:t≠217):EV B (w.setCell ⟨g,o,none⟩ u) px q rv d n gone:=by
 obtain ⟨gv,e1,e2⟩:=h.hx;have ne:∀ (k:Nat) (cs':Array Value) (t':TypeId),w.heap[k]?=some (.cells cs' t' (0,0))->t'≠t->(w.setCell ⟨g,o,none⟩ u).heap[k]?=some (.cells cs' t' (0,0)):=by
  intro k cs' t' e ht;rw [heap_setCell_other _ _ _ _ ?_,e];intro q;have q:k=g:=q;subst q;rw [hg] at e;simp only [oI,cI] at e;exact ht e.2.1.symm
 exact ⟨h.hB,⟨gv,ne _ _ _ e1 h1.symm,aAl e2 fun k cs' _ e=>ne k cs' _ e h2.symm⟩,h.hn⟩
theorem aEj:(prog.info? 217).map (fun i=>(i.zero,i.size,i.bytes))=some (some (.int .i64 0),1,8):=by kernel_rfl
theorem aGo [Gd] {hh:Int} {n:Int} (hg0:True) (hST:ST B p q s t w) (hB:B<=w.heap.size) (hE:EV B w px q rv d n gone) (hlen:gone.length<1000) (P:World->Value->World->Prop)
  (hL:∀ ww,ST B p q s t ww->B<=ww.heap.size->Calls prog 165 #[.pointer (some ⟨q,0,none⟩),.int .i64 (i:Int),.int .i64 hh] ww fun e w'=>∃ v,e=.returned v/\P ww v w'/\Below ww.heap.size ww w') :
  Calls prog 200 #[.pointer (some ⟨px,0,none⟩),plV i,.int .i64 hh] w fun e w'=>∃ v w1,e=.returned v/\FE B w w1/\w.heap.size<=w1.heap.size/\P w1 v w'/\Below w1.heap.size w1 w'/\EV B w' px q rv d n (gone++[i]):=by
 obtain ⟨i0,hi0,hz0,hz1,hz2⟩:=info_parts aEj;obtain ⟨gv,e1,e2⟩:=hE.hx;have HPB:=zH hE.hB;have HPX:=zH e1;have HOW:=zH e2;have HB:=zH hB;have HST:=zH hST;have HL:=zH hL;have hgl:gone.length<1000:=hlen;have ta:=aD9 (.int .i64 (i:Int)) w;have r4:w.cell? ⟨px,4,none⟩=some gv:=aAa e1;have hpl:=(lO e1);obtain ⟨ga,gc,rfl⟩:=aAg e2;unfold plV;have HBX:=zH (aAc w (.cells #[.int .i64 (i:Int)] 217));have HNX:Hid ((w.alloc (.cells #[.int .i64 (i:Int)] 217)).heap[w.heap.size]?=some (.cells #[.int .i64 (i:Int)] 217 (0,0))):=heap_alloc_new w _;have HOW1:=zH (aAh e2 HBX.o);have HNW:Hid (∀ j u,[Value.int .i64 (i:Int)][j]?=some u->(w.alloc (.cells #[.int .i64 (i:Int)] 217)).cell? ((⟨w.heap.size,0,none⟩:Addr).add j)=some u):=by
  intro j u hu;rw [Addr.add_lit,Nat.zero_add,aAa HNX.o];simpa using hu
 have HPX1:Hid ((w.alloc (.cells #[.int .i64 (i:Int)] 217)).heap[px]?=some (.cells (edV q rv d n (.slice ga gone.length gc) (.slice none 0 0)) 279 (0,0))):=(HBX.o.block px hpl).trans e1;have HBS1:Hid (B<=(w.alloc (.cells #[.int .i64 (i:Int)] 217)).heap.size):=nT hB HBX.o.size;clear hE e1 e2 hST hB hL hlen;go_enter func200,ntmps200
 go_upto_region 5 with (at_builtin;refine wpList_append_own _ rfl (.tmp 21) (.tmp 23) 277 rfl B 217 i0 (.int .i64 0) 1 8 underlying277 hi0 hz0 hz1 hz2 rfl (by omega) (.slice ga gone.length gc) gone.length (plC gone) rfl HOW1.o ⟨w.heap.size,0,none⟩ 1 1 [Value.int .i64 (i:Int)] (by simp [Act.eval]) rfl HNW.o (by simp [Value.oneCell']) (by unfold maxLen;omega) (by omega) HBS1.o ?_;intro v3 w3 ho3 hg3 hz3;have HO3:=zH ho3;have HG3:=zH hg3;have HPX3:Hid (w3.heap[px]?=some (.cells (edV q rv d n (.slice ga gone.length gc) (.slice none 0 0)) 279 (0,0))):=(by
  show _=_;rw [hg3.block px (lO HPX1.o) ?_,HPX1.o];intro q9;obtain ⟨_,cur,hc⟩:=aAm HOW1.o q9.symm;rw [HPX1.o] at hc;simp only [oI,cI] at hc
  exact absurd hc.2.1 (by decide));obtain ⟨a3,c3,rfl⟩:=aAg ho3;have f3:w3.frozen? ⟨px,4,none⟩=false:=aAb HPX3.o;have r3:w3.cell? ⟨px,4,none⟩=some (.slice ga gone.length gc):=aAa HPX3.o;clear ho3 hg3 hz3)
 have HF3:Hid (FE B w (w3.setCell ⟨px,4,none⟩ (.slice a3 (gone.length+1) c3))):=by
  refine FE.trans (FE.of HBX.o HB.o) (FE.trans (b:=w3) ⟨(Below.refl B _).grown HG3.o HBS1.o (fun k hk=>(HOW1.o.lt k hk).1),fun k cs t fz e n1 n2=>?_⟩ ⟨(Below.refl _ _).setCell (p:=⟨px,4,none⟩) HPB.o _,fun k cs t fz e n1 n2=>?_⟩)
  ·rw [HG3.o.block k (lO e) ?_,e];intro q9;obtain ⟨_,cur,hc⟩:=aAm HOW1.o q9.symm;rw [hc] at e;simp only [oI,cI] at e;exact n2 e.2.1.symm
  ·rw [heap_setCell_other _ _ _ _ ?_,e];intro q9;have q9:k=px:=q9;subst q9;rw [HPX3.o] at e;simp only [oI,cI] at e;exact n1 e.2.1.symm
 have HE3:Hid (EV B (w3.setCell ⟨px,4,none⟩ (.slice a3 (gone.length+1) c3)) px q rv d n (gone++[i])):=by
  refine ⟨HPB.o,⟨.slice a3 (gone.length+1) c3,?_,?_⟩,by simp;omega⟩
  ·rw [heap_setCell_same _ _ _ _ _ _ HPX3.o];rfl
  ·rw [lA,plC_app];refine aAl HO3.o fun k cs hk e=>?_
   rw [heap_setCell_other _ _ _ _ ?_,e];intro q9;have q9:k=px:=q9;subst q9;rw [HPX3.o] at e;simp only [oI,cI] at e;exact absurd e.2.1 (by decide)
 have HS3:Hid (w.heap.size<=(w3.setCell ⟨px,4,none⟩ (.slice a3 (gone.length+1) c3)).heap.size):=by
  show _<=_;have h1:=HBX.o.size;have h2:=HG3.o.size;simp only [World.setCell,Array.size_modify] at *
  omega
 have HX3:Hid ((w3.setCell ⟨px,4,none⟩ (.slice a3 (gone.length+1) c3)).heap[px]?=some (.cells (edV q rv d n (.slice a3 (gone.length+1) c3) (.slice none 0 0)) 279 (0,0))):=by
  show _=_;rw [heap_setCell_same _ _ _ _ _ _ HPX3.o];rfl
 clear f3 r3 r4 ta HPX3 HO3 HG3;generalize w3.setCell ⟨px,4,none⟩ (.slice a3 (gone.length+1) c3)=w4 at *
 have r0:w4.cell? ⟨px,0,none⟩=some (.pointer (some ⟨q,0,none⟩)):=aAa HX3.o;have HLL:=zH (HL.o w4 (HF3.o.st HST.o hg0) (nT HB.o HS3.o));go_wp2_with fail;refine HLL.o.mono ?_;rintro e w5 ⟨v5,rfl,hP5,hb5⟩;have HP5:=zH hP5;have HB5:=zH hb5;clear hP5 hb5;go_wp2;go_ret;exact ⟨v5,w4,rfl,HF3.o,HS3.o,HP5.o,HB5.o,HE3.o.later HB5.o⟩
def Ex (B:Nat) (S:List Nat) (w w':World):Prop:=Below B w w'/\∀ k,k<w.heap.size->k∉S->w'.heap[k]?=w.heap[k]?
theorem aDq {L:Nat} {n:Int} {sa:Option Addr} {sc Fi:Nat} (hn:n<1000000) (hn0:0<=n) (hE:EV B w px q rv d n gone) (hgl:w.heap[gl]?=some (.cells #[.slice sa L sc] 267 (0,0))) (hB:B<=w.heap.size) (hglB:B<=gl) (ys:List Value)
  (hF:∀ ww,Below w.heap.size w ww->Calls prog 166 #[.slice sa L sc,.slice ka kn kc] ww fun e w'=>e=.returned (.tuple #[.int .i64 (Fi:Int),.bool false])/\Below ww.heap.size ww w')
  (hI:∀ ww gv,Below w.heap.size w ww->ww.heap[gv]?=some (.cells #[.slice ka kn kc,.slice va vn vc] 245 (0,0))->Calls prog 213 #[.slice sa L sc,.int .i64 (Fi:Int),.slice (some ⟨gv,0,none⟩) 1 1] ww fun e w'=>∃ gn c,e=.returned (.slice (some ⟨gn,0,none⟩) (L+1) c)/\ww.heap.size<=gn/\L+1<=c/\c<=9223372036854775807/\RowN w' gn 245 ys/\Below ww.heap.size ww w') :
  Calls prog 201 #[.pointer (some ⟨px,0,none⟩),.pointer (some ⟨gl,0,none⟩),.agg #[.slice ka kn kc,.slice va vn vc]] w fun e w'=>e=.returned (.tuple #[])/\(∃ gn c,w'.heap[gl]?=some (.cells #[.slice (some ⟨gn,0,none⟩) (L+1) c] 267 (0,0))/\w.heap.size<=gn/\L+1<=c/\c<=9223372036854775807/\RowN w' gn 245 ys)/\EV B w' px q rv d (n+1) gone/\Ex B [gl,px] w w':=by
 have HBX:=zH (aAc w (.cells #[.slice ka kn kc,.slice va vn vc] 245));have HNX:Hid ((w.alloc (.cells #[.slice ka kn kc,.slice va vn vc] 245)).heap[w.heap.size]?=some (.cells #[.slice ka kn kc,.slice va vn vc] 245 (0,0))):=heap_alloc_new w _;have HGL:Hid ((w.alloc (.cells #[.slice ka kn kc,.slice va vn vc] 245)).heap[gl]?=some (.cells #[.slice sa L sc] 267 (0,0))):=(HBX.o.block gl (lO hgl)).trans hgl;have HBD:Hid (Below w.heap.size w (w.alloc (.cells #[.slice ka kn kc,.slice va vn vc] 245)).drew):=HBX.o.drew;have HEV:=zH (hE.later HBX.o);have HF:=zH hF;have HI:=zH (fun ww gv (hb:Below (w.alloc (.cells #[.slice ka kn kc,.slice va vn vc] 245)).heap.size (w.alloc (.cells #[.slice ka kn kc,.slice va vn vc] 245)) ww) h=>hI ww gv (HBX.o.trans (hb.mono HBX.o.size)) h);have HB:=zH hB;have HLB:=zH hglB;clear hF hI hE hgl hB hglB;go_enter func201,ntmps201;go_upto_region 1 with fail;generalize w.alloc (.cells #[.slice ka kn kc,.slice va vn vc] 245)=w0 at *
 generalize hG:w.heap.size=G at *
 have HGS:Hid (G<w0.heap.size):=(lO HNX.o);have HX0:Hid ((fun wx=>wx.cell? ⟨gl,0,none⟩=some (.slice sa L sc)/\wx.cell? ⟨G,0,none⟩=some (.slice ka kn kc)/\wx.cell? ⟨G,1,none⟩=some (.slice va vn vc)) w0.drew):=⟨aAa HGL.o,aAa HNX.o,aAa HNX.o⟩;refine wp_region_noPanic ?_;refine wp_region_held_drew (S:=fun wx=>wx.cell? ⟨gl,0,none⟩=some (.slice sa L sc)/\wx.cell? ⟨G,0,none⟩=some (.slice ka kn kc)/\wx.cell? ⟨G,1,none⟩=some (.slice va vn vc)) (by kernel_rfl) HX0.o (fun hHeld=>?_);refine kT 0 9 ?_;refine kT 1 10 ?_;refine kT 2 11 ?_;refine kT 3 12 ?_;refine kT 4 13 ?_;refine kT 5 14 ?_;refine kC 6 ?_;intro K hK;go_simp;refine (HF.o w0.drew HBD.o).mono ?_;rintro e w1 ⟨rfl,hb1⟩;have HB1:=zH ((Below.refl w0.heap.size w0).drew.trans hb1);have HX1:Hid ((fun wx=>wx.cell? ⟨gl,0,none⟩=some (.slice sa L sc)/\wx.cell? ⟨G,0,none⟩=some (.slice ka kn kc)/\wx.cell? ⟨G,1,none⟩=some (.slice va vn vc)) w1):=⟨(hb1.cell (p:=⟨gl,0,none⟩) (lO HGL.o)).trans (aAa (w:=w0) HGL.o),(hb1.cell (p:=⟨G,0,none⟩) HGS.o).trans (aAa (w:=w0) HNX.o),(hb1.cell (p:=⟨G,1,none⟩) HGS.o).trans (aAa (w:=w0) HNX.o)⟩;clear hb1 hHeld;refine hK.out _ _ HX1.o (fun hHeld=>?_);clear hK K
 try simp only [Act.put,siT,scZ,scS]
 refine kT 7 8 ?_;refine kT 8 16 ?_;refine kT 9 17 ?_;refine kT 10 6 ?_;refine kT 11 7 ?_;refine wpAnyH_done (by kernel_rfl) ?_ _;refine NoPanic.normal ?_;clear hHeld;go_upto_region 4 with fail;have HGL1:Hid (w1.heap[gl]?=some (.cells #[.slice sa L sc] 267 (0,0))):=(HB1.o.block gl (lO HGL.o)).trans HGL.o;have y0:w1.cell? ⟨gl,0,none⟩=some (.slice sa L sc):=HX1.o.1;have y1:w1.cell? ⟨G,0,none⟩=some (.slice ka kn kc):=HX1.o.2.1;have y2:w1.cell? ⟨G,1,none⟩=some (.slice va vn vc):=HX1.o.2.2;have y3:gl<w1.heap.size:=(lO HGL1.o);have y4:G<w1.heap.size:=Nat.lt_of_lt_of_le HGS.o HB1.o.size;have f1:w1.frozen? ⟨gl,0,none⟩=false:=aAb HGL1.o;have HBA:=zH ((aAc w1 (.cells #[.slice ka kn kc,.slice va vn vc] 245)).drew);have HNA:Hid ((w1.alloc (.cells #[.slice ka kn kc,.slice va vn vc] 245)).drew.heap[w1.heap.size]?=some (.cells #[.slice ka kn kc,.slice va vn vc] 245 (0,0))):=heap_alloc_new w1 _;have HBwA:=zH (HB1.o.trans (HBA.o.mono HB1.o.size));go_region_with ((go_at_call 213;refine (HI.o _ _ HBwA.o HNA.o).mono ?_;rintro e w2 ⟨gn,c2,rfl,hgn,hc2,hcm2,hrow2,hb2⟩;have HGL2:Hid (w2.heap[gl]?=some (.cells #[.slice sa L sc] 267 (0,0))):=(hb2.block gl (Nat.lt_of_lt_of_le y3 HBA.o.size)).trans ((HBA.o.block gl y3).trans HGL1.o);have z0:w2.cell? ⟨gl,0,none⟩=some (.slice sa L sc):=aAa HGL2.o;have f2:w2.frozen? ⟨gl,0,none⟩=false:=aAb HGL2.o;have HB2:=zH (HBwA.o.trans (hb2.mono HBwA.o.size));have HROW:=zH hrow2;have HGN:=zH (nT HBA.o.size hgn);have HC2:=zH hc2;have HCM2:=zH hcm2;clear hgn hc2 hcm2 hrow2 hb2))
 all_goals
  have HEV2:=zH ((HEV.o.later HB2.o).set (o:=0) (u:=.slice (some ⟨gn,0,none⟩) (L+1) c2) HGL2.o (by decide) (by decide));have HGL3:Hid ((w2.setCell ⟨gl,0,none⟩ (.slice (some ⟨gn,0,none⟩) (L+1) c2)).heap[gl]?=some (.cells #[.slice (some ⟨gn,0,none⟩) (L+1) c2] 267 (0,0))):=by
   show _=_;rw [heap_setCell_same _ _ _ _ _ _ HGL2.o];rfl
  have HOT:Hid (∀ k,k≠gl->(w2.setCell ⟨gl,0,none⟩ (.slice (some ⟨gn,0,none⟩) (L+1) c2)).heap[k]?=w2.heap[k]?):=fun k hk=>heap_setCell_other _ _ _ _ hk
  have HSZ:Hid ((w2.setCell ⟨gl,0,none⟩ (.slice (some ⟨gn,0,none⟩) (L+1) c2)).heap.size=w2.heap.size):=by show _=_;simp [World.setCell]
  have HBS:Hid (Below B w2 (w2.setCell ⟨gl,0,none⟩ (.slice (some ⟨gn,0,none⟩) (L+1) c2))):=(Below.refl B w2).setCell (p:=⟨gl,0,none⟩) HLB.o _;clear z0 f2 y0 y1 y2 f1;generalize w2.setCell ⟨gl,0,none⟩ (.slice (some ⟨gn,0,none⟩) (L+1) c2)=w3 at *
  obtain ⟨gv,ex1,ex2⟩:=HEV2.o.hx;have HEX:=zH ex1;have HEO:=zH ex2;have k3:w3.cell? ⟨px,3,none⟩=some (.int .i64 n):=aAa ex1;have fk:w3.frozen? ⟨px,3,none⟩=false:=aAb ex1;clear ex1 ex2;go_wp2;go_end0;have hne:px≠gl:=by
   intro q9;have h1:=HEX.o;rw [q9,HGL3.o] at h1;simp only [oI,cI] at h1;exact absurd h1.2.1 (by decide)
  have hgp:gn≠px:=by
   intro q9;have h1:=HEX.o;obtain ⟨row,hr⟩:=HROW.o;have h2:=Nat.lt_of_lt_of_le (lO HEV.o.hx.choose_spec.1) HB1.o.size;have h3:=HGN.o;omega
  have hgg:gn≠gl:=by have h3:=HGN.o;omega
  refine ⟨rfl,⟨gn,c2,?_,?_,HC2.o,HCM2.o,?_⟩,⟨HEV2.o.hB,⟨gv,?_,?_⟩,HEV2.o.hn⟩,?_,?_⟩
  ·rw [heap_setCell_other _ _ _ _ (by exact fun h=>hne h.symm)];exact HGL3.o
  ·have h1:=HGN.o;have h2:=HB1.o.size;have h3:=HGS.o;omega
  ·obtain ⟨row,hr⟩:=HROW.o;refine ⟨row,?_⟩;rw [heap_setCell_other _ _ _ _ (by exact hgp),HOT.o gn hgg];exact hr
  ·rw [heap_setCell_same _ _ _ _ _ _ HEX.o];rfl
  ·refine aAl HEO.o fun k cs hk e=>?_
   rw [heap_setCell_other _ _ _ _ ?_,e];intro q9;have q9:k=px:=q9;subst q9;rw [HEX.o] at e;simp only [oI,cI] at e;exact absurd e.2.1 (by decide)
  ·exact (((HBX.o.mono HB.o).trans (HB2.o.mono (by have:=HGS.o;have:=HB.o;omega))).trans HBS.o).trans ((Below.refl B w3).setCell (p:=⟨px,3,none⟩) HEV2.o.hB _)
  ·intro k hk hn;simp only [List.mem_cons,List.not_mem_nil,or_false,not_or] at hn;rw [heap_setCell_other _ _ _ _ (by exact hn.2),HOT.o k hn.1,HB2.o.block k (by have:=HBX.o.size;omega),HBX.o.block k (by omega)]
theorem aHj {L:Nat} {n:Int} {Fi:Nat} {kf vf:Nat->Value} (hE:EV B w px q rv d n gone) (hgl:w.heap[gl]?=some (.cells #[.slice (some ⟨gi,0,none⟩) L L] 267 (0,0))) (hgi:w.heap[gi]?=some (.cells (two kf vf L).toArray 245 (0,0))) (hB:B<=w.heap.size) (hgB:B<=gi) (hL:L<=5) (hFL:Fi<L)
  (hF:∀ ww,Below w.heap.size w ww->Calls prog 166 #[.slice (some ⟨gi,0,none⟩) L L,.slice ka kn kc] ww fun e w'=>e=.returned (.tuple #[.int .i64 (Fi:Int),.bool true])/\Below ww.heap.size ww w') :
  Calls prog 201 #[.pointer (some ⟨px,0,none⟩),.pointer (some ⟨gl,0,none⟩),.agg #[.slice ka kn kc,.slice va vn vc]] w fun e w'=>e=.returned (.tuple #[])/\w'.heap[gi]?=some (.cells (two (upd kf Fi (.slice ka kn kc)) (upd vf Fi (.slice va vn vc)) L).toArray 245 (0,0))/\EV B w' px q rv d n gone/\Ex B [gi] w w':=by
 have HBX:=zH (aAc w (.cells #[.slice ka kn kc,.slice va vn vc] 245));have HNX:Hid ((w.alloc (.cells #[.slice ka kn kc,.slice va vn vc] 245)).heap[w.heap.size]?=some (.cells #[.slice ka kn kc,.slice va vn vc] 245 (0,0))):=heap_alloc_new w _;have HGL:Hid ((w.alloc (.cells #[.slice ka kn kc,.slice va vn vc] 245)).heap[gl]?=some (.cells #[.slice (some ⟨gi,0,none⟩) L L] 267 (0,0))):=(HBX.o.block gl (lO hgl)).trans hgl;have HGI:Hid ((w.alloc (.cells #[.slice ka kn kc,.slice va vn vc] 245)).heap[gi]?=some (.cells (two kf vf L).toArray 245 (0,0))):=(HBX.o.block gi (lO hgi)).trans hgi;have HBD:Hid (Below w.heap.size w (w.alloc (.cells #[.slice ka kn kc,.slice va vn vc] 245)).drew):=HBX.o.drew;have HEV:=zH (hE.later HBX.o);have HF:=zH hF;have HB:=zH hB;have HGB:=zH hgB;clear hF hE hgl hB hgi hgB;go_enter func201,ntmps201;go_upto_region 1 with fail;generalize w.alloc (.cells #[.slice ka kn kc,.slice va vn vc] 245)=w0 at *
 generalize hG:w.heap.size=G at *
 have HGS:Hid (G<w0.heap.size):=(lO HNX.o);have HX0:Hid ((fun wx=>wx.cell? ⟨gl,0,none⟩=some (.slice (some ⟨gi,0,none⟩) L L)/\wx.cell? ⟨G,0,none⟩=some (.slice ka kn kc)/\wx.cell? ⟨G,1,none⟩=some (.slice va vn vc)) w0.drew):=⟨aAa HGL.o,aAa HNX.o,aAa HNX.o⟩;refine wp_region_noPanic ?_;refine wp_region_held_drew (S:=fun wx=>wx.cell? ⟨gl,0,none⟩=some (.slice (some ⟨gi,0,none⟩) L L)/\wx.cell? ⟨G,0,none⟩=some (.slice ka kn kc)/\wx.cell? ⟨G,1,none⟩=some (.slice va vn vc)) (by kernel_rfl) HX0.o (fun hHeld=>?_);refine kT 0 9 ?_;refine kT 1 10 ?_;refine kT 2 11 ?_;refine kT 3 12 ?_;refine kT 4 13 ?_;refine kT 5 14 ?_;refine kC 6 ?_;intro K hK;go_simp;refine (HF.o w0.drew HBD.o).mono ?_;rintro e w1 ⟨rfl,hb1⟩;have HB1:=zH ((Below.refl w0.heap.size w0).drew.trans hb1);have HX1:Hid ((fun wx=>wx.cell? ⟨gl,0,none⟩=some (.slice (some ⟨gi,0,none⟩) L L)/\wx.cell? ⟨G,0,none⟩=some (.slice ka kn kc)/\wx.cell? ⟨G,1,none⟩=some (.slice va vn vc)) w1):=⟨(hb1.cell (p:=⟨gl,0,none⟩) (lO HGL.o)).trans (aAa (w:=w0) HGL.o),(hb1.cell (p:=⟨G,0,none⟩) HGS.o).trans (aAa (w:=w0) HNX.o),(hb1.cell (p:=⟨G,1,none⟩) HGS.o).trans (aAa (w:=w0) HNX.o)⟩;clear hb1 hHeld;refine hK.out _ _ HX1.o (fun hHeld=>?_);clear hK K
 try simp only [Act.put,siT,scZ,scS]
 refine kT 7 8 ?_;refine kT 8 16 ?_;refine kT 9 17 ?_;refine kT 10 6 ?_;refine kT 11 7 ?_;refine wpAnyH_done (by kernel_rfl) ?_ _;refine NoPanic.normal ?_;clear hHeld;go_upto_region 3 with fail;have HGL1:Hid (w1.heap[gl]?=some (.cells #[.slice (some ⟨gi,0,none⟩) L L] 267 (0,0))):=(HB1.o.block gl (lO HGL.o)).trans HGL.o;have HGI1:Hid (w1.heap[gi]?=some (.cells (two kf vf L).toArray 245 (0,0))):=(HB1.o.block gi (lO HGI.o)).trans HGI.o;have y0:w1.cell? ⟨gl,0,none⟩=some (.slice (some ⟨gi,0,none⟩) L L):=HX1.o.1;have y1:w1.cell? ⟨G,0,none⟩=some (.slice ka kn kc):=HX1.o.2.1;have y2:w1.cell? ⟨G,1,none⟩=some (.slice va vn vc):=HX1.o.2.2;have y5:w1.cell? ⟨gi,Fi*2,none⟩=some (kf Fi):=by rw [aAa HGI1.o,List.getElem?_toArray];exact aA0 kf vf Fi L hFL
 have y6:w1.cell? ⟨gi,Fi*2+1,none⟩=some (vf Fi):=by rw [aAa HGI1.o,List.getElem?_toArray];exact aA2 kf vf Fi L hFL
 have f5:w1.frozen? ⟨gi,Fi*2,none⟩=false:=aAb HGI1.o;have f6:w1.frozen? ⟨gi,Fi*2+1,none⟩=false:=aAb HGI1.o;have xF:(Fi:Int)<(L:Int):=by omega
 go_region;go_wp2;(try simp only [Exit.inBlock,Exit.then]);refine bodyPost_ret (results_none rfl _ _ _) rfl ?_;have h5:(w1.setCell ⟨gi,Fi*2,none⟩ (.slice ka kn kc)).heap[gi]?=some (.cells (two (upd kf Fi (.slice ka kn kc)) vf L).toArray 245 (0,0)):=by
  rw [heap_setCell_same _ _ _ _ _ _ HGI1.o,List.setIfInBounds_toArray,aDi _ _ _ _ _ hFL]
 have hevs:=(((HEV.o.later HB1.o).set (o:=Fi*2) (u:=.slice ka kn kc) HGI1.o (by decide) (by decide)).set (o:=Fi*2+1) (u:=.slice va vn vc) h5 (by decide) (by decide));refine ⟨rfl,?_,hevs.later (Below.refl _ _).drew,?_,?_⟩
 ·show ((w1.setCell ⟨gi,Fi*2,none⟩ (.slice ka kn kc)).setCell ⟨gi,Fi*2+1,none⟩ (.slice va vn vc)).heap[gi]?=_;rw [heap_setCell_same _ _ _ _ _ _ h5,List.setIfInBounds_toArray,aC0 _ _ _ _ _ hFL]
 ·exact (((HBX.o.mono HB.o).trans (HB1.o.mono (by have:=HGS.o;have:=HB.o;omega))).trans ((((Below.refl B w1).setCell (p:=⟨gi,Fi*2,none⟩) HGB.o _)).setCell (p:=⟨gi,Fi*2+1,none⟩) HGB.o _)).drew
 ·intro k hk hn;simp only [List.mem_cons,List.not_mem_nil,or_false] at hn;show ((w1.setCell ⟨gi,Fi*2,none⟩ (.slice ka kn kc)).setCell ⟨gi,Fi*2+1,none⟩ (.slice va vn vc)).heap[k]?=_;rw [heap_setCell_other _ _ _ _ (by exact hn),heap_setCell_other _ _ _ _ (by exact hn),HB1.o.block k (by have:=HBX.o.size;omega),HBX.o.block k (by omega)]
def ItC (B:Nat) (w:World) (ys:List Value) (l:List It):Prop:=ys.length=l.length*2/\∀ i it,l[i]?=some it->∃ a c b d,ys[i*2]?=some (.slice a it.1.length c)/\ys[i*2+1]?=some (.slice b it.2.length d)/\BK B w a it.1.length c it.1/\BK B w b it.2.length d it.2
theorem ItC.ft {ys:List Value} (h:ItC B w ys l) (f:FT B w w'):ItC B w' ys l:=by
 refine ⟨h.1,fun i it hi=>?_⟩;obtain ⟨a,c,b,d,h1,h2,h3,h4⟩:=h.2 i it hi;exact ⟨a,c,b,d,h1,h2,h3.ft f,h4.ft f⟩
theorem ItC.one {ys:List Value} (h:ItC B w ys l):∀ u∈ys,u.oneCell'=true:=by
 intro u hu;obtain ⟨j,hj⟩:=List.mem_iff_getElem?.1 hu;have hlt:=(lL hj);have h1:=h.1;obtain ⟨it,hit⟩:∃ it,l[j / 2]?=some it:=⟨_,gE (by omega)⟩;obtain ⟨a,c,b,d,q1,q2,_,_⟩:=h.2 _ it hit;by_cases e:j % 2=0
 ·rw [show j / 2*2=j by omega,hj] at q1;simp only [oI] at q1;subst q1;rfl
 ·rw [show j / 2*2+1=j by omega,hj] at q2;simp only [oI] at q2;subst q2;rfl
theorem IR.itc (h:IR B w gi l):∃ ys,w.heap[gi]?=some (.cells ys.toArray 245 (0,0))/\ItC B w ys l:=by
 obtain ⟨kf,vf,h1,h2⟩:=h;refine ⟨_,h1,aBe _ _ _,fun i it hi=>?_⟩;obtain ⟨⟨a,c,e1,b1⟩,⟨b,d,e2,b2⟩⟩:=h2 i it hi;have hlt:=(lL hi);exact ⟨a,c,b,d,by rw [aA0 _ _ _ _ hlt,e1],by rw [aA2 _ _ _ _ hlt,e2],b1,b2⟩
theorem ItC.nil (B:Nat) (w:World):ItC B w [] []:=⟨rfl,fun i it hi=>by simp at hi⟩
theorem ItC.insert {ys:List Value} {b:Option Addr} {d:Nat} (h:ItC B w ys l) (hi:i<=l.length) (h1:BK B w a it.1.length c it.1) (h2:BK B w b it.2.length d it.2):ItC B w (ys.take (i*2)++(.slice a it.1.length c::.slice b it.2.length d::ys.drop (i*2))) (l.take i++it::l.drop i):=by
 have hl:=h.1;have hT:(ys.take (i*2)).length=i*2:=by rw [List.length_take];omega
 have hT2:(l.take i).length=i:=by rw [List.length_take];omega
 refine ⟨by simp;omega,fun j x hj=>?_⟩;rcases Nat.lt_trichotomy j i with q | q | q
 ·rw [List.getElem?_append_left (by omega),List.getElem?_take_of_lt q] at hj;obtain ⟨a',c',b',d',e1,e2,e3,e4⟩:=h.2 j x hj;refine ⟨a',c',b',d',?_,?_,e3,e4⟩
  ·rw [List.getElem?_append_left (by omega),List.getElem?_take_of_lt (by omega)];exact e1
  ·rw [List.getElem?_append_left (by omega),List.getElem?_take_of_lt (by omega)];exact e2
 ·subst q;rw [List.getElem?_append_right (by omega),hT2,Nat.sub_self,List.getElem?_cons_zero] at hj;simp only [oI] at hj;subst hj;refine ⟨a,c,b,d,?_,?_,h1,h2⟩
  ·rw [List.getElem?_append_right (by omega),hT,Nat.sub_self];rfl
  ·rw [List.getElem?_append_right (by omega),hT,show j*2+1-j*2=1 by omega];rfl
 ·rw [List.getElem?_append_right (by omega),hT2,show j-i=(j-i-1)+1 by omega,List.getElem?_cons_succ,List.getElem?_drop,show i+(j-i-1)=j-1 by omega] at hj;obtain ⟨a',c',b',d',e1,e2,e3,e4⟩:=h.2 (j-1) x hj;refine ⟨a',c',b',d',?_,?_,e3,e4⟩
  ·rw [List.getElem?_append_right (by omega),hT,show j*2-i*2=((j-1)*2-i*2)+1+1 by omega,List.getElem?_cons_succ,List.getElem?_cons_succ,List.getElem?_drop,show i*2+((j-1)*2-i*2)=(j-1)*2 by omega];exact e1
  ·rw [List.getElem?_append_right (by omega),hT,show j*2+1-i*2=((j-1)*2+1-i*2)+1+1 by omega,List.getElem?_cons_succ,List.getElem?_cons_succ,List.getElem?_drop,show i*2+((j-1)*2+1-i*2)=(j-1)*2+1 by omega];exact e2
theorem IR.set {F L:Nat} {kf vf:Nat->Value} {kv vv:Value} (hL:l.length=L) (h2:∀ i it,l[i]?=some it->KV B w (kf i) it.1/\KV B w (vf i) it.2) (f:FT B w w') (hg:w'.heap[gi]?=some (.cells (two (upd kf F kv) (upd vf F vv) L).toArray 245 (0,0))) (hk:KV B w' kv it.1) (hv:KV B w' vv it.2) (hF:F<L):IR B w' gi (l.set F it):=by
 refine ⟨upd kf F kv,upd vf F vv,by rw [List.length_set,hL];exact hg,fun i x hi=>?_⟩;by_cases q:i=F
 ·subst q;rw [List.getElem?_set_self (by omega)] at hi;simp only [oI] at hi;subst hi;rw [aB1,aB1];exact ⟨hk,hv⟩
 ·rw [List.getElem?_set_ne (by omega)] at hi;rw [upd_ne _ _ q,upd_ne _ _ q];exact ⟨(h2 i x hi).1.ft f,(h2 i x hi).2.ft f⟩
theorem IV.row {gn:Nat} {ys:List Value} (hr:RowN w gn 245 ys) (hi:ItC B w ys l) (hB:B1<=gn) (hc:l.length<=c) (hc2:c<=9223372036854775807):IV B B1 w (.slice (some ⟨gn,0,none⟩) l.length c) l:=by
 obtain ⟨row,hr⟩:=hr;refine ⟨_,_,rfl,hc,hc2,by simp,fun x hx=>?_⟩;simp only [oI] at hx;subst hx;refine ⟨gn,0,rfl,hB,⟨_,hr⟩,fun i it hit=>?_⟩;obtain ⟨a,c',b,d,h1,h2,h3,h4⟩:=hi.2 i it hit;have hlt:=(lL hit);have hl:=hi.1;refine ⟨a,c',b,d,?_,?_,h3,h4⟩
 ·rw [aAa hr,Nat.zero_add,List.getElem?_toArray,List.getElem?_append_left (by omega)];exact h1
 ·rw [aAa hr,Nat.zero_add,List.getElem?_toArray,List.getElem?_append_left (by omega)];exact h2
theorem IV.take (h:IV B B1 w (.slice a n c) l) (hm:m<=n):IV B B1 w (.slice a m c) (l.take m):=by
 obtain ⟨a',c',h1,h2,h3,h4,h5⟩:=h;simp only [Value.slice.injEq] at h1;obtain ⟨rfl,rfl,rfl⟩:=h1;have hl:(l.take m).length=m:=by rw [List.length_take];omega
 refine ⟨a,c,by rw [hl],by omega,h3,h4,fun x hx=>?_⟩;obtain ⟨g,o,e,hB,hcs,hI⟩:=h5 x hx;exact ⟨g,o,e,hB,hcs,fun i it hi=>hI i it (by rw [List.getElem?_take] at hi;split at hi;exact hi;cases hi)⟩
theorem IV.drop (h:IV B B1 w (.slice (some ⟨g,o,none⟩) n c) l) (hm:m<=n):IV B B1 w (.slice (some ⟨g,o+m*2,none⟩) (n-m) (c-m)) (l.drop m):=by
 obtain ⟨a',c',h1,h2,h3,h4,h5⟩:=h;simp only [Value.slice.injEq] at h1;obtain ⟨rfl,rfl,rfl⟩:=h1;obtain ⟨g',o',e,hB,hcs,hI⟩:=h5 _ rfl;simp only [Addr.mk.injEq,and_true] at e;obtain ⟨rfl,rfl⟩:=e;have hl:(l.drop m).length=l.length-m:=by rw [List.length_drop]
 refine ⟨_,_,by rw [hl],by omega,by omega,by simp,fun x hx=>?_⟩;simp only [oI] at hx;subst hx;refine ⟨g,o+m*2,rfl,hB,hcs,fun i it hi=>?_⟩;rw [List.getElem?_drop] at hi;obtain ⟨a,c',b,d,q1,q2,q3,q4⟩:=hI (m+i) it hi;refine ⟨a,c',b,d,?_,?_,q3,q4⟩
 ·rw [show o+m*2+i*2=o+(m+i)*2 by omega];exact q1
 ·rw [show o+m*2+i*2+1=o+(m+i)*2+1 by omega];exact q2
theorem aFk {cs:List Value} {l r:Value} (hg:w.heap[g]?=some (.cells cs.toArray 238 (0,0))) (hl:cs.length=n) (hL:n<=10) (hi:i<n) (hv:w.heap[gv]?=some (.cells #[l,r] 238 (0,0))) (h1:∀ u∈cs,u.oneCell'=true) (hk1:l.oneCell'=true) (hv1:r.oneCell'=true) :
  Calls prog 215 #[.slice (some ⟨g,0,none⟩) n n,.int .i64 (i:Int),.int .i64 ((i:Int)+1),.slice (some ⟨gv,0,none⟩) 2 2] w fun e w'=>∃ gn c,e=.returned (.slice (some ⟨gn,0,none⟩) (n+1) c)/\w.heap.size<=gn/\n+1<=c/\c<=9223372036854775807/\RowN w' gn 238 (cs.take i++(l::r::cs.drop (i+1)))/\Below w.heap.size w w':=by
 by_cases e:i+1=n
 ·have h:=replace_end hg hl hL e hv hk1 hv1;have e1:((n:Nat):Int)=(i:Int)+1:=by omega
  rw [e1] at h;have e2:cs.drop (i+1)=[]:=List.drop_of_length_le (by omega);rw [e2];exact h
 ·exact replace_mid hg hl hL (by omega) hv h1 hk1 hv1
theorem aFf (w:World) (A C:Array Value) (t t':TypeId):((w.alloc (.cells A t)).alloc (.cells C t')).drew.heap[w.heap.size]?=some (.cells A t (0,0))/\((w.alloc (.cells A t)).alloc (.cells C t')).drew.heap[w.heap.size+1]?=some (.cells C t' (0,0))/\Below w.heap.size w ((w.alloc (.cells A t)).alloc (.cells C t')).drew:=by
 have h1:=heap_alloc_new w (.cells A t);have hs:(w.alloc (.cells A t)).heap.size=w.heap.size+1:=by simp
 have h2:=heap_alloc_new (w.alloc (.cells A t)) (.cells C t');rw [hs] at h2;refine ⟨?_,h2,((aAc w _).trans ((aAc (w.alloc (.cells A t)) (.cells C t')).mono (by rw [hs];omega))).drew⟩;show ((w.alloc (.cells A t)).alloc (.cells C t')).heap[w.heap.size]?=_;rw [(aAc (w.alloc (.cells A t)) (.cells C t')).block _ (by rw [hs];omega)];exact h1
theorem split_leaf {gc g5 gq oq cq sc:Nat} {sa:Option Addr} {ys:List Value} (hgb:w.heap[gb]?=some (.cells #[.slice sa m sc,.slice (some ⟨gc,0,none⟩) n n] 251 (0,0))) (hB:B<=gb) (hBw:B<=w.heap.size)
  (hgc:w.heap[gc]?=some (.cells cv.toArray 238 (0,0))) (hn:cv.length=n) (hn10:n<=10) (hi:i<n) (hcv:cv[i]?=some (lfP g5)) (h1:∀ u∈cv,u.oneCell'=true)
  (hg5:w.heap[g5]?=some (.cells #[.slice (some ⟨gq,oq,none⟩) 5 cq] 267 (0,0))) (hcq:5<=cq)
  (hk:w.cell? ⟨gq,oq+4,none⟩=some (.slice ka kn kc)) (hv:w.cell? ⟨gq,oq+5,none⟩=some (.slice va vn vc))
  (hI:∀ ww gv,Below w.heap.size w ww->ww.heap[gv]?=some (.cells #[.slice ka kn kc,.slice va vn vc] 245 (0,0))->Calls prog 213 #[.slice sa m sc,.int .i64 (i:Int),.slice (some ⟨gv,0,none⟩) 1 1] ww fun e w'=>∃ gn c,e=.returned (.slice (some ⟨gn,0,none⟩) (m+1) c)/\ww.heap.size<=gn/\m+1<=c/\c<=9223372036854775807/\RowN w' gn 245 ys/\Below ww.heap.size ww w') :
  Calls prog 203 #[.pointer (some ⟨gb,0,none⟩),.int .i64 (i:Int)] w fun e w'=>e=.returned (.tuple #[])/\(∃ gl gr gn c gm c2,w'.heap[gb]?=some (.cells #[.slice (some ⟨gn,0,none⟩) (m+1) c,.slice (some ⟨gm,0,none⟩) (n+1) c2] 251 (0,0))/\RowN w' gn 245 ys/\RowN w' gm 238 (cv.take i++(lfP gl::lfP gr::cv.drop (i+1))) /\
   w'.heap[gl]?=some (.cells #[.slice (some ⟨gq,oq,none⟩) 2 cq] 267 (0,0))/\w'.heap[gr]?=some (.cells #[.slice (some ⟨gq,oq+6,none⟩) 2 (cq-3)] 267 (0,0))/\gl≠gr/\w.heap.size<=gl/\w.heap.size<=gr/\w.heap.size<=gn/\w.heap.size<=gm/\m+1<=c/\c<=9223372036854775807/\n+1<=c2/\c2<=9223372036854775807)/\Ex B [gb] w w':=by
 have HGB:=zH hgb;have HGC:=zH hgc;have HG5:=zH hg5;have HB:=zH hB;have HBW:=zH hBw;have HI:=zH hI;have HK:=zH hk;have HV:=zH hv;have H1:=zH h1;have HN:=zH hn;have HIO:=zH (aBu hg5);unfold lfP at HIO;have r0:w.cell? ⟨gb,1,none⟩=some (.slice (some ⟨gc,0,none⟩) n n):=aAa hgb;have r1:w.cell? ⟨gc,i,none⟩=some (.iface 268 (.pointer (some ⟨g5,0,none⟩))):=by rw [aAa hgc,List.getElem?_toArray];exact hcv
 have hcq3:¬ cq=3:=by omega
 have xi:(i:Int)<(n:Int):=by omega
 have HT:=zH (aAx (.pointer (some ⟨g5,0,none⟩)));clear hgb hgc hg5 hB hBw hI h1 hn hk hv hcv;go_enter func203,ntmps203;go_wp2_with fail;refine HIO.o.mono ?_;rintro e w1 ⟨rfl,hw⟩;have hw:=hw.symm;subst hw;go_upto_region 2 with fail;go_cut [6,7] from 21 to 33 (fun a b wx=>∃ g1 g2,a=.iface 268 (.pointer (some ⟨g1,0,none⟩))/\b=.iface 268 (.pointer (some ⟨g2,0,none⟩))/\wx.heap[g1]?=some (.cells #[.slice (some ⟨gq,oq,none⟩) 2 cq] 267 (0,0))/\wx.heap[g2]?=some (.cells #[.slice (some ⟨gq,oq+6,none⟩) 2 (cq-3)] 267 (0,0))/\g1≠g2/\w.heap.size<=g1/\w.heap.size<=g2/\Below w.heap.size w wx)
 case first =>
  go_region
  ·go_wp2;go_meet;obtain ⟨q1,q2,q3⟩:=aFf w #[.slice (some ⟨gq,oq,none⟩) 2 cq] #[.slice (some ⟨gq,oq+6,none⟩) 2 (cq-3)] 267 267;exact ⟨w.heap.size,w.heap.size+1,rfl,rfl,q1,q2,by omega,by omega,by omega,q3⟩
  ·go_wp2;go_meet;obtain ⟨q1,q2,q3⟩:=aFf w #[.slice (some ⟨gq,oq+6,none⟩) 2 (cq-3)] #[.slice (some ⟨gq,oq,none⟩) 2 cq] 267 267;exact ⟨w.heap.size+1,w.heap.size,rfl,rfl,q2,q1,by omega,by omega,by omega,q3⟩
 case rest =>
  obtain ⟨gl,gr,rfl,rfl,z1,z2,z3,z4,z5,z6⟩:=hcut;have HZ1:=zH z1;have HZ2:=zH z2;have HZ6:=zH z6;have HGBc:Hid (wc.heap[gb]?=some (.cells #[.slice sa m sc,.slice (some ⟨gc,0,none⟩) n n] 251 (0,0))):=(z6.block gb (lO HGB.o)).trans HGB.o;have c0:wc.cell? ⟨gb,0,none⟩=some (.slice sa m sc):=aAa HGBc.o;have c1:wc.cell? ⟨gb,1,none⟩=some (.slice (some ⟨gc,0,none⟩) n n):=aAa HGBc.o;have c2:wc.cell? ⟨gc,i,none⟩=some (.iface 268 (.pointer (some ⟨g5,0,none⟩))):=(z6.cell (p:=⟨gc,i,none⟩) (block_lt_of_cell r1)).trans r1;have c3:wc.cell? ⟨gq,oq+4,none⟩=some (.slice ka kn kc):=(z6.cell (p:=⟨gq,oq+4,none⟩) (block_lt_of_cell HK.o)).trans HK.o;have c4:wc.cell? ⟨gq,oq+5,none⟩=some (.slice va vn vc):=(z6.cell (p:=⟨gq,oq+5,none⟩) (block_lt_of_cell HV.o)).trans HV.o;have ta:=HT.o wc;have f0:wc.frozen? ⟨gb,0,none⟩=false:=aAb HGBc.o;have hgbl:=(lO HGBc.o);have hgql:gq<wc.heap.size:=block_lt_of_cell c3;clear z1 z2 z6 r0 r1;go_upto_region 7 with fail;have HBA:=zH ((aAc wc (.cells #[.slice ka kn kc,.slice va vn vc] 245)).drew);have HNA:Hid ((wc.alloc (.cells #[.slice ka kn kc,.slice va vn vc] 245)).drew.heap[wc.heap.size]?=some (.cells #[.slice ka kn kc,.slice va vn vc] 245 (0,0))):=heap_alloc_new wc _;have HBwA:=zH (HZ6.o.trans (HBA.o.mono HZ6.o.size));go_cut [] from 73 to 86 (fun wx=>∃ gn c,wx.heap[gb]?=some (.cells #[.slice (some ⟨gn,0,none⟩) (m+1) c,.slice (some ⟨gc,0,none⟩) n n] 251 (0,0))/\RowN wx gn 245 ys/\wc.heap.size<=gn/\m+1<=c/\c<=9223372036854775807/\Ex B [gb] wc wx)
  case first =>
   go_region_with ((go_at_call 213;refine (HI.o _ _ HBwA.o HNA.o).mono ?_;rintro e w2 ⟨gn,c5,rfl,hgn,hc2,hcm2,hrow2,hb2⟩;have HGB2:Hid (w2.heap[gb]?=some (.cells #[.slice sa m sc,.slice (some ⟨gc,0,none⟩) n n] 251 (0,0))):=(hb2.block gb (Nat.lt_of_lt_of_le hgbl HBA.o.size)).trans ((HBA.o.block gb hgbl).trans HGBc.o);have z0:w2.cell? ⟨gb,0,none⟩=some (.slice sa m sc):=aAa HGB2.o;have f2:w2.frozen? ⟨gb,0,none⟩=false:=aAb HGB2.o;have HB2:=zH (HBA.o.trans (hb2.mono HBA.o.size));have HROW:=zH hrow2;have HGN:=zH (nT HBA.o.size hgn);have HC2:=zH hc2;have HCM2:=zH hcm2;clear hgn hc2 hcm2 hrow2 hb2))
   all_goals
    go_wp2;go_meet;refine ⟨gn,c5,?_,?_,HGN.o,HC2.o,HCM2.o,?_,?_⟩
    ·rw [heap_setCell_same _ _ _ _ _ _ HGB2.o];rfl
    ·obtain ⟨row,hr⟩:=HROW.o;refine ⟨row,?_⟩;rw [heap_setCell_other _ _ _ _ (by show gn≠gb;have:=HGN.o;omega)];exact hr
    ·exact ((HB2.o.mono (nT HBW.o HZ6.o.size)).trans ((Below.refl B w2).setCell (p:=⟨gb,0,none⟩) HB.o _))
    ·intro k hk hnk;simp only [List.mem_cons,List.not_mem_nil,or_false] at hnk;rw [heap_setCell_other _ _ _ _ (by exact hnk),HB2.o.block k hk]
  case rest =>
   obtain ⟨gn,c5,y1,y2,y3,y4,y5,y6⟩:=hcut;have hgcb:gc≠gb:=by
    intro q9;have h9:=HGC.o;rw [q9,HGB.o] at h9;simp only [oI,cI] at h9;exact absurd h9.2.1 (by decide)
   have hgcw:=(lO HGC.o);have HGC2:Hid (wc.heap[gc]?=some (.cells cv.toArray 238 (0,0))):=by
    show _=_;rw [y6.2 gc (Nat.lt_of_lt_of_le hgcw HZ6.o.size) (by simpa using hgcb),HZ6.o.block gc hgcw];exact HGC.o
   have hglb:gl≠gb:=by have:=(lO HGB.o);omega
   have hgrb:gr≠gb:=by have:=(lO HGB.o);omega
   have HL2:Hid (wc.heap[gl]?=some (.cells #[.slice (some ⟨gq,oq,none⟩) 2 cq] 267 (0,0))):=(y6.2 gl (lO HZ1.o) (by simpa using hglb)).trans HZ1.o;have HR2:Hid (wc.heap[gr]?=some (.cells #[.slice (some ⟨gq,oq+6,none⟩) 2 (cq-3)] 267 (0,0))):=(y6.2 gr (lO HZ2.o) (by simpa using hgrb)).trans HZ2.o;have HEx:Hid (Ex B [gb] w wc):=⟨(HZ6.o.mono HBW.o).trans y6.1,fun k hk hnk=>(y6.2 k (Nat.lt_of_lt_of_le hk HZ6.o.size) hnk).trans (HZ6.o.block k hk)⟩;have HSW:Hid (w.heap.size<=wc.heap.size):=nT HZ6.o.size y6.1.size;have HY1:=zH y1;have HY2:=zH y2;have HGNw:Hid (w.heap.size<=gn):=nT HZ6.o.size y3;clear c0 c1 c2 c3 c4 ta f0 hgbl hgql y2 y6 HBA HNA HBwA;have d1:wc.cell? ⟨gb,1,none⟩=some (.slice (some ⟨gc,0,none⟩) n n):=aAa HY1.o;have hgbl:=(lO y1);have HBA:=zH (aAc wc (.cells #[lfP gl,lfP gr] 238));have HNA:Hid ((wc.alloc (.cells #[lfP gl,lfP gr] 238)).heap[wc.heap.size]?=some (.cells #[lfP gl,lfP gr] 238 (0,0))):=heap_alloc_new wc _;have HRP:=zH (aFk (w:=wc.alloc (.cells #[lfP gl,lfP gr] 238)) (i:=i) ((HBA.o.block gc (lO HGC2.o)).trans HGC2.o) HN.o hn10 hi HNA.o H1.o rfl rfl);clear y1 hgcw;unfold lfP at HRP HBA HNA;go_wp2_with fail;refine HRP.o.mono ?_;rintro e w5 ⟨gm,c6,rfl,hgm,hc6,hcm6,hrow6,hb6⟩;have HB5:=zH (HBA.o.trans (hb6.mono HBA.o.size));have HGM:=zH (nT HBA.o.size hgm);have HROW6:=zH hrow6;have HGB5:Hid (w5.heap[gb]?=some (.cells #[.slice (some ⟨gn,0,none⟩) (m+1) c5,.slice (some ⟨gc,0,none⟩) n n] 251 (0,0))):=(HB5.o.block gb hgbl).trans HY1.o;have HC6:=zH hc6;have HCM6:=zH hcm6;have e1:w5.cell? ⟨gb,1,none⟩=some (.slice (some ⟨gc,0,none⟩) n n):=aAa HGB5.o;have f5:w5.frozen? ⟨gb,1,none⟩=false:=aAb HGB5.o;clear hgm hc6 hcm6 hrow6 hb6 HRP d1;go_wp2;go_end0;have oth:∀ k,k≠gb->(w5.setCell ⟨gb,1,none⟩ (.slice (some ⟨gm,0,none⟩) (n+1) c6)).heap[k]?=w5.heap[k]?:=fun k hk=>heap_setCell_other _ _ _ _ hk
   refine ⟨rfl,⟨gl,gr,gn,c5,gm,c6,?_,?_,?_,?_,?_,z3,z4,z5,HGNw.o,nT HSW.o HGM.o,y4,y5,HC6.o,HCM6.o⟩,?_,?_⟩
   ·rw [heap_setCell_same _ _ _ _ _ _ HGB5.o];rfl
   ·obtain ⟨row,hr⟩:=HY2.o;refine ⟨row,?_⟩;have hgnb:gn≠gb:=by have h9:=HGNw.o;have h8:=(lO HGB.o);omega
    rw [oth gn hgnb,HB5.o.block gn (lO hr)];exact hr
   ·obtain ⟨row,hr⟩:=HROW6.o;refine ⟨row,?_⟩;rw [oth gm (by have h9:=HGM.o;omega)];exact hr
   ·rw [oth gl hglb,HB5.o.block gl (lO HL2.o)];exact HL2.o
   ·rw [oth gr hgrb,HB5.o.block gr (lO HR2.o)];exact HR2.o
   ·exact (HEx.o.1.trans (HB5.o.mono (nT HBW.o HSW.o))).trans ((Below.refl B w5).setCell (p:=⟨gb,1,none⟩) HB.o _)
   ·intro k hk hnk;rw [oth k (by simpa using hnk),HB5.o.block k (Nat.lt_of_lt_of_le hk HSW.o)];exact HEx.o.2 k hk hnk
end Go.Proofs.YtdfjjhlhnfindaaGreat
