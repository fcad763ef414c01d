import Derived.Test.YtdpdjpkmndnaaaaGreatY49
import Derived.Lib.Zigzag
set_option maxRecDepth 100000
set_option maxHeartbeats 16000000
set_option linter.unusedVariables false
namespace Go.Proofs.YtdpdjpkmndnaaaaGreat
open Go.RowKit Tryz
variable {B B1 g i j n num o p q:Nat} {l:List It} {last now st:StT} {left:Int} {ps:List Nat} {sv v:Value} {t:TypeId} {w:World}
theorem has_ok {id:Nat} {cs:Array Value} (hg:w.heap[g]?=some (.cells cs t (0,0))) (hw:Wd cs o ps) (hid:id<4096) :
  Calls prog 155 #[.pointer (some ⟨g,o,none⟩),.int .i64 (id:Int)] w fun e w'=>e=.returned (.bool (hsP ps id))/\w'=w:=by
 obtain ⟨x,hx⟩:∃ x,ps[id / 64]?=some x:=⟨_,gE (by have:=hw.1;omega)⟩;have hx6:=hw.2.1 x (mG hx);have hc:=hw.2.2 _ x hx;have hgd:ps.getD (id / 64) 0=x:=by rw [List.getD_eq_getElem?_getD,hx];rfl
 have hq:((id:Int) / 64)=((id / 64:Nat):Int):=by omega
 have hr:((id:Int) % 64)=((id % 64:Nat):Int):=by omega
 have e0:hsP ps id=x.testBit (id % 64):=by unfold hsP;rw [hgd]
 rw [e0];obtain ⟨m,hm⟩:∃ m,id / 64=m:=⟨_,rfl⟩;obtain ⟨r,hr2⟩:∃ r,id % 64=r:=⟨_,rfl⟩;have hm64:m<64:=by omega
 have hr64:r<64:=by omega
 rw [hm] at hc hq;rw [hr2] at hr ⊢;have c0:w.cell? ⟨g,o+m,none⟩=some (.int .u64 (x:Int)):=(aAd hg).trans hc;have d1:(m:Int)<64:=by omega
 have d2:¬ (m:Int)<0:=by omega
 have d3:¬ (r:Int)<0:=by omega
 have d4:(r:Int)<64:=by omega
 clear hg hc hw hx hgd e0;go_enter func155,ntmps155;go_wp2;go_ret;refine ⟨?_,rfl⟩;show Ending.returned (.bool (bits BinOp.and IntKind.u64 ((x:Int) / 2 ^ r) 1 == 1))=_;have e1:((x:Int) / 2 ^ r)=((x / 2 ^ r:Nat):Int):=by simp
 have e2:x / 2 ^ r<=x:=Nat.div_le_self _ _;rw [e1,Nat.testBit_eq_decide_div_mod_eq];generalize x / 2 ^ r=y at e2 ⊢;rw [Lib.u64_and1 _ (by omega) (by omega)]
 congr 2
 rw [Bool.eq_iff_iff];simp only [beq_iff_eq,decide_eq_true_eq];omega
def nums (ps:List Nat) (k:Nat):List Nat:=(List.range k).filter (hsP ps)
theorem nums_succ (ps:List Nat) (k:Nat):nums ps (k+1)=nums ps k++(if hsP ps k then [k] else []):=by
 unfold nums;rw [List.range_succ,List.filter_append]
 congr 1
 by_cases c:hsP ps k=true
 ·simp [c]
 ·simp [c]
theorem nums_len (ps:List Nat) (k:Nat):(nums ps k).length<=k:=by
 unfold nums;exact nT (List.length_filter_le _ _) (by simp)
theorem plC_app' (a b:List Nat):plC (a++b)=plC a++plC b:=by simp [plC]
theorem numbers_ok {cs:Array Value} (hg:w.heap[g]?=some (.cells cs t (0,0))) (hw:Wd cs o ps) :
  Calls prog 108 #[.pointer (some ⟨g,o,none⟩)] w fun e w'=>∃ v,e=.returned v/\w'.ownsRow w.heap.size 3 1 v (nums ps 4096).length (plC (nums ps 4096))/\Below w.heap.size w w':=by
 obtain ⟨i0,hi0,hz0,hz1,hz2⟩:=info_parts info_int;have HG:=zH hg;have HW:=zH hw;have hgl:=(lO hg);clear hg hw;go_enter func108,ntmps108;go_wp2_with fail;go_loopw [3,5] (fun v i wx=>∃ j:Nat,j<=4096/\i=.int .i64 j/\wx.ownsRow w.heap.size 3 1 v (nums ps j).length (plC (nums ps j))/\Below w.heap.size w wx) (fun _ i _=>4096-(intOf i).toNat)
 case atStart=>exact ⟨0,by omega,rfl,⟨rfl,Or.inl ⟨rfl,rfl⟩⟩,Below.refl _ _⟩
 case round =>
  obtain ⟨j,hj,rfl,hown,hbr⟩:=hrel;obtain ⟨va,vc,hv⟩:=aC4 hown;subst hv;have HOW:=zH hown;have HBR:=zH hbr;by_cases hjn:j<4096
  ·have xj:(j:Int)<4096:=by omega
   have HHA:=zH (has_ok ((hbr.block g hgl).trans HG.o) HW.o hjn);have HNS:=zH (nums_succ ps j);have hnl:=nums_len ps j;clear hown hbr;generalize hM:(nums ps j).length=M at *
   go_wp2_with fail;refine HHA.o.mono ?_;rintro e w1 ⟨rfl,hq⟩;have hq:=hq.symm;subst hq
   cases hb:hsP ps j with
   | true =>
    rw [hb] at HNS;simp only [if_true] at HNS;have HBX:=zH (aAk wr (.cells #[.int .i64 (j:Int)] 3));have HO1:=zH (aBj HOW.o HBX.o);have HNW:Hid (∀ k u,[Value.int .i64 (j:Int)][k]?=some u->(wr.alloc (.cells #[.int .i64 (j:Int)] 3)).cell? ((⟨wr.heap.size,0,none⟩:Addr).add k)=some u):=by
     intro k u hu;rw [Addr.add_lit,Nat.zero_add,aAd (heap_alloc_new wr _)];simpa using hu
    have HBS:Hid (w.heap.size<=(wr.alloc (.cells #[.int .i64 (j:Int)] 3)).heap.size):=nT HBR.o.size HBX.o.size;go_wp2_with (at_builtin;refine wpList_append_own _ rfl (.tmp 11) (.tmp 13) 76 rfl w.heap.size 3 i0 (.int .i64 0) 1 8 underlying76 hi0 hz0 hz1 hz2 rfl (by omega) (.slice va M vc) M (plC (nums ps j)) rfl HO1.o ⟨wr.heap.size,0,none⟩ 1 1 [Value.int .i64 (j:Int)] (by simp [Act.eval]) rfl HNW.o (by simp [Value.oneCell']) (by unfold maxLen;omega) (by omega) HBS.o ?_;intro v3 w3 ho3 hg3 hz3;have HO3:=zH ho3;have HG3:=zH hg3;clear ho3 hg3 hz3);go_roundw
    case rel =>
     refine ⟨j+1,by omega,by go_num,?_,?_⟩
     ·rw [HNS.o,lA,plC_app',hM];exact HO3.o
     ·exact (HBR.o.trans (HBX.o.mono HBR.o.size)).grown HG3.o HBS.o (fun k hk=>(HO1.o.lt k hk).1)
    case measure=>simp [intOf];omega
   | false =>
    rw [hb] at HNS;simp only [Bool.false_eq_true,if_false,List.append_nil] at HNS;go_wp2_with fail;go_roundw
    case rel =>
     refine ⟨j+1,by omega,by go_num,?_,HBR.o⟩;rw [HNS.o,hM];exact HOW.o
    case measure=>simp [intOf];omega
  ·have xj:¬ (j:Int)<4096:=by omega
   obtain rfl:j=4096:=by omega
   clear hown hbr;generalize hM:(nums ps 4096).length=M at *
   go_wp2;go_ret;exact ⟨_,rfl,HOW.o,HBR.o⟩
theorem own_in {l:List Nat} (h:w.ownsRow B 3 1 v l.length (plC l)) {j x:Nat} (hj:l[j]?=some x):∃ gb c,v=.slice (some ⟨gb,0,none⟩) l.length c/\w.cell? ⟨gb,j,none⟩=some (.int .i64 (x:Int)):=by
 have hlt:=(lL hj);rcases h.2 with ⟨_,e0⟩ | ⟨gb,cap,cur,e,_,hc,_,_,h4,h5⟩
 ·omega
 ·refine ⟨gb,cap,e,?_⟩;rw [aAd hc];have h6:(plC l)[j]?=some (.int .i64 (x:Int)):=by unfold plC;rw [List.getElem?_map,hj];rfl
  rw [<-h5,List.getElem?_take,if_pos (by omega)] at h6;rw [<-Array.getElem?_toList];exact h6
def holdL (t:PS) (l:List Nat):PS:=l.foldl (fun t i=>t.set i 2) t
theorem holdL_st (l:List Nat):∀ (t:PS),(holdL t l).st.length=t.st.length/\(holdL t l).life=t.life/\(holdL t l).num=t.num/\(holdL t l).root=t.root/\(∀ i,i∉l->(holdL t l).st.getD i 0=t.st.getD i 0)/\((∀ x∈l,x<t.st.length)->∀ i∈l,(holdL t l).st.getD i 0=2):=by
 induction l with
 | nil=>intro t;exact ⟨rfl,rfl,rfl,rfl,fun _ _=>rfl,fun _ i hi=>by simp at hi⟩
 | cons x l ih =>
  intro t;obtain ⟨h1,h2,h3,h4,h5,h6⟩:=ih (t.set x 2);have hl:(t.set x 2).st.length=t.st.length:=List.length_set;refine ⟨h1.trans hl,h2,h3,h4,fun i hi=>?_,fun hx i hi=>?_⟩
  ·simp only [List.mem_cons,not_or] at hi;show (holdL (t.set x 2) l).st.getD i 0=_;rw [h5 i hi.2];show (t.st.set x 2).getD i 0=_;rw [List.getD_eq_getElem?_getD,List.getElem?_set_ne (Ne.symm hi.1),<-List.getD_eq_getElem?_getD]
  ·show (holdL (t.set x 2) l).st.getD i 0=2;by_cases c:i∈l
   ·exact h6 (fun y hy=>by rw [hl];exact hx y (List.mem_cons_of_mem _ hy)) i c
   ·rw [h5 i c];have:i=x:=by
     rcases List.mem_cons.1 hi with q | q
     ·exact q
     ·exact absurd q c
    subst this;show (t.st.set i 2).getD i 0=2;rw [List.getD_eq_getElem?_getD,List.getElem?_set_self (hx i List.mem_cons_self)];rfl
theorem holdL_succ {t:PS} {l:List Nat} {x:Nat} (h:l[j]?=some x):holdL t (l.take (j+1))=(holdL t (l.take j)).set x 2:=by
 unfold holdL;rw [List.take_add_one,h,List.foldl_append];rfl
theorem hold_any [Gd] {s:DS} {t:PS} {l:List Nat} (h:ST B p q s t w) (hB:B<=w.heap.size) (hl:s.life=t.life) (hv:w.ownsRow B1 3 1 v l.length (plC l)) (hll:l.length<=4096) (hR:∀ x∈l,x<t.st.length/\t.st.getD x 0≠0) :
  Calls prog 107 #[.pointer (some ⟨q,0,none⟩),v] w fun e w'=>e=.returned (.int .i64 0)/\ST B p q s (holdL t l) w'/\Fp B w w':=by
 obtain ⟨va,vc,hvv⟩:=aC4 hv;subst hvv;have HD:=zH (dead_no h hl);have HS0:=zH h;have HV:=zH hv;have HR:=zH hR;have hsl:t.st.length<=4096:=by obtain ⟨_,gs,hS⟩:=h;exact hS.ok.sl
 have HB:=zH hB;clear h hv hR hl;generalize hN:l.length=N at *
 go_enter func107,ntmps107;go_wp2_with fail;refine HD.o.mono ?_;rintro e w1 ⟨rfl,hb1⟩;have HS1:=zH (HS0.o.later hb1);have HF1:=zH (Fp.of hb1 hB);have HV1:=zH (aBj HV.o hb1);clear hb1 HD HS0;go_wp2_with fail;go_loopw [13] (fun i wr=>∃ n:Nat,n<=N/\i=.int .i64 n/\wr=w1) (fun i _=>N-(intOf i).toNat)
 case atStart=>exact ⟨0,by omega,rfl,rfl⟩
 case round =>
  obtain ⟨n,hn,rfl,rfl⟩:=hrel;by_cases hnn:n<N
  ·have xn:(n:Int)<(N:Int):=by omega
   obtain ⟨x,hx⟩:∃ x,l[n]?=some x:=⟨_,gE (by omega)⟩;have hrx:=HR.o x (mG hx);have hv1:=HV1.o;rw [<-hN] at hv1;obtain ⟨gb,c,e0,hcell⟩:=own_in hv1 hx;simp only [Value.slice.injEq] at e0;obtain ⟨rfl,_,rfl⟩:=e0;have HE:Hid (t.of (x:Int)=t.st.getD x 0):=of_getD;have q1:(((t.st.getD x 0:Nat):Int) == 0)=false:=beq_eq_false_iff_ne.2 (by omega);obtain ⟨_,gs,hS⟩:=HS1.o;have HO:=zH (of_any (x:Int) hS (by omega));rw [HE.o] at HO;generalize hod:t.st.getD x 0=od at *
   clear hS hv1 hrx hx hod;go_wp2_with fail;refine HO.o.mono ?_;rintro e w2 ⟨rfl,hq⟩;have hq:=hq.symm;subst hq;go_wp2_with fail;go_roundw
   case rel=>exact ⟨n+1,by omega,by go_num,trivial⟩
   case measure=>simp [intOf];omega
  ·have xn:¬ (n:Int)<(N:Int):=by omega
   clear hn hnn;go_wp2_with fail;go_loopw [26] (fun i wx=>∃ n:Nat,n<=N/\i=.int .i64 n/\ST B p q s (holdL t (l.take n)) wx/\Fp B w wx/\wx.ownsRow B1 3 1 (.slice va N vc) N (plC l)) (fun i _=>N-(intOf i).toNat)
   case atStart=>exact ⟨0,by omega,rfl,HS1.o,HF1.o,HV1.o⟩
   case round =>
    obtain ⟨m,hm,rfl,hst,hfp,hov⟩:=hrel;have HSTm:=zH hst;have HFPm:=zH hfp;have HOVm:=zH hov;by_cases hmm:m<N
    ·have xm:(m:Int)<(N:Int):=by omega
     obtain ⟨x,hx⟩:∃ x,l[m]?=some x:=⟨_,gE (by omega)⟩;have hrx:=HR.o x (mG hx);rw [<-hN] at hov;obtain ⟨gb,c,e0,hcell⟩:=own_in hov hx;simp only [Value.slice.injEq] at e0;obtain ⟨rfl,_,rfl⟩:=e0;obtain ⟨hDI,gs,hS⟩:=HSTm.o;have HSE:=zH (set_any x 2 hS (by rw [(holdL_st _ _).1];exact hrx.1) (by omega));have HSV:=zH hS;have HDI:=zH hDI;have HSX:=zH (holdL_succ (t:=t) hx);clear hS hDI hst hfp hov hrx hx;go_wp2_with fail;refine HSE.o.mono ?_;rintro e w3 ⟨rfl,hS3,hw3⟩;have HS3:=zH hS3;have HW3:=zH hw3;clear hS3 hw3;go_wp2_with fail;go_roundw
     case rel =>
      refine ⟨m+1,by omega,by go_num,?_,?_,?_⟩
      ·rw [HSX.o];refine ⟨?_,gs,HS3.o⟩;rw [HW3.o];exact HDI.o.other HSV.o.hs (by decide) (by decide) (by decide) (by decide) (by decide) (fun e=>(HSV.o.hG gs e).2 rfl)
      ·rw [HW3.o];exact HFPm.o.trans (Fp.set HSV.o.hs HSV.o.gB (Or.inr rfl) (fun e=>(HSV.o.hG gs e).2 rfl))
      ·rw [HW3.o];refine aB0 HOVm.o fun k cs _ e=>?_
       rw [heap_setCell_other _ _ _ _ ?_,e];intro q9;have q9:k=gs:=q9;subst q9;rw [HSV.o.hs] at e;simp only [oI,cI] at e;exact absurd e.2.1 (by decide)
     case measure=>simp [intOf];omega
    ·have xm:¬ (m:Int)<(N:Int):=by omega
     have HTT:Hid (l.take m=l):=List.take_of_length_le (by omega);clear hst hfp hov;go_wp2;go_ret;have h9:=HSTm.o;rw [HTT.o] at h9;exact ⟨rfl,h9,HFPm.o⟩
def z76:Array Value:=(List.replicate 64 (.int .u64 0)).toArray
theorem ins_list (o:Nat):∀ (l:List Value) (k:Nat) (base:Array Value),(o+k+l.length<=base.size)->((l.zipIdx k).foldl (fun cs x=>cs.setIfInBounds (o+x.2) x.1) base).size=base.size/\∀ i,((l.zipIdx k).foldl (fun cs x=>cs.setIfInBounds (o+x.2) x.1) base)[i]?=if o+k<=i/\i<o+k+l.length then l[i-(o+k)]? else base[i]?
 | [],k,base,_=>⟨rfl,fun i=>by simp only [List.zipIdx_nil,List.foldl_nil,List.length_nil,Nat.add_zero];rw [if_neg (by omega)]⟩
 | v::l,k,base,h=>by
  simp only [List.length_cons] at h
  obtain ⟨h1,h2⟩:=ins_list o l (k+1) (base.setIfInBounds (o+k) v) (by rw [Array.size_setIfInBounds];omega)
  rw [List.zipIdx_cons,List.foldl_cons]
  refine ⟨h1.trans Array.size_setIfInBounds,fun i=>?_⟩
  rw [h2 i]
  by_cases c1:i=o+k
  ·subst c1
   rw [if_neg (by omega),if_pos (by simp),Nat.sub_self,Array.getElem?_setIfInBounds_self_of_lt (by omega)]
   rfl
  ·by_cases c2:o+k<=i/\i<o+k+(v::l).length
   ·have c3:o+(k+1)<=i/\i<o+(k+1)+l.length:=by simp only [List.length_cons] at c2;omega
    rw [if_pos c3,if_pos c2,show i-(o+k)=(i-(o+(k+1)))+1 by omega];rfl
   ·have c3:¬ (o+(k+1)<=i/\i<o+(k+1)+l.length):=by simp only [List.length_cons] at c2;omega
    rw [if_neg c3,if_neg c2,Array.getElem?_setIfInBounds_ne (Ne.symm c1)]
theorem aH8 {base vs:Array Value} (hn:vs.size=n) (h:o+n<=base.size):(Array.foldl (fun (cs:Array Value) (x:Value×Nat)=>cs.setIfInBounds (o+x.2) x.1) base vs.zipIdx 0 n).size=base.size/\∀ i,(Array.foldl (fun (cs:Array Value) (x:Value×Nat)=>cs.setIfInBounds (o+x.2) x.1) base vs.zipIdx 0 n)[i]?=if o<=i/\i<o+n then vs[i-o]? else base[i]?:=by
 have e:Array.foldl (fun (cs:Array Value) (x:Value×Nat)=>cs.setIfInBounds (o+x.2) x.1) base vs.zipIdx 0 n=(vs.toList.zipIdx 0).foldl (fun cs x=>cs.setIfInBounds (o+x.2) x.1) base:=by
  have hs:vs.zipIdx.size=n:=by rw [Array.size_zipIdx,hn]
  rw [<-hs,<-Array.foldl_toList,Array.toList_zipIdx]
 rw [e];obtain ⟨h1,h2⟩:=ins_list o vs.toList 0 base (by rw [Array.length_toList,hn];omega);refine ⟨h1,fun i=>?_⟩;rw [h2 i,Array.length_toList,hn,Nat.add_zero];by_cases c:o<=i/\i<o+n
 ·rw [if_pos c,if_pos c,Array.getElem?_toList]
 ·rw [if_neg c,if_neg c]
def anew (s:DS) (num root:Nat) (ps:List Nat):PS:=holdL ⟨newSt s.n,s.life,num,root⟩ (nums ps 4096)
theorem aD4 (h:i<n):(newSt n).getD i 0=if i<2 then 0 else 1:=by
 unfold newSt;rw [List.getD_eq_getElem?_getD,List.getElem?_map,List.getElem?_range h];rfl
theorem aFs:i∈nums ps 4096↔i<4096/\hsP ps i=true:=by
 unfold nums;rw [List.mem_filter,List.mem_range]
def PgN (s:DS) (ps:List Nat):Prop:=∀ i,i<4096->hsP ps i=true->2<=i/\i<s.n
theorem anew_st {s:DS} {root:Nat} (hp:PgN s ps):(anew s num root ps).st.length=s.n/\(anew s num root ps).life=s.life/\(anew s num root ps).num=num/\(∀ i,i<4096->hsP ps i=true->(anew s num root ps).st.getD i 0=2)/\∀ i,i<s.n->(i<4096->hsP ps i=false)->(anew s num root ps).st.getD i 0=if i<2 then 0 else 1:=by
 obtain ⟨h1,h2,h3,h4,h5,h6⟩:=holdL_st (nums ps 4096) ⟨newSt s.n,s.life,num,root⟩;refine ⟨h1.trans (aC6 _),h2,h3,fun i hi hh=>?_,fun i hi hh=>?_⟩
 ·exact h6 (fun x hx=>by rw [aC6];exact (hp x (aFs.1 hx).1 (aFs.1 hx).2).2) i (aFs.2 ⟨hi,hh⟩)
 ·show (holdL _ _).st.getD i 0=_
  rw [h5 i (fun q=>by
   have:=aFs.1 q;rw [hh this.1] at this
   exact absurd this.2 (by decide))]
  exact aD4 hi
theorem aF0 {o:Oper} {a:Act} {p:Operand} (ho:o.op=.load t p) {ad:Addr} {cs:Array Value} (hp:a.eval p=.pointer (some ad)) (hrun:(loadVar t ad).run prog w=.ok (.agg cs) w):(execOp a.eval o).run prog w=.ok (.value (.agg cs)) w:=by
 simp [execOp,ho,Instr.loadAt,Instr.sureAddr,hp,hrun,Result.andThen]
theorem zero_tree:zeroCells214.size=139/\zeroCells214[136]?=some (.slice none 0 0)/\zeroCells214[138]?=some (.bool false):=⟨by kernel_rfl,by kernel_rfl,by kernel_rfl⟩
theorem tv_build {c2:Array Value} {L:Nat} (hc:StV c2 st.root st.depth st.keys st.pgs):TV ((Array.foldl (fun (cs:Array Value) (x:Value×Nat)=>cs.setIfInBounds (69+x.2) x.1) (Array.foldl (fun (cs:Array Value) (x:Value×Nat)=>cs.setIfInBounds (2+x.2) x.1) ((zeroCells214.setIfInBounds 0 (.pointer (some ⟨p,0,none⟩))).setIfInBounds 1 (.pointer (some ⟨q,0,none⟩))) c2.zipIdx 0 67) c2.zipIdx 0 67).setIfInBounds 137 (.int .i64 (L:Int))) p q st st (.slice none 0 0) (L:Int) false:=by
 obtain ⟨z1,z2,z3⟩:=zero_tree;have b1:((zeroCells214.setIfInBounds 0 (.pointer (some ⟨p,0,none⟩))).setIfInBounds 1 (.pointer (some ⟨q,0,none⟩))).size=139:=by rw [Array.size_setIfInBounds,Array.size_setIfInBounds];exact z1
 obtain ⟨i1,i2⟩:=aH8 (base:=((zeroCells214.setIfInBounds 0 (.pointer (some ⟨p,0,none⟩))).setIfInBounds 1 (.pointer (some ⟨q,0,none⟩)))) (vs:=c2) (o:=2) (n:=67) hc.sz (by rw [b1];decide);obtain ⟨j1,j2⟩:=aH8 (base:=(Array.foldl (fun (cs:Array Value) (x:Value×Nat)=>cs.setIfInBounds (2+x.2) x.1) ((zeroCells214.setIfInBounds 0 (.pointer (some ⟨p,0,none⟩))).setIfInBounds 1 (.pointer (some ⟨q,0,none⟩))) c2.zipIdx 0 67)) (vs:=c2) (o:=69) (n:=67) hc.sz (by rw [i1,b1];decide);have ne:∀ i,i≠137->((Array.foldl (fun (cs:Array Value) (x:Value×Nat)=>cs.setIfInBounds (69+x.2) x.1) (Array.foldl (fun (cs:Array Value) (x:Value×Nat)=>cs.setIfInBounds (2+x.2) x.1) ((zeroCells214.setIfInBounds 0 (.pointer (some ⟨p,0,none⟩))).setIfInBounds 1 (.pointer (some ⟨q,0,none⟩))) c2.zipIdx 0 67) c2.zipIdx 0 67).setIfInBounds 137 (.int .i64 (L:Int)))[i]?=(Array.foldl (fun (cs:Array Value) (x:Value×Nat)=>cs.setIfInBounds (69+x.2) x.1) (Array.foldl (fun (cs:Array Value) (x:Value×Nat)=>cs.setIfInBounds (2+x.2) x.1) ((zeroCells214.setIfInBounds 0 (.pointer (some ⟨p,0,none⟩))).setIfInBounds 1 (.pointer (some ⟨q,0,none⟩))) c2.zipIdx 0 67) c2.zipIdx 0 67)[i]?:=fun i hi=>Array.getElem?_setIfInBounds_ne (Ne.symm hi)
 have lo:∀ i,i<2->((Array.foldl (fun (cs:Array Value) (x:Value×Nat)=>cs.setIfInBounds (69+x.2) x.1) (Array.foldl (fun (cs:Array Value) (x:Value×Nat)=>cs.setIfInBounds (2+x.2) x.1) ((zeroCells214.setIfInBounds 0 (.pointer (some ⟨p,0,none⟩))).setIfInBounds 1 (.pointer (some ⟨q,0,none⟩))) c2.zipIdx 0 67) c2.zipIdx 0 67).setIfInBounds 137 (.int .i64 (L:Int)))[i]?=((zeroCells214.setIfInBounds 0 (.pointer (some ⟨p,0,none⟩))).setIfInBounds 1 (.pointer (some ⟨q,0,none⟩)))[i]?:=fun i hi=>by rw [ne i (by omega),j2 i,if_neg (by omega),i2 i,if_neg (by omega)]
 have m1:∀ i,i<67->((Array.foldl (fun (cs:Array Value) (x:Value×Nat)=>cs.setIfInBounds (69+x.2) x.1) (Array.foldl (fun (cs:Array Value) (x:Value×Nat)=>cs.setIfInBounds (2+x.2) x.1) ((zeroCells214.setIfInBounds 0 (.pointer (some ⟨p,0,none⟩))).setIfInBounds 1 (.pointer (some ⟨q,0,none⟩))) c2.zipIdx 0 67) c2.zipIdx 0 67).setIfInBounds 137 (.int .i64 (L:Int)))[2+i]?=c2[i]?:=fun i hi=>by rw [ne (2+i) (by omega),j2,if_neg (by omega),i2,if_pos (by omega),show 2+i-2=i by omega]
 have m2:∀ i,i<67->((Array.foldl (fun (cs:Array Value) (x:Value×Nat)=>cs.setIfInBounds (69+x.2) x.1) (Array.foldl (fun (cs:Array Value) (x:Value×Nat)=>cs.setIfInBounds (2+x.2) x.1) ((zeroCells214.setIfInBounds 0 (.pointer (some ⟨p,0,none⟩))).setIfInBounds 1 (.pointer (some ⟨q,0,none⟩))) c2.zipIdx 0 67) c2.zipIdx 0 67).setIfInBounds 137 (.int .i64 (L:Int)))[69+i]?=c2[i]?:=fun i hi=>by rw [ne (69+i) (by omega),j2,if_pos (by omega),show 69+i-69=i by omega]
 have hi:∀ i,136<=i->i≠137->((Array.foldl (fun (cs:Array Value) (x:Value×Nat)=>cs.setIfInBounds (69+x.2) x.1) (Array.foldl (fun (cs:Array Value) (x:Value×Nat)=>cs.setIfInBounds (2+x.2) x.1) ((zeroCells214.setIfInBounds 0 (.pointer (some ⟨p,0,none⟩))).setIfInBounds 1 (.pointer (some ⟨q,0,none⟩))) c2.zipIdx 0 67) c2.zipIdx 0 67).setIfInBounds 137 (.int .i64 (L:Int)))[i]?=zeroCells214[i]?:=fun i h1 h2=>by rw [ne i h2,j2 i,if_neg (by omega),i2 i,if_neg (by omega),Array.getElem?_setIfInBounds_ne (by omega),Array.getElem?_setIfInBounds_ne (by omega)]
 refine ⟨by rw [Array.size_setIfInBounds,j1,i1,b1],?_,?_,(m1 0 (by omega)).trans hc.c0,(m1 1 (by omega)).trans hc.c1,(m1 2 (by omega)).trans hc.c2,⟨hc.wd.1,hc.wd.2.1,fun i x hx=>?_⟩,(m2 0 (by omega)).trans hc.c0,(m2 1 (by omega)).trans hc.c1,(m2 2 (by omega)).trans hc.c2,⟨hc.wd.1,hc.wd.2.1,fun i x hx=>?_⟩,(hi 136 (by omega) (by omega)).trans z2,?_,(hi 138 (by omega) (by omega)).trans z3⟩
 ·rw [lo 0 (by omega),Array.getElem?_setIfInBounds_ne (by omega),Array.getElem?_setIfInBounds_self_of_lt (by rw [z1];decide)]
 ·rw [lo 1 (by omega),Array.getElem?_setIfInBounds_self_of_lt (by rw [Array.size_setIfInBounds,z1];decide)]
 ·have h1:=(lL hx);have h2:=hc.wd.1;rw [show 5+i=2+(3+i) by omega,m1 (3+i) (by omega)];exact hc.wd.2.2 i x hx
 ·have h1:=(lL hx);have h2:=hc.wd.1;rw [show 72+i=69+(3+i) by omega,m2 (3+i) (by omega)];exact hc.wd.2.2 i x hx
 ·exact Array.getElem?_setIfInBounds_self_of_lt (by rw [j1,i1,b1];decide)
theorem TrW.pgn {s:DS} {root:Nat} {st':StT} (h:TrW s ⟨newSt s.n,s.life,num,root⟩ st l) (e:SameT st st'):PgN s st'.pgs:=by
 intro i _ hi;rw [e.hs] at hi;rcases h with ⟨_,_,_,_,r5⟩ | ⟨h,b,q1,q2,q3,q4,q5,q6,q7,q8,q9⟩
 ·rw [r5.2.2.2 i] at hi;simp at hi
 ·rw [q9.2.2.2 i] at hi;have h2:=q6.pgs i (of_decide_eq_true hi);refine ⟨?_,h2.2⟩;apply Classical.byContradiction;intro q;have h3:(newSt s.n).getD i 0≠0:=h2.1;rw [aD4 h2.2,if_pos (by omega)] at h3;exact h3 rfl
theorem Open_gen [Gd] {s:DS} {root:Nat} (h:DI B p s w) (hB:B<=w.heap.size) (hd:s.down=false) (ha:s.after<1) (hl1:s.life<100000) (h3:3<=s.n) (h4:s.n<=4096) (hl:lastH (rdH (pad (s.show 0)) s.n) (rdH (pad (s.show 1)) s.n)=some (num,root)) (hnum:num<=4611686018427387904) (hrt:root<=4096) (hTr:TrW s ⟨newSt s.n,s.life,num,root⟩ st l) (hro:st.root=(root:Int)) (hdp:st.depth<100000) (hll:l.length<100000) :
  Calls prog 63 #[.pointer (some ⟨p,0,none⟩)] w fun e w'=>∃ q g st0,e=.returned (.tuple #[.pointer (some ⟨g,0,none⟩),.int .i64 0])/\w.heap.size<=g/\TM B p q g s (anew s num root st0.pgs) st0 st0 (.slice none 0 0) (cntF (anew s num root st0.pgs).st:Nat) w'/\SameT st st0/\Fp B w w':=by
 have HOP:=zH (open_ok B p s num root w h hB hd h3 hl hnum hrt);have hns0:(newSt s.n).getD 0 0=0:=by rw [aD4 (by omega)];rfl
 have hns1:(newSt s.n).getD 1 0=0:=by rw [aD4 (by omega)];rfl
 have HTR:=zH hTr;have HB:=zH hB;clear h hl hTr;go_enter func63,ntmps63;go_wp2_with fail;refine HOP.o.mono ?_;rintro e w1 ⟨q,rfl,hst1,hb1⟩;have HST1:=zH hst1;have HB1:=zH hb1;have HBw1:Hid (B<=w1.heap.size):=nT hB hb1.size;have HRO:=zH (root_any hst1);have HLT:=zH (looked_w hst1 HBw1.o rfl hd (aC6 _) hns0 HTR.o hdp hll);rw [hro] at HLT;clear hst1 hb1 HOP;go_wp2_with fail;refine HRO.o.mono ?_;rintro e w1' ⟨rfl,rfl⟩;go_wp2_with fail;refine HLT.o.mono ?_;rintro e w2 ⟨v2,rfl,⟨c2,st2,hv2,hsv2,hsame⟩,hb2⟩;subst hv2;have HPN:=zH (HTR.o.pgn hsame);have HSM:=zH hsame;have HB2:Hid (Below w.heap.size w w2):=HB1.o.trans (hb2.mono HB1.o.size);have HST2:=zH (HST1.o.later hb2);have x3:(w2.alloc (.cells zeroCells207 207)).heap[w2.heap.size]?=some (.cells zeroCells207 207 (0,0)):=heap_alloc_new w2 _;have hst:=aDx (o:=0) x3 (by rw [Nat.zero_add,hsv2.sz,aEd.sz];exact nR _) hsv2.one;rw [aHr (by rw [hsv2.sz,aEd.sz])] at hst;have hcz:c2.size=67:=hsv2.sz;have HSV2:=zH hsv2;have HB3:Hid (Below w.heap.size w ((w2.alloc (.cells zeroCells207 207)).setRow w2.heap.size c2)):=below_setRow (HB2.o.trans ((aAk w2 _).mono HB2.o.size)) HB2.o.size c2;have HBL3:Hid (Below w2.heap.size w2 ((w2.alloc (.cells zeroCells207 207)).setRow w2.heap.size c2)):=below_setRow (aAk w2 _) (nR _) c2;have HY3:=zH (setRow_heap _ _ _ c2 _ _ x3);clear hsv2 hsame hb2 x3 HRO HLT;go_upto_region 7 with fail;generalize hw3:((w2.alloc (.cells zeroCells207 207)).setRow w2.heap.size c2)=w3 at *
 have HST3:=zH (HST2.o.later HBL3.o);generalize hnb:w2.heap.size=nb at *
 clear hst;have HNM:=zH (numbers_ok (o:=3) HY3.o HSV2.o.wd);go_wp2_with fail;refine HNM.o.mono ?_;rintro e w4 ⟨v4,rfl,ho4,hb4⟩;have HBw4:Hid (B<=w4.heap.size):=nT (nT hB HB3.o.size) hb4.size;have HST4:=zH (HST3.o.later hb4);obtain ⟨va,vc,hv4⟩:=aC4 ho4;subst hv4
 have HHO:=zH (hold_any HST4.o HBw4.o rfl ho4 (nums_len st2.pgs 4096) (fun x hx=>by
  have h9:=aFs.1 hx;have h8:=HPN.o x h9.1 h9.2;refine ⟨by show x<(newSt s.n).length;rw [aC6];exact h8.2,?_⟩;show (newSt s.n).getD x 0≠0;rw [aD4 h8.2,if_neg (by omega)]
  decide))
 have HY4:=zH ((hb4.block nb (lO HY3.o)).trans HY3.o);have HB4:Hid (Below w.heap.size w w4):=HB3.o.trans (hb4.mono HB3.o.size);clear ho4 hb4 HNM;generalize (nums st2.pgs 4096).length=M9 at *
 go_wp2_with fail;refine HHO.o.mono ?_;rintro e w5 ⟨rfl,h1,h2⟩;have HST5:Hid (ST B p q s (anew s num root st2.pgs) w5):=h1;have HF5:Hid (Fp B w w5):=(Fp.of HB4.o hB).trans h2;have HY5:=zH (h2.stay _ _ _ _ HY4.o (by decide) (by decide) (by decide) (by decide) (by decide) (by decide));clear h1 h2 HHO;go_upto_region 8 with fail;have HX0:Hid ((fun wx=>wx.heap[nb]?=some (.cells c2 207 (0,0))) w5.drew):=HY5.o;have HLE:=zH (left_any (HST5.o.later (Below.refl _ _).drew));have HBw5:Hid (B<=w5.heap.size):=nT hB HF5.o.bel.size;generalize hL:cntF (anew s num root st2.pgs).st=L at *
 obtain ⟨zt1,zt2,zt3⟩:=zero_tree;have hb9:((zeroCells214.setIfInBounds 0 (.pointer (some ⟨p,0,none⟩))).setIfInBounds 1 (.pointer (some ⟨q,0,none⟩))).size=139:=by rw [Array.size_setIfInBounds,Array.size_setIfInBounds];exact zt1
 have hsz1:(Array.foldl (fun (cs:Array Value) (x:Value×Nat)=>cs.setIfInBounds (2+x.2) x.1) ((zeroCells214.setIfInBounds 0 (.pointer (some ⟨p,0,none⟩))).setIfInBounds 1 (.pointer (some ⟨q,0,none⟩))) c2.zipIdx 0 67).size=139:=(aH8 (base:=((zeroCells214.setIfInBounds 0 (.pointer (some ⟨p,0,none⟩))).setIfInBounds 1 (.pointer (some ⟨q,0,none⟩)))) (vs:=c2) (o:=2) (n:=67) hcz (by rw [hb9];decide)).1.trans hb9;have hsz2:(Array.foldl (fun (cs:Array Value) (x:Value×Nat)=>cs.setIfInBounds (69+x.2) x.1) (Array.foldl (fun (cs:Array Value) (x:Value×Nat)=>cs.setIfInBounds (2+x.2) x.1) ((zeroCells214.setIfInBounds 0 (.pointer (some ⟨p,0,none⟩))).setIfInBounds 1 (.pointer (some ⟨q,0,none⟩))) c2.zipIdx 0 67) c2.zipIdx 0 67).size=139:=(aH8 (base:=(Array.foldl (fun (cs:Array Value) (x:Value×Nat)=>cs.setIfInBounds (2+x.2) x.1) ((zeroCells214.setIfInBounds 0 (.pointer (some ⟨p,0,none⟩))).setIfInBounds 1 (.pointer (some ⟨q,0,none⟩))) c2.zipIdx 0 67)) (vs:=c2) (o:=69) (n:=67) hcz (by rw [hsz1];decide)).1.trans hsz1;have HTV:Hid (TV ((Array.foldl (fun (cs:Array Value) (x:Value×Nat)=>cs.setIfInBounds (69+x.2) x.1) (Array.foldl (fun (cs:Array Value) (x:Value×Nat)=>cs.setIfInBounds (2+x.2) x.1) ((zeroCells214.setIfInBounds 0 (.pointer (some ⟨p,0,none⟩))).setIfInBounds 1 (.pointer (some ⟨q,0,none⟩))) c2.zipIdx 0 67) c2.zipIdx 0 67).setIfInBounds 137 (.int .i64 (L:Int))) p q st2 st2 (.slice none 0 0) (L:Int) false):=tv_build HSV2.o;clear zt1 zt2 zt3 hb9;refine wp_region_noPanic ?_;refine wp_region_held_drew (S:=fun wx=>wx.heap[nb]?=some (.cells c2 207 (0,0))) (by kernel_rfl) HX0.o (fun hHeld=>?_);refine aAb 0 29 ?_;refine aAb 1 30 ?_;refine aAh (i:=2) (d:=31) (v:=.agg c2) (by kernel_rfl) (by kernel_rfl) (by kernel_rfl) (by kernel_rfl) (fun _ _ _ h=>h) ?hya2 (by assumption) ?resta2
 case hya2 =>
  intro oi ho;simp only [tG,sG,zG,oI] at ho;subst ho;refine Or.inl ⟨by rfl,?_⟩;intro wx hSw;exact aF0 rfl rfl ((fun (wx:World) (hSw:wx.heap[nb]?=some (.cells c2 207 (0,0)))=>run_loadVar_row (P:=prog) wx nb 207 207 c2 (0,0) _ hSw underlying207 rfl (by rw [hcz];exact aDi)) wx hSw)
 case resta2 =>
  try simp only [Act.put,siT,scZ,scS]
  refine aAh (i:=3) (d:=32) (v:=.agg c2) (by kernel_rfl) (by kernel_rfl) (by kernel_rfl) (by kernel_rfl) (fun _ _ _ h=>h) ?hya3 (by assumption) ?resta3
  case hya3 =>
   intro oi ho;simp only [tG,sG,zG,oI] at ho;subst ho;refine Or.inl ⟨by rfl,?_⟩;intro wx hSw;exact aF0 rfl rfl ((fun (wx:World) (hSw:wx.heap[nb]?=some (.cells c2 207 (0,0)))=>run_loadVar_row (P:=prog) wx nb 207 207 c2 (0,0) _ hSw underlying207 rfl (by rw [hcz];exact aDi)) wx hSw)
  case resta3 =>
   try simp only [Act.put,siT,scZ,scS]
   refine aAb 4 33 ?_;refine aAf 5 ?_;intro K hK;go_simp;refine HLE.o.mono ?_;rintro e w6 ⟨rfl,rfl⟩;refine hK.out _ _ HX0.o (fun hHeld=>?_);clear hK K
   try simp only [Act.put,siT,scZ,scS]
   refine aAh (i:=6) (d:=35) (v:=.agg ((Array.foldl (fun (cs:Array Value) (x:Value×Nat)=>cs.setIfInBounds (69+x.2) x.1) (Array.foldl (fun (cs:Array Value) (x:Value×Nat)=>cs.setIfInBounds (2+x.2) x.1) ((zeroCells214.setIfInBounds 0 (.pointer (some ⟨p,0,none⟩))).setIfInBounds 1 (.pointer (some ⟨q,0,none⟩))) c2.zipIdx 0 67) c2.zipIdx 0 67).setIfInBounds 137 (.int .i64 (L:Int)))) (by kernel_rfl) (by kernel_rfl) (by kernel_rfl) (by kernel_rfl) (fun _ _ _ h=>h) ?hya6 (by assumption) ?resta6
   case hya6 =>
    intro oi ho;simp only [tG,sG,zG,oI] at ho;subst ho;refine Or.inl ⟨by rfl,?_⟩;intro wx hSw
    try dsimp only at hSw
    go_simp
    try rfl
   try simp only [Act.put,siT,scZ,scS]
   generalize ((Array.foldl (fun (cs:Array Value) (x:Value×Nat)=>cs.setIfInBounds (69+x.2) x.1) (Array.foldl (fun (cs:Array Value) (x:Value×Nat)=>cs.setIfInBounds (2+x.2) x.1) ((zeroCells214.setIfInBounds 0 (.pointer (some ⟨p,0,none⟩))).setIfInBounds 1 (.pointer (some ⟨q,0,none⟩))) c2.zipIdx 0 67) c2.zipIdx 0 67).setIfInBounds 137 (.int .i64 (L:Int)))=bg at *
   clear hsz1 hsz2;have HB7:Hid (Below w5.heap.size w5 (w5.alloc (.cells bg 214)).drew):=(aAk w5 _).drew;have HN7:Hid ((w5.alloc (.cells bg 214)).drew.heap[w5.heap.size]?=some (.cells bg 214 (0,0))):=heap_alloc_new w5 _;have HX7:Hid ((fun wx=>wx.heap[nb]?=some (.cells c2 207 (0,0))) (w5.alloc (.cells bg 214)).drew):=(HB7.o.block nb (lO HY5.o)).trans HY5.o;refine aAf 7 ?_;intro K hK;go_simp;clear hHeld;refine hK.out _ _ HX7.o (fun hHeld=>?_);clear hK K
   try simp only [Act.put,siT,scZ,scS]
   refine aAb 8 2 ?_;refine aAb 9 3 ?_;refine wpAnyH_done (by kernel_rfl) ?_ _;refine NoPanic.normal ?_;clear hHeld HX0 HX7;go_wp2;go_ret2;obtain ⟨a1,a2,a3,a4,a5⟩:=anew_st (num:=num) (root:=root) HPN.o;refine ⟨q,w5.heap.size,st2,rfl,HF5.o.bel.size,⟨HST5.o.later HB7.o,nT HBw5.o HB7.o.size,HBw5.o,⟨bg,HN7.o,by rw [<-hL] at HTV;exact HTV.o⟩,a2.symm,hd,ha,hl1,a1,?_,?_⟩,HSM.o,HF5.o.trans (Fp.of HB7.o HBw5.o)⟩
   ·rw [a5 0 (by omega) (fun _=>by
     cases h9:hsP st2.pgs 0 with
     | false=>rfl
     | true=>have:=(HPN.o 0 (by omega) h9).1;omega)]
    rfl
   ·rw [a5 1 (by omega) (fun _=>by
     cases h9:hsP st2.pgs 1 with
     | false=>rfl
     | true=>have:=(HPN.o 1 (by omega) h9).1;omega)]
    rfl
theorem Open_none [Gd] {s:DS} (h:DI B p s w) (hB:B<=w.heap.size) (hd:s.down=false) (ha:s.after<1) (hl1:s.life<100000) (h3:3<=s.n) (h4:s.n<=4096) (hl:lastH (rdH (pad (s.show 0)) s.n) (rdH (pad (s.show 1)) s.n)=some (num,0)) (hnum:num<=4611686018427387904) :
  Calls prog 63 #[.pointer (some ⟨p,0,none⟩)] w fun e w'=>∃ q g st0,e=.returned (.tuple #[.pointer (some ⟨g,0,none⟩),.int .i64 0])/\w.heap.size<=g/\TM B p q g s ⟨newSt s.n,s.life,num,0⟩ st0 st0 (.slice none 0 0) (cntF (newSt s.n):Nat) w'/\st0.root=0/\st0.depth=0/\st0.keys=0/\PgS st0.pgs []/\Fp B w w':=by
 have hp:PgS zPs []:=aJ3 List.nodup_nil (fun x hx=>by simp at hx);refine (Open_gen (st:=⟨0,0,0,zPs⟩) (l:=[]) h hB hd ha hl1 h3 h4 hl hnum (by omega) (Or.inl ⟨rfl,rfl,rfl,rfl,hp⟩) rfl (by decide) (by decide)).mono ?_;rintro e w' ⟨q,g,st0,rfl,h5,h6,h7,h8⟩;have hn:nums st0.pgs 4096=[]:=by
  rw [nums,List.filter_eq_nil_iff];intro x _;rw [h7.hs,hp.2.2.2 x];simp
 have ha:anew s num 0 st0.pgs=⟨newSt s.n,s.life,num,0⟩:=by
  unfold anew;rw [hn];rfl
 rw [ha] at h6;exact ⟨q,g,st0,rfl,h5,h6,h7.rt,h7.dp,h7.ky,h7.pgs hp,h8⟩
theorem Len_any [Gd] {s:DS} {t:PS} (hM:TM B p q g s t now last sv left w) :
  Calls prog 111 #[.pointer (some ⟨g,0,none⟩)] w fun e w'=>e=.returned (.int .i64 now.keys)/\w'=w:=by
 obtain ⟨cs,hg,hT⟩:=hM.tv;have r4:w.cell? ⟨g,4,none⟩=some (.int .i64 now.keys):=(aAd hg).trans hT.n2;clear hM hg hT;go_enter func111,ntmps111;go_wp2;go_ret;exact ⟨rfl,rfl⟩
theorem getD_some {st:List Nat} {x:Nat} (h:st[i]?=some x):st.getD i 0=x:=by rw [List.getD_eq_getElem?_getD,h];rfl
theorem newSt_cnt (n:Nat) (h:2<=n):cntF (newSt n)=n-2:=by
 unfold cntF newSt;have key:∀ k,((List.range k).map fun i=>if i<2 then 0 else 1).count 1=k-2:=by
  intro k
  induction k with
  | zero=>rfl
  | succ k ih =>
   rw [List.range_succ,List.map_append,List.count_append,ih];by_cases c:k<2
   ·simp [c];omega
   ·simp [c];omega
 exact key n
theorem new_facts (n:Nat) (s:DS) (h:s=DS.new n):s.down=false/\s.after<1/\s.life=0/\s.n=n/\s.m=0/\s.show 0=[]/\s.show 1=[]:=by
 subst h;have hk:∀ b,(DS.new n).show b=[]:=by
  intro b;have:(DS.new n).show b=(DS.new n).kept.getD b []:=rfl;rw [this];show (List.replicate n ([]:List Nat)).getD b []=[];rw [List.getD_eq_getElem?_getD,List.getElem?_replicate]
  split<;>rfl
 exact ⟨rfl,(show (0:Int)<1 by decide),rfl,List.length_replicate,rfl,hk 0,hk 1⟩
def OpT [Gd] (B p g n:Nat) (w':World):Prop:=∃ (q:Nat) (s:DS) (t:PS) (st0:StT),TM B p q g s t st0 st0 (.slice none 0 0) (cntF t.st:Nat) w'/\Tr s t st0 []/\st0.depth=0/\s.n=n/\s.m=0/\cntF t.st=n-2/\t.num=0/\s.show 0=[]/\s.show 1=[]
end Go.Proofs.YtdpdjpkmndnaaaaGreat
