import Derived.Test.YtdfjjhlhnfindaaGreatY38
import Derived.Lib.Zigzag
set_option maxRecDepth 100000
set_option maxHeartbeats 16000000
set_option linter.unusedVariables false
namespace Go.Proofs.YtdfjjhlhnfindaaGreat
open Go.RowKit Tryz
variable {B B1 g i j k o p q root x:Nat} {cs vs:Array Value} {fn:Func} {fz:Nat×Nat} {l:List It} {last now:StT} {left:Int} {nd ps qs:List Nat} {s':DS} {sv:Value} {t t':PS} {ty:TypeId} {w w':World}
theorem has_ok {id:Nat} {t:TypeId} (hg:w.heap[g]?=some (.cells cs t (0,0))) (hw:Wd cs o ps) (hid:id<4096) :
  Calls prog 120 #[.pointer (some ⟨g,o,none⟩),.int .i64 (id:Int)] w fun e w'=>e=.returned (.bool (hsP ps id))/\w'=w:=by
 obtain ⟨x,hx⟩:∃ x,ps[id / 64]?=some x:=⟨_,gE (by have:=hw.1;omega)⟩;have hx6:=hw.2.1 x (mG hx);have hc:=hw.2.2 _ x hx;have hgd:ps.getD (id / 64) 0=x:=by rw [List.getD_eq_getElem?_getD,hx];rfl
 have hq:((id:Int) / 64)=((id / 64:Nat):Int):=by omega
 have hr:((id:Int) % 64)=((id % 64:Nat):Int):=by omega
 have e0:hsP ps id=x.testBit (id % 64):=by unfold hsP;rw [hgd]
 rw [e0];obtain ⟨m,hm⟩:∃ m,id / 64=m:=⟨_,rfl⟩;obtain ⟨r,hr2⟩:∃ r,id % 64=r:=⟨_,rfl⟩;have hm64:m<64:=by omega
 have hr64:r<64:=by omega
 rw [hm] at hc hq;rw [hr2] at hr ⊢;have c0:w.cell? ⟨g,o+m,none⟩=some (.int .u64 (x:Int)):=(aAa hg).trans hc;have d1:(m:Int)<64:=by omega
 have d2:¬ (m:Int)<0:=by omega
 have d3:¬ (r:Int)<0:=by omega
 have d4:(r:Int)<64:=by omega
 clear hg hc hw hx hgd e0;go_enter func120,ntmps120;go_wp2;go_ret;refine ⟨?_,rfl⟩;show Ending.returned (.bool (bits BinOp.and IntKind.u64 ((x:Int) / 2 ^ r) 1 == 1))=_;have e1:((x:Int) / 2 ^ r)=((x / 2 ^ r:Nat):Int):=by simp
 have e2:x / 2 ^ r<=x:=Nat.div_le_self _ _;rw [e1,Nat.testBit_eq_decide_div_mod_eq];generalize x / 2 ^ r=y at e2 ⊢;rw [Lib.u64_and1 _ (by omega) (by omega)]
 congr 2
 rw [Bool.eq_iff_iff];simp only [beq_iff_eq,decide_eq_true_eq];omega
def nums (ps:List Nat) (k:Nat):List Nat:=(List.range k).filter (hsP ps)
theorem nums_succ (ps:List Nat) (k:Nat):nums ps (k+1)=nums ps k++(if hsP ps k then [k] else []):=by
 unfold nums;rw [List.range_succ,List.filter_append]
 congr 1
 by_cases c:hsP ps k=true
 ·simp [c]
 ·simp [c]
theorem nums_len (ps:List Nat) (k:Nat):(nums ps k).length<=k:=by
 unfold nums;exact nT (List.length_filter_le _ _) (by simp)
theorem plC_app' (a b:List Nat):plC (a++b)=plC a++plC b:=by simp [plC]
theorem numbers_ok {t:TypeId} (hg:w.heap[g]?=some (.cells cs t (0,0))) (hw:Wd cs o ps) :
  Calls prog 83 #[.pointer (some ⟨g,o,none⟩)] w fun e w'=>∃ v,e=.returned v/\w'.ownsRow w.heap.size 3 1 v (nums ps 4096).length (plC (nums ps 4096))/\Below w.heap.size w w':=by
 obtain ⟨i0,hi0,hz0,hz1,hz2⟩:=info_parts aD2;have HG:=zH hg;have HW:=zH hw;have hgl:=(lO hg);clear hg hw;go_enter func83,ntmps83;go_wp2_with fail;go_loopw [3,5] (fun v i wx=>∃ j:Nat,j<=4096/\i=.int .i64 j/\wx.ownsRow w.heap.size 3 1 v (nums ps j).length (plC (nums ps j))/\Below w.heap.size w wx) (fun _ i _=>4096-(intOf i).toNat)
 case atStart=>exact ⟨0,by omega,rfl,⟨rfl,Or.inl ⟨rfl,rfl⟩⟩,Below.refl _ _⟩
 case round =>
  obtain ⟨j,hj,rfl,hown,hbr⟩:=hrel;obtain ⟨va,vc,hv⟩:=aAg hown;subst hv;have HOW:=zH hown;have HBR:=zH hbr;by_cases hjn:j<4096
  ·have xj:(j:Int)<4096:=by omega
   have HHA:=zH (has_ok ((hbr.block g hgl).trans HG.o) HW.o hjn);have HNS:=zH (nums_succ ps j);have hnl:=nums_len ps j;clear hown hbr;generalize hM:(nums ps j).length=M at *
   go_wp2_with fail;refine HHA.o.mono ?_;rintro e w1 ⟨rfl,hq⟩;have hq:=hq.symm;subst hq
   cases hb:hsP ps j with
   | true =>
    rw [hb] at HNS;simp only [if_true] at HNS;have HBX:=zH (aAc wr (.cells #[.int .i64 (j:Int)] 3));have HO1:=zH (aAh HOW.o HBX.o);have HNW:Hid (∀ k u,[Value.int .i64 (j:Int)][k]?=some u->(wr.alloc (.cells #[.int .i64 (j:Int)] 3)).cell? ((⟨wr.heap.size,0,none⟩:Addr).add k)=some u):=by
     intro k u hu;rw [Addr.add_lit,Nat.zero_add,aAa (heap_alloc_new wr _)];simpa using hu
    have HBS:Hid (w.heap.size<=(wr.alloc (.cells #[.int .i64 (j:Int)] 3)).heap.size):=nT HBR.o.size HBX.o.size;go_wp2_with (at_builtin;refine wpList_append_own _ rfl (.tmp 11) (.tmp 13) 38 rfl w.heap.size 3 i0 (.int .i64 0) 1 8 underlying38 hi0 hz0 hz1 hz2 rfl (by omega) (.slice va M vc) M (plC (nums ps j)) rfl HO1.o ⟨wr.heap.size,0,none⟩ 1 1 [Value.int .i64 (j:Int)] (by simp [Act.eval]) rfl HNW.o (by simp [Value.oneCell']) (by unfold maxLen;omega) (by omega) HBS.o ?_;intro v3 w3 ho3 hg3 hz3;have HO3:=zH ho3;have HG3:=zH hg3;clear ho3 hg3 hz3);go_roundw
    case rel =>
     refine ⟨j+1,by omega,by go_num,?_,?_⟩
     ·rw [HNS.o,lA,plC_app',hM];exact HO3.o
     ·exact (HBR.o.trans (HBX.o.mono HBR.o.size)).grown HG3.o HBS.o (fun k hk=>(HO1.o.lt k hk).1)
    case measure=>simp [intOf];omega
   | false =>
    rw [hb] at HNS;simp only [Bool.false_eq_true,if_false,List.append_nil] at HNS;go_wp2_with fail;go_roundw
    case rel =>
     refine ⟨j+1,by omega,by go_num,?_,HBR.o⟩;rw [HNS.o,hM];exact HOW.o
    case measure=>simp [intOf];omega
  ·have xj:¬ (j:Int)<4096:=by omega
   obtain rfl:j=4096:=by omega
   clear hown hbr;generalize hM:(nums ps 4096).length=M at *
   go_wp2;go_ret;exact ⟨_,rfl,HOW.o,HBR.o⟩
theorem own_in {v:Value} {l:List Nat} (h:w.ownsRow B 3 1 v l.length (plC l)) {j x:Nat} (hj:l[j]?=some x):∃ gb c,v=.slice (some ⟨gb,0,none⟩) l.length c/\w.cell? ⟨gb,j,none⟩=some (.int .i64 (x:Int)):=by
 have hlt:=(lL hj);rcases h.2 with ⟨_,e0⟩ | ⟨gb,cap,cur,e,_,hc,_,_,h4,h5⟩
 ·omega
 ·refine ⟨gb,cap,e,?_⟩;rw [aAa hc];have h6:(plC l)[j]?=some (.int .i64 (x:Int)):=by unfold plC;rw [List.getElem?_map,hj];rfl
  rw [<-h5,List.getElem?_take,if_pos (by omega)] at h6;rw [<-Array.getElem?_toList];exact h6
def holdL (t:PS) (l:List Nat):PS:=l.foldl (fun t i=>t.set i 2) t
theorem holdL_st (l:List Nat):∀ (t:PS),(holdL t l).st.length=t.st.length/\(holdL t l).life=t.life/\(holdL t l).num=t.num/\(holdL t l).root=t.root/\(∀ i,i∉l->(holdL t l).st.getD i 0=t.st.getD i 0)/\((∀ x∈l,x<t.st.length)->∀ i∈l,(holdL t l).st.getD i 0=2):=by
 induction l with
 | nil=>intro t;exact ⟨rfl,rfl,rfl,rfl,fun _ _=>rfl,fun _ i hi=>by simp at hi⟩
 | cons x l ih =>
  intro t;obtain ⟨h1,h2,h3,h4,h5,h6⟩:=ih (t.set x 2);have hl:(t.set x 2).st.length=t.st.length:=List.length_set;refine ⟨h1.trans hl,h2,h3,h4,fun i hi=>?_,fun hx i hi=>?_⟩
  ·simp only [List.mem_cons,not_or] at hi;show (holdL (t.set x 2) l).st.getD i 0=_;rw [h5 i hi.2];show (t.st.set x 2).getD i 0=_;rw [List.getD_eq_getElem?_getD,List.getElem?_set_ne (Ne.symm hi.1),<-List.getD_eq_getElem?_getD]
  ·show (holdL (t.set x 2) l).st.getD i 0=2;by_cases c:i∈l
   ·exact h6 (fun y hy=>by rw [hl];exact hx y (List.mem_cons_of_mem _ hy)) i c
   ·rw [h5 i c];have:i=x:=by
     rcases List.mem_cons.1 hi with q | q
     ·exact q
     ·exact absurd q c
    subst this;show (t.st.set i 2).getD i 0=2;rw [List.getD_eq_getElem?_getD,List.getElem?_set_self (hx i List.mem_cons_self)];rfl
theorem holdL_succ {l:List Nat} (h:l[j]?=some x):holdL t (l.take (j+1))=(holdL t (l.take j)).set x 2:=by
 unfold holdL;rw [List.take_add_one,h,List.foldl_append];rfl
theorem hold_any [Gd] {s:DS} {v:Value} {l:List Nat} (h:ST B p q s t w) (hB:B<=w.heap.size) (hl:s.life=t.life) (hv:w.ownsRow B1 3 1 v l.length (plC l)) (hll:l.length<=4096) (hR:∀ x∈l,x<t.st.length/\t.st.getD x 0≠0) :
  Calls prog 82 #[.pointer (some ⟨q,0,none⟩),v] w fun e w'=>e=.returned (.int .i64 0)/\ST B p q s (holdL t l) w'/\Fp B w w':=by
 obtain ⟨va,vc,hvv⟩:=aAg hv;subst hvv;have HD:=zH (aDa h hl);have HS0:=zH h;have HV:=zH hv;have HR:=zH hR;have hsl:t.st.length<=4096:=by obtain ⟨_,gs,hS⟩:=h;exact hS.ok.sl
 have HB:=zH hB;clear h hv hR hl;generalize hN:l.length=N at *
 go_enter func82,ntmps82;go_wp2_with fail;refine HD.o.mono ?_;rintro e w1 ⟨rfl,hb1⟩;have HS1:=zH (HS0.o.later hb1);have HF1:=zH (Fp.of hb1 hB);have HV1:=zH (aAh HV.o hb1);clear hb1 HD HS0;go_wp2_with fail;go_loopw [13] (fun i wr=>∃ n:Nat,n<=N/\i=.int .i64 n/\wr=w1) (fun i _=>N-(intOf i).toNat)
 case atStart=>exact ⟨0,by omega,rfl,rfl⟩
 case round =>
  obtain ⟨n,hn,rfl,rfl⟩:=hrel;by_cases hnn:n<N
  ·have xn:(n:Int)<(N:Int):=by omega
   obtain ⟨x,hx⟩:∃ x,l[n]?=some x:=⟨_,gE (by omega)⟩;have hrx:=HR.o x (mG hx);have hv1:=HV1.o;rw [<-hN] at hv1;obtain ⟨gb,c,e0,hcell⟩:=own_in hv1 hx;simp only [Value.slice.injEq] at e0;obtain ⟨rfl,_,rfl⟩:=e0;have HE:Hid (t.of (x:Int)=t.st.getD x 0):=aBw;have q1:(((t.st.getD x 0:Nat):Int) == 0)=false:=beq_eq_false_iff_ne.2 (by omega);obtain ⟨_,gs,hS⟩:=HS1.o;have HO:=zH (of_any (x:Int) hS (by omega));rw [HE.o] at HO;generalize hod:t.st.getD x 0=od at *
   clear hS hv1 hrx hx hod;go_wp2_with fail;refine HO.o.mono ?_;rintro e w2 ⟨rfl,hq⟩;have hq:=hq.symm;subst hq;go_wp2_with fail;go_roundw
   case rel=>exact ⟨n+1,by omega,by go_num,trivial⟩
   case measure=>simp [intOf];omega
  ·have xn:¬ (n:Int)<(N:Int):=by omega
   clear hn hnn;go_wp2_with fail;go_loopw [26] (fun i wx=>∃ n:Nat,n<=N/\i=.int .i64 n/\ST B p q s (holdL t (l.take n)) wx/\Fp B w wx/\wx.ownsRow B1 3 1 (.slice va N vc) N (plC l)) (fun i _=>N-(intOf i).toNat)
   case atStart=>exact ⟨0,by omega,rfl,HS1.o,HF1.o,HV1.o⟩
   case round =>
    obtain ⟨m,hm,rfl,hst,hfp,hov⟩:=hrel;have HSTm:=zH hst;have HFPm:=zH hfp;have HOVm:=zH hov;by_cases hmm:m<N
    ·have xm:(m:Int)<(N:Int):=by omega
     obtain ⟨x,hx⟩:∃ x,l[m]?=some x:=⟨_,gE (by omega)⟩;have hrx:=HR.o x (mG hx);rw [<-hN] at hov;obtain ⟨gb,c,e0,hcell⟩:=own_in hov hx;simp only [Value.slice.injEq] at e0;obtain ⟨rfl,_,rfl⟩:=e0;obtain ⟨hDI,gs,hS⟩:=HSTm.o;have HSE:=zH (aHf x 2 hS (by rw [(holdL_st _ _).1];exact hrx.1) (by omega));have HSV:=zH hS;have HDI:=zH hDI;have HSX:=zH (holdL_succ (t:=t) hx);clear hS hDI hst hfp hov hrx hx;go_wp2_with fail;refine HSE.o.mono ?_;rintro e w3 ⟨rfl,hS3,hw3⟩;have HS3:=zH hS3;have HW3:=zH hw3;clear hS3 hw3;go_wp2_with fail;go_roundw
     case rel =>
      refine ⟨m+1,by omega,by go_num,?_,?_,?_⟩
      ·rw [HSX.o];refine ⟨?_,gs,HS3.o⟩;rw [HW3.o];exact HDI.o.other HSV.o.hs (by decide) (by decide) (by decide) (by decide) (by decide) (fun e=>(HSV.o.hG gs e).2 rfl)
      ·rw [HW3.o];exact HFPm.o.trans (Fp.set HSV.o.hs HSV.o.gB (Or.inr rfl) (fun e=>(HSV.o.hG gs e).2 rfl))
      ·rw [HW3.o];refine aAl HOVm.o fun k cs _ e=>?_
       rw [heap_setCell_other _ _ _ _ ?_,e];intro q9;have q9:k=gs:=q9;subst q9;rw [HSV.o.hs] at e;simp only [oI,cI] at e;exact absurd e.2.1 (by decide)
     case measure=>simp [intOf];omega
    ·have xm:¬ (m:Int)<(N:Int):=by omega
     have HTT:Hid (l.take m=l):=List.take_of_length_le (by omega);clear hst hfp hov;go_wp2;go_ret;have h9:=HSTm.o;rw [HTT.o] at h9;exact ⟨rfl,h9,HFPm.o⟩
def jnP (ps qs:List Nat):List Nat:=List.zipWith (· ||| ·) ps qs
theorem jnP_len (h1:ps.length=64) (h2:qs.length=64):(jnP ps qs).length=64:=by simp [jnP,h1,h2]
theorem hs_jn (h1:ps.length=64) (h2:qs.length=64) {j:Nat} (hj:j<4096):hsP (jnP ps qs) j=(hsP ps j || hsP qs j):=by
 unfold hsP jnP;obtain ⟨x,hx⟩:∃ x,ps[j / 64]?=some x:=⟨_,gE (by omega)⟩;obtain ⟨y,hy⟩:∃ y,qs[j / 64]?=some y:=⟨_,gE (by omega)⟩;rw [List.getD_eq_getElem?_getD,List.getD_eq_getElem?_getD,List.getD_eq_getElem?_getD,List.getElem?_zipWith,hx,hy];simp
def jnK (ps qs:List Nat) (k:Nat):List Nat:=jnP (ps.take k) (qs.take k)++ps.drop k
theorem jnK_succ {y:Nat} (hx:ps[k]?=some x) (hy:qs[k]?=some y):jnK ps qs (k+1)=(jnK ps qs k).set k (x ||| y):=by
 have hl:=(lL hx);have hl2:=(lL hy);unfold jnK;have e1:(jnP (ps.take k) (qs.take k)).length=k:=by simp [jnP];omega
 have e2:jnP (ps.take (k+1)) (qs.take (k+1))=jnP (ps.take k) (qs.take k)++[x ||| y]:=by
  rw [List.take_add_one,List.take_add_one,hx,hy];unfold jnP;rw [List.zipWith_append (by simp;omega)];rfl
 have e3:ps.drop k=x::ps.drop (k+1):=by rw [<-(List.getElem?_eq_some_iff.1 hx).2,List.getElem_cons_drop]
 rw [e2,e3,List.set_append_right _ _ (by omega),e1,Nat.sub_self,List.set_cons_zero,List.append_assoc];rfl
theorem jnK_get (hx:ps[k]?=some x) (hq:qs.length=ps.length):(jnK ps qs k)[k]?=some x:=by
 have hl:=(lL hx);unfold jnK;have e1:(jnP (ps.take k) (qs.take k)).length=k:=by simp [jnP];omega
 rw [List.getElem?_append_right (by omega),e1,Nat.sub_self,List.getElem?_drop];exact hx
theorem jnK_all (h1:ps.length=64) (h2:qs.length=64):jnK ps qs 64=jnP ps qs:=by
 unfold jnK;rw [List.take_of_length_le (by omega),List.take_of_length_le (by omega),List.drop_eq_nil_of_le (by omega),List.append_nil]
theorem join_ok {g2 o2:Nat} {cs2:Array Value} {t t2:TypeId} (hB:B<=g) (hne:g2≠g) (hg:w.heap[g]?=some (.cells cs t (0,0))) (hw:Wd cs o ps) (hg2:w.heap[g2]?=some (.cells cs2 t2 (0,0))) (hw2:Wd cs2 o2 qs) :
  Calls prog 189 #[.pointer (some ⟨g,o,none⟩),.pointer (some ⟨g2,o2,none⟩)] w fun e w'=>e=.returned (.tuple #[])/\PsR B g o t w cs (jnP ps qs) w':=by
 have HG:=zH hg;have HW:=zH hw;have HG2:=zH hg2;have HW2:=zH hw2;have HJ:=zH (jnK_all hw.1 hw2.1);have hl1:=hw.1;have hl2:=hw2.1;clear hg hw hg2 hw2;go_enter func189,ntmps189;go_wp2_with fail;go_loopw [5] (fun i wx=>∃ j:Nat,j<=64/\i=.int .i64 j/\PsR B g o t w cs (jnK ps qs j) wx) (fun i _=>64-(intOf i).toNat)
 case atStart=>exact ⟨0,by omega,rfl,by
  have e:jnK ps qs 0=ps:=by simp [jnK,jnP]
  rw [e]
  exact PsR.zero HG.o HW.o⟩
 case round =>
  obtain ⟨j,hj,rfl,hP⟩:=hrel;have HP:=zH hP;clear hP;by_cases hjn:j<64
  ·have xj:(j:Int)<64:=by omega
   have xj2:¬ (j:Int)<0:=by omega
   obtain ⟨x,hx⟩:∃ x,ps[j]?=some x:=⟨_,gE (by omega)⟩;obtain ⟨y,hy⟩:∃ y,qs[j]?=some y:=⟨_,gE (by omega)⟩;have hx6:=HW.o.2.1 x (mG hx);have hy6:=HW2.o.2.1 y (mG hy);obtain ⟨cj,p1,p2,p3,p4⟩:=HP.o;have c1:wr.cell? ⟨g,o+j,none⟩=some (.int .u64 (x:Int)):=(aAa p1).trans (p2.2.2 j x (jnK_get hx (by omega)));have f1:wr.frozen? ⟨g,o+j,none⟩=false:=aAb p1;have hg2':=(p4.2 g2 (lO HG2.o) (by simpa using hne)).trans HG2.o;have c2:wr.cell? ⟨g2,o2+j,none⟩=some (.int .u64 (y:Int)):=(aAa hg2').trans (HW2.o.2.2 j y hy);have HE:Hid (bits BinOp.or IntKind.u64 (x:Int) (y:Int)=((x ||| y:Nat):Int)):=u64_or_nat x y hx6 hy6;have HR:=zH (PsR.one (y:=x ||| y) hB p1 p2 hjn (Nat.or_lt_two_pow (n:=64) hx6 hy6));have HS3:=zH p3;have HX4:=zH p4;have HSX:=zH (jnK_succ hx hy);clear p1 p2 p3 p4 hg2' hx hy hx6 hy6;go_wp2_with fail;go_region;go_wp2_with fail;go_roundw
   case rel =>
    refine ⟨j+1,by omega,by go_num,?_⟩;rw [HE.o,HSX.o];obtain ⟨c9,r1,r2,r3,r4⟩:=HR.o;exact ⟨c9,r1,r2,HS3.o.trans r3,HX4.o.trans r4⟩
   case measure=>simp [intOf];omega
  ·have xj:¬ (j:Int)<64:=by omega
   obtain rfl:j=64:=by omega
   rw [HJ.o] at HP;go_wp2;(try simp only [Exit.inBlock,Exit.then]);refine bodyPost_end (results_none rfl _ _ _) rfl ?_;exact ⟨rfl,HP.o⟩
theorem aHq {d:TypeDesc} (h:∀ (j:Nat) v,cs[j]?=some v->w.cell? ⟨g,o+j,none⟩=some v)
  (hu:prog.underlying ty=some d) (hd:(match d with | .struct _ | .array _ _=>true | _=>false)=true) (hi:(prog.info? ty).map (·.size)=some cs.size) :
  (loadVar ty ⟨g,o,none⟩).run prog w=.ok (.agg cs) w:=by
 have hl:(loadCells ⟨g,o,none⟩ cs.toList.length).run prog w=.ok cs.toList.toArray w :=
  run_loadCells_list (P:=prog) w ⟨g,o,none⟩ cs.toList (fun j v hv=>by
   rw [Addr.add_lit]
   exact h j v (by simpa using hv))
 cases hq:prog.info? ty with
 | none=>simp [hq] at hi
 | some i =>
  have hs:i.size=cs.size:=by simpa [hq] using hi
  have hagg:(isAgg ty).run prog w=.ok true w:=by
   unfold isAgg;rw [Sem.run_bind,run_underlying hu w]
   cases d<;>simp_all
  simp only [Array.length_toList,Array.toArray_toList] at hl;simp [loadVar,Sem.run_bind,hagg,sizeOf,typeInfo,hq,hs,hl]
def z76:Array Value:=(List.replicate 64 (.int .u64 0)).toArray
theorem aFt:(prog.info? 174).map (·.size)=some 64:=by kernel_rfl
theorem Wd.one (h:Wd cs 0 ps) (hs:cs.size=64):∀ v∈cs.toList,v.oneCell'=true:=by
 intro v hv;obtain ⟨i,hi⟩:=List.getElem?_of_mem hv;rw [Array.getElem?_toList] at hi;have hl:=(lO hi);obtain ⟨x,hx⟩:∃ x,ps[i]?=some x:=⟨_,gE (by have:=h.1;omega)⟩;have:=h.2.2 i x hx;rw [Nat.zero_add,hi] at this;simp only [oI] at this;subst this;rfl
def cutW (cs:Array Value) (o:Nat):Array Value:=((cs.toList.drop o).take 64).toArray
theorem cutW_size (h:o+64<=cs.size):(cutW cs o).size=64:=by
 unfold cutW;simp;omega
theorem cutW_get {v:Value} (h:(cutW cs o)[j]?=some v):cs[o+j]?=some v:=by
 unfold cutW at h;rw [List.getElem?_toArray,List.getElem?_take] at h
 split at h
 ·rw [List.getElem?_drop,Array.getElem?_toList] at h;exact h
 ·cases h
theorem Wd.cut (h:Wd cs o ps):Wd (cutW cs o) 0 ps:=by
 refine ⟨h.1,h.2.1,fun i x hi=>?_⟩;have hl:=(lL hi);have h64:=h.1;unfold cutW;rw [Nat.zero_add,List.getElem?_toArray,List.getElem?_take,if_pos (by omega),List.getElem?_drop,Array.getElem?_toList];exact h.2.2 i x hi
structure SnV (w:World) (sv:Value) (sn:List (Nat×List Nat)):Prop where
 n:sn.length<=4
 v:∃ a c,sv=.slice a sn.length c/\∀ (i:Nat) x,sn[i]?=some x->∃ gb o,a=some ⟨gb,o,none⟩/\w.cell? ⟨gb,o+i,none⟩=some (.pointer (some ⟨x.1,0,none⟩))
 s:∀ x∈sn,∃ cx,w.heap[x.1]?=some (.cells cx 296 (0,0))/\Wd cx 4 x.2
theorem SnV.later {sn:List (Nat×List Nat)} (h:SnV w sv sn) (hb:Below w.heap.size w w'):SnV w' sv sn:=by
 obtain ⟨a,c,e,h1⟩:=h.v;refine ⟨h.n,⟨a,c,e,fun i x hi=>?_⟩,fun x hx=>?_⟩
 ·obtain ⟨gb,o,e1,e2⟩:=h1 i x hi;exact ⟨gb,o,e1,(hb.cell (p:=⟨gb,o+i,none⟩) (block_lt_of_cell e2)).trans e2⟩
 ·obtain ⟨cx,e1,e2⟩:=h.s x hx;exact ⟨cx,(hb.block _ (lO e1)).trans e1,e2⟩
theorem SnV.nil (w:World):SnV w (.slice none 0 0) []:=⟨by simp,⟨none,0,rfl,fun i x h=>by simp at h⟩,fun x hx=>by simp at hx⟩
def jnS (ps:List Nat) (sn:List (Nat×List Nat)):List Nat:=sn.foldl (fun a x=>jnP a x.2) ps
theorem jnS_succ {sn:List (Nat×List Nat)} {x:Nat×List Nat} (h:sn[j]?=some x):jnS ps (sn.take (j+1))=jnP (jnS ps (sn.take j)) x.2:=by
 unfold jnS;rw [List.take_add_one,h,List.foldl_append];rfl
theorem results_pset {p:Tmp} (h:fn.results=#[.cell p 174]) (tmps:Array Value) (w:World) (g:Nat) (cs:Array Value) (hp:tmps.getD p undef=.pointer (some ⟨g,0,none⟩)) (hg:w.heap[g]?=some (.cells cs 174 (0,0))) (hz:cs.size=64) :
  (results fn tmps).run prog w=.ok (.agg cs) w :=
 results_cell_row h tmps w g 174 cs (0,0) _ hp hg underlying174 rfl (by rw [hz];exact aFt)
theorem needed_ok {ended:Bool} {sn:List (Nat×List Nat)} {cp:Array Value} (hg:w.heap[g]?=some (.cells cs 183 (0,0))) (hT:TV cs p q now last sv left ended) (hsn:SnV w sv sn) (hp:Wd cp 0 ps) (hps:cp.size=64) :
  Calls prog 170 #[.pointer (some ⟨g,0,none⟩),.agg cp] w fun e w'=>∃ cr,e=.returned (.agg cr)/\cr.size=64/\Wd cr 0 (jnS ps sn)/\Below w.heap.size w w':=by
 have hz:∀ ww,(zeroValue 174).run prog ww=.ok (.agg z76) ww:=fun ww=>by kernel_rfl
 have HX:Hid (((w.alloc (.cells cp 174)).alloc (.cells z76 174)).heap[w.heap.size]?=some (.cells cp 174 (0,0))/\((w.alloc (.cells cp 174)).alloc (.cells z76 174)).heap[w.heap.size+1]?=some (.cells z76 174 (0,0))/\Below w.heap.size w ((w.alloc (.cells cp 174)).alloc (.cells z76 174))):=⟨aAf [Obj.cells cp 174,Obj.cells z76 174] w 0 _ rfl,aAf [Obj.cells cp 174,Obj.cells z76 174] w 1 _ rfl,(aAo [Obj.cells cp 174,Obj.cells z76 174] w).1⟩;have HGL:=zH (lO hg);have HSV:Hid (cs[136]?=some sv):=hT.s0;have HSN:=zH hsn;have HG:=zH hg;obtain ⟨sa,sc,hsv,_⟩:=hsn.v;subst hsv;have hs4:=hsn.n;have HP:=zH hp;clear hg hT hsn hp;generalize hn0:w.heap.size=n0 at *
 generalize hN:sn.length=N at *
 go_enter func170,ntmps170;go_upto_region 1 with fail;generalize ((w.alloc (.cells cp 174)).alloc (.cells z76 174))=w1 at *
 obtain ⟨x0,x1,hb1⟩:=HX.o;have HX0:=zH x0;have HX1:=zH x1;have HB1:=zH hb1;have HSN1:Hid (SnV w1 (.slice sa N sc) sn):=HSN.o.later (by rw [hn0];exact hb1);have c1:w1.cell? ⟨g,136,none⟩=some (.slice sa N sc):=by
  rw [hb1.cell (p:=⟨g,136,none⟩) HGL.o];exact (aAa HG.o).trans HSV.o
 clear x0 x1 hb1 HX;go_wp2_with fail;go_loopw [12] (fun i wx=>∃ j:Nat,j<=N/\i=.int .i64 j/\PsR n0 n0 0 174 w1 cp (jnS ps (sn.take j)) wx) (fun i _=>N-(intOf i).toNat)
 case atStart=>exact ⟨0,by omega,rfl,PsR.zero HX0.o HP.o⟩
 case round =>
  obtain ⟨j,hj,rfl,hPS⟩:=hrel;have HPS:=zH hPS;clear hPS c1;by_cases hjn:j<N
  ·have xj:(j:Int)<(N:Int):=by omega
   obtain ⟨x,hx⟩:∃ x,sn[j]?=some x:=⟨_,gE (by omega)⟩;obtain ⟨cj,p1,p2,p3,p4⟩:=HPS.o;obtain ⟨a1,c1',e1,hcell⟩:=HSN1.o.v;obtain ⟨gb,ob,e2,e3⟩:=hcell j x hx;simp only [Value.slice.injEq] at e1;obtain ⟨rfl,hz9,rfl⟩:=e1;clear hz9;subst e2;obtain ⟨cx,hx1,hx2⟩:=HSN1.o.s x (mG hx);have hgx:x.1≠n0:=by
    intro q9;rw [q9,HX0.o] at hx1;simp only [oI,cI] at hx1;exact absurd hx1.2.1 (by decide)
   have hgx2:=(p4.2 x.1 (lO hx1) (by simpa using hgx)).trans hx1;have hgb:gb≠n0:=by
    intro q9;subst q9;rw [aAa HX0.o] at e3;have hlj:=(lO e3);obtain ⟨y,hy⟩:∃ y,ps[ob+j]?=some y:=⟨_,gE (by have:=HP.o.1;omega)⟩;have h9:=HP.o.2.2 _ y hy;rw [Nat.zero_add,e3] at h9;cases h9
   have c3:wr.cell? ⟨gb,ob+j,none⟩=some (.pointer (some ⟨x.1,0,none⟩)):=(World.cell?_of_block (p4.2 gb (block_lt_of_cell e3) (by simpa using hgb))).trans e3;have HJ:=zH (join_ok (B:=n0) (nR n0) hgx p1 p2 hgx2 hx2);have HSX:=zH (jnS_succ (ps:=ps) hx);have HS3:=zH p3;have HX4:=zH p4;clear p1 p2 p3 p4 hx hx1 hx2 hgx2 e3 hcell;obtain ⟨xg,xp⟩:=x;go_wp2_with fail;refine HJ.o.mono ?_;rintro e w3 ⟨rfl,c9,r1,r2,r3,r4⟩;have HR:Hid (PsR n0 n0 0 174 w1 cp (jnS ps (sn.take (j+1))) w3):=by
    rw [HSX.o];exact ⟨c9,r1,r2,HS3.o.trans r3,HX4.o.trans r4⟩
   clear r1 r2 r3 r4;go_wp2_with fail;go_roundw
   case rel=>exact ⟨j+1,by omega,by go_num,HR.o⟩
   case measure=>simp [intOf];omega
  ·have xj:¬ (j:Int)<(N:Int):=by omega
   have HTT:Hid (sn.take j=sn):=List.take_of_length_le (by omega);rw [HTT.o] at HPS;obtain ⟨cj,p1,p2,p3,p4⟩:=HPS.o;have hz:cj.size=64:=p3.1.trans hps;have HLD:=zH (run_loadVar_row (P:=prog) wr n0 174 174 cj (0,0) _ p1 underlying174 rfl (by rw [hz];exact aFt));have y1:=(p4.2 (n0+1) (lO HX1.o) (by simp)).trans HX1.o;have hst:=aA6 (o:=0) y1 (show 0+cj.size<=64 by omega) (p2.one hz);rw [aB9 (show cj.size=64 from hz)] at hst;have HY1:=zH (setRow_heap _ _ _ cj _ _ y1);have HBF:Hid (Below n0 w (wr.setRow (n0+1) cj)):=(HB1.o.trans (p4.1)).trans (Ex.row (w:=wr) (show n0<=n0+1 by omega) cj).1;have HP2:=zH p2;clear p1 p2 p3 p4 y1;go_upto_region 6 with fail;refine wp_region_lit ?_;refine wpList_load_row rfl (.tmp 3) 174 rfl rfl HLD.o ?_;go_wp2;refine bodyPost_ret (results_pset rfl _ _ (n0+1) cj rfl HY1.o hz) rfl ⟨cj,rfl,hz,HP2.o,HBF.o⟩
def gbK (t:PS) (nd:List Nat):Nat->PS
 | 0=>t
 | k+1=>if 2<=k/\hsP nd k=false/\(gbK t nd k).st.getD k 0=2 then (gbK t nd k).set k 3 else gbK t nd k
theorem aGx (t:PS) (nd:List Nat):∀ k,(gbK t nd k).st.length=t.st.length/\(gbK t nd k).life=t.life/\(gbK t nd k).num=t.num/\(gbK t nd k).root=t.root/\(∀ i,k<=i->(gbK t nd k).st.getD i 0=t.st.getD i 0)/\∀ i,i<k->i<t.st.length->(gbK t nd k).st.getD i 0=if 2<=i/\hsP nd i=false/\t.st.getD i 0=2 then 3 else t.st.getD i 0
 | 0=>⟨rfl,rfl,rfl,rfl,fun _ _=>rfl,fun i hi=>by omega⟩
 | k+1=>by
  obtain ⟨h1,h2,h3,h4,h5,h6⟩:=aGx t nd k
  have hk:(gbK t nd k).st.getD k 0=t.st.getD k 0:=h5 k (nR _)
  unfold gbK
  by_cases c:2<=k/\hsP nd k=false/\(gbK t nd k).st.getD k 0=2
  ·rw [if_pos c]
   have hs:∀ i,((gbK t nd k).set k 3).st.getD i 0=if i=k/\k<t.st.length then 3 else (gbK t nd k).st.getD i 0:=by
    intro i;show ((gbK t nd k).st.set k 3).getD i 0=_;rw [List.getD_eq_getElem?_getD,List.getElem?_set];by_cases e:k=i
    ·subst e;by_cases l:k<t.st.length
     ·rw [if_pos rfl,if_pos (by omega),if_pos ⟨rfl,l⟩];rfl
     ·rw [if_pos rfl,if_neg (by omega),if_neg (fun q=>l q.2),List.getD_eq_getElem?_getD,List.getElem?_eq_none (by omega)]
    ·rw [if_neg e,if_neg (fun q=>e q.1.symm),List.getD_eq_getElem?_getD]
   refine ⟨List.length_set.trans h1,h2,h3,h4,fun i hi=>?_,fun i hi hl=>?_⟩
   ·rw [hs,if_neg (by omega),h5 i (by omega)]
   ·rw [hs];by_cases e:i=k
    ·subst e;rw [if_pos ⟨rfl,hl⟩,if_pos ⟨c.1,c.2.1,by rw [<-hk];exact c.2.2⟩]
    ·rw [if_neg (fun q=>e q.1),h6 i (by omega) hl]
  ·rw [if_neg c];refine ⟨h1,h2,h3,h4,fun i hi=>h5 i (by omega),fun i hi hl=>?_⟩;by_cases e:i=k
   ·subst e;rw [hk,if_neg];intro q;exact c ⟨q.1,q.2.1,by rw [hk];exact q.2.2⟩
   ·exact h6 i (by omega) hl
theorem gbK_lo (t:PS) (nd:List Nat):∀ m,m<=2->gbK t nd m=t:=by
 intro m
 induction m with
 | zero=>intro _;rfl
 | succ m ih =>
  intro hm;unfold gbK;rw [if_neg (by omega)];exact ih (by omega)
theorem Fp.tree [Gd] {t:TypeId} (f:Fp B w w') (h:w.heap[k]?=some (.cells cs t fz)) (ht:NT t):w'.heap[k]?=some (.cells cs t fz) :=
 f.stay k cs t fz h (fun q=>ht (by rw [q];decide)) (fun q=>ht (by rw [q];decide)) (fun q=>ht (by rw [q];decide)) (fun q=>ht (by rw [q];decide)) (fun q=>ht (by rw [q];decide)) (fun q=>ht (by rw [q];decide))
theorem giveBack_ok [Gd] {s:DS} {sn:List (Nat×List Nat)} (hM:TM B p q g s t now last sv left w) (hsn:SnV w sv sn) :
  Calls prog 148 #[.pointer (some ⟨g,0,none⟩)] w fun e w'=>e=.returned (.tuple #[])/\ST B p q s (gbK t (jnS now.pgs sn) s.n) w'/\Fp B w w':=by
 have hz:∀ ww,(zeroValue 174).run prog ww=.ok (.agg z76) ww:=fun ww=>by kernel_rfl
 obtain ⟨cs,hg,hT⟩:=hM.tv;have hsz:(cutW cs 5).size=64:=cutW_size (by rw [hT.sz];decide);have HLD:=zH (aHq (w:=w) (g:=g) (o:=5) (ty:=174) (cs:=cutW cs 5) (fun j v hv=>(aAa hg).trans (cutW_get hv)) underlying174 rfl (by rw [hsz];exact aFt));have HND:=zH (needed_ok hg hT hsn hT.nw.cut hsz);have HM:=zH hM;have HG:=zH hg;have HT:=zH hT;have hn4:s.n<=4096:=by rw [<-hM.sn];exact hM.sl
 have HSN:=zH hM.sn;have HLF:=zH hM.lf;clear hM hg hT hsn;generalize jnS now.pgs sn=nd at *
 go_enter func148,ntmps148;go_wp2_with (refine wpList_load_row rfl (.tmp 8) 174 rfl rfl HLD.o ?_);refine HND.o.mono ?_;rintro e w1 ⟨cr,rfl,hcr,hwd,hb1⟩;have x1:(w1.alloc (.cells z76 174)).heap[w1.heap.size]?=some (.cells z76 174 (0,0)):=heap_alloc_new w1 _;have hst:=aA6 (o:=0) x1 (show 0+cr.size<=64 by omega) (hwd.one hcr);rw [aB9 (show cr.size=64 from hcr)] at hst;have HY:=zH (setRow_heap _ _ _ cr _ _ x1);have HB2:Hid (Below w.heap.size w ((w1.alloc (.cells z76 174)).setRow w1.heap.size cr)):=below_setRow (hb1.trans ((aAc w1 _).mono hb1.size)) hb1.size cr;have HWD:=zH hwd;clear hb1 x1 hwd;go_upto_region 1 with fail;generalize ((w1.alloc (.cells z76 174)).setRow w1.heap.size cr)=w2 at *
 generalize hn1:w1.heap.size=n1 at *
 clear hst;have HST2:=zH (HM.o.st.later HB2.o);have HF2:Hid (Fp B w w2):=Fp.of HB2.o HM.o.bw;go_wp2_with fail;go_loopw [3] (fun i wx=>∃ j:Nat,2<=j/\i=.int .i64 j/\j<=max 2 s.n/\ST B p q s (gbK t nd j) wx/\Fp B w wx/\wx.heap[n1]?=some (.cells cr 174 (0,0))) (fun i _=>s.n-(intOf i).toNat)
 case atStart =>
  refine ⟨2,by omega,rfl,by omega,?_,HF2.o,HY.o⟩;rw [gbK_lo t nd 2 (nR _)];exact HST2.o
 case round =>
  obtain ⟨j,hj2,rfl,hjm,hst,hfp,hy⟩:=hrel;have HSTj:=zH hst;have HFPj:=zH hfp;have HYj:=zH hy;have hgj:=hfp.tree HG.o (by decide);have r0:wr.cell? ⟨g,0,none⟩=some (.pointer (some ⟨p,0,none⟩)):=(aAa hgj).trans HT.o.c0;have r1:wr.cell? ⟨g,1,none⟩=some (.pointer (some ⟨q,0,none⟩)):=(aAa hgj).trans HT.o.c1;have HBL:=zH (aCg B p s wr hst.1);have HBw:Hid (B<=wr.heap.size):=nT HM.o.bw hfp.bel.size;clear hst hfp hy hgj;by_cases hjn:j<s.n
  ·have xj:(j:Int)<((s.n:Nat):Int):=by omega
   have HHS:=zH (has_ok HYj.o HWD.o (show j<4096 by omega));go_wp2_with fail;refine HBL.o.mono ?_;rintro e w3 ⟨rfl,rfl⟩;go_wp2_with fail;refine HHS.o.mono ?_;rintro e w4 ⟨rfl,rfl⟩
   cases hb:hsP nd j with
   | true =>
    have HK:Hid (gbK t nd (j+1)=gbK t nd j):=by
     show _=_
     conv=>lhs;unfold gbK
     rw [if_neg (fun q9=>by rw [hb] at q9;exact absurd q9.2.1 (by decide))]
    go_wp2_with fail;go_roundw
    case rel=>exact ⟨j+1,by omega,by go_num,by omega,by rw [HK.o];exact HSTj.o,HFPj.o,HYj.o⟩
    case measure=>simp [intOf];omega
   | false =>
    have hgl:=(aGx t nd j).1;by_cases hs2:(gbK t nd j).st.getD j 0=2
    ·have HK:Hid (gbK t nd (j+1)=(gbK t nd j).set j 3):=by
      show _=_
      conv=>lhs;unfold gbK
      rw [if_pos ⟨hj2,hb,hs2⟩]
     have HFR:=zH (free_ok j HSTj.o HBw.o (by rw [(aGx t nd j).2.1];exact HLF.o) (by rw [hgl,HSN.o];exact hjn) hs2);clear hs2 hgl hb;go_wp2_with fail;refine HFR.o.mono ?_;rintro e w5 ⟨rfl,h1,h2⟩;have H1:=zH h1;have H2:=zH (HFPj.o.trans h2);have HY5:=zH (h2.tree HYj.o (by decide));clear h1 h2;go_wp2_with fail;go_roundw
     case rel=>exact ⟨j+1,by omega,by go_num,by omega,by rw [HK.o];exact H1.o,H2.o,HY5.o⟩
     case measure=>simp [intOf];omega
    ·have HK:Hid (gbK t nd (j+1)=gbK t nd j):=by
      show _=_
      conv=>lhs;unfold gbK
      rw [if_neg (fun q9=>hs2 q9.2.2)]
     have HFR:=zH (free_arg (j:Int) HSTj.o (by rw [(aGx t nd j).2.1];exact HLF.o) (by rw [aBw];exact hs2) (by omega));clear hs2 hgl hb;go_wp2_with fail;refine HFR.o.mono ?_;rintro e w5 ⟨rfl,h1⟩;have H1:=zH (HSTj.o.later h1);have H2:=zH (HFPj.o.trans (Fp.of h1 HBw.o));have HY5:=zH ((h1.block _ (lO HYj.o)).trans HYj.o);clear h1;go_wp2_with fail;go_roundw
     case rel=>exact ⟨j+1,by omega,by go_num,by omega,by rw [HK.o];exact H1.o,H2.o,HY5.o⟩
     case measure=>simp [intOf];omega
  ·have xj:¬ (j:Int)<((s.n:Nat):Int):=by omega
   go_wp2_with fail;refine HBL.o.mono ?_;rintro e w3 ⟨rfl,rfl⟩;go_wp2;(try simp only [Exit.inBlock,Exit.then]);refine bodyPost_end (results_none rfl _ _ _) rfl ⟨rfl,?_,HFPj.o⟩;have e:gbK t nd j=gbK t nd s.n:=by
    by_cases c:s.n<2
    ·rw [gbK_lo t nd j (by omega),gbK_lo t nd s.n (by omega)]
    ·rw [show j=s.n by omega]
   rw [<-e];exact HSTj.o
theorem cmt_facts {s:DS} {num:Nat} (ha:s.after<1) (hd:s.down=false) (hn:2<=s.n):(s.commit num root).2=0/\(s.commit num root).1.down=false/\(s.commit num root).1.n=s.n/\(s.commit num root).1.life=s.life/\(s.commit num root).1.m=0/\(s.commit num root).1.after<1/\∀ b,b<s.n->(s.commit num root).1.show b=if b=num % 2 then headB num root else s.show b:=by
 have h1:¬ s.after=1:=by omega
 obtain ⟨f1,f2,f3,f4,f5⟩:=aCm hd h1;have fi:=aHy hd h1;have fa:s.flush.after=s.after:=by rw [fi,aFg ha];rfl
 have h2:¬ s.flush.after=1:=by rw [fa];omega
 have ht:s.flush.tick=s.flush:=aFg (by rw [fa];exact ha);rw [commit_is rfl h1 h2,ht];have w1:(s.flush.wrote (num % 2) (headB num root)).down=false:=f2;have w2:(s.flush.wrote (num % 2) (headB num root)).after=s.after:=fa;have w3:¬ (s.flush.wrote (num % 2) (headB num root)).after=1:=by rw [w2];exact h1
 obtain ⟨g1,g2,g3,g4,g5⟩:=aCm w1 w3;have gi:=aHy w1 w3;have hwn:(s.flush.wrote (num % 2) (headB num root)).n=s.n:=f3;refine ⟨g1,g2,g3.trans hwn,g5.trans f5,g4,?_,fun b hb=>?_⟩
 ·rw [gi,aFg (by rw [w2];exact ha)];show (s.flush.wrote (num % 2) (headB num root)).after<1;rw [w2];exact ha
 ·rw [aGi w1 w3 b (by rw [hwn];exact hb),aEe];by_cases c:b=num % 2
  ·rw [if_pos c,if_pos c]
  ·rw [if_neg c,if_neg c,aGi hd h1 b hb]
structure Cmt (s:DS) (t:PS) (nd:List Nat) (root:Nat) (s':DS) (t':PS):Prop where
 life:s'.life=s.life
 tlife:t'.life=t.life
 down:s'.down=false
 after:s'.after<1
 n:s'.n=s.n
 m:s'.m=0
 len:t'.st.length=t.st.length
 num:t'.num=t.num+1
 rt:t'.root=root
 st:∀ i,i<t.st.length->t'.st.getD i 0=if t.st.getD i 0=3\/(2<=i/\hsP nd i=false/\t.st.getD i 0=2) then 1 else t.st.getD i 0
 sh:∀ i,i<s.n->s'.show i=if i=(t.num+1) % 2 then headB (t.num+1) root else s.show i
theorem backF_get {st:List Nat} (hi:i<st.length):(backF st).getD i 0=if st.getD i 0=3 then 1 else st.getD i 0:=by
 unfold backF;rw [List.getD_eq_getElem?_getD,List.getElem?_map,List.getD_eq_getElem?_getD,gE hi];rfl
theorem cmt_of {s:DS} (ha:s.after<1) (hd:s.down=false) (hn:2<=s.n) (hsn:t.st.length=s.n):Cmt s t nd root (s.commit (t.num+1) root).1 ((gbK t nd s.n).committed root):=by
 obtain ⟨c1,c2,c3,c4,c5,c6,c7⟩:=cmt_facts (num:=t.num+1) (root:=root) ha hd hn;obtain ⟨g1,g2,g3,g4,g5,g6⟩:=aGx t nd s.n;refine ⟨c4,g2,c2,c6,c3,c5,?_,by show (gbK t nd s.n).num+1=_;rw [g3],rfl,fun i hi=>?_,c7⟩
 ·show (backF _).length=_;rw [backF,List.length_map,g1]
 ·show (backF _).getD i 0=_;rw [backF_get (by rw [g1];exact hi),g6 i (by omega) hi];by_cases e:2<=i/\hsP nd i=false/\t.st.getD i 0=2
  ·rw [if_pos e,if_pos (Or.inr e)];simp
  ·rw [if_neg e];by_cases e2:t.st.getD i 0=3
   ·rw [if_pos e2,if_pos (Or.inl e2)]
   ·rw [if_neg e2,if_neg (by rintro (q | q)<;>contradiction)]
theorem Cmt.keep {s:DS} (h:Cmt s t nd root s' t') (hs:t.st.getD i 0=2) (hh:hsP nd i=true):t'.st.getD i 0=2:=by
 have hl:i<t.st.length:=by
  apply Classical.byContradiction;intro q;rw [List.getD_eq_getElem?_getD,List.getElem?_eq_none (by omega)] at hs;cases hs
 rw [h.st i hl,if_neg,hs];rintro (q | q)
 ·omega
 ·rw [hh] at q;exact absurd q.2.1 (by decide)
theorem PgI.cmt {s:DS} {b:List Nat} (h:PgI s t i b) (c:Cmt s t nd root s' t') (hh:hsP nd i=true) (h2:2<=i):PgI s' t' i b:=by
 have ho:=h.of;rw [aBw] at ho;refine ⟨by rw [c.n];exact h.lt,by rw [aBw];exact c.keep ho hh,?_,h.ln,h.bt⟩;rw [c.sh i h.lt,if_neg (by omega)];exact h.pg
theorem OnD.cmt {s:DS} (c:Cmt s t nd root s' t') (hd:t.st.getD 0 0=0/\t.st.getD 1 0=0):∀ {h:Nat} {b:BT h},OnD s t h b->(∀ i∈pgB h b,hsP nd i=true)->OnD s' t' h b
 | 0,b,⟨hp,hi⟩,hh=>⟨hp.cmt c (hh _ (List.mem_singleton.2 rfl)) (held2 hp hd),hi⟩
 | h+1,b,⟨hp,hi,h3,h4,h5⟩,hh=>⟨hp.cmt c (hh _ List.mem_cons_self) (held2 hp hd),hi,h3,h4,fun k hk=>OnD.cmt c hd (h5 k hk) fun i hi=>hh i (List.mem_cons_of_mem _ (List.mem_flatten.2 ⟨_,List.mem_map_of_mem hk,hi⟩))⟩
where
 held2 {s:DS} {t:PS} {i:Nat} {b:List Nat} (h:PgI s t i b) (hd:t.st.getD 0 0=0/\t.st.getD 1 0=0):2<=i:=by
  have ho:=h.of;rw [aBw] at ho;apply Classical.byContradiction;intro q;rcases (by omega:i=0\/i=1) with e | e
  ·rw [e,hd.1] at ho;cases ho
  ·rw [e,hd.2] at ho;cases ho
theorem Tr.cmt {s:DS} {st:StT} (h:Tr s t st l) (c:Cmt s t nd root s' t') (hd:t.st.getD 0 0=0/\t.st.getD 1 0=0) (hn:∀ i,i<4096->hsP st.pgs i=true->hsP nd i=true):Tr s' t' st l:=by
 rcases h with h | ⟨h,b,e1,e2,e3,e4,e5,e6,e7,e8,e9⟩
 ·exact Or.inl h
 ·exact Or.inr ⟨h,b,e1,e2,e3,e4,e5,e6.cmt c hd (fun i hi=>hn i (e9.2.2.1 i hi) (by rw [e9.2.2.2 i];simpa using hi)),e7,e8,e9⟩
theorem jnS_sub:∀ (sn:List (Nat×List Nat)) (ps:List Nat),ps.length=64->(∀ x∈sn,x.2.length=64)->(jnS ps sn).length=64/\(∀ i,i<4096->hsP ps i=true->hsP (jnS ps sn) i=true)/\∀ x∈sn,∀ i,i<4096->hsP x.2 i=true->hsP (jnS ps sn) i=true
 | [],ps,h,_=>⟨h,fun _ _ h=>h,fun x hx=>by simp at hx⟩
 | y::sn,ps,h,hs=>by
  have hy:=hs y List.mem_cons_self
  obtain ⟨a1,a2,a3⟩:=jnS_sub sn (jnP ps y.2) (jnP_len h hy) fun x hx=>hs x (List.mem_cons_of_mem _ hx)
  refine ⟨a1,fun i hi hp=>a2 i hi ?_,fun x hx i hi hp=>?_⟩
  ·rw [hs_jn h hy hi,hp];rfl
  ·rcases List.mem_cons.1 hx with q | q
   ·rw [q] at hp
    refine a2 i hi ?_
    rw [hs_jn h hy hi,hp];simp
   ·exact a3 x q i hi hp
def cutS (cs:Array Value) (o:Nat):Array Value:=((cs.toList.drop o).take 67).toArray
theorem cutS_size (h:o+67<=cs.size):(cutS cs o).size=67:=by
 unfold cutS;simp;omega
theorem aD7 (hj:j<67):(cutS cs o)[j]?=cs[o+j]?:=by
 unfold cutS;rw [List.getElem?_toArray,List.getElem?_take,if_pos hj,List.getElem?_drop,Array.getElem?_toList]
theorem cutS_cell {v:Value} (h:(cutS cs o)[j]?=some v):cs[o+j]?=some v:=by
 have hl:=(lO h);have:(cutS cs o).size<=67:=by unfold cutS;simp;omega
 rw [aD7 (by omega)] at h;exact h
theorem TV.nowS {ended:Bool} (h:TV cs p q now last sv left ended):StV (cutS cs 2) now.root now.depth now.keys now.pgs :=
 ⟨cutS_size (by rw [h.sz];decide),(aD7 (by decide)).trans h.n0,(aD7 (by decide)).trans h.n1,(aD7 (by decide)).trans h.n2,⟨h.nw.1,h.nw.2.1,fun i x hi=>by
  have hl:=(lL hi);have:=h.nw.1;rw [aD7 (by omega),show 2+(3+i)=5+i by omega]
  exact h.nw.2.2 i x hi⟩⟩
theorem TV.setLast {c:Array Value} {st:StT} {ended:Bool} (h:TV cs p q now last sv left ended) (hc:StV c st.root st.depth st.keys st.pgs):TV (spl cs 69 c) p q now st sv left ended:=by
 have hz:69+c.size<=cs.size:=by rw [h.sz,hc.sz];decide
 have ou:∀ i,i<69\/136<=i->(spl cs 69 c)[i]?=cs[i]?:=fun i hi=>spl_out hz (by rw [hc.sz];omega)
 have inn:∀ i,i<67->(spl cs 69 c)[69+i]?=c[i]?:=fun i hi=>spl_in hz (by rw [hc.sz];exact hi)
 refine ⟨(spl_size hz).trans h.sz,(ou 0 (by omega)).trans h.c0,(ou 1 (by omega)).trans h.c1,(ou 2 (by omega)).trans h.n0,(ou 3 (by omega)).trans h.n1,(ou 4 (by omega)).trans h.n2,h.nw.same fun k h1 h2=>ou k (by omega),(inn 0 (by omega)).trans hc.c0,(inn 1 (by omega)).trans hc.c1,(inn 2 (by omega)).trans hc.c2,⟨hc.wd.1,hc.wd.2.1,fun i x hi=>?_⟩,(ou 136 (by omega)).trans h.s0,(ou 137 (by omega)).trans h.s1,(ou 138 (by omega)).trans h.s2⟩;have hl:=(lL hi);have:=hc.wd.1;rw [show 72+i=69+(3+i) by omega,inn (3+i) (by omega)];exact hc.wd.2.2 i x hi
theorem ST.rowT [Gd] {s:DS} (h:ST B p q s t w) (hB:B<=g) (hg:w.heap[g]?=some (.cells cs 183 (0,0))) (c:Array Value):ST B p q s t (w.setRow g c):=h.exT (Ex.row hB c) hg
theorem ChF.fp [Gd] (f:Fp B w w'):ChF B g w w':=⟨f.bel,fun k cs t fz e ht _=>f.tree e ht,f.gd⟩
theorem ChF.trans [Gd] {a b c:World} (h:ChF B g a b) (k:ChF B g b c):ChF B g a c:=⟨h.1.trans k.1,fun i cs t fz e h1 h2=>k.2 i cs t fz (h.2 i cs t fz e h1 h2) h1 h2,h.gd.trans k.gd⟩
theorem ChF.row [Gd] (hB:B<=g) {cg:Array Value} (hg:w.heap[g]?=some (.cells cg 183 (0,0))) (c:Array Value):ChF B g w (w.setRow g c):=⟨(Ex.row hB c).1,fun i cs t fz e h1 h2=>by rw [(Ex.row (w:=w) hB c).2 i (lO e) (by simpa using h2),e],(Ex.row hB c).gdk hg (by unfold DTy;decide)⟩
theorem ChF.cell [Gd] {u:Value} (hB:B<=g) {cg:Array Value} (hg:w.heap[g]?=some (.cells cg 183 (0,0))):ChF B g w (w.setCell ⟨g,o,none⟩ u):=⟨(Ex.set hB).1,fun i cs t fz e h1 h2=>by rw [(Ex.set (w:=w) (o:=o) (u:=u) hB).2 i (lO e) (by simpa using h2),e],(Ex.set hB).gdk hg (by unfold DTy;decide)⟩
theorem Commit_ok [Gd] {s:DS} {sn:List (Nat×List Nat)} (hM:TM B p q g s t now last sv left w) (hTr:Tr s t now l) (hsn:SnV w sv sn) (hn2:2<=s.n) (hnum:t.num<4611686018427387904) :
  Calls prog 130 #[.pointer (some ⟨g,0,none⟩)] w fun e w'=>e=.returned (.int .i64 0)/\∃ s' t',Cmt s t (jnS now.pgs sn) now.root.toNat s' t'/\TM B p q g s' t' now now sv (cntF t'.st:Nat) w'/\ChF B g w w':=by
 obtain ⟨R,hR,hRp,hR4⟩:∃ R:Nat,now.root=(R:Int)/\(R=0\/(t.st.getD R 0=2/\hsP (jnS now.pgs sn) R=true))/\R<=4096:=by
  rcases hTr with ⟨r1,_⟩ | ⟨h,b,e1,e2,e3,e4,e5,e6,e7,e8,e9⟩
  ·exact ⟨0,r1,Or.inl rfl,by omega⟩
  ·have h2:=e6.held _ (id_mem b);have h3:=e9.2.2.1 _ (id_mem b);refine ⟨BT.id b,e1,Or.inr ⟨h2.1,?_⟩,by omega⟩;refine (jnS_sub sn now.pgs e9.1 (fun x hx=>?_)).2.1 _ h3 (by rw [e9.2.2.2];simpa using id_mem b);obtain ⟨cx,_,hw⟩:=hsn.s x hx;exact hw.1
 have hRn:now.root.toNat=R:=by rw [hR];exact Int.toNat_natCast R
 rw [hRn];have HCM:=zH (cmt_of (t:=t) (nd:=jnS now.pgs sn) (root:=R) hM.af hM.dn hn2 hM.sn);obtain ⟨cs,hg,hT⟩:=hM.tv;have HDE:=zH (aHb hM.st hM.lf hg hT);have HGB:=zH (fun (ww:World) (hb:Below w.heap.size w ww)=>giveBack_ok (hM.later hb) (hsn.later hb));have HM:=zH hM;have HG:=zH hg;have HT:=zH hT;obtain ⟨k1,k2,k3,k4,k5,k6⟩:=aGx t (jnS now.pgs sn) s.n
 have HGC:=zH (show ∀ (ww:World),ST B p q s (gbK t (jnS now.pgs sn) s.n) ww->B<=ww.heap.size->Calls prog 149 #[.pointer (some ⟨q,0,none⟩),.int .i64 (R:Int)] ww fun e w'=>e=.returned (.int .i64 0)/\ST B p q (s.commit (t.num+1) R).1 ((gbK t (jnS now.pgs sn) s.n).committed R) w'/\Fp B ww w' from fun ww hs hb=>by
  have hc:=commit_any (root:=R) hs hb (by rw [k2];exact hM.lf) hM.dn hn2 hM.l1 (by
   rcases hRp with h9 | h9
   ·exact Or.inl h9
   ·right;have hl:R<t.st.length:=by
     apply Classical.byContradiction;intro q9;have h8:=h9.1;rw [List.getD_eq_getElem?_getD,List.getElem?_eq_none (by omega)] at h8;cases h8
    rw [aBw,k6 R (by rw [<-hM.sn];exact hl) hl,if_neg,h9.1];intro q9;rw [h9.2] at q9
    exact absurd q9.2.1 (by decide)) hR4 (by rw [k3];exact hnum)
  rw [k3] at hc;have h0:=(cmt_facts (num:=t.num+1) (root:=R) hM.af hM.dn hn2).1;rw [h0] at hc
  simpa using hc)
 have HTR1:=zH hR;clear hM hg hT hTr hsn k1 k2 k3 k4 k5 k6 hRp hRn;generalize (s.commit (t.num+1) R).1=s1 at *
 generalize ((gbK t (jnS now.pgs sn) s.n).committed R)=t1 at *
 generalize hnd:jnS now.pgs sn=nd at *
 go_enter func130,ntmps130;go_wp2_with fail;refine HDE.o.mono ?_;rintro e w1 ⟨rfl,hb1⟩;have HGB1:=zH (HGB.o w1 hb1);have HF1:=zH (Fp.of hb1 HM.o.bw);clear hb1 HDE HGB;go_wp2_with fail;refine HGB1.o.mono ?_;rintro e w2 ⟨rfl,h1,h2⟩;have HST2:=zH h1;have HF2:=zH (HF1.o.trans h2);have HG2:=zH (HF2.o.tree HG.o (by decide));have HBw2:Hid (B<=w2.heap.size):=nT HM.o.bw HF2.o.bel.size;clear h1 h2 HGB1;go_upto_region 4 with fail;have HX0:Hid ((fun wx=>wx.cell? ⟨g,1,none⟩=some (.pointer (some ⟨q,0,none⟩))/\wx.cell? ⟨g,2,none⟩=some (.int .i64 (R:Int))) w2.drew):=⟨(aAa HG2.o).trans HT.o.c1,by rw [<-HTR1.o];exact (aAa HG2.o).trans HT.o.n0⟩;have HCC:=zH (HGC.o w2.drew (HST2.o.later (Below.refl _ _).drew) HBw2.o);refine wp_region_noPanic ?_;refine wp_region_held_drew (S:=fun wx=>wx.cell? ⟨g,1,none⟩=some (.pointer (some ⟨q,0,none⟩))/\wx.cell? ⟨g,2,none⟩=some (.int .i64 (R:Int))) (by kernel_rfl) HX0.o (fun hHeld=>?_);refine kT 0 8 ?_;refine kT 1 9 ?_;refine kT 2 10 ?_;refine kT 3 11 ?_;refine kT 4 12 ?_;refine kT 5 13 ?_;refine kT 6 14 ?_;refine kT 7 15 ?_;refine kT 8 16 ?_;refine kC 9 ?_;intro K hK;go_simp;refine HCC.o.mono ?_;rintro e w3 ⟨rfl,h1,h2⟩;have HST3:=zH h1;have HF3:=zH (HF2.o.trans ((Fp.of (Below.refl _ _).drew HBw2.o).trans h2));have HG3:=zH (HF3.o.tree HG.o (by decide));have HX1:Hid ((fun wx=>wx.cell? ⟨g,1,none⟩=some (.pointer (some ⟨q,0,none⟩))/\wx.cell? ⟨g,2,none⟩=some (.int .i64 (R:Int))) w3):=⟨(aAa HG3.o).trans HT.o.c1,by rw [<-HTR1.o];exact (aAa HG3.o).trans HT.o.n0⟩;clear h1 h2 hHeld;refine hK.out _ _ HX1.o (fun hHeld=>?_);clear hK K
 try simp only [Act.put,siT,scZ,scS]
 refine kT 10 3 ?_;refine wpAnyH_done (by kernel_rfl) ?_ _;refine NoPanic.normal ?_;clear hHeld HX0 HX1;have HLD:=zH (aHq (w:=w3) (g:=g) (o:=2) (ty:=176) (cs:=cutS cs 2) (fun j v hv=>(aAa HG3.o).trans (cutS_cell hv)) underlying176 rfl (by rw [HT.o.nowS.sz];exact aB5));have hst:=aA6 (o:=69) HG3.o (by rw [HT.o.nowS.sz,HT.o.sz];decide) HT.o.nowS.one;have hcz:(cutS cs 2).size=67:=HT.o.nowS.sz;have HT4:=zH (HT.o.setLast (st:=now) HT.o.nowS);have HG4:=zH (setRow_heap _ _ _ (spl cs 69 (cutS cs 2)) _ _ HG3.o);have HST4:=zH (HST3.o.rowT HM.o.bg HG3.o (spl cs 69 (cutS cs 2)));have HC4:Hid (ChF B g w (w3.setRow g (spl cs 69 (cutS cs 2)))):=(ChF.fp HF3.o).trans (ChF.row HM.o.bg HG3.o _);generalize hcs4:spl cs 69 (cutS cs 2)=cs4 at *
 generalize hw4:w3.setRow g cs4=w4 at *
 have r1:w4.cell? ⟨g,1,none⟩=some (.pointer (some ⟨q,0,none⟩)):=(aAa HG4.o).trans HT4.o.c1;have r7:w4.cell? ⟨g,137,none⟩=some (.int .i64 left):=(aAa HG4.o).trans HT4.o.s1;have f7:w4.frozen? ⟨g,137,none⟩=false:=aAb HG4.o;have HLF:=zH (aE9 HST4.o);go_wp2_with (refine wpList_load_row rfl (.tmp 27) 176 rfl rfl HLD.o ?_);refine HLF.o.mono ?_;rintro e w5 ⟨rfl,rfl⟩;go_wp2;go_ret;refine ⟨rfl,s1,t1,HCM.o,⟨HST4.o.exT (Ex.set HM.o.bg) HG4.o,nT (nT HM.o.bw HC4.o.1.size) (Ex.set (B:=B) (w:=w5) HM.o.bg).1.size,HM.o.bg,⟨_,heap_setCell_same _ _ _ _ _ _ HG4.o,HT4.o.lft⟩,by rw [HCM.o.life,HCM.o.tlife];exact HM.o.lf,HCM.o.down,HCM.o.after,by rw [HCM.o.life];exact HM.o.l1,by rw [HCM.o.len,HCM.o.n];exact HM.o.sn,?_⟩,HC4.o.trans (ChF.cell HM.o.bg HG4.o)⟩;have hl2:2<=t.st.length:=by rw [HM.o.sn];exact hn2
 refine ⟨?_,?_⟩
 ·rw [HCM.o.st 0 (by omega),HM.o.hd.1,if_neg (by omega)]
 ·rw [HCM.o.st 1 (by omega),HM.o.hd.2,if_neg (by omega)]
theorem ins_list (o:Nat):∀ (l:List Value) (k:Nat) (base:Array Value),(o+k+l.length<=base.size)->((l.zipIdx k).foldl (fun cs x=>cs.setIfInBounds (o+x.2) x.1) base).size=base.size/\∀ i,((l.zipIdx k).foldl (fun cs x=>cs.setIfInBounds (o+x.2) x.1) base)[i]?=if o+k<=i/\i<o+k+l.length then l[i-(o+k)]? else base[i]?
 | [],k,base,_=>⟨rfl,fun i=>by simp only [List.zipIdx_nil,List.foldl_nil,List.length_nil,Nat.add_zero];rw [if_neg (by omega)]⟩
 | v::l,k,base,h=>by
  simp only [List.length_cons] at h
  obtain ⟨h1,h2⟩:=ins_list o l (k+1) (base.setIfInBounds (o+k) v) (by rw [Array.size_setIfInBounds];omega)
  rw [List.zipIdx_cons,List.foldl_cons]
  refine ⟨h1.trans Array.size_setIfInBounds,fun i=>?_⟩
  rw [h2 i]
  by_cases c1:i=o+k
  ·subst c1
   rw [if_neg (by omega),if_pos (by simp),Nat.sub_self,Array.getElem?_setIfInBounds_self_of_lt (by omega)]
   rfl
  ·by_cases c2:o+k<=i/\i<o+k+(v::l).length
   ·have c3:o+(k+1)<=i/\i<o+(k+1)+l.length:=by simp only [List.length_cons] at c2;omega
    rw [if_pos c3,if_pos c2,show i-(o+k)=(i-(o+(k+1)))+1 by omega];rfl
   ·have c3:¬ (o+(k+1)<=i/\i<o+(k+1)+l.length):=by simp only [List.length_cons] at c2;omega
    rw [if_neg c3,if_neg c2,Array.getElem?_setIfInBounds_ne (Ne.symm c1)]
theorem aC7 {base:Array Value} {n:Nat} (hn:vs.size=n) (h:o+n<=base.size):(Array.foldl (fun (cs:Array Value) (x:Value×Nat)=>cs.setIfInBounds (o+x.2) x.1) base vs.zipIdx 0 n).size=base.size/\∀ i,(Array.foldl (fun (cs:Array Value) (x:Value×Nat)=>cs.setIfInBounds (o+x.2) x.1) base vs.zipIdx 0 n)[i]?=if o<=i/\i<o+n then vs[i-o]? else base[i]?:=by
 have e:Array.foldl (fun (cs:Array Value) (x:Value×Nat)=>cs.setIfInBounds (o+x.2) x.1) base vs.zipIdx 0 n=(vs.toList.zipIdx 0).foldl (fun cs x=>cs.setIfInBounds (o+x.2) x.1) base:=by
  have hs:vs.zipIdx.size=n:=by rw [Array.size_zipIdx,hn]
  rw [<-hs,<-Array.foldl_toList,Array.toList_zipIdx]
 rw [e];obtain ⟨h1,h2⟩:=ins_list o vs.toList 0 base (by rw [Array.length_toList,hn];omega);refine ⟨h1,fun i=>?_⟩;rw [h2 i,Array.length_toList,hn,Nat.add_zero];by_cases c:o<=i/\i<o+n
 ·rw [if_pos c,if_pos c,Array.getElem?_toList]
 ·rw [if_neg c,if_neg c]
theorem newSt_get {n:Nat} (h:i<n):(newSt n).getD i 0=if i<2 then 0 else 1:=by
 unfold newSt;rw [List.getD_eq_getElem?_getD,List.getElem?_map,List.getElem?_range h];rfl
theorem aD6 {o:Oper} {a:Act} {p:Operand} {t:TypeId} (ho:o.op=.load t p) {ad:Addr} {cs:Array Value} (hp:a.eval p=.pointer (some ad)) (hrun:(loadVar t ad).run prog w=.ok (.agg cs) w):(execOp a.eval o).run prog w=.ok (.value (.agg cs)) w:=by
 simp [execOp,ho,Instr.loadAt,Instr.sureAddr,hp,hrun,Result.andThen]
theorem zero_tree:zeroCells183.size=139/\zeroCells183[136]?=some (.slice none 0 0)/\zeroCells183[138]?=some (.bool false):=⟨by kernel_rfl,by kernel_rfl,by kernel_rfl⟩
theorem tv_build {c2:Array Value} {st:StT} {L:Nat} (hc:StV c2 st.root st.depth st.keys st.pgs):TV ((Array.foldl (fun (cs:Array Value) (x:Value×Nat)=>cs.setIfInBounds (69+x.2) x.1) (Array.foldl (fun (cs:Array Value) (x:Value×Nat)=>cs.setIfInBounds (2+x.2) x.1) ((zeroCells183.setIfInBounds 0 (.pointer (some ⟨p,0,none⟩))).setIfInBounds 1 (.pointer (some ⟨q,0,none⟩))) c2.zipIdx 0 67) c2.zipIdx 0 67).setIfInBounds 137 (.int .i64 (L:Int))) p q st st (.slice none 0 0) (L:Int) false:=by
 obtain ⟨z1,z2,z3⟩:=zero_tree;have b1:((zeroCells183.setIfInBounds 0 (.pointer (some ⟨p,0,none⟩))).setIfInBounds 1 (.pointer (some ⟨q,0,none⟩))).size=139:=by rw [Array.size_setIfInBounds,Array.size_setIfInBounds];exact z1
 obtain ⟨i1,i2⟩:=aC7 (base:=((zeroCells183.setIfInBounds 0 (.pointer (some ⟨p,0,none⟩))).setIfInBounds 1 (.pointer (some ⟨q,0,none⟩)))) (vs:=c2) (o:=2) (n:=67) hc.sz (by rw [b1];decide);obtain ⟨j1,j2⟩:=aC7 (base:=(Array.foldl (fun (cs:Array Value) (x:Value×Nat)=>cs.setIfInBounds (2+x.2) x.1) ((zeroCells183.setIfInBounds 0 (.pointer (some ⟨p,0,none⟩))).setIfInBounds 1 (.pointer (some ⟨q,0,none⟩))) c2.zipIdx 0 67)) (vs:=c2) (o:=69) (n:=67) hc.sz (by rw [i1,b1];decide);have ne:∀ i,i≠137->((Array.foldl (fun (cs:Array Value) (x:Value×Nat)=>cs.setIfInBounds (69+x.2) x.1) (Array.foldl (fun (cs:Array Value) (x:Value×Nat)=>cs.setIfInBounds (2+x.2) x.1) ((zeroCells183.setIfInBounds 0 (.pointer (some ⟨p,0,none⟩))).setIfInBounds 1 (.pointer (some ⟨q,0,none⟩))) c2.zipIdx 0 67) c2.zipIdx 0 67).setIfInBounds 137 (.int .i64 (L:Int)))[i]?=(Array.foldl (fun (cs:Array Value) (x:Value×Nat)=>cs.setIfInBounds (69+x.2) x.1) (Array.foldl (fun (cs:Array Value) (x:Value×Nat)=>cs.setIfInBounds (2+x.2) x.1) ((zeroCells183.setIfInBounds 0 (.pointer (some ⟨p,0,none⟩))).setIfInBounds 1 (.pointer (some ⟨q,0,none⟩))) c2.zipIdx 0 67) c2.zipIdx 0 67)[i]?:=fun i hi=>Array.getElem?_setIfInBounds_ne (Ne.symm hi)
 have lo:∀ i,i<2->((Array.foldl (fun (cs:Array Value) (x:Value×Nat)=>cs.setIfInBounds (69+x.2) x.1) (Array.foldl (fun (cs:Array Value) (x:Value×Nat)=>cs.setIfInBounds (2+x.2) x.1) ((zeroCells183.setIfInBounds 0 (.pointer (some ⟨p,0,none⟩))).setIfInBounds 1 (.pointer (some ⟨q,0,none⟩))) c2.zipIdx 0 67) c2.zipIdx 0 67).setIfInBounds 137 (.int .i64 (L:Int)))[i]?=((zeroCells183.setIfInBounds 0 (.pointer (some ⟨p,0,none⟩))).setIfInBounds 1 (.pointer (some ⟨q,0,none⟩)))[i]?:=fun i hi=>by rw [ne i (by omega),j2 i,if_neg (by omega),i2 i,if_neg (by omega)]
 have m1:∀ i,i<67->((Array.foldl (fun (cs:Array Value) (x:Value×Nat)=>cs.setIfInBounds (69+x.2) x.1) (Array.foldl (fun (cs:Array Value) (x:Value×Nat)=>cs.setIfInBounds (2+x.2) x.1) ((zeroCells183.setIfInBounds 0 (.pointer (some ⟨p,0,none⟩))).setIfInBounds 1 (.pointer (some ⟨q,0,none⟩))) c2.zipIdx 0 67) c2.zipIdx 0 67).setIfInBounds 137 (.int .i64 (L:Int)))[2+i]?=c2[i]?:=fun i hi=>by rw [ne (2+i) (by omega),j2,if_neg (by omega),i2,if_pos (by omega),show 2+i-2=i by omega]
 have m2:∀ i,i<67->((Array.foldl (fun (cs:Array Value) (x:Value×Nat)=>cs.setIfInBounds (69+x.2) x.1) (Array.foldl (fun (cs:Array Value) (x:Value×Nat)=>cs.setIfInBounds (2+x.2) x.1) ((zeroCells183.setIfInBounds 0 (.pointer (some ⟨p,0,none⟩))).setIfInBounds 1 (.pointer (some ⟨q,0,none⟩))) c2.zipIdx 0 67) c2.zipIdx 0 67).setIfInBounds 137 (.int .i64 (L:Int)))[69+i]?=c2[i]?:=fun i hi=>by rw [ne (69+i) (by omega),j2,if_pos (by omega),show 69+i-69=i by omega]
 have hi:∀ i,136<=i->i≠137->((Array.foldl (fun (cs:Array Value) (x:Value×Nat)=>cs.setIfInBounds (69+x.2) x.1) (Array.foldl (fun (cs:Array Value) (x:Value×Nat)=>cs.setIfInBounds (2+x.2) x.1) ((zeroCells183.setIfInBounds 0 (.pointer (some ⟨p,0,none⟩))).setIfInBounds 1 (.pointer (some ⟨q,0,none⟩))) c2.zipIdx 0 67) c2.zipIdx 0 67).setIfInBounds 137 (.int .i64 (L:Int)))[i]?=zeroCells183[i]?:=fun i h1 h2=>by rw [ne i h2,j2 i,if_neg (by omega),i2 i,if_neg (by omega),Array.getElem?_setIfInBounds_ne (by omega),Array.getElem?_setIfInBounds_ne (by omega)]
 refine ⟨by rw [Array.size_setIfInBounds,j1,i1,b1],?_,?_,(m1 0 (by omega)).trans hc.c0,(m1 1 (by omega)).trans hc.c1,(m1 2 (by omega)).trans hc.c2,⟨hc.wd.1,hc.wd.2.1,fun i x hx=>?_⟩,(m2 0 (by omega)).trans hc.c0,(m2 1 (by omega)).trans hc.c1,(m2 2 (by omega)).trans hc.c2,⟨hc.wd.1,hc.wd.2.1,fun i x hx=>?_⟩,(hi 136 (by omega) (by omega)).trans z2,?_,(hi 138 (by omega) (by omega)).trans z3⟩
 ·rw [lo 0 (by omega),Array.getElem?_setIfInBounds_ne (by omega),Array.getElem?_setIfInBounds_self_of_lt (by rw [z1];decide)]
 ·rw [lo 1 (by omega),Array.getElem?_setIfInBounds_self_of_lt (by rw [Array.size_setIfInBounds,z1];decide)]
 ·have h1:=(lL hx);have h2:=hc.wd.1;rw [show 5+i=2+(3+i) by omega,m1 (3+i) (by omega)];exact hc.wd.2.2 i x hx
 ·have h1:=(lL hx);have h2:=hc.wd.1;rw [show 72+i=69+(3+i) by omega,m2 (3+i) (by omega)];exact hc.wd.2.2 i x hx
 ·exact Array.getElem?_setIfInBounds_self_of_lt (by rw [j1,i1,b1];decide)
theorem Open_none [Gd] {s:DS} {num:Nat} (h:DI B p s w) (hB:B<=w.heap.size) (hd:s.down=false) (ha:s.after<1) (hl1:s.life<100000) (h3:3<=s.n) (h4:s.n<=4096) (hl:lastH (rdH (pad (s.show 0)) s.n) (rdH (pad (s.show 1)) s.n)=some (num,0)) (hnum:num<=4611686018427387904) :
  Calls prog 55 #[.pointer (some ⟨p,0,none⟩)] w fun e w'=>∃ q g st0,e=.returned (.tuple #[.pointer (some ⟨g,0,none⟩),.int .i64 0])/\w.heap.size<=g/\TM B p q g s ⟨newSt s.n,s.life,num,0⟩ st0 st0 (.slice none 0 0) (cntF (newSt s.n):Nat) w'/\st0.root=0/\st0.depth=0/\st0.keys=0/\PgS st0.pgs []/\Fp B w w':=by
 have HOP:=zH (open_ok B p s num 0 w h hB hd h3 hl hnum (by omega));have hns0:(newSt s.n).getD 0 0=0:=by rw [newSt_get (by omega)];rfl
 have hns1:(newSt s.n).getD 1 0=0:=by rw [newSt_get (by omega)];rfl
 have HTR:Hid (Tr s ⟨newSt s.n,s.life,num,0⟩ ⟨0,0,0,zPs⟩ []):=Or.inl ⟨rfl,rfl,rfl,rfl,aHl List.nodup_nil (fun x hx=>by simp at hx)⟩;have HB:=zH hB;clear h hl;go_enter func55,ntmps55;go_wp2_with fail;refine HOP.o.mono ?_;rintro e w1 ⟨q,rfl,hst1,hb1⟩;have HST1:=zH hst1;have HB1:=zH hb1;have HBw1:Hid (B<=w1.heap.size):=nT hB hb1.size;have HRO:=zH (root_any hst1);have HLT:=zH (looked_any (l:=[]) (st:=⟨0,0,0,zPs⟩) hst1 HBw1.o rfl hd (aDu _) hns0 HTR.o (by decide) (by decide));clear hst1 hb1 HOP;go_wp2_with fail;refine HRO.o.mono ?_;rintro e w1' ⟨rfl,rfl⟩;go_wp2_with fail;refine HLT.o.mono ?_;rintro e w2 ⟨v2,rfl,⟨c2,st2,hv2,hsv2,htr2,hr2,hd2⟩,hb2⟩;subst hv2;have hst2:st2.root=0/\st2.depth=0/\st2.keys=0/\PgS st2.pgs []:=by
  rcases htr2 with ⟨a1,a2,a3,_,a5⟩ | ⟨h9,b9,q1,q2,_⟩
  ·exact ⟨a1,a2,a3,a5⟩
  ·rw [hd2] at q2;have q2:(0:Int)=((h9+1:Nat):Int):=q2;omega
 have HB2:Hid (Below w.heap.size w w2):=HB1.o.trans (hb2.mono HB1.o.size);have HST2:=zH (HST1.o.later hb2);have x3:(w2.alloc (.cells zeroCells176 176)).heap[w2.heap.size]?=some (.cells zeroCells176 176 (0,0)):=heap_alloc_new w2 _;have hst:=aA6 (o:=0) x3 (by rw [Nat.zero_add,hsv2.sz,aC1.sz];exact nR _) hsv2.one;rw [aB9 (by rw [hsv2.sz,aC1.sz])] at hst;have hcz:c2.size=67:=hsv2.sz;have HSV2:=zH hsv2;have HS2:=zH hst2;have HB3:Hid (Below w.heap.size w ((w2.alloc (.cells zeroCells176 176)).setRow w2.heap.size c2)):=below_setRow (HB2.o.trans ((aAc w2 _).mono HB2.o.size)) HB2.o.size c2;have HBL3:Hid (Below w2.heap.size w2 ((w2.alloc (.cells zeroCells176 176)).setRow w2.heap.size c2)):=below_setRow (aAc w2 _) (nR _) c2;have HY3:=zH (setRow_heap _ _ _ c2 _ _ x3);clear hsv2 htr2 hr2 hd2 hb2 x3 hst2 HRO HLT;go_upto_region 7 with fail;generalize hw3:((w2.alloc (.cells zeroCells176 176)).setRow w2.heap.size c2)=w3 at *
 have HST3:=zH (HST2.o.later HBL3.o);generalize hnb:w2.heap.size=nb at *
 clear hst;have HNM:=zH (numbers_ok (o:=3) HY3.o HSV2.o.wd);have HNO:Hid (nums st2.pgs 4096=[]):=by
  show _=_;rw [nums,List.filter_eq_nil_iff];intro x _;rw [HS2.o.2.2.2.2.2.2 x];simp
 rw [HNO.o] at HNM;go_wp2_with fail;refine HNM.o.mono ?_;rintro e w4 ⟨v4,rfl,ho4,hb4⟩;have HBw4:Hid (B<=w4.heap.size):=nT (nT hB HB3.o.size) hb4.size;have HST4:=zH (HST3.o.later hb4);obtain ⟨va,vc,hv4⟩:=aAg ho4;subst hv4;have HHO:=zH (hold_any (l:=[]) HST4.o HBw4.o rfl ho4 (by decide) (fun x hx=>by simp at hx));have HY4:=zH ((hb4.block nb (lO HY3.o)).trans HY3.o);have HB4:Hid (Below w.heap.size w w4):=HB3.o.trans (hb4.mono HB3.o.size);clear ho4 hb4 HNM;simp only [List.length_nil] at *
 go_wp2_with fail;refine HHO.o.mono ?_;rintro e w5 ⟨rfl,h1,h2⟩;have HST5:Hid (ST B p q s ⟨newSt s.n,s.life,num,0⟩ w5):=h1;have HF5:Hid (Fp B w w5):=(Fp.of HB4.o hB).trans h2;have HY5:=zH (h2.tree HY4.o (by decide));clear h1 h2 HHO;go_upto_region 8 with fail;have HX0:Hid ((fun wx=>wx.heap[nb]?=some (.cells c2 176 (0,0))) w5.drew):=HY5.o;have HLE:=zH (aE9 (HST5.o.later (Below.refl _ _).drew));have HBw5:Hid (B<=w5.heap.size):=nT hB HF5.o.bel.size;generalize hL:cntF (newSt s.n)=L at *
 obtain ⟨zt1,zt2,zt3⟩:=zero_tree;have hb9:((zeroCells183.setIfInBounds 0 (.pointer (some ⟨p,0,none⟩))).setIfInBounds 1 (.pointer (some ⟨q,0,none⟩))).size=139:=by rw [Array.size_setIfInBounds,Array.size_setIfInBounds];exact zt1
 have hsz1:(Array.foldl (fun (cs:Array Value) (x:Value×Nat)=>cs.setIfInBounds (2+x.2) x.1) ((zeroCells183.setIfInBounds 0 (.pointer (some ⟨p,0,none⟩))).setIfInBounds 1 (.pointer (some ⟨q,0,none⟩))) c2.zipIdx 0 67).size=139:=(aC7 (base:=((zeroCells183.setIfInBounds 0 (.pointer (some ⟨p,0,none⟩))).setIfInBounds 1 (.pointer (some ⟨q,0,none⟩)))) (vs:=c2) (o:=2) (n:=67) hcz (by rw [hb9];decide)).1.trans hb9;have hsz2:(Array.foldl (fun (cs:Array Value) (x:Value×Nat)=>cs.setIfInBounds (69+x.2) x.1) (Array.foldl (fun (cs:Array Value) (x:Value×Nat)=>cs.setIfInBounds (2+x.2) x.1) ((zeroCells183.setIfInBounds 0 (.pointer (some ⟨p,0,none⟩))).setIfInBounds 1 (.pointer (some ⟨q,0,none⟩))) c2.zipIdx 0 67) c2.zipIdx 0 67).size=139:=(aC7 (base:=(Array.foldl (fun (cs:Array Value) (x:Value×Nat)=>cs.setIfInBounds (2+x.2) x.1) ((zeroCells183.setIfInBounds 0 (.pointer (some ⟨p,0,none⟩))).setIfInBounds 1 (.pointer (some ⟨q,0,none⟩))) c2.zipIdx 0 67)) (vs:=c2) (o:=69) (n:=67) hcz (by rw [hsz1];decide)).1.trans hsz1;have HTV:Hid (TV ((Array.foldl (fun (cs:Array Value) (x:Value×Nat)=>cs.setIfInBounds (69+x.2) x.1) (Array.foldl (fun (cs:Array Value) (x:Value×Nat)=>cs.setIfInBounds (2+x.2) x.1) ((zeroCells183.setIfInBounds 0 (.pointer (some ⟨p,0,none⟩))).setIfInBounds 1 (.pointer (some ⟨q,0,none⟩))) c2.zipIdx 0 67) c2.zipIdx 0 67).setIfInBounds 137 (.int .i64 (L:Int))) p q st2 st2 (.slice none 0 0) (L:Int) false):=tv_build HSV2.o;have HST2E:Hid (st2=⟨0,0,0,st2.pgs⟩):=by
  obtain ⟨e1,e2,e3,e4⟩:=HS2.o;show _=_;cases st2;simp only at e1 e2 e3;subst e1 e2 e3;rfl
 clear zt1 zt2 zt3 hb9;refine wp_region_noPanic ?_;refine wp_region_held_drew (S:=fun wx=>wx.heap[nb]?=some (.cells c2 176 (0,0))) (by kernel_rfl) HX0.o (fun hHeld=>?_);refine kT 0 29 ?_;refine kT 1 30 ?_;refine aAe (i:=2) (d:=31) (v:=.agg c2) (by kernel_rfl) (by kernel_rfl) (by kernel_rfl) (by kernel_rfl) (fun _ _ _ h=>h) ?hya2 (by assumption) ?resta2
 case hya2 =>
  intro oi ho;simp only [List.getElem?_toArray,List.getElem?_cons_succ,List.getElem?_cons_zero,oI] at ho;subst ho;refine Or.inl ⟨by rfl,?_⟩;intro wx hSw;exact aD6 rfl rfl ((fun (wx:World) (hSw:wx.heap[nb]?=some (.cells c2 176 (0,0)))=>run_loadVar_row (P:=prog) wx nb 176 176 c2 (0,0) _ hSw underlying176 rfl (by rw [hcz];exact aB5)) wx hSw)
 case resta2 =>
  try simp only [Act.put,siT,scZ,scS]
  refine aAe (i:=3) (d:=32) (v:=.agg c2) (by kernel_rfl) (by kernel_rfl) (by kernel_rfl) (by kernel_rfl) (fun _ _ _ h=>h) ?hya3 (by assumption) ?resta3
  case hya3 =>
   intro oi ho;simp only [List.getElem?_toArray,List.getElem?_cons_succ,List.getElem?_cons_zero,oI] at ho;subst ho;refine Or.inl ⟨by rfl,?_⟩;intro wx hSw;exact aD6 rfl rfl ((fun (wx:World) (hSw:wx.heap[nb]?=some (.cells c2 176 (0,0)))=>run_loadVar_row (P:=prog) wx nb 176 176 c2 (0,0) _ hSw underlying176 rfl (by rw [hcz];exact aB5)) wx hSw)
  case resta3 =>
   try simp only [Act.put,siT,scZ,scS]
   refine kT 4 33 ?_;refine kC 5 ?_;intro K hK;go_simp;refine HLE.o.mono ?_;rintro e w6 ⟨rfl,rfl⟩;refine hK.out _ _ HX0.o (fun hHeld=>?_);clear hK K
   try simp only [Act.put,siT,scZ,scS]
   refine aAe (i:=6) (d:=35) (v:=.agg ((Array.foldl (fun (cs:Array Value) (x:Value×Nat)=>cs.setIfInBounds (69+x.2) x.1) (Array.foldl (fun (cs:Array Value) (x:Value×Nat)=>cs.setIfInBounds (2+x.2) x.1) ((zeroCells183.setIfInBounds 0 (.pointer (some ⟨p,0,none⟩))).setIfInBounds 1 (.pointer (some ⟨q,0,none⟩))) c2.zipIdx 0 67) c2.zipIdx 0 67).setIfInBounds 137 (.int .i64 (L:Int)))) (by kernel_rfl) (by kernel_rfl) (by kernel_rfl) (by kernel_rfl) (fun _ _ _ h=>h) ?hya6 (by assumption) ?resta6
   case hya6 =>
    intro oi ho;simp only [List.getElem?_toArray,List.getElem?_cons_succ,List.getElem?_cons_zero,oI] at ho;subst ho;refine Or.inl ⟨by rfl,?_⟩;intro wx hSw
    try dsimp only at hSw
    go_simp
    try rfl
   try simp only [Act.put,siT,scZ,scS]
   generalize ((Array.foldl (fun (cs:Array Value) (x:Value×Nat)=>cs.setIfInBounds (69+x.2) x.1) (Array.foldl (fun (cs:Array Value) (x:Value×Nat)=>cs.setIfInBounds (2+x.2) x.1) ((zeroCells183.setIfInBounds 0 (.pointer (some ⟨p,0,none⟩))).setIfInBounds 1 (.pointer (some ⟨q,0,none⟩))) c2.zipIdx 0 67) c2.zipIdx 0 67).setIfInBounds 137 (.int .i64 (L:Int)))=bg at *
   clear hsz1 hsz2;have HB7:Hid (Below w5.heap.size w5 (w5.alloc (.cells bg 183)).drew):=(aAc w5 _).drew;have HN7:Hid ((w5.alloc (.cells bg 183)).drew.heap[w5.heap.size]?=some (.cells bg 183 (0,0))):=heap_alloc_new w5 _;have HX7:Hid ((fun wx=>wx.heap[nb]?=some (.cells c2 176 (0,0))) (w5.alloc (.cells bg 183)).drew):=(HB7.o.block nb (lO HY5.o)).trans HY5.o;refine kC 7 ?_;intro K hK;go_simp;clear hHeld;refine hK.out _ _ HX7.o (fun hHeld=>?_);clear hK K
   try simp only [Act.put,siT,scZ,scS]
   refine kT 8 2 ?_;refine kT 9 3 ?_;refine wpAnyH_done (by kernel_rfl) ?_ _;refine NoPanic.normal ?_;clear hHeld HX0 HX7;go_wp2;go_ret2;refine ⟨q,w5.heap.size,st2,rfl,HF5.o.bel.size,⟨HST5.o.later HB7.o,nT HBw5.o HB7.o.size,HBw5.o,⟨bg,HN7.o,by rw [<-hL] at HTV;exact HTV.o⟩,rfl,hd,ha,hl1,aDu _,⟨hns0,hns1⟩⟩,HS2.o.1,HS2.o.2.1,HS2.o.2.2.1,HS2.o.2.2.2,HF5.o.trans (Fp.of HB7.o HBw5.o)⟩
theorem Len_any [Gd] {s:DS} (hM:TM B p q g s t now last sv left w) :
  Calls prog 86 #[.pointer (some ⟨g,0,none⟩)] w fun e w'=>e=.returned (.int .i64 now.keys)/\w'=w:=by
 obtain ⟨cs,hg,hT⟩:=hM.tv;have r4:w.cell? ⟨g,4,none⟩=some (.int .i64 now.keys):=(aAa hg).trans hT.n2;clear hM hg hT;go_enter func86,ntmps86;go_wp2;go_ret;exact ⟨rfl,rfl⟩
theorem getD_some {st:List Nat} (h:st[i]?=some x):st.getD i 0=x:=by rw [List.getD_eq_getElem?_getD,h];rfl
theorem newSt_cnt (n:Nat) (h:2<=n):cntF (newSt n)=n-2:=by
 unfold cntF newSt;have key:∀ k,((List.range k).map fun i=>if i<2 then 0 else 1).count 1=k-2:=by
  intro k
  induction k with
  | zero=>rfl
  | succ k ih =>
   rw [List.range_succ,List.map_append,List.count_append,ih];by_cases c:k<2
   ·simp [c];omega
   ·simp [c];omega
 exact key n
theorem new_facts (n:Nat) (s:DS) (h:s=DS.new n):s.down=false/\s.after<1/\s.life=0/\s.n=n/\s.m=0/\s.show 0=[]/\s.show 1=[]:=by
 subst h;have hk:∀ b,(DS.new n).show b=[]:=by
  intro b;have:(DS.new n).show b=(DS.new n).kept.getD b []:=rfl;rw [this];show (List.replicate n ([]:List Nat)).getD b []=[];rw [List.getD_eq_getElem?_getD,List.getElem?_replicate]
  split<;>rfl
 exact ⟨rfl,(show (0:Int)<1 by decide),rfl,List.length_replicate,rfl,hk 0,hk 1⟩
def OpT [Gd] (B p g n:Nat) (w':World):Prop:=∃ (q:Nat) (s:DS) (t:PS) (st0:StT),TM B p q g s t st0 st0 (.slice none 0 0) (cntF t.st:Nat) w'/\Tr s t st0 []/\st0.depth=0/\s.n=n/\s.m=0/\cntF t.st=n-2/\t.num=0/\s.show 0=[]/\s.show 1=[]
end Go.Proofs.YtdfjjhlhnfindaaGreat
