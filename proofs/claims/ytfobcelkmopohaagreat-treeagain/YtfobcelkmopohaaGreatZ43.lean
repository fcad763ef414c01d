import Derived.Test.YtfobcelkmopohaaGreatZ42
import Derived.Lib.Zigzag
set_option maxRecDepth 100000
set_option maxHeartbeats 16000000
set_option linter.unusedVariables false
namespace Go.Proofs.YtfobcelkmopohaaGreat
open Go.RowKit
theorem has_ok {g o id:Nat} {w:World} {cs:Array Value} {t:TypeId} {ps:List Nat} (hg:w.heap[g]?=some (.cells cs t (0,0))) (hw:Wd cs o ps) (hid:id<4096) :
  Calls Tryz.prog 50 #[.pointer (some ⟨g,o,none⟩),.int .i64 (id:Int)] w fun e w'=>e=.returned (.bool (hsP ps id))/\w'=w:=by
 obtain ⟨x,hx⟩:∃ x,ps[id / 64]?=some x:=⟨_,gE (by have:=hw.1;omega)⟩
 have hx6:=hw.2.1 x (mG hx)
 have hc:=hw.2.2 _ x hx
 have hgd:ps.getD (id / 64) 0=x:=by rw [List.getD_eq_getElem?_getD,hx];rfl
 have hq:((id:Int) / 64)=((id / 64:Nat):Int):=by omega
 have hr:((id:Int) % 64)=((id % 64:Nat):Int):=by omega
 have e0:hsP ps id=x.testBit (id % 64):=by unfold hsP;rw [hgd]
 rw [e0]
 obtain ⟨m,hm⟩:∃ m,id / 64=m:=⟨_,rfl⟩
 obtain ⟨r,hr2⟩:∃ r,id % 64=r:=⟨_,rfl⟩
 have hm64:m<64:=by omega
 have hr64:r<64:=by omega
 rw [hm] at hc hq
 rw [hr2] at hr ⊢
 have c0:w.cell? ⟨g,o+m,none⟩=some (.int .u64 (x:Int)):=(aAa hg).trans hc
 have d1:(m:Int)<64:=by omega
 have d2:¬ (m:Int)<0:=by omega
 have d3:¬ (r:Int)<0:=by omega
 have d4:(r:Int)<64:=by omega
 clear hg hc hw hx hgd e0
 go_enter Tryz.func50,Tryz.ntmps50
 go_wp2
 go_ret
 refine ⟨?_,rfl⟩
 show Ending.returned (.bool (bits BinOp.and IntKind.u64 ((x:Int) / 2 ^ r) 1 == 1))=_
 have e1:((x:Int) / 2 ^ r)=((x / 2 ^ r:Nat):Int):=by simp
 have e2:x / 2 ^ r<=x:=Nat.div_le_self _ _
 rw [e1,Nat.testBit_eq_decide_div_mod_eq]
 generalize x / 2 ^ r=y at e2 ⊢
 rw [Lib.u64_and1 _ (by omega) (by omega)]
 congr 2
 rw [Bool.eq_iff_iff]
 simp only [beq_iff_eq,decide_eq_true_eq]
 omega
def nums (ps:List Nat) (k:Nat):List Nat:=(List.range k).filter (hsP ps)
theorem nums_succ (ps:List Nat) (k:Nat):nums ps (k+1)=nums ps k++(if hsP ps k then [k] else []):=by
 unfold nums
 rw [List.range_succ,List.filter_append]
 congr 1
 by_cases c:hsP ps k=true
 ·simp [c]
 ·simp [c]
theorem aH0 (ps:List Nat) (k:Nat):(nums ps k).length<=k:=by
 unfold nums
 exact nT (List.length_filter_le _ _) (by simp)
theorem plC_app' (a b:List Nat):plC (a++b)=plC a++plC b:=by simp [plC]
theorem aG2 {g o:Nat} {w:World} {cs:Array Value} {t:TypeId} {ps:List Nat} (hg:w.heap[g]?=some (.cells cs t (0,0))) (hw:Wd cs o ps) :
  Calls Tryz.prog 39 #[.pointer (some ⟨g,o,none⟩)] w fun e w'=>∃ v,e=.returned v/\w'.ownsRow w.heap.size 3 1 v (nums ps 4096).length (plC (nums ps 4096))/\Below w.heap.size w w':=by
 obtain ⟨i0,hi0,hz0,hz1,hz2⟩:=info_parts info_int
 have HG:=zH hg
 have HW:=zH hw
 have hgl:=(lO hg)
 clear hg hw
 go_enter Tryz.func39,Tryz.ntmps39
 go_wp2_with fail
 go_loopw [3,5] (fun v i wx=>∃ j:Nat,j<=4096/\i=.int .i64 j/\wx.ownsRow w.heap.size 3 1 v (nums ps j).length (plC (nums ps j))/\Below w.heap.size w wx) (fun _ i _=>4096-(intOf i).toNat)
 case atStart=>exact ⟨0,by omega,rfl,⟨rfl,Or.inl ⟨rfl,rfl⟩⟩,Below.refl _ _⟩
 case round =>
  obtain ⟨j,hj,rfl,hown,hbr⟩:=hrel
  obtain ⟨va,vc,hv⟩:=aAf hown
  subst hv
  have HOW:=zH hown
  have HBR:=zH hbr
  by_cases hjn:j<4096
  ·have xj:(j:Int)<4096:=by omega
   have HHA:=zH (has_ok ((hbr.block g hgl).trans HG.o) HW.o hjn)
   have HNS:=zH (nums_succ ps j)
   have hnl:=aH0 ps j
   clear hown hbr
   generalize hM:(nums ps j).length=M at *
   go_wp2_with fail
   refine HHA.o.mono ?_
   rintro e w1 ⟨rfl,hq⟩
   have hq:=hq.symm
   subst hq
   cases hb:hsP ps j with
   | true =>
    rw [hb] at HNS
    simp only [if_true] at HNS
    have HBX:=zH (aAb wr (.cells #[.int .i64 (j:Int)] 3))
    have HO1:=zH (aAg HOW.o HBX.o)
    have HNW:Hid (∀ k u,[Value.int .i64 (j:Int)][k]?=some u->(wr.alloc (.cells #[.int .i64 (j:Int)] 3)).cell? ((⟨wr.heap.size,0,none⟩:Addr).add k)=some u):=by
     intro k u hu
     rw [Addr.add_lit,Nat.zero_add,aAa (heap_alloc_new wr _)]
     simpa using hu
    have HBS:Hid (w.heap.size<=(wr.alloc (.cells #[.int .i64 (j:Int)] 3)).heap.size):=nT HBR.o.size HBX.o.size
    go_wp2_with (at_builtin;refine wpList_append_own _ rfl (.tmp 11) (.tmp 13) 89 rfl w.heap.size 3 i0 (.int .i64 0) 1 8 Tryz.underlying89 hi0 hz0 hz1 hz2 rfl (by omega) (.slice va M vc) M (plC (nums ps j)) rfl HO1.o ⟨wr.heap.size,0,none⟩ 1 1 [Value.int .i64 (j:Int)] (by simp [Act.eval]) rfl HNW.o (by simp [Value.oneCell']) (by unfold maxLen;omega) (by omega) HBS.o ?_;intro v3 w3 ho3 hg3 hz3;have HO3:=zH ho3;have HG3:=zH hg3;clear ho3 hg3 hz3)
    go_roundw
    case rel =>
     refine ⟨j+1,by omega,by go_num,?_,?_⟩
     ·rw [HNS.o,lA,plC_app',hM]
      exact HO3.o
     ·exact (HBR.o.trans (HBX.o.mono HBR.o.size)).grown HG3.o HBS.o (fun k hk=>(HO1.o.lt k hk).1)
    case measure=>simp [intOf];omega
   | false =>
    rw [hb] at HNS
    simp only [Bool.false_eq_true,if_false,List.append_nil] at HNS
    go_wp2_with fail
    go_roundw
    case rel =>
     refine ⟨j+1,by omega,by go_num,?_,HBR.o⟩
     rw [HNS.o,hM]
     exact HOW.o
    case measure=>simp [intOf];omega
  ·have xj:¬ (j:Int)<4096:=by omega
   obtain rfl:j=4096:=by omega
   clear hown hbr
   generalize hM:(nums ps 4096).length=M at *
   go_wp2
   go_ret
   exact ⟨_,rfl,HOW.o,HBR.o⟩
theorem own_in {w:World} {B:Nat} {v:Value} {l:List Nat} (h:w.ownsRow B 3 1 v l.length (plC l)) {j x:Nat} (hj:l[j]?=some x):∃ gb c,v=.slice (some ⟨gb,0,none⟩) l.length c/\w.cell? ⟨gb,j,none⟩=some (.int .i64 (x:Int)):=by
 have hlt:=(lL hj)
 rcases h.2 with ⟨_,e0⟩ | ⟨gb,cap,cur,e,_,hc,_,_,h4,h5⟩
 ·omega
 ·refine ⟨gb,cap,e,?_⟩
  rw [aAa hc]
  have h6:(plC l)[j]?=some (.int .i64 (x:Int)):=by unfold plC;rw [List.getElem?_map,hj];rfl
  rw [<-h5,List.getElem?_take,if_pos (by omega)] at h6
  rw [<-Array.getElem?_toList]
  exact h6
def holdL (t:PS) (l:List Nat):PS:=l.foldl (fun t i=>t.set i 2) t
theorem holdL_st (l:List Nat):∀ (t:PS),(holdL t l).st.length=t.st.length/\(holdL t l).life=t.life/\(holdL t l).num=t.num/\(holdL t l).root=t.root/\(∀ i,i∉l->(holdL t l).st.getD i 0=t.st.getD i 0)/\((∀ x∈l,x<t.st.length)->∀ i∈l,(holdL t l).st.getD i 0=2):=by
 induction l with
 | nil=>intro t;exact ⟨rfl,rfl,rfl,rfl,fun _ _=>rfl,fun _ i hi=>by simp at hi⟩
 | cons x l ih =>
  intro t
  obtain ⟨h1,h2,h3,h4,h5,h6⟩:=ih (t.set x 2)
  have hl:(t.set x 2).st.length=t.st.length:=List.length_set
  refine ⟨h1.trans hl,h2,h3,h4,fun i hi=>?_,fun hx i hi=>?_⟩
  ·simp only [List.mem_cons,not_or] at hi
   show (holdL (t.set x 2) l).st.getD i 0=_
   rw [h5 i hi.2]
   show (t.st.set x 2).getD i 0=_
   rw [List.getD_eq_getElem?_getD,List.getElem?_set_ne (Ne.symm hi.1),<-List.getD_eq_getElem?_getD]
  ·show (holdL (t.set x 2) l).st.getD i 0=2
   by_cases c:i∈l
   ·exact h6 (fun y hy=>by rw [hl];exact hx y (List.mem_cons_of_mem _ hy)) i c
   ·rw [h5 i c]
    have:i=x:=by
     rcases List.mem_cons.1 hi with q | q
     ·exact q
     ·exact absurd q c
    subst this
    show (t.st.set i 2).getD i 0=2
    rw [List.getD_eq_getElem?_getD,List.getElem?_set_self (hx i List.mem_cons_self)]
    rfl
theorem holdL_succ {t:PS} {l:List Nat} {j x:Nat} (h:l[j]?=some x):holdL t (l.take (j+1))=(holdL t (l.take j)).set x 2:=by
 unfold holdL
 rw [List.take_add_one,h,List.foldl_append]
 rfl
theorem hold_any [Gd] {B B1 p q:Nat} {s:DS} {t:PS} {w:World} {v:Value} {l:List Nat} (h:ST B p q s t w) (hB:B<=w.heap.size) (hl:s.life=t.life) (hv:w.ownsRow B1 3 1 v l.length (plC l)) (hll:l.length<=4096) (hR:∀ x∈l,x<t.st.length/\t.st.getD x 0≠0) :
  Calls Tryz.prog 38 #[.pointer (some ⟨q,0,none⟩),v] w fun e w'=>e=.returned (.int .i64 0)/\ST B p q s (holdL t l) w'/\Fp B w w':=by
 obtain ⟨va,vc,hvv⟩:=aAf hv
 subst hvv
 have HD:=zH (aDn h hl)
 have HS0:=zH h
 have HV:=zH hv
 have HR:=zH hR
 have hsl:t.st.length<=4096:=by obtain ⟨_,gs,hS⟩:=h;exact hS.ok.sl
 have HB:=zH hB
 clear h hv hR hl
 generalize hN:l.length=N at *
 go_enter Tryz.func38,Tryz.ntmps38
 go_wp2_with fail
 refine HD.o.mono ?_
 rintro e w1 ⟨rfl,hb1⟩
 have HS1:=zH (HS0.o.later hb1)
 have HF1:=zH (Fp.of hb1 hB)
 have HV1:=zH (aAg HV.o hb1)
 clear hb1 HD HS0
 go_wp2_with fail
 go_loopw [13] (fun i wr=>∃ n:Nat,n<=N/\i=.int .i64 n/\wr=w1) (fun i _=>N-(intOf i).toNat)
 case atStart=>exact ⟨0,by omega,rfl,rfl⟩
 case round =>
  obtain ⟨n,hn,rfl,rfl⟩:=hrel
  by_cases hnn:n<N
  ·have xn:(n:Int)<(N:Int):=by omega
   obtain ⟨x,hx⟩:∃ x,l[n]?=some x:=⟨_,gE (by omega)⟩
   have hrx:=HR.o x (mG hx)
   have hv1:=HV1.o
   rw [<-hN] at hv1
   obtain ⟨gb,c,e0,hcell⟩:=own_in hv1 hx
   simp only [Value.slice.injEq] at e0
   obtain ⟨rfl,_,rfl⟩:=e0
   have HE:Hid (t.of (x:Int)=t.st.getD x 0):=aBb
   have q1:(((t.st.getD x 0:Nat):Int) == 0)=false:=beq_eq_false_iff_ne.2 (by omega)
   obtain ⟨_,gs,hS⟩:=HS1.o
   have HO:=zH (of_any (x:Int) hS (by omega))
   rw [HE.o] at HO
   generalize hod:t.st.getD x 0=od at *
   clear hS hv1 hrx hx hod
   go_wp2_with fail
   refine HO.o.mono ?_
   rintro e w2 ⟨rfl,hq⟩
   have hq:=hq.symm
   subst hq
   go_wp2_with fail
   go_roundw
   case rel=>exact ⟨n+1,by omega,by go_num,trivial⟩
   case measure=>simp [intOf];omega
  ·have xn:¬ (n:Int)<(N:Int):=by omega
   clear hn hnn
   go_wp2_with fail
   go_loopw [26] (fun i wx=>∃ n:Nat,n<=N/\i=.int .i64 n/\ST B p q s (holdL t (l.take n)) wx/\Fp B w wx/\wx.ownsRow B1 3 1 (.slice va N vc) N (plC l)) (fun i _=>N-(intOf i).toNat)
   case atStart=>exact ⟨0,by omega,rfl,HS1.o,HF1.o,HV1.o⟩
   case round =>
    obtain ⟨m,hm,rfl,hst,hfp,hov⟩:=hrel
    have HSTm:=zH hst
    have HFPm:=zH hfp
    have HOVm:=zH hov
    by_cases hmm:m<N
    ·have xm:(m:Int)<(N:Int):=by omega
     obtain ⟨x,hx⟩:∃ x,l[m]?=some x:=⟨_,gE (by omega)⟩
     have hrx:=HR.o x (mG hx)
     rw [<-hN] at hov
     obtain ⟨gb,c,e0,hcell⟩:=own_in hov hx
     simp only [Value.slice.injEq] at e0
     obtain ⟨rfl,_,rfl⟩:=e0
     obtain ⟨hDI,gs,hS⟩:=HSTm.o
     have HSE:=zH (aHq x 2 hS (by rw [(holdL_st _ _).1];exact hrx.1) (by omega))
     have HSV:=zH hS
     have HDI:=zH hDI
     have HSX:=zH (holdL_succ (t:=t) hx)
     clear hS hDI hst hfp hov hrx hx
     go_wp2_with fail
     refine HSE.o.mono ?_
     rintro e w3 ⟨rfl,hS3,hw3⟩
     have HS3:=zH hS3
     have HW3:=zH hw3
     clear hS3 hw3
     go_wp2_with fail
     go_roundw
     case rel =>
      refine ⟨m+1,by omega,by go_num,?_,?_,?_⟩
      ·rw [HSX.o]
       refine ⟨?_,gs,HS3.o⟩
       rw [HW3.o]
       exact HDI.o.other HSV.o.hs (by decide) (by decide) (by decide) (by decide) (by decide) (fun e=>(HSV.o.hG gs e).2 rfl)
      ·rw [HW3.o]
       exact HFPm.o.trans (Fp.set HSV.o.hs HSV.o.gB (Or.inr rfl) (fun e=>(HSV.o.hG gs e).2 rfl))
      ·rw [HW3.o]
       refine aAj HOVm.o fun k cs _ e=>?_
       rw [heap_setCell_other _ _ _ _ ?_,e]
       intro q9
       have q9:k=gs:=q9
       subst q9
       rw [HSV.o.hs] at e
       simp only [oI,cI] at e
       exact absurd e.2.1 (by decide)
     case measure=>simp [intOf];omega
    ·have xm:¬ (m:Int)<(N:Int):=by omega
     have HTT:Hid (l.take m=l):=List.take_of_length_le (by omega)
     clear hst hfp hov
     go_wp2
     go_ret
     have h9:=HSTm.o
     rw [HTT.o] at h9
     exact ⟨rfl,h9,HFPm.o⟩
def jnP (ps qs:List Nat):List Nat:=List.zipWith (· ||| ·) ps qs
theorem jnP_len {ps qs:List Nat} (h1:ps.length=64) (h2:qs.length=64):(jnP ps qs).length=64:=by simp [jnP,h1,h2]
theorem hs_jn {ps qs:List Nat} (h1:ps.length=64) (h2:qs.length=64) {j:Nat} (hj:j<4096):hsP (jnP ps qs) j=(hsP ps j || hsP qs j):=by
 unfold hsP jnP
 obtain ⟨x,hx⟩:∃ x,ps[j / 64]?=some x:=⟨_,gE (by omega)⟩
 obtain ⟨y,hy⟩:∃ y,qs[j / 64]?=some y:=⟨_,gE (by omega)⟩
 rw [List.getD_eq_getElem?_getD,List.getD_eq_getElem?_getD,List.getD_eq_getElem?_getD,List.getElem?_zipWith,hx,hy]
 simp
def jnK (ps qs:List Nat) (k:Nat):List Nat:=jnP (ps.take k) (qs.take k)++ps.drop k
theorem jnK_succ {ps qs:List Nat} {k x y:Nat} (hx:ps[k]?=some x) (hy:qs[k]?=some y):jnK ps qs (k+1)=(jnK ps qs k).set k (x ||| y):=by
 have hl:=(lL hx)
 have hl2:=(lL hy)
 unfold jnK
 have e1:(jnP (ps.take k) (qs.take k)).length=k:=by simp [jnP];omega
 have e2:jnP (ps.take (k+1)) (qs.take (k+1))=jnP (ps.take k) (qs.take k)++[x ||| y]:=by
  rw [List.take_add_one,List.take_add_one,hx,hy]
  unfold jnP
  rw [List.zipWith_append (by simp;omega)]
  rfl
 have e3:ps.drop k=x::ps.drop (k+1):=by rw [<-(List.getElem?_eq_some_iff.1 hx).2,List.getElem_cons_drop]
 rw [e2,e3,List.set_append_right _ _ (by omega),e1,Nat.sub_self,List.set_cons_zero,List.append_assoc]
 rfl
theorem jnK_get {ps qs:List Nat} {k x:Nat} (hx:ps[k]?=some x) (hq:qs.length=ps.length):(jnK ps qs k)[k]?=some x:=by
 have hl:=(lL hx)
 unfold jnK
 have e1:(jnP (ps.take k) (qs.take k)).length=k:=by simp [jnP];omega
 rw [List.getElem?_append_right (by omega),e1,Nat.sub_self,List.getElem?_drop]
 exact hx
theorem jnK_all {ps qs:List Nat} (h1:ps.length=64) (h2:qs.length=64):jnK ps qs 64=jnP ps qs:=by
 unfold jnK
 rw [List.take_of_length_le (by omega),List.take_of_length_le (by omega),List.drop_eq_nil_of_le (by omega),List.append_nil]
theorem join_ok {B g g2 o o2:Nat} {w:World} {cs cs2:Array Value} {t t2:TypeId} {ps qs:List Nat} (hB:B<=g) (hne:g2≠g) (hg:w.heap[g]?=some (.cells cs t (0,0))) (hw:Wd cs o ps) (hg2:w.heap[g2]?=some (.cells cs2 t2 (0,0))) (hw2:Wd cs2 o2 qs) :
  Calls Tryz.prog 84 #[.pointer (some ⟨g,o,none⟩),.pointer (some ⟨g2,o2,none⟩)] w fun e w'=>e=.returned (.tuple #[])/\PsR B g o t w cs (jnP ps qs) w':=by
 have HG:=zH hg
 have HW:=zH hw
 have HG2:=zH hg2
 have HW2:=zH hw2
 have HJ:=zH (jnK_all hw.1 hw2.1)
 have hl1:=hw.1
 have hl2:=hw2.1
 clear hg hw hg2 hw2
 go_enter Tryz.func84,Tryz.ntmps84
 go_wp2_with fail
 go_loopw [5] (fun i wx=>∃ j:Nat,j<=64/\i=.int .i64 j/\PsR B g o t w cs (jnK ps qs j) wx) (fun i _=>64-(intOf i).toNat)
 case atStart=>exact ⟨0,by omega,rfl,by
  have e:jnK ps qs 0=ps:=by simp [jnK,jnP]
  rw [e]
  exact PsR.zero HG.o HW.o⟩
 case round =>
  obtain ⟨j,hj,rfl,hP⟩:=hrel
  have HP:=zH hP
  clear hP
  by_cases hjn:j<64
  ·have xj:(j:Int)<64:=by omega
   have xj2:¬ (j:Int)<0:=by omega
   obtain ⟨x,hx⟩:∃ x,ps[j]?=some x:=⟨_,gE (by omega)⟩
   obtain ⟨y,hy⟩:∃ y,qs[j]?=some y:=⟨_,gE (by omega)⟩
   have hx6:=HW.o.2.1 x (mG hx)
   have hy6:=HW2.o.2.1 y (mG hy)
   obtain ⟨cj,p1,p2,p3,p4⟩:=HP.o
   have c1:wr.cell? ⟨g,o+j,none⟩=some (.int .u64 (x:Int)):=(aAa p1).trans (p2.2.2 j x (jnK_get hx (by omega)))
   have f1:wr.frozen? ⟨g,o+j,none⟩=false:=aAc p1
   have hg2':=(p4.2 g2 (lO HG2.o) (by simpa using hne)).trans HG2.o
   have c2:wr.cell? ⟨g2,o2+j,none⟩=some (.int .u64 (y:Int)):=(aAa hg2').trans (HW2.o.2.2 j y hy)
   have HE:Hid (bits BinOp.or IntKind.u64 (x:Int) (y:Int)=((x ||| y:Nat):Int)):=u64_or_nat x y hx6 hy6
   have HR:=zH (PsR.one (y:=x ||| y) hB p1 p2 hjn (Nat.or_lt_two_pow (n:=64) hx6 hy6))
   have HS3:=zH p3
   have HX4:=zH p4
   have HSX:=zH (jnK_succ hx hy)
   clear p1 p2 p3 p4 hg2' hx hy hx6 hy6
   go_wp2_with fail
   go_region
   go_wp2_with fail
   go_roundw
   case rel =>
    refine ⟨j+1,by omega,by go_num,?_⟩
    rw [HE.o,HSX.o]
    obtain ⟨c9,r1,r2,r3,r4⟩:=HR.o
    exact ⟨c9,r1,r2,HS3.o.trans r3,HX4.o.trans r4⟩
   case measure=>simp [intOf];omega
  ·have xj:¬ (j:Int)<64:=by omega
   obtain rfl:j=64:=by omega
   rw [HJ.o] at HP
   go_wp2
   (try simp only [Exit.inBlock,Exit.then])
   refine bodyPost_end (results_none rfl _ _ _) rfl ?_
   exact ⟨rfl,HP.o⟩
theorem aEf {w:World} {g o:Nat} {ty:TypeId} {cs:Array Value} {d:TypeDesc} (h:∀ (j:Nat) v,cs[j]?=some v->w.cell? ⟨g,o+j,none⟩=some v)
  (hu:Tryz.prog.underlying ty=some d) (hd:(match d with | .struct _ | .array _ _=>true | _=>false)=true) (hi:(Tryz.prog.info? ty).map (·.size)=some cs.size) :
  (loadVar ty ⟨g,o,none⟩).run Tryz.prog w=.ok (.agg cs) w:=by
 have hl:(loadCells ⟨g,o,none⟩ cs.toList.length).run Tryz.prog w=.ok cs.toList.toArray w :=
  run_loadCells_list (P:=Tryz.prog) w ⟨g,o,none⟩ cs.toList (fun j v hv=>by
   rw [Addr.add_lit]
   exact h j v (by simpa using hv))
 cases hq:Tryz.prog.info? ty with
 | none=>simp [hq] at hi
 | some i =>
  have hs:i.size=cs.size:=by simpa [hq] using hi
  have hagg:(isAgg ty).run Tryz.prog w=.ok true w:=by
   unfold isAgg
   rw [Sem.run_bind,run_underlying hu w]
   cases d<;>simp_all
  simp only [Array.length_toList,Array.toArray_toList] at hl
  simp [loadVar,Sem.run_bind,hagg,sizeOf,typeInfo,hq,hs,hl]
def z76:Array Value:=(List.replicate 64 (.int .u64 0)).toArray
theorem aC6:(Tryz.prog.info? 52).map (·.size)=some 64:=by kernel_rfl
theorem Wd.one {cs:Array Value} {ps:List Nat} (h:Wd cs 0 ps) (hs:cs.size=64):∀ v∈cs.toList,v.oneCell'=true:=by
 intro v hv
 obtain ⟨i,hi⟩:=List.getElem?_of_mem hv
 rw [Array.getElem?_toList] at hi
 have hl:=(lO hi)
 obtain ⟨x,hx⟩:∃ x,ps[i]?=some x:=⟨_,gE (by have:=h.1;omega)⟩
 have:=h.2.2 i x hx
 rw [Nat.zero_add,hi] at this
 simp only [oI] at this
 subst this
 rfl
def cutW (cs:Array Value) (o:Nat):Array Value:=((cs.toList.drop o).take 64).toArray
theorem cutW_size {cs:Array Value} {o:Nat} (h:o+64<=cs.size):(cutW cs o).size=64:=by
 unfold cutW
 simp;omega
theorem cutW_get {cs:Array Value} {o j:Nat} {v:Value} (h:(cutW cs o)[j]?=some v):cs[o+j]?=some v:=by
 unfold cutW at h
 rw [List.getElem?_toArray,List.getElem?_take] at h
 split at h
 ·rw [List.getElem?_drop,Array.getElem?_toList] at h
  exact h
 ·cases h
theorem Wd.cut {cs:Array Value} {o:Nat} {ps:List Nat} (h:Wd cs o ps):Wd (cutW cs o) 0 ps:=by
 refine ⟨h.1,h.2.1,fun i x hi=>?_⟩
 have hl:=(lL hi)
 have h64:=h.1
 unfold cutW
 rw [Nat.zero_add,List.getElem?_toArray,List.getElem?_take,if_pos (by omega),List.getElem?_drop,Array.getElem?_toList]
 exact h.2.2 i x hi
structure SnV (w:World) (sv:Value) (sn:List (Nat×List Nat)):Prop where
 n:sn.length<=4
 v:∃ a c,sv=.slice a sn.length c/\∀ (i:Nat) x,sn[i]?=some x->∃ gb o,a=some ⟨gb,o,none⟩/\w.cell? ⟨gb,o+i,none⟩=some (.pointer (some ⟨x.1,0,none⟩))
 s:∀ x∈sn,∃ cx,w.heap[x.1]?=some (.cells cx 124 (0,0))/\Wd cx 4 x.2
theorem SnV.later {w w':World} {sv:Value} {sn:List (Nat×List Nat)} (h:SnV w sv sn) (hb:Below w.heap.size w w'):SnV w' sv sn:=by
 obtain ⟨a,c,e,h1⟩:=h.v
 refine ⟨h.n,⟨a,c,e,fun i x hi=>?_⟩,fun x hx=>?_⟩
 ·obtain ⟨gb,o,e1,e2⟩:=h1 i x hi
  exact ⟨gb,o,e1,(hb.cell (p:=⟨gb,o+i,none⟩) (block_lt_of_cell e2)).trans e2⟩
 ·obtain ⟨cx,e1,e2⟩:=h.s x hx
  exact ⟨cx,(hb.block _ (lO e1)).trans e1,e2⟩
theorem SnV.nil (w:World):SnV w (.slice none 0 0) []:=⟨by simp,⟨none,0,rfl,fun i x h=>by simp at h⟩,fun x hx=>by simp at hx⟩
def jnS (ps:List Nat) (sn:List (Nat×List Nat)):List Nat:=sn.foldl (fun a x=>jnP a x.2) ps
theorem jnS_succ {ps:List Nat} {sn:List (Nat×List Nat)} {j:Nat} {x:Nat×List Nat} (h:sn[j]?=some x):jnS ps (sn.take (j+1))=jnP (jnS ps (sn.take j)) x.2:=by
 unfold jnS
 rw [List.take_add_one,h,List.foldl_append]
 rfl
theorem aE0 {fn:Func} {p:Tmp} (h:fn.results=#[.cell p 52]) (tmps:Array Value) (w:World) (g:Nat) (cs:Array Value) (hp:tmps.getD p undef=.pointer (some ⟨g,0,none⟩)) (hg:w.heap[g]?=some (.cells cs 52 (0,0))) (hz:cs.size=64) :
  (results fn tmps).run Tryz.prog w=.ok (.agg cs) w :=
 results_cell_row h tmps w g 52 cs (0,0) _ hp hg Tryz.underlying52 rfl (by rw [hz];exact aC6)
theorem needed_ok {g p q:Nat} {w:World} {cs:Array Value} {now last:StT} {sv:Value} {left:Int} {ended:Bool} {sn:List (Nat×List Nat)} {cp:Array Value} {ps:List Nat} (hg:w.heap[g]?=some (.cells cs 58 (0,0))) (hT:TV cs p q now last sv left ended) (hsn:SnV w sv sn) (hp:Wd cp 0 ps) (hps:cp.size=64) :
  Calls Tryz.prog 48 #[.pointer (some ⟨g,0,none⟩),.agg cp] w fun e w'=>∃ cr,e=.returned (.agg cr)/\cr.size=64/\Wd cr 0 (jnS ps sn)/\Below w.heap.size w w':=by
 have lt:∀ {k:Nat} {o:Obj} {ww:World},ww.heap[k]?=some o->k<ww.heap.size:=fun e=>(lO e)
 have hz:∀ ww,(zeroValue 52).run Tryz.prog ww=.ok (.agg z76) ww:=fun ww=>by kernel_rfl
 have HX:Hid (((w.alloc (.cells cp 52)).alloc (.cells z76 52)).heap[w.heap.size]?=some (.cells cp 52 (0,0))/\((w.alloc (.cells cp 52)).alloc (.cells z76 52)).heap[w.heap.size+1]?=some (.cells z76 52 (0,0))/\Below w.heap.size w ((w.alloc (.cells cp 52)).alloc (.cells z76 52))):=⟨aAp [Obj.cells cp 52,Obj.cells z76 52] w 0 _ rfl,aAp [Obj.cells cp 52,Obj.cells z76 52] w 1 _ rfl,(aA5 [Obj.cells cp 52,Obj.cells z76 52] w).1⟩
 have HGL:=zH (lt hg)
 have HSV:Hid (cs[136]?=some sv):=hT.s0
 have HSN:=zH hsn
 have HG:=zH hg
 obtain ⟨sa,sc,hsv,_⟩:=hsn.v
 subst hsv
 have hs4:=hsn.n
 have HP:=zH hp
 clear hg hT hsn hp
 generalize hn0:w.heap.size=n0 at *
 generalize hN:sn.length=N at *
 go_enter Tryz.func48,Tryz.ntmps48
 go_upto_region 1 with fail
 generalize ((w.alloc (.cells cp 52)).alloc (.cells z76 52))=w1 at *
 obtain ⟨x0,x1,hb1⟩:=HX.o
 have HX0:=zH x0
 have HX1:=zH x1
 have HB1:=zH hb1
 have HSN1:Hid (SnV w1 (.slice sa N sc) sn):=HSN.o.later (by rw [hn0];exact hb1)
 have c1:w1.cell? ⟨g,136,none⟩=some (.slice sa N sc):=by
  rw [hb1.cell (p:=⟨g,136,none⟩) HGL.o]
  exact (aAa HG.o).trans HSV.o
 clear x0 x1 hb1 HX
 go_wp2_with fail
 go_loopw [12] (fun i wx=>∃ j:Nat,j<=N/\i=.int .i64 j/\PsR n0 n0 0 52 w1 cp (jnS ps (sn.take j)) wx) (fun i _=>N-(intOf i).toNat)
 case atStart=>exact ⟨0,by omega,rfl,PsR.zero HX0.o HP.o⟩
 case round =>
  obtain ⟨j,hj,rfl,hPS⟩:=hrel
  have HPS:=zH hPS
  clear hPS c1
  by_cases hjn:j<N
  ·have xj:(j:Int)<(N:Int):=by omega
   obtain ⟨x,hx⟩:∃ x,sn[j]?=some x:=⟨_,gE (by omega)⟩
   obtain ⟨cj,p1,p2,p3,p4⟩:=HPS.o
   obtain ⟨a1,c1',e1,hcell⟩:=HSN1.o.v
   obtain ⟨gb,ob,e2,e3⟩:=hcell j x hx
   simp only [Value.slice.injEq] at e1
   obtain ⟨rfl,hz9,rfl⟩:=e1
   clear hz9
   subst e2
   obtain ⟨cx,hx1,hx2⟩:=HSN1.o.s x (mG hx)
   have hgx:x.1≠n0:=by
    intro q9
    rw [q9,HX0.o] at hx1
    simp only [oI,cI] at hx1
    exact absurd hx1.2.1 (by decide)
   have hgx2:=(p4.2 x.1 (lt hx1) (by simpa using hgx)).trans hx1
   have hgb:gb≠n0:=by
    intro q9
    subst q9
    rw [aAa HX0.o] at e3
    have hlj:=(lO e3)
    obtain ⟨y,hy⟩:∃ y,ps[ob+j]?=some y:=⟨_,gE (by have:=HP.o.1;omega)⟩
    have h9:=HP.o.2.2 _ y hy
    rw [Nat.zero_add,e3] at h9
    cases h9
   have c3:wr.cell? ⟨gb,ob+j,none⟩=some (.pointer (some ⟨x.1,0,none⟩)):=(World.cell?_of_block (p4.2 gb (block_lt_of_cell e3) (by simpa using hgb))).trans e3
   have HJ:=zH (join_ok (B:=n0) (nR n0) hgx p1 p2 hgx2 hx2)
   have HSX:=zH (jnS_succ (ps:=ps) hx)
   have HS3:=zH p3
   have HX4:=zH p4
   clear p1 p2 p3 p4 hx hx1 hx2 hgx2 e3 hcell
   obtain ⟨xg,xp⟩:=x
   go_wp2_with fail
   refine HJ.o.mono ?_
   rintro e w3 ⟨rfl,c9,r1,r2,r3,r4⟩
   have HR:Hid (PsR n0 n0 0 52 w1 cp (jnS ps (sn.take (j+1))) w3):=by
    rw [HSX.o]
    exact ⟨c9,r1,r2,HS3.o.trans r3,HX4.o.trans r4⟩
   clear r1 r2 r3 r4
   go_wp2_with fail
   go_roundw
   case rel=>exact ⟨j+1,by omega,by go_num,HR.o⟩
   case measure=>simp [intOf];omega
  ·have xj:¬ (j:Int)<(N:Int):=by omega
   have HTT:Hid (sn.take j=sn):=List.take_of_length_le (by omega)
   rw [HTT.o] at HPS
   obtain ⟨cj,p1,p2,p3,p4⟩:=HPS.o
   have hz:cj.size=64:=p3.1.trans hps
   have HLD:=zH (run_loadVar_row (P:=Tryz.prog) wr n0 52 52 cj (0,0) _ p1 Tryz.underlying52 rfl (by rw [hz];exact aC6))
   have y1:=(p4.2 (n0+1) (lt HX1.o) (by simp)).trans HX1.o
   have hst:=aBj (o:=0) y1 (show 0+cj.size<=64 by omega) (p2.one hz)
   rw [aC2 (show cj.size=64 from hz)] at hst
   have HY1:=zH (setRow_heap _ _ _ cj _ _ y1)
   have HBF:Hid (Below n0 w (wr.setRow (n0+1) cj)):=(HB1.o.trans (p4.1)).trans (Ex.row (w:=wr) (show n0<=n0+1 by omega) cj).1
   have HP2:=zH p2
   clear p1 p2 p3 p4 y1
   go_upto_region 6 with fail
   refine wp_region_lit ?_
   refine wpList_load_row rfl (.tmp 3) 52 rfl rfl HLD.o ?_
   go_wp2
   refine bodyPost_ret (aE0 rfl _ _ (n0+1) cj rfl HY1.o hz) rfl ⟨cj,rfl,hz,HP2.o,HBF.o⟩
theorem neededNow_ok {g p q:Nat} {w:World} {cs:Array Value} {now last:StT} {sv:Value} {left:Int} {ended:Bool} {sn:List (Nat×List Nat)} {cp:Array Value} {ps:List Nat} (hg:w.heap[g]?=some (.cells cs 58 (0,0))) (hT:TV cs p q now last sv left ended) (hsn:SnV w sv sn) (hp:Wd cp 0 ps) (hps:cp.size=64) :
  Calls Tryz.prog 71 #[.pointer (some ⟨g,0,none⟩),.agg cp] w fun e w'=>∃ cr,e=.returned (.agg cr)/\cr.size=64/\Wd cr 0 (jnS (jnP ps last.pgs) sn)/\Below w.heap.size w w':=by
 have lt:∀ {k:Nat} {o:Obj} {ww:World},ww.heap[k]?=some o->k<ww.heap.size:=fun e=>(lO e)
 have hz:∀ ww,(zeroValue 52).run Tryz.prog ww=.ok (.agg z76) ww:=fun ww=>by kernel_rfl
 have HX:Hid (((w.alloc (.cells cp 52)).alloc (.cells z76 52)).heap[w.heap.size]?=some (.cells cp 52 (0,0))/\((w.alloc (.cells cp 52)).alloc (.cells z76 52)).heap[w.heap.size+1]?=some (.cells z76 52 (0,0))/\Below w.heap.size w ((w.alloc (.cells cp 52)).alloc (.cells z76 52))):=⟨aAp [Obj.cells cp 52,Obj.cells z76 52] w 0 _ rfl,aAp [Obj.cells cp 52,Obj.cells z76 52] w 1 _ rfl,(aA5 [Obj.cells cp 52,Obj.cells z76 52] w).1⟩
 have HGL:=zH (lt hg)
 have HG:=zH hg
 have HT:=zH hT
 have HSN:=zH hsn
 have HP:=zH hp
 clear hg hT hsn hp
 generalize hn0:w.heap.size=n0 at *
 go_enter Tryz.func71,Tryz.ntmps71
 go_upto_region 1 with fail
 generalize ((w.alloc (.cells cp 52)).alloc (.cells z76 52))=w1 at *
 obtain ⟨x0,x1,hb1⟩:=HX.o
 have HX1:=zH x1
 have HX0:=zH x0
 have HB1:=zH hb1
 have hg1:=(hb1.block g HGL.o).trans HG.o
 have hgn:g≠n0:=by have:=HGL.o;omega
 have HG1:=zH hg1
 have HSN1:Hid (SnV w1 sv sn):=HSN.o.later (by rw [hn0];exact hb1)
 have HJ:=zH (join_ok (B:=n0) (nR n0) hgn x0 HP.o hg1 HT.o.lw)
 clear x0 x1 hb1 hg1
 go_wp2_with fail
 refine HJ.o.mono ?_
 rintro e w2 ⟨rfl,cj,p1,p2,p3,p4⟩
 have hzj:cj.size=64:=p3.1.trans hps
 have hg2:=(p4.2 g (lt HG1.o) (by simpa using hgn)).trans HG1.o
 have hsn2:SnV w2 sv sn:=by
  obtain ⟨a,c,e,h1⟩:=HSN1.o.v
  refine ⟨HSN1.o.n,⟨a,c,e,fun i x hi=>?_⟩,fun x hx=>?_⟩
  ·obtain ⟨gb,ob,e1,e2⟩:=h1 i x hi
   refine ⟨gb,ob,e1,(World.cell?_of_block (p4.2 gb (block_lt_of_cell e2) ?_)).trans e2⟩
   intro q9
   simp only [List.mem_singleton] at q9
   subst q9
   rw [aAa HX0.o] at e2
   have hlj:=(lO e2)
   obtain ⟨y,hy⟩:∃ y,ps[ob+i]?=some y:=⟨_,gE (by have:=HP.o.1;omega)⟩
   have h9:=HP.o.2.2 _ y hy
   rw [Nat.zero_add,e2] at h9
   cases h9
  ·obtain ⟨cx,e1,e2⟩:=HSN1.o.s x hx
   exact ⟨cx,p4.keepX HX0.o e1 (by decide),e2⟩
 have HLD:=zH (run_loadVar_row (P:=Tryz.prog) w2 n0 52 52 cj (0,0) _ p1 Tryz.underlying52 rfl (by rw [hzj];exact aC6))
 have HND:=zH (needed_ok hg2 HT.o hsn2 p2 hzj)
 have HY1:=zH ((p4.2 (n0+1) (lt HX1.o) (by simp)).trans HX1.o)
 have HB2:Hid (Below n0 w w2):=HB1.o.trans p4.1
 clear p1 p2 p3 p4 hg2 hsn2 HJ
 go_wp2_with (refine wpList_load_row rfl (.tmp 3) 52 rfl rfl HLD.o ?_)
 refine HND.o.mono ?_
 rintro e w3 ⟨cr,rfl,hcr,hwd,hb3⟩
 have y3:=(hb3.block _ (lt HY1.o)).trans HY1.o
 have hst:=aBj (o:=0) y3 (show 0+cr.size<=64 by omega) (hwd.one hcr)
 rw [aC2 (show cr.size=64 from hcr)] at hst
 have HY3:=zH (setRow_heap _ _ _ cr _ _ y3)
 have HBF:Hid (Below n0 w (w3.setRow (n0+1) cr)):=(HB2.o.trans (hb3.mono (by have:=HB2.o.size;omega))).trans (Ex.row (w:=w3) (show n0<=n0+1 by omega) cr).1
 have HWD:=zH hwd
 clear hb3 y3 hwd
 go_wp2
 (try simp only [Exit.inBlock,Exit.then])
 refine bodyPost_ret (aE0 rfl _ _ (n0+1) cr rfl HY3.o hcr) rfl ⟨cr,rfl,hcr,HWD.o,HBF.o⟩
def gbK (t:PS) (nd:List Nat):Nat->PS
 | 0=>t
 | k+1=>if 2<=k/\hsP nd k=false/\(gbK t nd k).st.getD k 0=2 then (gbK t nd k).set k 3 else gbK t nd k
theorem aG9 (t:PS) (nd:List Nat):∀ k,(gbK t nd k).st.length=t.st.length/\(gbK t nd k).life=t.life/\(gbK t nd k).num=t.num/\(gbK t nd k).root=t.root/\(∀ i,k<=i->(gbK t nd k).st.getD i 0=t.st.getD i 0)/\∀ i,i<k->i<t.st.length->(gbK t nd k).st.getD i 0=if 2<=i/\hsP nd i=false/\t.st.getD i 0=2 then 3 else t.st.getD i 0
 | 0=>⟨rfl,rfl,rfl,rfl,fun _ _=>rfl,fun i hi=>by omega⟩
 | k+1=>by
  obtain ⟨h1,h2,h3,h4,h5,h6⟩:=aG9 t nd k
  have hk:(gbK t nd k).st.getD k 0=t.st.getD k 0:=h5 k (nR _)
  unfold gbK
  by_cases c:2<=k/\hsP nd k=false/\(gbK t nd k).st.getD k 0=2
  ·rw [if_pos c]
   have hs:∀ i,((gbK t nd k).set k 3).st.getD i 0=if i=k/\k<t.st.length then 3 else (gbK t nd k).st.getD i 0:=by
    intro i
    show ((gbK t nd k).st.set k 3).getD i 0=_
    rw [List.getD_eq_getElem?_getD,List.getElem?_set]
    by_cases e:k=i
    ·subst e
     by_cases l:k<t.st.length
     ·rw [if_pos rfl,if_pos (by omega),if_pos ⟨rfl,l⟩];rfl
     ·rw [if_pos rfl,if_neg (by omega),if_neg (fun q=>l q.2),List.getD_eq_getElem?_getD,List.getElem?_eq_none (by omega)]
    ·rw [if_neg e,if_neg (fun q=>e q.1.symm),List.getD_eq_getElem?_getD]
   refine ⟨List.length_set.trans h1,h2,h3,h4,fun i hi=>?_,fun i hi hl=>?_⟩
   ·rw [hs,if_neg (by omega),h5 i (by omega)]
   ·rw [hs]
    by_cases e:i=k
    ·subst e
     rw [if_pos ⟨rfl,hl⟩,if_pos ⟨c.1,c.2.1,by rw [<-hk];exact c.2.2⟩]
    ·rw [if_neg (fun q=>e q.1),h6 i (by omega) hl]
  ·rw [if_neg c]
   refine ⟨h1,h2,h3,h4,fun i hi=>h5 i (by omega),fun i hi hl=>?_⟩
   by_cases e:i=k
   ·subst e
    rw [hk,if_neg]
    intro q
    exact c ⟨q.1,q.2.1,by rw [hk];exact q.2.2⟩
   ·exact h6 i (by omega) hl
theorem gbK_lo (t:PS) (nd:List Nat):∀ m,m<=2->gbK t nd m=t:=by
 intro m
 induction m with
 | zero=>intro _;rfl
 | succ m ih =>
  intro hm
  unfold gbK
  rw [if_neg (by omega)]
  exact ih (by omega)
theorem Fp.tree [Gd] {B k:Nat} {w w':World} {cs:Array Value} {t:TypeId} {fz:Nat×Nat} (f:Fp B w w') (h:w.heap[k]?=some (.cells cs t fz)) (ht:NT t):w'.heap[k]?=some (.cells cs t fz) :=
 f.stay k cs t fz h (fun q=>ht (by rw [q];decide)) (fun q=>ht (by rw [q];decide)) (fun q=>ht (by rw [q];decide)) (fun q=>ht (by rw [q];decide)) (fun q=>ht (by rw [q];decide)) (fun q=>ht (by rw [q];decide))
theorem giveBack_ok [Gd] {B p q g:Nat} {s:DS} {t:PS} {w:World} {now last:StT} {sv:Value} {left:Int} {sn:List (Nat×List Nat)} (hM:TM B p q g s t now last sv left w) (hsn:SnV w sv sn) :
  Calls Tryz.prog 22 #[.pointer (some ⟨g,0,none⟩)] w fun e w'=>e=.returned (.tuple #[])/\ST B p q s (gbK t (jnS now.pgs sn) s.n) w'/\Fp B w w':=by
 have lt:∀ {k:Nat} {o:Obj} {ww:World},ww.heap[k]?=some o->k<ww.heap.size:=fun e=>(lO e)
 have hz:∀ ww,(zeroValue 52).run Tryz.prog ww=.ok (.agg z76) ww:=fun ww=>by kernel_rfl
 obtain ⟨cs,hg,hT⟩:=hM.tv
 have hsz:(cutW cs 5).size=64:=cutW_size (by rw [hT.sz];decide)
 have HLD:=zH (aEf (w:=w) (g:=g) (o:=5) (ty:=52) (cs:=cutW cs 5) (fun j v hv=>(aAa hg).trans (cutW_get hv)) Tryz.underlying52 rfl (by rw [hsz];exact aC6))
 have HND:=zH (needed_ok hg hT hsn hT.nw.cut hsz)
 have HM:=zH hM
 have HG:=zH hg
 have HT:=zH hT
 have hn4:s.n<=4096:=by rw [<-hM.sn];exact hM.sl
 have HSN:=zH hM.sn
 have HLF:=zH hM.lf
 clear hM hg hT hsn
 generalize jnS now.pgs sn=nd at *
 go_enter Tryz.func22,Tryz.ntmps22
 go_wp2_with (refine wpList_load_row rfl (.tmp 8) 52 rfl rfl HLD.o ?_)
 refine HND.o.mono ?_
 rintro e w1 ⟨cr,rfl,hcr,hwd,hb1⟩
 have x1:(w1.alloc (.cells z76 52)).heap[w1.heap.size]?=some (.cells z76 52 (0,0)):=heap_alloc_new w1 _
 have hst:=aBj (o:=0) x1 (show 0+cr.size<=64 by omega) (hwd.one hcr)
 rw [aC2 (show cr.size=64 from hcr)] at hst
 have HY:=zH (setRow_heap _ _ _ cr _ _ x1)
 have HB2:Hid (Below w.heap.size w ((w1.alloc (.cells z76 52)).setRow w1.heap.size cr)):=below_setRow (hb1.trans ((aAb w1 _).mono hb1.size)) hb1.size cr
 have HWD:=zH hwd
 clear hb1 x1 hwd
 go_upto_region 1 with fail
 generalize ((w1.alloc (.cells z76 52)).setRow w1.heap.size cr)=w2 at *
 generalize hn1:w1.heap.size=n1 at *
 clear hst
 have HST2:=zH (HM.o.st.later HB2.o)
 have HF2:Hid (Fp B w w2):=Fp.of HB2.o HM.o.bw
 go_wp2_with fail
 go_loopw [3] (fun i wx=>∃ j:Nat,2<=j/\i=.int .i64 j/\j<=max 2 s.n/\ST B p q s (gbK t nd j) wx/\Fp B w wx/\wx.heap[n1]?=some (.cells cr 52 (0,0))) (fun i _=>s.n-(intOf i).toNat)
 case atStart =>
  refine ⟨2,by omega,rfl,by omega,?_,HF2.o,HY.o⟩
  rw [gbK_lo t nd 2 (nR _)]
  exact HST2.o
 case round =>
  obtain ⟨j,hj2,rfl,hjm,hst,hfp,hy⟩:=hrel
  have HSTj:=zH hst
  have HFPj:=zH hfp
  have HYj:=zH hy
  have hgj:=hfp.tree HG.o (by decide)
  have r0:wr.cell? ⟨g,0,none⟩=some (.pointer (some ⟨p,0,none⟩)):=(aAa hgj).trans HT.o.c0
  have r1:wr.cell? ⟨g,1,none⟩=some (.pointer (some ⟨q,0,none⟩)):=(aAa hgj).trans HT.o.c1
  have HBL:=zH (aCw B p s wr hst.1)
  have HBw:Hid (B<=wr.heap.size):=nT HM.o.bw hfp.bel.size
  clear hst hfp hy hgj
  by_cases hjn:j<s.n
  ·have xj:(j:Int)<((s.n:Nat):Int):=by omega
   have HHS:=zH (has_ok HYj.o HWD.o (show j<4096 by omega))
   go_wp2_with fail
   refine HBL.o.mono ?_
   rintro e w3 ⟨rfl,rfl⟩
   go_wp2_with fail
   refine HHS.o.mono ?_
   rintro e w4 ⟨rfl,rfl⟩
   cases hb:hsP nd j with
   | true =>
    have HK:Hid (gbK t nd (j+1)=gbK t nd j):=by
     show _=_
     conv=>lhs;unfold gbK
     rw [if_neg (fun q9=>by rw [hb] at q9;exact absurd q9.2.1 (by decide))]
    go_wp2_with fail
    go_roundw
    case rel=>exact ⟨j+1,by omega,by go_num,by omega,by rw [HK.o];exact HSTj.o,HFPj.o,HYj.o⟩
    case measure=>simp [intOf];omega
   | false =>
    have hgl:=(aG9 t nd j).1
    by_cases hs2:(gbK t nd j).st.getD j 0=2
    ·have HK:Hid (gbK t nd (j+1)=(gbK t nd j).set j 3):=by
      show _=_
      conv=>lhs;unfold gbK
      rw [if_pos ⟨hj2,hb,hs2⟩]
     have HFR:=zH (free_ok j HSTj.o HBw.o (by rw [(aG9 t nd j).2.1];exact HLF.o) (by rw [hgl,HSN.o];exact hjn) hs2)
     clear hs2 hgl hb
     go_wp2_with fail
     refine HFR.o.mono ?_
     rintro e w5 ⟨rfl,h1,h2⟩
     have H1:=zH h1
     have H2:=zH (HFPj.o.trans h2)
     have HY5:=zH (h2.tree HYj.o (by decide))
     clear h1 h2
     go_wp2_with fail
     go_roundw
     case rel=>exact ⟨j+1,by omega,by go_num,by omega,by rw [HK.o];exact H1.o,H2.o,HY5.o⟩
     case measure=>simp [intOf];omega
    ·have HK:Hid (gbK t nd (j+1)=gbK t nd j):=by
      show _=_
      conv=>lhs;unfold gbK
      rw [if_neg (fun q9=>hs2 q9.2.2)]
     have HFR:=zH (free_arg (j:Int) HSTj.o (by rw [(aG9 t nd j).2.1];exact HLF.o) (by rw [aBb];exact hs2) (by omega))
     clear hs2 hgl hb
     go_wp2_with fail
     refine HFR.o.mono ?_
     rintro e w5 ⟨rfl,h1⟩
     have H1:=zH (HSTj.o.later h1)
     have H2:=zH (HFPj.o.trans (Fp.of h1 HBw.o))
     have HY5:=zH ((h1.block _ (lt HYj.o)).trans HYj.o)
     clear h1
     go_wp2_with fail
     go_roundw
     case rel=>exact ⟨j+1,by omega,by go_num,by omega,by rw [HK.o];exact H1.o,H2.o,HY5.o⟩
     case measure=>simp [intOf];omega
  ·have xj:¬ (j:Int)<((s.n:Nat):Int):=by omega
   go_wp2_with fail
   refine HBL.o.mono ?_
   rintro e w3 ⟨rfl,rfl⟩
   go_wp2
   (try simp only [Exit.inBlock,Exit.then])
   refine bodyPost_end (results_none rfl _ _ _) rfl ⟨rfl,?_,HFPj.o⟩
   have e:gbK t nd j=gbK t nd s.n:=by
    by_cases c:s.n<2
    ·rw [gbK_lo t nd j (by omega),gbK_lo t nd s.n (by omega)]
    ·rw [show j=s.n by omega]
   rw [<-e]
   exact HSTj.o
theorem cmt_facts {s:DS} {num root:Nat} (ha:s.after<1) (hd:s.down=false) (hn:2<=s.n):(s.commit num root).2=0/\(s.commit num root).1.down=false/\(s.commit num root).1.n=s.n/\(s.commit num root).1.life=s.life/\(s.commit num root).1.m=0/\(s.commit num root).1.after<1/\∀ b,b<s.n->(s.commit num root).1.show b=if b=num % 2 then headB num root else s.show b:=by
 have h1:¬ s.after=1:=by omega
 obtain ⟨f1,f2,f3,f4,f5⟩:=aC0 hd h1
 have fi:=aIb hd h1
 have fa:s.flush.after=s.after:=by rw [fi,aFp ha];rfl
 have h2:¬ s.flush.after=1:=by rw [fa];omega
 have ht:s.flush.tick=s.flush:=aFp (by rw [fa];exact ha)
 rw [commit_is rfl h1 h2,ht]
 have w1:(s.flush.wrote (num % 2) (headB num root)).down=false:=f2
 have w2:(s.flush.wrote (num % 2) (headB num root)).after=s.after:=fa
 have w3:¬ (s.flush.wrote (num % 2) (headB num root)).after=1:=by rw [w2];exact h1
 obtain ⟨g1,g2,g3,g4,g5⟩:=aC0 w1 w3
 have gi:=aIb w1 w3
 have hwn:(s.flush.wrote (num % 2) (headB num root)).n=s.n:=f3
 refine ⟨g1,g2,g3.trans hwn,g5.trans f5,g4,?_,fun b hb=>?_⟩
 ·rw [gi,aFp (by rw [w2];exact ha)]
  show (s.flush.wrote (num % 2) (headB num root)).after<1
  rw [w2];exact ha
 ·rw [aGx w1 w3 b (by rw [hwn];exact hb),aEq]
  by_cases c:b=num % 2
  ·rw [if_pos c,if_pos c]
  ·rw [if_neg c,if_neg c,aGx hd h1 b hb]
structure Cmt (s:DS) (t:PS) (nd:List Nat) (root:Nat) (s':DS) (t':PS):Prop where
 life:s'.life=s.life
 tlife:t'.life=t.life
 down:s'.down=false
 after:s'.after<1
 n:s'.n=s.n
 m:s'.m=0
 len:t'.st.length=t.st.length
 num:t'.num=t.num+1
 rt:t'.root=root
 st:∀ i,i<t.st.length->t'.st.getD i 0=if t.st.getD i 0=3\/(2<=i/\hsP nd i=false/\t.st.getD i 0=2) then 1 else t.st.getD i 0
 sh:∀ i,i<s.n->s'.show i=if i=(t.num+1) % 2 then headB (t.num+1) root else s.show i
theorem backF_get {st:List Nat} {i:Nat} (hi:i<st.length):(backF st).getD i 0=if st.getD i 0=3 then 1 else st.getD i 0:=by
 unfold backF
 rw [List.getD_eq_getElem?_getD,List.getElem?_map,List.getD_eq_getElem?_getD,gE hi]
 rfl
theorem cmt_of {s:DS} {t:PS} {nd:List Nat} {root:Nat} (ha:s.after<1) (hd:s.down=false) (hn:2<=s.n) (hsn:t.st.length=s.n):Cmt s t nd root (s.commit (t.num+1) root).1 ((gbK t nd s.n).committed root):=by
 obtain ⟨c1,c2,c3,c4,c5,c6,c7⟩:=cmt_facts (num:=t.num+1) (root:=root) ha hd hn
 obtain ⟨g1,g2,g3,g4,g5,g6⟩:=aG9 t nd s.n
 refine ⟨c4,g2,c2,c6,c3,c5,?_,by show (gbK t nd s.n).num+1=_;rw [g3],rfl,fun i hi=>?_,c7⟩
 ·show (backF _).length=_
  rw [backF,List.length_map,g1]
 ·show (backF _).getD i 0=_
  rw [backF_get (by rw [g1];exact hi),g6 i (by omega) hi]
  by_cases e:2<=i/\hsP nd i=false/\t.st.getD i 0=2
  ·rw [if_pos e,if_pos (Or.inr e)]
   simp
  ·rw [if_neg e]
   by_cases e2:t.st.getD i 0=3
   ·rw [if_pos e2,if_pos (Or.inl e2)]
   ·rw [if_neg e2,if_neg (by rintro (q | q)<;>contradiction)]
theorem Cmt.keep {s s':DS} {t t':PS} {nd:List Nat} {root i:Nat} (h:Cmt s t nd root s' t') (hs:t.st.getD i 0=2) (hh:hsP nd i=true):t'.st.getD i 0=2:=by
 have hl:i<t.st.length:=by
  apply Classical.byContradiction
  intro q
  rw [List.getD_eq_getElem?_getD,List.getElem?_eq_none (by omega)] at hs
  cases hs
 rw [h.st i hl,if_neg,hs]
 rintro (q | q)
 ·omega
 ·rw [hh] at q
  exact absurd q.2.1 (by decide)
theorem PgI.cmt {s s':DS} {t t':PS} {nd:List Nat} {root i:Nat} {b:List Nat} (h:PgI s t i b) (c:Cmt s t nd root s' t') (hh:hsP nd i=true) (h2:2<=i):PgI s' t' i b:=by
 have ho:=h.of
 rw [aBb] at ho
 refine ⟨by rw [c.n];exact h.lt,by rw [aBb];exact c.keep ho hh,?_,h.ln,h.bt⟩
 rw [c.sh i h.lt,if_neg (by omega)]
 exact h.pg
theorem OnD.cmt {s s':DS} {t t':PS} {nd:List Nat} {root:Nat} (c:Cmt s t nd root s' t') (hd:t.st.getD 0 0=0/\t.st.getD 1 0=0):∀ {h:Nat} {b:BT h},OnD s t h b->(∀ i∈pgB h b,hsP nd i=true)->OnD s' t' h b
 | 0,b,⟨hp,hi⟩,hh=>⟨hp.cmt c (hh _ (List.mem_singleton.2 rfl)) (held2 hp hd),hi⟩
 | h+1,b,⟨hp,hi,h3,h4,h5⟩,hh=>⟨hp.cmt c (hh _ List.mem_cons_self) (held2 hp hd),hi,h3,h4,fun k hk=>OnD.cmt c hd (h5 k hk) fun i hi=>hh i (List.mem_cons_of_mem _ (List.mem_flatten.2 ⟨_,List.mem_map_of_mem hk,hi⟩))⟩
where
 held2 {s:DS} {t:PS} {i:Nat} {b:List Nat} (h:PgI s t i b) (hd:t.st.getD 0 0=0/\t.st.getD 1 0=0):2<=i:=by
  have ho:=h.of
  rw [aBb] at ho
  apply Classical.byContradiction
  intro q
  rcases (by omega:i=0\/i=1) with e | e
  ·rw [e,hd.1] at ho;cases ho
  ·rw [e,hd.2] at ho;cases ho
theorem Tr.cmt {s s':DS} {t t':PS} {nd:List Nat} {root:Nat} {st:StT} {l:List It} (h:Tr s t st l) (c:Cmt s t nd root s' t') (hd:t.st.getD 0 0=0/\t.st.getD 1 0=0) (hn:∀ i,i<4096->hsP st.pgs i=true->hsP nd i=true):Tr s' t' st l:=by
 rcases h with h | ⟨h,b,e1,e2,e3,e4,e5,e6,e7,e8,e9⟩
 ·exact Or.inl h
 ·exact Or.inr ⟨h,b,e1,e2,e3,e4,e5,e6.cmt c hd (fun i hi=>hn i (e9.2.2.1 i hi) (by rw [e9.2.2.2 i];simpa using hi)),e7,e8,e9⟩
theorem jnS_sub:∀ (sn:List (Nat×List Nat)) (ps:List Nat),ps.length=64->(∀ x∈sn,x.2.length=64)->(jnS ps sn).length=64/\(∀ i,i<4096->hsP ps i=true->hsP (jnS ps sn) i=true)/\∀ x∈sn,∀ i,i<4096->hsP x.2 i=true->hsP (jnS ps sn) i=true
 | [],ps,h,_=>⟨h,fun _ _ h=>h,fun x hx=>by simp at hx⟩
 | y::sn,ps,h,hs=>by
  have hy:=hs y List.mem_cons_self
  obtain ⟨a1,a2,a3⟩:=jnS_sub sn (jnP ps y.2) (jnP_len h hy) fun x hx=>hs x (List.mem_cons_of_mem _ hx)
  refine ⟨a1,fun i hi hp=>a2 i hi ?_,fun x hx i hi hp=>?_⟩
  ·rw [hs_jn h hy hi,hp];rfl
  ·rcases List.mem_cons.1 hx with q | q
   ·rw [q] at hp
    refine a2 i hi ?_
    rw [hs_jn h hy hi,hp];simp
   ·exact a3 x q i hi hp
def cutS (cs:Array Value) (o:Nat):Array Value:=((cs.toList.drop o).take 67).toArray
theorem cutS_size {cs:Array Value} {o:Nat} (h:o+67<=cs.size):(cutS cs o).size=67:=by
 unfold cutS
 simp;omega
theorem aB3 {cs:Array Value} {o j:Nat} (hj:j<67):(cutS cs o)[j]?=cs[o+j]?:=by
 unfold cutS
 rw [List.getElem?_toArray,List.getElem?_take,if_pos hj,List.getElem?_drop,Array.getElem?_toList]
theorem aGh {cs:Array Value} {o j:Nat} {v:Value} (h:(cutS cs o)[j]?=some v):cs[o+j]?=some v:=by
 have hl:=(lO h)
 have:(cutS cs o).size<=67:=by unfold cutS;simp;omega
 rw [aB3 (by omega)] at h
 exact h
theorem TV.nowS {cs:Array Value} {p q:Nat} {now last:StT} {sv:Value} {left:Int} {ended:Bool} (h:TV cs p q now last sv left ended):StV (cutS cs 2) now.root now.depth now.keys now.pgs :=
 ⟨cutS_size (by rw [h.sz];decide),(aB3 (by decide)).trans h.n0,(aB3 (by decide)).trans h.n1,(aB3 (by decide)).trans h.n2,⟨h.nw.1,h.nw.2.1,fun i x hi=>by
  have hl:=(lL hi)
  have:=h.nw.1
  rw [aB3 (by omega),show 2+(3+i)=5+i by omega]
  exact h.nw.2.2 i x hi⟩⟩
theorem TV.lastS {cs:Array Value} {p q:Nat} {now last:StT} {sv:Value} {left:Int} {ended:Bool} (h:TV cs p q now last sv left ended):StV (cutS cs 69) last.root last.depth last.keys last.pgs :=
 ⟨cutS_size (by rw [h.sz];decide),(aB3 (by decide)).trans h.l0,(aB3 (by decide)).trans h.l1,(aB3 (by decide)).trans h.l2,⟨h.lw.1,h.lw.2.1,fun i x hi=>by
  have hl:=(lL hi)
  have:=h.lw.1
  rw [aB3 (by omega),show 69+(3+i)=72+i by omega]
  exact h.lw.2.2 i x hi⟩⟩
theorem TV.setLast {cs c:Array Value} {p q:Nat} {now last st:StT} {sv:Value} {left:Int} {ended:Bool} (h:TV cs p q now last sv left ended) (hc:StV c st.root st.depth st.keys st.pgs):TV (spl cs 69 c) p q now st sv left ended:=by
 have hz:69+c.size<=cs.size:=by rw [h.sz,hc.sz];decide
 have ou:∀ i,i<69\/136<=i->(spl cs 69 c)[i]?=cs[i]?:=fun i hi=>spl_out hz (by rw [hc.sz];omega)
 have inn:∀ i,i<67->(spl cs 69 c)[69+i]?=c[i]?:=fun i hi=>spl_in hz (by rw [hc.sz];exact hi)
 refine ⟨(spl_size hz).trans h.sz,(ou 0 (by omega)).trans h.c0,(ou 1 (by omega)).trans h.c1,(ou 2 (by omega)).trans h.n0,(ou 3 (by omega)).trans h.n1,(ou 4 (by omega)).trans h.n2,h.nw.same fun k h1 h2=>ou k (by omega),(inn 0 (by omega)).trans hc.c0,(inn 1 (by omega)).trans hc.c1,(inn 2 (by omega)).trans hc.c2,⟨hc.wd.1,hc.wd.2.1,fun i x hi=>?_⟩,(ou 136 (by omega)).trans h.s0,(ou 137 (by omega)).trans h.s1,(ou 138 (by omega)).trans h.s2⟩
 have hl:=(lL hi)
 have:=hc.wd.1
 rw [show 72+i=69+(3+i) by omega,inn (3+i) (by omega)]
 exact hc.wd.2.2 i x hi
theorem TV.setNow {cs c:Array Value} {p q:Nat} {now last st:StT} {sv:Value} {left:Int} {ended:Bool} (h:TV cs p q now last sv left ended) (hc:StV c st.root st.depth st.keys st.pgs):TV (spl cs 2 c) p q st last sv left ended:=by
 have hz:2+c.size<=cs.size:=by rw [h.sz,hc.sz];decide
 have ou:∀ i,i<2\/69<=i->(spl cs 2 c)[i]?=cs[i]?:=fun i hi=>spl_out hz (by rw [hc.sz];omega)
 have inn:∀ i,i<67->(spl cs 2 c)[2+i]?=c[i]?:=fun i hi=>spl_in hz (by rw [hc.sz];exact hi)
 refine ⟨(spl_size hz).trans h.sz,(ou 0 (by omega)).trans h.c0,(ou 1 (by omega)).trans h.c1,(inn 0 (by omega)).trans hc.c0,(inn 1 (by omega)).trans hc.c1,(inn 2 (by omega)).trans hc.c2,⟨hc.wd.1,hc.wd.2.1,fun i x hi=>?_⟩,(ou 69 (by omega)).trans h.l0,(ou 70 (by omega)).trans h.l1,(ou 71 (by omega)).trans h.l2,h.lw.same fun k h1 h2=>ou k (by omega),(ou 136 (by omega)).trans h.s0,(ou 137 (by omega)).trans h.s1,(ou 138 (by omega)).trans h.s2⟩
 have hl:=(lL hi)
 have:=hc.wd.1
 rw [show 5+i=2+(3+i) by omega,inn (3+i) (by omega)]
 exact hc.wd.2.2 i x hi
theorem ST.rowT [Gd] {B p q g:Nat} {s:DS} {t:PS} {w:World} {cs:Array Value} (h:ST B p q s t w) (hB:B<=g) (hg:w.heap[g]?=some (.cells cs 58 (0,0))) (c:Array Value):ST B p q s t (w.setRow g c):=h.exT (Ex.row hB c) hg
theorem ChF.fp [Gd] {B g:Nat} {w w':World} (f:Fp B w w'):ChF B g w w':=⟨f.bel,fun k cs t fz e ht _=>f.tree e ht,f.gd⟩
theorem ChF.trans [Gd] {B g:Nat} {a b c:World} (h:ChF B g a b) (k:ChF B g b c):ChF B g a c:=⟨h.1.trans k.1,fun i cs t fz e h1 h2=>k.2 i cs t fz (h.2 i cs t fz e h1 h2) h1 h2,h.gd.trans k.gd⟩
theorem ChF.row [Gd] {B g:Nat} {w:World} (hB:B<=g) {cg:Array Value} (hg:w.heap[g]?=some (.cells cg 58 (0,0))) (c:Array Value):ChF B g w (w.setRow g c):=⟨(Ex.row hB c).1,fun i cs t fz e h1 h2=>by rw [(Ex.row (w:=w) hB c).2 i (lO e) (by simpa using h2),e],(Ex.row hB c).gdk hg (by unfold DTy;decide)⟩
theorem ChF.cell [Gd] {B g o:Nat} {w:World} {u:Value} (hB:B<=g) {cg:Array Value} (hg:w.heap[g]?=some (.cells cg 58 (0,0))):ChF B g w (w.setCell ⟨g,o,none⟩ u):=⟨(Ex.set hB).1,fun i cs t fz e h1 h2=>by rw [(Ex.set (w:=w) (o:=o) (u:=u) hB).2 i (lO e) (by simpa using h2),e],(Ex.set hB).gdk hg (by unfold DTy;decide)⟩
theorem ChF.of [Gd] {B g:Nat} {w w':World} (h:Below w.heap.size w w') (hB:B<=w.heap.size):ChF B g w w':=⟨h.mono hB,fun i cs t fz e _ _=>(h.block i (lO e)).trans e,GdK.of h⟩
theorem Commit_ok [Gd] {B p q g:Nat} {s:DS} {t:PS} {w:World} {now last:StT} {sv:Value} {left:Int} {sn:List (Nat×List Nat)} {l:List It} (hM:TM B p q g s t now last sv left w) (hTr:Tr s t now l) (hsn:SnV w sv sn) (hn2:2<=s.n) (hnum:t.num<4611686018427387904) :
  Calls Tryz.prog 6 #[.pointer (some ⟨g,0,none⟩)] w fun e w'=>e=.returned (.int .i64 0)/\∃ s' t',Cmt s t (jnS now.pgs sn) now.root.toNat s' t'/\TM B p q g s' t' now now sv (cntF t'.st:Nat) w'/\ChF B g w w':=by
 obtain ⟨R,hR,hRp,hR4⟩:∃ R:Nat,now.root=(R:Int)/\(R=0\/(t.st.getD R 0=2/\hsP (jnS now.pgs sn) R=true))/\R<=4096:=by
  rcases hTr with ⟨r1,_⟩ | ⟨h,b,e1,e2,e3,e4,e5,e6,e7,e8,e9⟩
  ·exact ⟨0,r1,Or.inl rfl,by omega⟩
  ·have h2:=e6.held _ (aGb b)
   have h3:=e9.2.2.1 _ (aGb b)
   refine ⟨BT.id b,e1,Or.inr ⟨h2.1,?_⟩,by omega⟩
   refine (jnS_sub sn now.pgs e9.1 (fun x hx=>?_)).2.1 _ h3 (by rw [e9.2.2.2];simpa using aGb b)
   obtain ⟨cx,_,hw⟩:=hsn.s x hx
   exact hw.1
 have hRn:now.root.toNat=R:=by rw [hR];exact Int.toNat_natCast R
 rw [hRn]
 have HCM:=zH (cmt_of (t:=t) (nd:=jnS now.pgs sn) (root:=R) hM.af hM.dn hn2 hM.sn)
 obtain ⟨cs,hg,hT⟩:=hM.tv
 have HDE:=zH (aDe hM.st hM.lf hg hT)
 have HGB:=zH (fun (ww:World) (hb:Below w.heap.size w ww)=>giveBack_ok (hM.later hb) (hsn.later hb))
 have HM:=zH hM
 have HG:=zH hg
 have HT:=zH hT
 obtain ⟨k1,k2,k3,k4,k5,k6⟩:=aG9 t (jnS now.pgs sn) s.n
 have HGC:=zH (show ∀ (ww:World),ST B p q s (gbK t (jnS now.pgs sn) s.n) ww->B<=ww.heap.size->Calls Tryz.prog 23 #[.pointer (some ⟨q,0,none⟩),.int .i64 (R:Int)] ww fun e w'=>e=.returned (.int .i64 0)/\ST B p q (s.commit (t.num+1) R).1 ((gbK t (jnS now.pgs sn) s.n).committed R) w'/\Fp B ww w' from fun ww hs hb=>by
  have hc:=commit_any (root:=R) hs hb (by rw [k2];exact hM.lf) hM.dn hn2 hM.l1 (by
   rcases hRp with h9 | h9
   ·exact Or.inl h9
   ·right
    have hl:R<t.st.length:=by
     apply Classical.byContradiction
     intro q9
     have h8:=h9.1
     rw [List.getD_eq_getElem?_getD,List.getElem?_eq_none (by omega)] at h8
     cases h8
    rw [aBb,k6 R (by rw [<-hM.sn];exact hl) hl,if_neg,h9.1]
    intro q9
    rw [h9.2] at q9
    exact absurd q9.2.1 (by decide)) hR4 (by rw [k3];exact hnum)
  rw [k3] at hc
  have h0:=(cmt_facts (num:=t.num+1) (root:=R) hM.af hM.dn hn2).1
  rw [h0] at hc
  simpa using hc)
 have HTR1:=zH hR
 clear hM hg hT hTr hsn k1 k2 k3 k4 k5 k6 hRp hRn
 generalize (s.commit (t.num+1) R).1=s1 at *
 generalize ((gbK t (jnS now.pgs sn) s.n).committed R)=t1 at *
 generalize hnd:jnS now.pgs sn=nd at *
 go_enter Tryz.func6,Tryz.ntmps6
 go_wp2_with fail
 refine HDE.o.mono ?_
 rintro e w1 ⟨rfl,hb1⟩
 have HGB1:=zH (HGB.o w1 hb1)
 have HF1:=zH (Fp.of hb1 HM.o.bw)
 clear hb1 HDE HGB
 go_wp2_with fail
 refine HGB1.o.mono ?_
 rintro e w2 ⟨rfl,h1,h2⟩
 have HST2:=zH h1
 have HF2:=zH (HF1.o.trans h2)
 have HG2:=zH (HF2.o.tree HG.o (by decide))
 have HBw2:Hid (B<=w2.heap.size):=nT HM.o.bw HF2.o.bel.size
 clear h1 h2 HGB1
 go_upto_region 4 with fail
 have HX0:Hid ((fun wx=>wx.cell? ⟨g,1,none⟩=some (.pointer (some ⟨q,0,none⟩))/\wx.cell? ⟨g,2,none⟩=some (.int .i64 (R:Int))) w2.drew):=⟨(aAa HG2.o).trans HT.o.c1,by rw [<-HTR1.o];exact (aAa HG2.o).trans HT.o.n0⟩
 have HCC:=zH (HGC.o w2.drew (HST2.o.later (Below.refl _ _).drew) HBw2.o)
 refine wp_region_noPanic ?_
 refine wp_region_held_drew (S:=fun wx=>wx.cell? ⟨g,1,none⟩=some (.pointer (some ⟨q,0,none⟩))/\wx.cell? ⟨g,2,none⟩=some (.int .i64 (R:Int))) (by kernel_rfl) HX0.o (fun hHeld=>?_)
 refine kT 0 8 ?_
 refine kT 1 9 ?_
 refine kT 2 10 ?_
 refine kT 3 11 ?_
 refine kT 4 12 ?_
 refine kT 5 13 ?_
 refine kT 6 14 ?_
 refine kT 7 15 ?_
 refine kT 8 16 ?_
 refine kC 9 ?_;intro K hK
 go_simp
 refine HCC.o.mono ?_
 rintro e w3 ⟨rfl,h1,h2⟩
 have HST3:=zH h1
 have HF3:=zH (HF2.o.trans ((Fp.of (Below.refl _ _).drew HBw2.o).trans h2))
 have HG3:=zH (HF3.o.tree HG.o (by decide))
 have HX1:Hid ((fun wx=>wx.cell? ⟨g,1,none⟩=some (.pointer (some ⟨q,0,none⟩))/\wx.cell? ⟨g,2,none⟩=some (.int .i64 (R:Int))) w3):=⟨(aAa HG3.o).trans HT.o.c1,by rw [<-HTR1.o];exact (aAa HG3.o).trans HT.o.n0⟩
 clear h1 h2 hHeld
 refine hK.out _ _ HX1.o (fun hHeld=>?_)
 clear hK K
 try simp only [Act.put,siT,scZ,scS]
 refine kT 10 3 ?_
 refine wpAnyH_done (by kernel_rfl) ?_ _
 refine NoPanic.normal ?_
 clear hHeld HX0 HX1
 have HLD:=zH (aEf (w:=w3) (g:=g) (o:=2) (ty:=54) (cs:=cutS cs 2) (fun j v hv=>(aAa HG3.o).trans (aGh hv)) Tryz.underlying54 rfl (by rw [HT.o.nowS.sz];exact aBl))
 have hst:=aBj (o:=69) HG3.o (by rw [HT.o.nowS.sz,HT.o.sz];decide) HT.o.nowS.one
 have hcz:(cutS cs 2).size=67:=HT.o.nowS.sz
 have HT4:=zH (HT.o.setLast (st:=now) HT.o.nowS)
 have HG4:=zH (setRow_heap _ _ _ (spl cs 69 (cutS cs 2)) _ _ HG3.o)
 have HST4:=zH (HST3.o.rowT HM.o.bg HG3.o (spl cs 69 (cutS cs 2)))
 have HC4:Hid (ChF B g w (w3.setRow g (spl cs 69 (cutS cs 2)))):=(ChF.fp HF3.o).trans (ChF.row HM.o.bg HG3.o _)
 generalize hcs4:spl cs 69 (cutS cs 2)=cs4 at *
 generalize hw4:w3.setRow g cs4=w4 at *
 have r1:w4.cell? ⟨g,1,none⟩=some (.pointer (some ⟨q,0,none⟩)):=(aAa HG4.o).trans HT4.o.c1
 have r7:w4.cell? ⟨g,137,none⟩=some (.int .i64 left):=(aAa HG4.o).trans HT4.o.s1
 have f7:w4.frozen? ⟨g,137,none⟩=false:=aAc HG4.o
 have HLF:=zH (aEg HST4.o)
 go_wp2_with (refine wpList_load_row rfl (.tmp 27) 54 rfl rfl HLD.o ?_)
 refine HLF.o.mono ?_
 rintro e w5 ⟨rfl,rfl⟩
 go_wp2
 go_ret
 refine ⟨rfl,s1,t1,HCM.o,⟨HST4.o.exT (Ex.set HM.o.bg) HG4.o,nT (nT HM.o.bw HC4.o.1.size) (Ex.set (B:=B) (w:=w5) HM.o.bg).1.size,HM.o.bg,⟨_,heap_setCell_same _ _ _ _ _ _ HG4.o,HT4.o.lft⟩,by rw [HCM.o.life,HCM.o.tlife];exact HM.o.lf,HCM.o.down,HCM.o.after,by rw [HCM.o.life];exact HM.o.l1,by rw [HCM.o.len,HCM.o.n];exact HM.o.sn,?_⟩,HC4.o.trans (ChF.cell HM.o.bg HG4.o)⟩
 have hl2:2<=t.st.length:=by rw [HM.o.sn];exact hn2
 refine ⟨?_,?_⟩
 ·rw [HCM.o.st 0 (by omega),HM.o.hd.1,if_neg (by omega)]
 ·rw [HCM.o.st 1 (by omega),HM.o.hd.2,if_neg (by omega)]
theorem ins_list (o:Nat):∀ (l:List Value) (k:Nat) (base:Array Value),(o+k+l.length<=base.size)->((l.zipIdx k).foldl (fun cs x=>cs.setIfInBounds (o+x.2) x.1) base).size=base.size/\∀ i,((l.zipIdx k).foldl (fun cs x=>cs.setIfInBounds (o+x.2) x.1) base)[i]?=if o+k<=i/\i<o+k+l.length then l[i-(o+k)]? else base[i]?
 | [],k,base,_=>⟨rfl,fun i=>by simp only [List.zipIdx_nil,List.foldl_nil,List.length_nil,Nat.add_zero];rw [if_neg (by omega)]⟩
 | v::l,k,base,h=>by
  simp only [List.length_cons] at h
  obtain ⟨h1,h2⟩:=ins_list o l (k+1) (base.setIfInBounds (o+k) v) (by rw [Array.size_setIfInBounds];omega)
  rw [List.zipIdx_cons,List.foldl_cons]
  refine ⟨h1.trans Array.size_setIfInBounds,fun i=>?_⟩
  rw [h2 i]
  by_cases c1:i=o+k
  ·subst c1
   rw [if_neg (by omega),if_pos (by simp),Nat.sub_self,Array.getElem?_setIfInBounds_self_of_lt (by omega)]
   rfl
  ·by_cases c2:o+k<=i/\i<o+k+(v::l).length
   ·have c3:o+(k+1)<=i/\i<o+(k+1)+l.length:=by simp only [List.length_cons] at c2;omega
    rw [if_pos c3,if_pos c2,show i-(o+k)=(i-(o+(k+1)))+1 by omega]
    rfl
   ·have c3:¬ (o+(k+1)<=i/\i<o+(k+1)+l.length):=by simp only [List.length_cons] at c2;omega
    rw [if_neg c3,if_neg c2,Array.getElem?_setIfInBounds_ne (Ne.symm c1)]
theorem aF9 {base vs:Array Value} {o n:Nat} (hn:vs.size=n) (h:o+n<=base.size):(Array.foldl (fun (cs:Array Value) (x:Value×Nat)=>cs.setIfInBounds (o+x.2) x.1) base vs.zipIdx 0 n).size=base.size/\∀ i,(Array.foldl (fun (cs:Array Value) (x:Value×Nat)=>cs.setIfInBounds (o+x.2) x.1) base vs.zipIdx 0 n)[i]?=if o<=i/\i<o+n then vs[i-o]? else base[i]?:=by
 have e:Array.foldl (fun (cs:Array Value) (x:Value×Nat)=>cs.setIfInBounds (o+x.2) x.1) base vs.zipIdx 0 n=(vs.toList.zipIdx 0).foldl (fun cs x=>cs.setIfInBounds (o+x.2) x.1) base:=by
  have hs:vs.zipIdx.size=n:=by rw [Array.size_zipIdx,hn]
  rw [<-hs,<-Array.foldl_toList,Array.toList_zipIdx]
 rw [e]
 obtain ⟨h1,h2⟩:=ins_list o vs.toList 0 base (by rw [Array.length_toList,hn];omega)
 refine ⟨h1,fun i=>?_⟩
 rw [h2 i,Array.length_toList,hn,Nat.add_zero]
 by_cases c:o<=i/\i<o+n
 ·rw [if_pos c,if_pos c,Array.getElem?_toList]
 ·rw [if_neg c,if_neg c]
theorem info_snp:(Tryz.prog.info? 75).map (fun i=>(i.zero,i.size,i.bytes))=some (some (.pointer none),1,8):=by kernel_rfl
structure SpC (cn:Array Value) (g:Nat) (st:StT):Prop where
 c0:cn[0]?=some (.pointer (some ⟨g,0,none⟩))
 c1:cn[1]?=some (.int .i64 st.root)
 c2:cn[2]?=some (.int .i64 st.depth)
 c3:cn[3]?=some (.int .i64 st.keys)
 wd:Wd cn 4 st.pgs
def snC (sn:List (Nat×StT)):List Value:=sn.map fun x=>.pointer (some ⟨x.1,0,none⟩)
structure SnO (B:Nat) (w:World) (g:Nat) (sv:Value) (sn:List (Nat×StT)):Prop where
 n:sn.length<=4
 v:w.ownsRow B 75 1 sv sn.length (snC sn)
 s:∀ x∈sn,∃ cx,w.heap[x.1]?=some (.cells cx 124 (0,0))/\SpC cx g x.2
def snP (sn:List (Nat×StT)):List (Nat×List Nat):=sn.map fun x=>(x.1,x.2.pgs)
theorem SnO.snv {B g:Nat} {w:World} {sv:Value} {sn:List (Nat×StT)} (h:SnO B w g sv sn):SnV w sv (snP sn):=by
 obtain ⟨a,c,e⟩:=aAf h.v
 have hl:(snP sn).length=sn.length:=List.length_map _
 refine ⟨by rw [hl];exact h.n,⟨a,c,by rw [hl];exact e,fun i x hi=>?_⟩,fun x hx=>?_⟩
 ·rw [snP,List.getElem?_map] at hi
  obtain ⟨y,hy,rfl⟩:=Option.map_eq_some_iff.1 hi
  have hlt:=(lL hy)
  rcases h.v.2 with ⟨_,e0⟩ | ⟨gb,cap,cur,e1,_,hc,_,_,h4,h5⟩
  ·omega
  ·rw [e] at e1
   simp only [Value.slice.injEq] at e1
   refine ⟨gb,0,e1.1,?_⟩
   rw [Nat.zero_add,aAa hc]
   have h6:(snC sn)[i]?=some (.pointer (some ⟨y.1,0,none⟩)):=by unfold snC;rw [List.getElem?_map,hy];rfl
   rw [<-h5,List.getElem?_take,if_pos (by omega)] at h6
   rw [<-Array.getElem?_toList]
   exact h6
 ·obtain ⟨y,hy,rfl⟩:=List.mem_map.1 hx
  obtain ⟨cx,h1,h2⟩:=h.s y hy
  exact ⟨cx,h1,h2.wd⟩
theorem SnO.later {B g:Nat} {w w':World} {sv:Value} {sn:List (Nat×StT)} (h:SnO B w g sv sn) (hb:Below w.heap.size w w'):SnO B w' g sv sn:=by
 refine ⟨h.n,aAg h.v hb,fun x hx=>?_⟩
 obtain ⟨cx,h1,h2⟩:=h.s x hx
 exact ⟨cx,(hb.block _ (lO h1)).trans h1,h2⟩
theorem SnO.chf [Gd] {B g:Nat} {w w':World} {sv:Value} {sn:List (Nat×StT)} {cg:Array Value} (h:SnO B w g sv sn) (f:ChF B g w w') (hg:w.heap[g]?=some (.cells cg 58 (0,0))):SnO B w' g sv sn:=by
 have ne:∀ {k:Nat} {c:Array Value} {t:TypeId},w.heap[k]?=some (.cells c t (0,0))->t≠58->k≠g:=by
  intro k c t e ht q9
  subst q9
  rw [hg] at e
  simp only [oI,cI] at e
  exact ht e.2.1.symm
 refine ⟨h.n,aAj h.v fun k cs _ e=>f.2 k cs _ _ e (by decide) (ne e (by decide)),fun x hx=>?_⟩
 obtain ⟨cx,h1,h2⟩:=h.s x hx
 exact ⟨cx,f.2 _ _ _ _ h1 (by decide) (ne h1 (by decide)),h2⟩
theorem SnO.nil (B:Nat) (w:World) (g:Nat):SnO B w g (.slice none 0 0) []:=⟨by simp,⟨rfl,Or.inl ⟨rfl,rfl⟩⟩,fun x hx=>by simp at hx⟩
theorem TV.snaps {cs:Array Value} {p q:Nat} {now last:StT} {sv sv':Value} {left:Int} {ended:Bool} (h:TV cs p q now last sv left ended):TV (cs.setIfInBounds 136 sv') p q now last sv' left ended:=by
 obtain ⟨h1,h2,h3⟩:=h.one (k:=136) (u:=sv')
 exact ⟨h1,(h2 _ (by decide)).trans h.c0,(h2 _ (by decide)).trans h.c1,(h2 _ (by decide)).trans h.n0,(h2 _ (by decide)).trans h.n1,(h2 _ (by decide)).trans h.n2,h.nw.same fun k hk _=>h2 k (by omega),(h2 _ (by decide)).trans h.l0,(h2 _ (by decide)).trans h.l1,(h2 _ (by decide)).trans h.l2,h.lw.same fun k hk _=>h2 k (by omega),h3 (by decide),(h2 _ (by decide)).trans h.s1,(h2 _ (by decide)).trans h.s2⟩
def SnF (B g:Nat) (sv:Value) (w w':World):Prop:=Below B w w'/\∀ (k:Nat) (cs:Array Value) (t:TypeId) (fz:Nat×Nat),w.heap[k]?=some (Obj.cells cs t fz)->k≠g->some k≠sv.ownBlock->w'.heap[k]?=some (Obj.cells cs t fz)
theorem zero_snap:Tryz.zeroCells124.size=68:=by kernel_rfl
theorem Snap_ok [Gd] {B p q g:Nat} {s:DS} {t:PS} {w:World} {now last:StT} {sv:Value} {left:Int} {sn:List (Nat×StT)} (hM:TM B p q g s t now last sv left w) (hsn:SnO B w g sv sn) (h4:sn.length<4) :
  Calls Tryz.prog 32 #[.pointer (some ⟨g,0,none⟩)] w fun e w'=>∃ nb sv',e=.returned (.tuple #[.pointer (some ⟨nb,0,none⟩),.int .i64 0])/\w.heap.size<=nb/\TM B p q g s t now last sv' left w'/\SnO B w' g sv' (sn++[(nb,last)])/\SnF B g sv w w':=by
 obtain ⟨i0,hi0,hz0,hz1,hz2⟩:=info_parts info_snp
 have lt:∀ {k:Nat} {o:Obj} {ww:World},ww.heap[k]?=some o->k<ww.heap.size:=fun e=>(lO e)
 obtain ⟨cs,hg,hT⟩:=hM.tv
 have HDE:=zH (aDe hM.st hM.lf hg hT)
 have HM:=zH hM
 have HG:=zH hg
 have HT:=zH hT
 obtain ⟨sa,sc,hsv⟩:=aAf hsn.v
 subst hsv
 have HSN:=zH hsn
 clear hM hg hT hsn
 generalize hN:sn.length=N at *
 have xN:¬ (N:Int)=4:=by omega
 have dN:((N:Int) == 4)=false:=by simp;omega
 go_enter Tryz.func32,Tryz.ntmps32
 go_wp2_with fail
 refine HDE.o.mono ?_
 rintro e w1 ⟨rfl,hb1⟩
 have HB1:=zH hb1
 have HG1:=zH ((hb1.block g (lt HG.o)).trans HG.o)
 have HSN1:=zH (HSN.o.later hb1)
 have r6:w1.cell? ⟨g,136,none⟩=some (.slice sa N sc):=(aAa HG1.o).trans HT.o.s0
 have HLD:=zH (aEf (w:=w1) (g:=g) (o:=69) (ty:=54) (cs:=cutS cs 69) (fun j v hv=>(aAa HG1.o).trans (aGh hv)) Tryz.underlying54 rfl (by rw [HT.o.lastS.sz];exact aBl))
 have hcz:(cutS cs 69).size=67:=HT.o.lastS.sz
 clear hb1 HDE
 go_upto_region 6 with (refine wpList_load_row rfl (.tmp 16) 54 rfl rfl HLD.o ?_)
 have HCN:Hid (SpC (Array.foldl (fun (cs:Array Value) (x:Value×Nat)=>cs.setIfInBounds (1+x.2) x.1) (Tryz.zeroCells124.setIfInBounds 0 (.pointer (some ⟨g,0,none⟩))) (cutS cs 69).zipIdx 0 67) g last):=by
  have hl:=HT.o.lastS
  obtain ⟨a1,a2⟩:=aF9 (base:=Tryz.zeroCells124.setIfInBounds 0 (.pointer (some ⟨g,0,none⟩))) (vs:=cutS cs 69) (o:=1) (n:=67) hcz (by rw [Array.size_setIfInBounds,zero_snap];decide)
  refine ⟨?_,?_,?_,?_,hl.wd.1,hl.wd.2.1,fun i x hi=>?_⟩
  ·rw [a2 0,if_neg (by omega),Array.getElem?_setIfInBounds_self_of_lt (by rw [zero_snap];decide)]
  ·rw [a2 1,if_pos (by omega)];exact hl.c0
  ·rw [a2 2,if_pos (by omega)];exact hl.c1
  ·rw [a2 3,if_pos (by omega)];exact hl.c2
  ·have h9:=(lL hi)
   have h8:=hl.wd.1
   rw [a2 (4+i),if_pos (by omega),show 4+i-1=3+i by omega]
   exact hl.wd.2.2 i x hi
 generalize (Array.foldl (fun (cs:Array Value) (x:Value×Nat)=>cs.setIfInBounds (1+x.2) x.1) (Tryz.zeroCells124.setIfInBounds 0 (.pointer (some ⟨g,0,none⟩))) (cutS cs 69).zipIdx 0 67)=cn at *
 have HB2:=zH (aAb w1 (.cells cn 124))
 have HN2:Hid ((w1.alloc (.cells cn 124)).heap[w1.heap.size]?=some (.cells cn 124 (0,0))):=heap_alloc_new w1 _
 generalize hw2:(w1.alloc (.cells cn 124))=w2 at *
 generalize hnb:w1.heap.size=nb at *
 have HB2w:Hid (Below w.heap.size w w2):=HB1.o.trans (HB2.o.mono (by have:=HB1.o.size;omega))
 have HG2:=zH ((HB2.o.block g (by rw [<-hnb];exact lt HG1.o)).trans HG1.o)
 have HSN2:Hid (SnO B w2 g (.slice sa N sc) sn):=HSN1.o.later (by rw [hnb];exact HB2.o)
 have HBX:=zH (aAb w2 (.cells #[.pointer (some ⟨nb,0,none⟩)] 75))
 have HO3:Hid ((w2.alloc (.cells #[.pointer (some ⟨nb,0,none⟩)] 75)).ownsRow B 75 1 (.slice sa N sc) N (snC sn)):=by
  have h9:=aAg HSN2.o.v HBX.o
  rw [hN] at h9
  exact h9
 have HNW:Hid (∀ k u,[Value.pointer (some ⟨nb,0,none⟩)][k]?=some u->(w2.alloc (.cells #[.pointer (some ⟨nb,0,none⟩)] 75)).cell? ((⟨w2.heap.size,0,none⟩:Addr).add k)=some u):=by
  intro k u hu
  rw [Addr.add_lit,Nat.zero_add,aAa (heap_alloc_new w2 _)]
  simpa using hu
 have HBS:Hid (B<=(w2.alloc (.cells #[.pointer (some ⟨nb,0,none⟩)] 75)).heap.size):=nT (nT HM.o.bw HB2w.o.size) HBX.o.size
 have r6':w2.cell? ⟨g,136,none⟩=some (.slice sa N sc):=(aAa HG2.o).trans HT.o.s0
 have HGX:=zH ((HBX.o.block g (lt HG2.o)).trans HG2.o)
 have HNX:=zH ((HBX.o.block nb (lt HN2.o)).trans HN2.o)
 clear r6 HLD
 go_wp2_with (at_builtin;refine wpList_append_own _ rfl (.tmp 24) (.tmp 26) 56 rfl B 75 i0 (.pointer none) 1 8 Tryz.underlying56 hi0 hz0 hz1 hz2 rfl (by omega) (.slice sa N sc) N (snC sn) rfl HO3.o ⟨w2.heap.size,0,none⟩ 1 1 [Value.pointer (some ⟨nb,0,none⟩)] (by simp [Act.eval]) rfl HNW.o (by simp [Value.oneCell']) (by unfold maxLen;omega) (by omega) HBS.o ?_;intro v3 w3 ho3 hg3 hz3;have HO4:=zH ho3;have HG4:=zH hg3;have HGT:Hid (w3.heap[g]?=some (.cells cs 58 (0,0))):=(by
  show _=_
  rw [hg3.block g (lt HGX.o) ?_,HGX.o]
  intro q9
  obtain ⟨_,cur,hc⟩:=aAr HO3.o q9.symm
  rw [HGX.o] at hc
  simp only [oI,cI] at hc
  exact absurd hc.2.1 (by decide));obtain ⟨a3,c3,rfl⟩:=aAf ho3;have f3:w3.frozen? ⟨g,136,none⟩=false:=aAc HGT.o;have r3:w3.cell? ⟨g,136,none⟩=some (.slice sa N sc):=(aAa HGT.o).trans HT.o.s0;clear ho3 hg3 hz3)
 go_ret2
 have hkeep:∀ (k:Nat) (c0:Array Value) (t0:TypeId) (fz:Nat×Nat),w2.heap[k]?=some (Obj.cells c0 t0 fz)->t0≠75->w3.heap[k]?=some (Obj.cells c0 t0 fz):=by
  intro k c0 t0 fz e1 ht
  have e2:=(HBX.o.block k (lt e1)).trans e1
  rw [HG4.o.block k (lt e2) ?_,e2]
  intro q9
  obtain ⟨_,cur,hc⟩:=aAr HO3.o q9.symm
  rw [e2] at hc
  simp only [oI,cI] at hc
  exact ht hc.2.1
 have hst2:=HM.o.st.later HB2w.o
 have hst3:ST B p q s t w3:=by
  obtain ⟨h1,gs,h2⟩:=hst2
  exact ⟨h1.of_stay (fun k cs t e ht=>hkeep k cs t _ e (by rcases ht with rfl | rfl | rfl | rfl | rfl | rfl | rfl<;>decide)),gs,hkeep _ _ _ _ h2.hq (by decide),hkeep _ _ _ _ h2.hs (by decide),h2.qB,h2.gB,h2.ok,h2.hG⟩
 have hbel3:Below B w w3:=(HB2w.o.mono HM.o.bw).trans ((HBX.o.mono (nT HM.o.bw HB2w.o.size)).grown HG4.o HBS.o (fun k hk=>(HO3.o.lt k hk).1))
 have hset:Ex B [g] w3 (w3.setCell ⟨g,136,none⟩ (.slice a3 (N+1) c3)):=Ex.set HM.o.bg
 refine ⟨nb,.slice a3 (N+1) c3,rfl,by rw [<-hnb];exact HB1.o.size,⟨hst3.exT hset HGT.o,nT (nT HM.o.bw hbel3.size) hset.1.size,HM.o.bg,⟨_,heap_setCell_same _ _ _ _ _ _ HGT.o,HT.o.snaps⟩,HM.o.lf,HM.o.dn,HM.o.af,HM.o.l1,HM.o.sn,HM.o.hd⟩,⟨by simp;omega,?_,fun x hx=>?_⟩,?_⟩
 ·have e9:snC (sn++[(nb,last)])=snC sn++[.pointer (some ⟨nb,0,none⟩)]:=by simp [snC]
  rw [e9,lA,hN]
  exact aAj HO4.o fun k c0 _ e=>hset.keepX HGT.o e (by decide)
 ·rcases List.mem_append.1 hx with hx | hx
  ·obtain ⟨cx,h1,h2⟩:=HSN2.o.s x hx
   exact ⟨cx,hset.keepX HGT.o (hkeep _ _ _ _ h1 (by decide)) (by decide),h2⟩
  ·simp only [List.mem_singleton] at hx
   subst hx
   exact ⟨cn,hset.keepX HGT.o (hkeep _ _ _ _ HN2.o (by decide)) (by decide),HCN.o⟩
 ·refine ⟨hbel3.trans hset.1,fun k c0 t0 fz m1 m2 m3=>?_⟩
  have e1:=(HB2w.o.block k (lt m1)).trans m1
  have e2:=(HBX.o.block k (lt e1)).trans e1
  have e3:w3.heap[k]?=some (Obj.cells c0 t0 fz):=by rw [HG4.o.block k (lt e2) m3,e2]
  rw [hset.2 k (lt e3) (by simpa using m2),e3]
theorem TV.setStore {cs:Array Value} {p q q':Nat} {now last:StT} {sv:Value} {left:Int} {ended:Bool} (h:TV cs p q now last sv left ended):TV (cs.setIfInBounds 1 (.pointer (some ⟨q',0,none⟩))) p q' now last sv left ended:=by
 obtain ⟨h1,h2,h3⟩:=h.one (k:=1) (u:=.pointer (some ⟨q',0,none⟩))
 exact ⟨h1,(h2 _ (by decide)).trans h.c0,h3 (by decide),(h2 _ (by decide)).trans h.n0,(h2 _ (by decide)).trans h.n1,(h2 _ (by decide)).trans h.n2,h.nw.same fun k hk _=>h2 k (by omega),(h2 _ (by decide)).trans h.l0,(h2 _ (by decide)).trans h.l1,(h2 _ (by decide)).trans h.l2,h.lw.same fun k hk _=>h2 k (by omega),(h2 _ (by decide)).trans h.s0,(h2 _ (by decide)).trans h.s1,(h2 _ (by decide)).trans h.s2⟩
def anew (s:DS) (num root:Nat) (ps:List Nat):PS:=holdL ⟨newSt s.n,s.life,num,root⟩ (nums ps 4096)
theorem aCg {n i:Nat} (h:i<n):(newSt n).getD i 0=if i<2 then 0 else 1:=by
 unfold newSt
 rw [List.getD_eq_getElem?_getD,List.getElem?_map,List.getElem?_range h]
 rfl
theorem aDf {ps:List Nat} {i:Nat}:i∈nums ps 4096↔i<4096/\hsP ps i=true:=by
 unfold nums
 rw [List.mem_filter,List.mem_range]
def PgN (s:DS) (ps:List Nat):Prop:=∀ i,i<4096->hsP ps i=true->2<=i/\i<s.n
theorem aDq {s:DS} {num root:Nat} {ps:List Nat} (hp:PgN s ps):(anew s num root ps).st.length=s.n/\(anew s num root ps).life=s.life/\(anew s num root ps).num=num/\(∀ i,i<4096->hsP ps i=true->(anew s num root ps).st.getD i 0=2)/\∀ i,i<s.n->(i<4096->hsP ps i=false)->(anew s num root ps).st.getD i 0=if i<2 then 0 else 1:=by
 obtain ⟨h1,h2,h3,h4,h5,h6⟩:=holdL_st (nums ps 4096) ⟨newSt s.n,s.life,num,root⟩
 refine ⟨h1.trans (aCf _),h2,h3,fun i hi hh=>?_,fun i hi hh=>?_⟩
 ·exact h6 (fun x hx=>by rw [aCf];exact (hp x (aDf.1 hx).1 (aDf.1 hx).2).2) i (aDf.2 ⟨hi,hh⟩)
 ·show (holdL _ _).st.getD i 0=_
  rw [h5 i (fun q=>by
   have:=aDf.1 q
   rw [hh this.1] at this
   exact absurd this.2 (by decide))]
  exact aCg hi
theorem PgI.anew {s:DS} {t:PS} {num root i:Nat} {ps b:List Nat} (h:PgI s t i b) (hp:PgN s ps) (hi:i<4096) (hh:hsP ps i=true):PgI s (anew s num root ps) i b :=
 ⟨h.lt,by rw [aBb];exact (aDq hp).2.2.2.1 i hi hh,h.pg,h.ln,h.bt⟩
theorem OnD.anew {s:DS} {t:PS} {num root:Nat} {ps:List Nat} (hp:PgN s ps):∀ {h:Nat} {b:BT h},OnD s t h b->(∀ i∈pgB h b,i<4096/\hsP ps i=true)->OnD s (anew s num root ps) h b
 | 0,b,⟨h1,hi⟩,hh=>⟨h1.anew hp (hh _ (List.mem_singleton.2 rfl)).1 (hh _ (List.mem_singleton.2 rfl)).2,hi⟩
 | h+1,b,⟨h1,hi,h3,h4,h5⟩,hh=>⟨h1.anew hp (hh _ List.mem_cons_self).1 (hh _ List.mem_cons_self).2,hi,h3,h4,fun k hk=>OnD.anew hp (h5 k hk) fun i hi=>hh i (List.mem_cons_of_mem _ (List.mem_flatten.2 ⟨_,List.mem_map_of_mem hk,hi⟩))⟩
theorem Tr.anew {s:DS} {t:PS} {num root:Nat} {ps:List Nat} {st:StT} {l:List It} (h:Tr s t st l) (hp:PgN s ps) (hn:∀ i,i<4096->hsP st.pgs i=true->hsP ps i=true):Tr s (anew s num root ps) st l:=by
 rcases h with h | ⟨h,b,e1,e2,e3,e4,e5,e6,e7,e8,e9⟩
 ·exact Or.inl h
 ·exact Or.inr ⟨h,b,e1,e2,e3,e4,e5,e6.anew hp (fun i hi=>⟨e9.2.2.1 i hi,hn i (e9.2.2.1 i hi) (by rw [e9.2.2.2 i];simpa using hi)⟩),e7,e8,e9⟩
theorem holdJust_ok [Gd] {B p q g:Nat} {s:DS} {t:PS} {w:World} {now last:StT} {sv:Value} {left:Int} {cp:Array Value} {ps:List Nat} {root:Nat} (hg0:True) (hM:TM B p q g s t now last sv left w) (hp:Wd cp 0 ps) (hps:cp.size=64) (hPN:PgN s ps) (h3:3<=s.n) (hlh:lastH (rdH (pad (s.show 0)) s.n) (rdH (pad (s.show 1)) s.n)=some (t.num,root)) (hnum:t.num<=4611686018427387904) (hrt:root<=4096) :
  Calls Tryz.prog 73 #[.pointer (some ⟨g,0,none⟩),.agg cp] w fun e w'=>e=.returned (.bool true)/\∃ q',TM B p q' g s (anew s t.num root ps) now last sv left w'/\ChF B g w w':=by
 have lt:∀ {k:Nat} {o:Obj} {ww:World},ww.heap[k]?=some o->k<ww.heap.size:=fun e=>(lO e)
 obtain ⟨cs,hg,hT⟩:=hM.tv
 have HBX:=zH (aAb w (.cells cp 52))
 have HNX:Hid ((w.alloc (.cells cp 52)).heap[w.heap.size]?=some (.cells cp 52 (0,0))):=heap_alloc_new w _
 have HM1:=zH (hM.later HBX.o)
 have HG1:=zH ((HBX.o.block g (lt hg)).trans hg)
 have r0:(w.alloc (.cells cp 52)).cell? ⟨g,0,none⟩=some (.pointer (some ⟨p,0,none⟩)):=(aAa HG1.o).trans hT.c0
 have HOP:=zH (open_ok B p s t.num root _ HM1.o.st.1 HM1.o.bw hM.dn h3 hlh hnum hrt)
 have HM:=zH hM
 have HT:=zH hT
 have HP:=zH hp
 have HPN:=zH hPN
 obtain ⟨a1,a2,a3,a4,a5⟩:=aDq (num:=t.num) (root:=root) hPN
 have HA1:=zH a1
 have HA2:=zH a2
 have HA5:=zH a5
 clear hM hg hT hp hPN hlh a1 a2 a3 a4 a5
 generalize hw1:(w.alloc (.cells cp 52))=w1 at *
 generalize hn0:w.heap.size=n0 at *
 have dnn:((t.num:Int) != (t.num:Int))=false:=by simp
 go_enter Tryz.func73,Tryz.ntmps73
 go_wp2_with fail
 refine HOP.o.mono ?_
 rintro e w2 ⟨q2,rfl,h1,h2⟩
 have HST2:=zH h1
 have HB2:Hid (Below n0 w w2):=HBX.o.trans (h2.mono (by have:=HBX.o.size;omega))
 have HG2:=zH ((h2.block g (lt HG1.o)).trans HG1.o)
 have HN2:=zH ((h2.block n0 (lt HNX.o)).trans HNX.o)
 have HSTo:=zH (HM1.o.st.later h2)
 clear h1 h2 r0
 go_upto_region 2 with fail
 have HX0:Hid ((fun wx=>wx.cell? ⟨g,1,none⟩=some (.pointer (some ⟨q,0,none⟩))) w2.drew):=(aAa HG2.o).trans HT.o.c1
 have HN1:=zH (aEu (HST2.o.later (Below.refl _ _).drew))
 have HNo:=zH (aEu (HSTo.o.later (Below.refl _ _).drew))
 refine wp_region_noPanic ?_
 refine wp_region_held_drew (S:=fun wx=>wx.cell? ⟨g,1,none⟩=some (.pointer (some ⟨q,0,none⟩))) (by kernel_rfl) HX0.o (fun hHeld=>?_)
 refine kT 0 15 ?_
 refine kT 1 16 ?_
 refine kT 2 17 ?_
 refine kT 3 18 ?_
 refine kT 5 20 ?_
 refine kT 6 21 ?_
 refine kT 7 22 ?_
 refine kT 8 23 ?_
 refine kC 4 ?_;intro K hK
 go_simp
 refine HN1.o.mono ?_
 rintro e w3 ⟨rfl,rfl⟩
 refine hK.out _ _ HX0.o (fun hHeld=>?_)
 clear hK K
 refine kC 9 ?_;intro K hK
 go_simp
 refine HNo.o.mono ?_
 rintro e w3 ⟨rfl,rfl⟩
 refine hK.out _ _ HX0.o (fun hHeld=>?_)
 clear hK K
 try simp only [Act.put,siT,scZ,scS]
 refine kT 10 25 ?_
 refine kT 11 26 ?_
 refine wpAnyH_done (by kernel_rfl) ?_ _
 refine NoPanic.normal ?_
 clear hHeld HX0 HN1 HNo
 have HBd:=zH ((Below.refl w2.heap.size w2).drew)
 have HNM:=zH (aG2 (w:=w2.drew) HN2.o HP.o)
 go_wp2_with fail
 refine HNM.o.mono ?_
 rintro e w3 ⟨v3,rfl,ho3,hb3⟩
 have HB3:Hid (Below n0 w w3):=HB2.o.trans ((HBd.o.trans hb3).mono (by have:=HB2.o.size;omega))
 have HST3:=zH (HST2.o.later (HBd.o.trans hb3))
 have HBw3:Hid (B<=w3.heap.size):=nT HM.o.bw (by have:=HB3.o.size;omega)
 obtain ⟨va,vc,hv3⟩:=aAf ho3
 subst hv3
 have HHO:=zH (hold_any HST3.o HBw3.o rfl ho3 (aH0 ps 4096) (fun x hx=>by
  have h9:=aDf.1 hx
  have h8:=HPN.o x h9.1 h9.2
  refine ⟨by show x<(newSt s.n).length;rw [aCf];exact h8.2,?_⟩
  show (newSt s.n).getD x 0≠0
  rw [aCg h8.2,if_neg (by omega)]
  decide))
 clear ho3 hb3 HNM
 generalize (nums ps 4096).length=M at *
 go_wp2_with fail
 refine HHO.o.mono ?_
 rintro e w4 ⟨rfl,h1,h2⟩
 have HST4:Hid (ST B p q2 s (anew s t.num root ps) w4):=h1
 have HC4:Hid (ChF B g w w4):=(ChF.of (by rw [hn0];exact HB3.o) HM.o.bw).trans (ChF.fp h2)
 have HG4:=zH (h2.tree ((HB3.o.block g (by
  obtain ⟨cs9,h9,_⟩:=HM.o.tv
  rw [<-hn0]
  exact lt h9)).trans (by
  obtain ⟨cs9,h9,_⟩:=HM.o.tv
  have h8:=HG1.o
  rw [<-hw1,Below.heap_alloc _ _ _ (lt h9)] at h8
  exact h8)) (by decide))
 have r1:w4.cell? ⟨g,1,none⟩=some (.pointer (some ⟨q,0,none⟩)):=(aAa HG4.o).trans HT.o.c1
 have f1:w4.frozen? ⟨g,1,none⟩=false:=aAc HG4.o
 clear h1 h2 HHO
 go_wp2
 go_ret
 have hset:Ex B [g] w4 (w4.setCell ⟨g,1,none⟩ (.pointer (some ⟨q2,0,none⟩))):=Ex.set HM.o.bg
 refine ⟨rfl,q2,⟨HST4.o.exT hset HG4.o,nT (nT HM.o.bw HC4.o.1.size) hset.1.size,HM.o.bg,⟨_,heap_setCell_same _ _ _ _ _ _ HG4.o,HT.o.setStore⟩,HA2.o.symm,HM.o.dn,HM.o.af,HM.o.l1,HA1.o,?_⟩,HC4.o.trans (ChF.cell HM.o.bg HG4.o)⟩
 refine ⟨?_,?_⟩
 ·rw [HA5.o 0 (by omega) (fun _=>by
   cases h9:hsP ps 0 with
   | false=>rfl
   | true=>have:=(HPN.o 0 (by omega) h9).1;omega)]
  rfl
 ·rw [HA5.o 1 (by omega) (fun _=>by
   cases h9:hsP ps 1 with
   | false=>rfl
   | true=>have:=(HPN.o 1 (by omega) h9).1;omega)]
  rfl
end Go.Proofs.YtfobcelkmopohaaGreat
