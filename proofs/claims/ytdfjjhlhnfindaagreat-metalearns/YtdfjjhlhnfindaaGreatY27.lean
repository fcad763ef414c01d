import Derived.Test.YtdfjjhlhnfindaaGreatY26
import Derived.Test.YtdfjjhlhnfindaaGreatY19
set_option maxRecDepth 100000
set_option maxHeartbeats 16000000
set_option linter.unusedVariables false
namespace Go.Proofs.YtdfjjhlhnfindaaGreat
open Go.RowKit Tryz
variable {B B1 g gi o:Nat} {Q:Exit->Act->World->Prop} {l:List It} {v:Value} {w w':World}
theorem aA7 {ops:Array Oper} {rest:List Oper} {o:Oper} {a:Act} (hgd:o.guard=none) (s x:Operand)
  (ho:o.op=.call { callee:=.builtin .append,args:=#[s,x],argTypes:=#[55,55] })
  (base:Nat) (v:Value) (n:Nat) (xs:List Nat) (hs:a.eval s=v) (hown:w.ownsRow base 5 1 v n (cellsOf xs)) (ax:Option Addr) (m cx:Nat) (ys:List Nat)
  (hx:a.eval x=.slice ax m cx) (hbs:BS w ax m cx ys) (hsize:n+m<=140737488355328) (w0:World) (hbel:Below base w0 w) (hbase:base<=w.heap.size)
  (h:∀ v' w',w'.ownsRow base 5 1 v' (n+m) (cellsOf (xs++ys))->Below base w0 w'->base<=w'.heap.size->(∀ (k:Nat) (cs:Array Value) (t:TypeId) (fz:Nat×Nat),w.heap[k]?=some (Obj.cells cs t fz)->t≠5->w'.heap[k]?=some (Obj.cells cs t fz))->wpList prog ops Q rest (a.put o.dst v') w'):wpList prog ops Q (o::rest) a w:=by
 obtain ⟨i0,hi,hz0,hz1,hz2⟩:=info_parts aE1;have hl:=hbs.hlen
 cases ax with
 | none =>
  have hc:=hbs.hnil rfl;have hcap:=hbs.hcap;obtain rfl:cx=0:=hc;obtain rfl:m=0:=by omega
  have hy:ys=[]:=List.eq_nil_of_length_eq_zero hl;subst hy;refine wpList_append_own_none hgd s x _ ho base 5 i0 1 underlying55 hi v n (cellsOf xs) hs hown hx (h v w ?_ hbel hbase (fun _ _ _ _ e _=>e));simpa using hown
 | some ad =>
  refine wpList_append_own _ hgd s x _ ho base 5 i0 (.int .u8 0) 1 1 underlying55 hi hz0 hz1 hz2 rfl (by omega) v n (cellsOf xs) hs hown ad m cx (cellsOf ys) hx (by rw [aAd];omega) hbs.news (aAz ys) (by unfold maxLen;omega) (by omega) hbase ?_;intro v' w' ho' hg' _;rw [<-aAq] at ho'
  exact h v' w' ho' (hbel.grown hg' hbase (fun k hk=>(hown.lt k hk).1)) (nT hbase hg'.size) (fun k cs t fz e ht=>by
   rw [hg'.block k (lO e) ?_,e];intro q;obtain ⟨_,cur,hc⟩:=aAm hown q.symm;rw [hc] at e;simp only [oI,cI] at e
   exact ht e.2.1.symm)
theorem aFa:∀ {l:List It},(∀ x∈l,ItOk x)->(l.flatMap itB).length<=l.length*1900
 | [],_=>by simp
 | x::l,h=>by
  have h1:=aFa (l:=l) fun y hy=>h y (by simp [hy])
  have hx:=h x (by simp)
  have h2:=itB_len hx
  have h3:=(aAi x.1.length (by have:=hx.k1;omega)).2.1
  have h4:=(aAi x.2.length (by have:=hx.v1;omega)).2.1
  have:=hx.k1
  have:=hx.v1
  rw [List.flatMap_cons,lA,List.length_cons]
  omega
def IC (B:Nat) (w:World) (g o:Nat) (l:List It):Prop:=∀ i it,l[i]?=some it->∃ a c b d,w.cell? ⟨g,o+i*2,none⟩=some (.slice a it.1.length c)/\w.cell? ⟨g,o+i*2+1,none⟩=some (.slice b it.2.length d)/\BK B w a it.1.length c it.1/\BK B w b it.2.length d it.2
def IV (B B1:Nat) (w:World) (v:Value) (l:List It):Prop:=∃ a c,v=.slice a l.length c/\l.length<=c/\c<=9223372036854775807/\(a=none->c=0)/\∀ x,a=some x->∃ g o,x=⟨g,o,none⟩/\B1<=g/\(∃ cs,w.heap[g]?=some (.cells cs 245 (0,0)))/\IC B w g o l
theorem IC.ft (h:IC B w g o l) (f:FT B w w') (hg:w'.heap[g]?=w.heap[g]?):IC B w' g o l:=by
 intro i it hi;obtain ⟨a,c,b,d,h1,h2,h3,h4⟩:=h i it hi;exact ⟨a,c,b,d,(World.cell?_of_block hg).trans h1,(World.cell?_of_block hg).trans h2,h3.ft f,h4.ft f⟩
theorem IV.ft (h:IV B B1 w v l) (f:FT B w w') (hg:∀ (k:Nat) (cs:Array Value),B1<=k->w.heap[k]?=some (.cells cs 245 (0,0))->w'.heap[k]?=some (.cells cs 245 (0,0))):IV B B1 w' v l:=by
 obtain ⟨a,c,h1,h2,h3,h4,h5⟩:=h;refine ⟨a,c,h1,h2,h3,h4,fun x hx=>?_⟩;obtain ⟨g,o,e,hB,⟨cs,hc⟩,hI⟩:=h5 x hx;have:=hg g cs hB hc;exact ⟨g,o,e,hB,⟨cs,this⟩,hI.ft f (by rw [this,hc])⟩
theorem IR.iv (h:IR B w gi l) (hB:B1<=gi) (hl:l.length<=1000):IV B B1 w (.slice (some ⟨gi,0,none⟩) l.length l.length) l:=by
 refine ⟨_,_,rfl,nR _,by omega,by simp,fun x hx=>?_⟩;simp only [oI] at hx;subst hx;refine ⟨gi,0,rfl,hB,?_,fun i it hi=>?_⟩
 ·obtain ⟨kf,vf,h1,_⟩:=h;exact ⟨_,h1⟩
 ·obtain ⟨a,c,b,d,h1,h2,h3,h4⟩:=h.cells hi;rw [Nat.zero_add];exact ⟨a,c,b,d,h1,h2,h3,h4⟩
theorem IV.nil (B B1:Nat) (w:World):IV B B1 w (.slice none 0 0) []:=⟨none,0,rfl,nR _,by omega,fun _=>rfl,fun x hx=>by cases hx⟩
theorem aEu (kind:Nat) (l:List It) (v:Value) (hI:IV B B1 w v l) (hB:B<=w.heap.size) (hk:kind<100) (hl:l.length<=5) (hok:∀ x∈l,ItOk x) {N:Nat} (hN:(itsB kind l).length=N) :
  Calls prog 212 #[.int .i64 (kind:Int),v] w fun e w'=>∃ v',e=.returned v'/\w'.ownsRow w.heap.size 5 1 v' N (cellsOf (itsB kind l))/\Below w.heap.size w w':=by
 obtain ⟨a,c,rfl,hlc,hc1,hn,hx⟩:=hI;have HXX:=zH hx;have HOK:=zH hok;have HB:=zH hB;have HNN:=zH hN;have HE1:=zH (aAj kind (by have:=(aAi kind (by omega)).1;omega));have HE2:=zH (aAj l.length (by have:=(aAi l.length (by omega)).1;omega));have HG1:=zH (aAi kind (by omega)).2.1;have HG2:=zH (aAi l.length (by omega)).2.1;have HEB:=zH (aAw kind);have HEB2:=zH (aAw l.length);have hU1:=zH (aA9 kind w (by omega));have hU2:=zH (fun ww=>aA9 l.length ww (by omega));clear hx hok hB hN;generalize hL:l.length=L at *
 have HL:=zH hL;clear hL;go_enter func212,ntmps212;go_wp2_with fail;refine hU1.out.mono ?_;rintro e w1 ⟨g1,c1,rfl,ho1,hb1⟩;have HO1:=zH ho1;have HB1:=zH hb1;clear ho1 hb1 hU1;go_wp2_with fail;refine (hU2.out w1).mono ?_;rintro e w2 ⟨g2,c2,rfl,ho2,hb2⟩;have HO1':=zH (aAh HO1.o hb2);have HBS2:=zH (BS.ofOwns ho2 (by have:=HG2.o;omega) HEB2.o);have HB2:=zH (HB1.o.trans (hb2.mono HB1.o.size));clear ho2 hb2 HO1 HB1;go_wp2_with (at_builtin;refine aAt rfl (.tmp 9) (.tmp 12) rfl w.heap.size _ (grp kind) (enc kind) rfl HO1'.out (some ⟨g2,0,none⟩) (grp L) c2 (enc L) rfl HBS2.o (by have:=HG1.o;have:=HG2.o;omega) w HB2.o HB2.o.size ?_;intro v3 w3 ho3 hb3 hs3;obtain ⟨a3,c3,rfl⟩:=aAg ho3;have HO3:=zH ho3;have HB3:=zH hb3;clear ho3 hb3 hs3);go_wp2_with fail;go_loopw [16,5] (fun i vb wx=>∃ j:Nat,j<=L/\i=.int .i64 j/\wx.ownsRow w.heap.size 5 1 vb (grp kind+grp L+(posI l j).length) (cellsOf (enc kind++enc L++posI l j))/\Below w.heap.size w wx) (fun i _ _=>L-(intOf i).toNat)
 case atStart=>exact ⟨0,by omega,rfl,by simp only [posI,List.take_zero,List.flatMap_nil,List.append_nil,List.length_nil,Nat.add_zero];exact HO3.o,HB3.o⟩
 case round =>
  clear HO3 HB3 HBS2 HO1' HB2;obtain ⟨j,hj,rfl,hO,hBl⟩:=hrel;have HO:=zH hO;have HBl:=zH hBl;obtain ⟨va,vc,rfl⟩:=aAg hO;clear hO hBl;by_cases hjn:j<L
  ·have x1:(j:Int)<(L:Int):=by omega
   obtain ⟨x,hx⟩:∃ x,l[j]?=some x:=⟨_,gE (by rw [HL.o];exact hjn)⟩;have HX:=zH hx;have HKX:=zH (HOK.o x (mG hx));obtain ⟨ad,rfl⟩:∃ ad,a=some ad:=by
    cases a with
    | none=>have:=hn rfl;omega
    | some ad=>exact ⟨ad,rfl⟩
   obtain ⟨g,o,rfl,hg,⟨cs,hcs⟩,hIC⟩:=HXX.o ad rfl;obtain ⟨ka,kc,ya,yc,r00,r10,hk1,hk2⟩:=hIC j x hx;have r0:=(HBl.o.cell (p:=⟨g,o+j*2,none⟩) (lO hcs)).trans r00;have r1:=(HBl.o.cell (p:=⟨g,o+j*2+1,none⟩) (lO hcs)).trans r10;clear r00 r10;have HK1:=zH hk1;have HK2:=zH hk2;have HPL:=zH (posI_succ hx);clear hk1 hk2 hx hIC hcs;generalize hPj:posI l j=P at *
   have hkl:=HKX.o.k1;have hvl:=HKX.o.v1;have HGK:=zH (aAi x.1.length (by omega)).2.1;have HGV:=zH (aAi x.2.length (by omega)).2.1;have HEK:=zH (aAw x.1.length);have HEV:=zH (aAw x.2.length);have HPB:Hid (P.length<=20000):=by
    show _<=_;rw [<-hPj];have:=aFa (l:=l.take j) fun y hy=>HOK.o y (List.mem_of_mem_take hy)
    unfold posI;rw [List.length_take] at this;have:=HL.o;omega
   generalize hn1:x.1.length=n1 at *
   generalize hn2:x.2.length=n2 at *
   have HBX:=zH (aAc wr (.cells #[.slice ka n1 kc,.slice ya n2 yc] 245));have HNX:Hid ((wr.alloc (.cells #[.slice ka n1 kc,.slice ya n2 yc] 245)).heap[wr.heap.size]?=some (.cells #[.slice ka n1 kc,.slice ya n2 yc] 245 (0,0))):=heap_alloc_new wr _;have HG4:Hid ((wr.alloc (.cells #[.slice ka n1 kc,.slice ya n2 yc] 245)).heap.size=wr.heap.size+1):=by show _=_;simp
   go_upto_region 5 with fail;generalize wr.alloc (.cells #[.slice ka n1 kc,.slice ya n2 yc] 245)=w4 at *
   generalize hG4:wr.heap.size=G4 at *
   have q0:w4.cell? ⟨G4,0,none⟩=some (.slice ka n1 kc):=aAa HNX.o;have HBk:=zH (bytes_any ka n1 kc x.1 w4 (HK1.o.1.later (HBl.o.trans (HBX.o.mono (by rw [<-hG4];exact HBl.o.size))) (nR _)) (by omega));go_wp2_with fail;refine HBk.o.mono ?_;rintro e w5 ⟨g5,c5,rfl,ho5,hb5⟩;have HO5:=zH (aAh (aAh HO.o (by rw [hG4];exact HBX.o)) hb5)
   have HBS5:=zH (BS.ofOwns ho5 (by have:=HGK.o;omega) (fun z hz=>by
    rcases List.mem_append.1 hz with q | q
    ·exact HEK.o z q
    ·exact HKX.o.kb z q))
   have HB45:=zH hb5;have HB5:=zH ((HBl.o.trans (HBX.o.mono (by rw [<-hG4];exact HBl.o.size))).trans (hb5.mono (by have:=HG4.o;have:=HBl.o.size;omega)));have q5:w5.cell? ⟨G4,1,none⟩=some (.slice ya n2 yc):=(hb5.cell (p:=⟨G4,1,none⟩) (by show G4<_;have:=HG4.o;omega)).trans (aAa HNX.o);clear ho5 hb5 q0;have HNX5:Hid (w5.heap[G4]?=some (.cells #[.slice ka n1 kc,.slice ya n2 yc] 245 (0,0))):=(HB45.o.block G4 (by have:=HG4.o;omega)).trans HNX.o;go_wp2_with (at_builtin;refine aA7 rfl (.tmp 20) (.tmp 23) rfl w.heap.size _ (grp kind+grp L+P.length) (enc kind++enc L++P) rfl HO5.o (some ⟨g5,0,none⟩) (grp n1+n1) c5 (enc n1++x.1) rfl HBS5.o (by have:=HG1.o;have:=HG2.o;have:=HGK.o;have:=HPB.o;omega) w HB5.o HB5.o.size ?_;intro v6 w6 ho6 hb6 hs6 hk6;obtain ⟨a6,c6,rfl⟩:=aAg ho6;have HO6:=zH ho6;have HB6:=zH hb6;have q6:w6.cell? ⟨G4,1,none⟩=some (.slice ya n2 yc):=aAa (hk6 _ _ _ _ HNX5.o (by decide));clear ho6 hb6 hs6 hk6 q5);have HBv:=zH (bytes_any ya n2 yc x.2 w6 (HK2.o.1.later HB6.o (nR _)) (by omega));refine HBv.o.mono ?_;rintro e w7 ⟨g7,c7,rfl,ho7,hb7⟩;have HO7:=zH (aAh HO6.o hb7)
   have HBS7:=zH (BS.ofOwns ho7 (by have:=HGV.o;omega) (fun z hz=>by
    rcases List.mem_append.1 hz with q | q
    ·exact HEV.o z q
    ·exact HKX.o.vb z q))
   have HB7:=zH (HB6.o.trans (hb7.mono HB6.o.size));clear ho7 hb7 q6;go_wp2_with (at_builtin;refine aAt rfl (.tmp 25) (.tmp 28) rfl w.heap.size _ (grp kind+grp L+P.length+(grp n1+n1)) (enc kind++enc L++P++(enc n1++x.1)) rfl HO7.o (some ⟨g7,0,none⟩) (grp n2+n2) c7 (enc n2++x.2) rfl HBS7.o (by have:=HG1.o;have:=HG2.o;have:=HGK.o;have:=HGV.o;have:=HPB.o;omega) w HB7.o HB7.o.size ?_;intro v8 w8 ho8 hb8 hs8;obtain ⟨a8,c8,rfl⟩:=aAg ho8;have HO8:=zH ho8;have HB8:=zH hb8;clear ho8 hb8 hs8);go_roundw
   case rel =>
    refine ⟨j+1,by omega,by go_num,?_,HB8.o⟩;rw [HPL.o];have e1:(P++itB x).length=P.length+(grp n1+n1+(grp n2+n2)):=by rw [lA,itB_len HKX.o,hn1,hn2]
    have e2:enc kind++enc L++(P++itB x)=enc kind++enc L++P++(enc n1++x.1)++(enc n2++x.2):=by simp [itB,hn1,hn2]
    rw [e1,e2,show grp kind+grp L+(P.length+(grp n1+n1+(grp n2+n2)))=grp kind+grp L+P.length+(grp n1+n1)+(grp n2+n2) by omega];exact HO8.o
   case measure=>simp [intOf];omega
  ·have x1:¬ (j:Int)<(L:Int):=by omega
   have e:j=L:=by omega
   subst e;go_wp2;go_ret;have e9:posI l j=l.flatMap itB:=by unfold posI;rw [List.take_of_length_le (Nat.le_of_eq HL.o)]
   have h8:=HO.o;rw [e9] at h8;refine ⟨_,rfl,?_,HBl.o⟩;have e7:itsB kind l=enc kind++enc j++l.flatMap itB:=by unfold itsB;rw [HL.o];simp
   have e6:grp kind+grp j+(l.flatMap itB).length=N:=by rw [<-HNN.o,e7,lA,lA,HE1.o,HE2.o]
   rw [e6] at h8;show wr.ownsRow w.heap.size 5 1 (.slice va (grp kind+grp j+(posI l j).length) vc) N (cellsOf (itsB kind l));rw [e7,e9,e6];exact h8
end Go.Proofs.YtdfjjhlhnfindaaGreat
