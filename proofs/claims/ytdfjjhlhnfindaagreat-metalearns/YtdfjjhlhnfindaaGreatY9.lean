import Derived.Test.YtdfjjhlhnfindaaGreatY5
import Derived.Test.YtdfjjhlhnfindaaGreatY2
import Derived.BigQuiet
set_option maxRecDepth 100000
set_option maxHeartbeats 16000000
set_option linter.unusedVariables false
namespace Go.Proofs.YtdfjjhlhnfindaaGreat
open Go.RowKit Tryz
variable {B cap gb i j k n p size:Nat} {Q:Exit->Act->World->Prop} {a:Option Addr} {s:DS} {v:Value} {w w':World}
theorem aAg {e:Nat} {xs:List Value} (h:w.ownsRow B e size v n xs):∃ a cap,v=.slice a n cap:=by
 rcases h.2 with ⟨e,e0⟩ | ⟨g,cap,cur,e,_⟩
 ·exact ⟨none,0,by rw [e,e0]⟩
 ·exact ⟨_,cap,e⟩
theorem aFm {e:Nat} {xs:List Value} (h:w.ownsRow B e size (.slice a n cap) n xs) (h0:0<n):∃ g,a=some ⟨g,0,none⟩/\g<w.heap.size/\∃ cur,w.heap[g]?=some (.cells cur e (0,0)):=by
 rcases h.2 with ⟨_,e0⟩ | ⟨g,cap,cur,e,_,hc,_⟩
 ·omega
 ·simp only [Value.slice.injEq,true_and] at e;exact ⟨g,e.1,(lO hc),cur,hc⟩
theorem aAc (w:World) (o:Obj):Below w.heap.size w (w.alloc o):=(Below.refl _ _).alloc (nR _) _
theorem aGj [Gd] (B p:Nat) (s:DS) (a:Int) (keep:Nat) (torn cut:Int) (w:World) (h:DI B p s w) (hB:B<=w.heap.size) (hkeep:keep<18446744073709551616) :
  Calls prog 54 #[.pointer (some ⟨p,0,none⟩),.agg #[.int .i64 a,.int .u64 (keep:Int),.int .i64 torn,.int .i64 cut]] w fun e w'=>e=.returned (.tuple #[])/\DI B p (s.settle keep torn cut) w'/\Fr B w w':=by
 obtain ⟨gb,vo,kv,ov,wv,h⟩:=h;have HD:=zH h;have HS:=zH (SW.start h hB a keep torn cut);obtain ⟨A,C,hvo,hmc,hcm,hnil⟩:=h.form;have hm:=h.ok.mm;have HOK:=zH h.ok;have HBW:=zH hB;subst hvo;have c1:=aAa (i:=1) HS.o.hp;simp only [headV] at c1;have c1':(w.alloc (.cells #[.int .i64 a,.int .u64 (keep:Int),.int .i64 torn,.int .i64 cut] 82)).cell? ⟨p,1,none⟩=some (.slice A s.m C):=c1;clear h c1 hnil;generalize hM:s.m=m at *
 have HM:=zH hM;clear hM;go_enter func54,ntmps54;go_wp2;clear c1';go_loopw [12] (fun i wr=>∃ (k:Nat) (kv' ov':Nat->Value),k<=m/\i=.int .i64 k/\SW B p gb w.heap.size (.slice A m C) ov wv s a keep torn cut w k kv' ov' wr) (fun i _=>m-(intOf i).toNat)
 case atStart=>exact ⟨0,kv,ov,by omega,rfl,HS.o⟩
 case round =>
  obtain ⟨k,kv',ov',hk,rfl,hS⟩:=hrel;have HS2:=zH hS;by_cases hlt:k<m
  ·have hw':=hS.hw;rw [HM.o] at hw';obtain ⟨g,rfl,hgl,cur,hgc⟩:=aFm hw' (by omega);have hkm:k<s.m:=by rw [HM.o];exact hlt
   have r0:=hw'.cellAt (k*2) (by omega);have r1:=hw'.cellAt (k*2+1) (by omega);rw [aA0 _ _ _ _ hlt] at r0;rw [aA2 _ _ _ _ hlt] at r1;clear hw';have hat:=HOK.o.at_ k hkm;have q0:wr.cell? ⟨p,0,none⟩=some (.slice (some ⟨gb,0,none⟩) s.n s.n):=aAa hS.hp;have q1:wr.cell? ⟨gb,s.at_ k*2,none⟩=some (kv' (s.at_ k)):=by
    rw [aAa hS.hg];simpa using aA0 kv' ov' (s.at_ k) s.n hat
   obtain ⟨a1,p1,e1⟩:=aAg (hS.hk (s.at_ k) hat);obtain ⟨a2,p2,e2⟩:=aAg (hS.hb k hkm);rw [e1] at q1;rw [e2] at r1;have HE1:=zH e1;have HE2:=zH e2;clear e1 e2;have l1:∀ i,wr.cell? ⟨w.heap.size,i,none⟩=(#[Value.int .i64 a,.int .u64 (keep:Int),.int .i64 torn,.int .i64 cut]:Array Value)[i]?:=fun i=>aAa hS.hl
   have hk1:=HOK.o.n2;have i1:(0:Int)<=(k:Int):=by omega
   have i2:(k:Int)<(m:Int):=by omega
   have i3:(0:Int)<=((s.at_ k:Nat):Int):=by omega
   have i4:((s.at_ k:Nat):Int)<((s.n:Nat):Int):=by omega
   generalize (s.setK keep torn cut k (s.at_ k)).length=n1 at *
   generalize (s.by_ k).length=n2 at *
   clear hS;go_wp2_with fail;have HB1:=zH (aAc wr (.cells #[.int .i64 ((s.at_ k:Nat):Int),.slice a2 n2 p2] 164));have hwB:B<=wr.heap.size:=nT HBW.o HS2.o.fr.bel.size;have HS3:=zH (HS2.o.later HB1.o hwB);have HWB:=zH hwB;have hgB:gb<wr.heap.size:=(lO HS2.o.hg);have hgL:gb≠w.heap.size:=by
    intro e;have h1:=HS2.o.hg;rw [e,HS2.o.hl] at h1;simp only [oI,cI] at h1;exact absurd h1.2.1 (by decide)
   have HGB:=zH HD.o.gB;have HGS:Hid (¬ Gd.s gb):=fun e=>(HD.o.hG gb e).2.2.1 rfl
   have hpB:p<wr.heap.size:=(lO HS2.o.hp);have hlB:w.heap.size<wr.heap.size:=(lO HS2.o.hl);have HSZ:Hid ((wr.alloc (.cells #[.int .i64 ((s.at_ k:Nat):Int),.slice a2 n2 p2] 164)).heap.size=wr.heap.size+1):=by show _=_;simp
   have x0:(wr.alloc (.cells #[.int .i64 ((s.at_ k:Nat):Int),.slice a2 n2 p2] 164)).cell? ⟨p,0,none⟩=some (.slice (some ⟨gb,0,none⟩) s.n s.n):=(HB1.o.cell hpB).trans q0;have x1:(wr.alloc (.cells #[.int .i64 ((s.at_ k:Nat):Int),.slice a2 n2 p2] 164)).cell? ⟨gb,s.at_ k*2,none⟩=some (.slice a1 n1 p1):=(HB1.o.cell hgB).trans q1;have x2:(wr.alloc (.cells #[.int .i64 ((s.at_ k:Nat):Int),.slice a2 n2 p2] 164)).cell? ⟨wr.heap.size,0,none⟩=some (.int .i64 ((s.at_ k:Nat):Int)):=by rw [World.cell?_alloc_at _ _ _ _ rfl];rfl
   have x3:(wr.alloc (.cells #[.int .i64 ((s.at_ k:Nat):Int),.slice a2 n2 p2] 164)).cell? ⟨wr.heap.size,1,none⟩=some (.slice a2 n2 p2):=by rw [World.cell?_alloc_at _ _ _ _ rfl];rfl
   have x4:∀ i,(wr.alloc (.cells #[.int .i64 ((s.at_ k:Nat):Int),.slice a2 n2 p2] 164)).cell? ⟨w.heap.size,i,none⟩=(#[Value.int .i64 a,.int .u64 (keep:Int),.int .i64 torn,.int .i64 cut]:Array Value)[i]?:=fun i=>(HB1.o.cell hlB).trans (l1 i)
   have y0:=x4 0;have y1:=x4 1;have y2:=x4 2;have y3:=x4 3;simp only [List.getElem?_toArray,List.getElem?_cons_zero,List.getElem?_cons_succ] at y0 y1 y2 y3;clear q0 q1 r0 r1 l1 x4;generalize wr.alloc (.cells #[.int .i64 ((s.at_ k:Nat):Int),.slice a2 n2 p2] 164)=w1 at *
   go_quiet (fail);go_wp2_with fail;have HX:Hid ((fun wx=>wx.cell? ⟨wr.heap.size,1,none⟩=some (.slice a2 n2 p2)/\wx.cell? ⟨w.heap.size,0,none⟩=some (.int .i64 a)/\wx.cell? ⟨w.heap.size,1,none⟩=some (.int .u64 (keep:Int))/\wx.cell? ⟨w.heap.size,2,none⟩=some (.int .i64 torn)/\wx.cell? ⟨w.heap.size,3,none⟩=some (.int .i64 cut)) w1):=⟨x3,y0,y1,y2,y3⟩;have HC1:=zH x1;clear x0 x1 x2 x3 y0 y1 y2 y3;refine wp_region_noPanic ?_;refine wp_region_held_drew (S:=fun wx=>wx.cell? ⟨wr.heap.size,1,none⟩=some (.slice a2 n2 p2)/\wx.cell? ⟨w.heap.size,0,none⟩=some (.int .i64 a)/\wx.cell? ⟨w.heap.size,1,none⟩=some (.int .u64 (keep:Int))/\wx.cell? ⟨w.heap.size,2,none⟩=some (.int .i64 torn)/\wx.cell? ⟨w.heap.size,3,none⟩=some (.int .i64 cut)) (by kernel_rfl) HX.o (fun hHeld=>?_);refine kT 0 24 ?_;refine kT 1 25 ?_;refine kT 2 26 ?_;refine kT 3 27 ?_;refine kT 5 29 ?_;refine kT 6 30 ?_;refine kT 7 31 ?_;refine kT 8 32 ?_;refine aAn (i:=4) (j:=9) (by kernel_rfl) (by kernel_rfl) (by kernel_rfl) ?b1 ?b2
   case b1 =>
    intro o ho K hK;simp only [List.getElem?_toArray,List.getElem?_cons_succ,List.getElem?_cons_zero,oI] at ho;subst ho;have c3:=HC1.o;go_simp;clear c3;refine hK.out _ _ hHeld (fun hHeld=>?_);clear hK K
    try simp only [Act.put,siT,scZ,scS]
    refine kC 9 ?_;intro K hK;go_simp;refine (aDz a keep torn cut k _ (by omega) hkeep).mono ?_;rintro e w2 ⟨rfl,hb2⟩;have HB2:=zH ((below_drewN (Below.refl w1.heap.size w1) (nq+1)).trans hb2);have HS4:=zH (HS3.o.later HB2.o (by have:=HSZ.o;have:=HWB.o;omega));have HX2:Hid ((fun wx=>wx.cell? ⟨wr.heap.size,1,none⟩=some (.slice a2 n2 p2)/\wx.cell? ⟨w.heap.size,0,none⟩=some (.int .i64 a)/\wx.cell? ⟨w.heap.size,1,none⟩=some (.int .u64 (keep:Int))/\wx.cell? ⟨w.heap.size,2,none⟩=some (.int .i64 torn)/\wx.cell? ⟨w.heap.size,3,none⟩=some (.int .i64 cut)) w2):=⟨(HB2.o.cell (aAk HX.o.1)).trans HX.o.1,(HB2.o.cell (aAk HX.o.2.1)).trans HX.o.2.1,(HB2.o.cell (aAk HX.o.2.2.1)).trans HX.o.2.2.1,(HB2.o.cell (aAk HX.o.2.2.2.1)).trans HX.o.2.2.2.1,(HB2.o.cell (aAk HX.o.2.2.2.2)).trans HX.o.2.2.2.2⟩;have HC2:=zH ((HB2.o.cell (aAk HC1.o)).trans HC1.o);clear hb2 hHeld;refine hK.out _ _ HX2.o (fun hHeld=>?_);clear hK K
    try simp only [Act.put,siT,scZ,scS]
    refine kC 10 ?_;intro K hK;go_simp;have hBs:B<=w2.heap.size:=nT HWB.o (nT HB1.o.size HB2.o.size);have HQ1:=zH (HS4.o.hk (s.at_ k) hat);have HQ2:=zH (HS4.o.hb k hkm);rw [HE1.o] at HQ1;rw [HE2.o] at HQ2;refine (laid_any B _ _ (s.setK keep torn cut k (s.at_ k)) (s.by_ k) (keptN keep torn cut k) w2 HQ1.o HQ2.o hBs (aDm HOK.o _ _ _ _ _) (HOK.o.bl k) (aFh HOK.o _ _ _ _ _) (HOK.o.bb k) (aHr _ _ _ _)).mono ?_;rintro e w3 ⟨v3,rfl,ho3,hb3⟩;obtain ⟨a3,p3,rfl⟩:=aAg ho3;have HS5:=zH (HS4.o.later hb3 hBs);have HF:=zH (HS5.o.step hkm HOK.o HGB.o HGS.o ho3);have HX3:Hid ((fun wx=>wx.cell? ⟨wr.heap.size,1,none⟩=some (.slice a2 n2 p2)/\wx.cell? ⟨w.heap.size,0,none⟩=some (.int .i64 a)/\wx.cell? ⟨w.heap.size,1,none⟩=some (.int .u64 (keep:Int))/\wx.cell? ⟨w.heap.size,2,none⟩=some (.int .i64 torn)/\wx.cell? ⟨w.heap.size,3,none⟩=some (.int .i64 cut)) w3):=⟨(hb3.cell (aAk HX2.o.1)).trans HX2.o.1,(hb3.cell (aAk HX2.o.2.1)).trans HX2.o.2.1,(hb3.cell (aAk HX2.o.2.2.1)).trans HX2.o.2.2.1,(hb3.cell (aAk HX2.o.2.2.2.1)).trans HX2.o.2.2.2.1,(hb3.cell (aAk HX2.o.2.2.2.2)).trans HX2.o.2.2.2.2⟩;have c4:w3.cell? ⟨gb,s.at_ k*2,none⟩=some (.slice a1 n1 p1):=(hb3.cell (aAk HC2.o)).trans HC2.o;have f4:w3.frozen? ⟨gb,s.at_ k*2,none⟩=false:=aAb HS5.o.hg;have f5:w3.frozen? ⟨gb,s.at_ k*2+1,none⟩=false:=aAb HS5.o.hg;generalize (laidL (s.setK keep torn cut k (s.at_ k)) (s.by_ k) (keptN keep torn cut k)).length=n3 at *
    clear ho3 hb3 hHeld;refine hK.out _ _ HX3.o (fun hHeld=>?_);clear hK K
    try simp only [Act.put,siT,scZ,scS]
    refine kT 11 35 ?_;refine kT 12 36 ?_;refine kC 13 ?_;intro K hK;go_simp;have HX4:Hid ((fun wx=>wx.cell? ⟨wr.heap.size,1,none⟩=some (.slice a2 n2 p2)/\wx.cell? ⟨w.heap.size,0,none⟩=some (.int .i64 a)/\wx.cell? ⟨w.heap.size,1,none⟩=some (.int .u64 (keep:Int))/\wx.cell? ⟨w.heap.size,2,none⟩=some (.int .i64 torn)/\wx.cell? ⟨w.heap.size,3,none⟩=some (.int .i64 cut)) (w3.setCell ⟨gb,s.at_ k*2,none⟩ (.slice a3 n3 p3))):=⟨(World.cell?_setCell_other _ _ _ _ (fun e=>by have:=congrArg Addr.block e;simp only at this;omega)).trans HX3.o.1,(World.cell?_setCell_other _ _ _ _ (fun e=>hgL (congrArg Addr.block e))).trans HX3.o.2.1,(World.cell?_setCell_other _ _ _ _ (fun e=>hgL (congrArg Addr.block e))).trans HX3.o.2.2.1,(World.cell?_setCell_other _ _ _ _ (fun e=>hgL (congrArg Addr.block e))).trans HX3.o.2.2.2.1,(World.cell?_setCell_other _ _ _ _ (fun e=>hgL (congrArg Addr.block e))).trans HX3.o.2.2.2.2⟩;clear hHeld;refine hK.out _ _ HX4.o (fun hHeld=>?_);clear hK K
    try simp only [Act.put,siT,scZ,scS]
    refine wpAnyH_done (by kernel_rfl) ?_ _;refine NoPanic.normal ?_;have c5:(w3.setCell ⟨gb,s.at_ k*2,none⟩ (.slice a3 n3 p3)).cell? ⟨gb,s.at_ k*2+1,none⟩=some (ov' (s.at_ k)):=by
     rw [World.cell?_setCell_other _ _ _ _ (fun e=>by have:=congrArg Addr.off e;simp only at this;omega),aAa HS5.o.hg];simpa using aA2 kv' ov' (s.at_ k) s.n hat
    have f6:(w3.setCell ⟨gb,s.at_ k*2,none⟩ (.slice a3 n3 p3)).frozen? ⟨gb,s.at_ k*2+1,none⟩=false:=by simpa using f5
    clear c4 f4 f5;go_wp2;go_roundw
    case rel=>exact ⟨k+1,_,_,by omega,by go_num,HF.o⟩
    case measure=>simp [intOf];omega
   case b2 =>
    intro o ho K hK;simp only [List.getElem?_toArray,List.getElem?_cons_succ,List.getElem?_cons_zero,oI] at ho;subst ho;go_simp;refine (aDz a keep torn cut k _ (by omega) hkeep).mono ?_;rintro e w2 ⟨rfl,hb2⟩;have HB2:=zH ((below_drewN (Below.refl w1.heap.size w1) (nq+1)).trans hb2);have HS4:=zH (HS3.o.later HB2.o (by have:=HSZ.o;have:=HWB.o;omega));have HX2:Hid ((fun wx=>wx.cell? ⟨wr.heap.size,1,none⟩=some (.slice a2 n2 p2)/\wx.cell? ⟨w.heap.size,0,none⟩=some (.int .i64 a)/\wx.cell? ⟨w.heap.size,1,none⟩=some (.int .u64 (keep:Int))/\wx.cell? ⟨w.heap.size,2,none⟩=some (.int .i64 torn)/\wx.cell? ⟨w.heap.size,3,none⟩=some (.int .i64 cut)) w2):=⟨(HB2.o.cell (aAk HX.o.1)).trans HX.o.1,(HB2.o.cell (aAk HX.o.2.1)).trans HX.o.2.1,(HB2.o.cell (aAk HX.o.2.2.1)).trans HX.o.2.2.1,(HB2.o.cell (aAk HX.o.2.2.2.1)).trans HX.o.2.2.2.1,(HB2.o.cell (aAk HX.o.2.2.2.2)).trans HX.o.2.2.2.2⟩;have HC2:=zH ((HB2.o.cell (aAk HC1.o)).trans HC1.o);clear hb2 hHeld;refine hK.out _ _ HX2.o (fun hHeld=>?_);clear hK K
    try simp only [Act.put,siT,scZ,scS]
    refine kC 4 ?_;intro K hK;go_simp;have c3:=HC2.o;go_simp;clear c3;refine hK.out _ _ hHeld (fun hHeld=>?_);clear hK K
    try simp only [Act.put,siT,scZ,scS]
    refine kC 10 ?_;intro K hK;go_simp;have hBs:B<=w2.heap.size:=nT HWB.o (nT HB1.o.size HB2.o.size);have HQ1:=zH (HS4.o.hk (s.at_ k) hat);have HQ2:=zH (HS4.o.hb k hkm);rw [HE1.o] at HQ1;rw [HE2.o] at HQ2;refine (laid_any B _ _ (s.setK keep torn cut k (s.at_ k)) (s.by_ k) (keptN keep torn cut k) w2 HQ1.o HQ2.o hBs (aDm HOK.o _ _ _ _ _) (HOK.o.bl k) (aFh HOK.o _ _ _ _ _) (HOK.o.bb k) (aHr _ _ _ _)).mono ?_;rintro e w3 ⟨v3,rfl,ho3,hb3⟩;obtain ⟨a3,p3,rfl⟩:=aAg ho3;have HS5:=zH (HS4.o.later hb3 hBs);have HF:=zH (HS5.o.step hkm HOK.o HGB.o HGS.o ho3);have HX3:Hid ((fun wx=>wx.cell? ⟨wr.heap.size,1,none⟩=some (.slice a2 n2 p2)/\wx.cell? ⟨w.heap.size,0,none⟩=some (.int .i64 a)/\wx.cell? ⟨w.heap.size,1,none⟩=some (.int .u64 (keep:Int))/\wx.cell? ⟨w.heap.size,2,none⟩=some (.int .i64 torn)/\wx.cell? ⟨w.heap.size,3,none⟩=some (.int .i64 cut)) w3):=⟨(hb3.cell (aAk HX2.o.1)).trans HX2.o.1,(hb3.cell (aAk HX2.o.2.1)).trans HX2.o.2.1,(hb3.cell (aAk HX2.o.2.2.1)).trans HX2.o.2.2.1,(hb3.cell (aAk HX2.o.2.2.2.1)).trans HX2.o.2.2.2.1,(hb3.cell (aAk HX2.o.2.2.2.2)).trans HX2.o.2.2.2.2⟩;have c4:w3.cell? ⟨gb,s.at_ k*2,none⟩=some (.slice a1 n1 p1):=(hb3.cell (aAk HC2.o)).trans HC2.o;have f4:w3.frozen? ⟨gb,s.at_ k*2,none⟩=false:=aAb HS5.o.hg;have f5:w3.frozen? ⟨gb,s.at_ k*2+1,none⟩=false:=aAb HS5.o.hg;generalize (laidL (s.setK keep torn cut k (s.at_ k)) (s.by_ k) (keptN keep torn cut k)).length=n3 at *
    clear ho3 hb3 hHeld;refine hK.out _ _ HX3.o (fun hHeld=>?_);clear hK K
    try simp only [Act.put,siT,scZ,scS]
    refine kT 11 35 ?_;refine kT 12 36 ?_;refine kC 13 ?_;intro K hK;go_simp;have HX4:Hid ((fun wx=>wx.cell? ⟨wr.heap.size,1,none⟩=some (.slice a2 n2 p2)/\wx.cell? ⟨w.heap.size,0,none⟩=some (.int .i64 a)/\wx.cell? ⟨w.heap.size,1,none⟩=some (.int .u64 (keep:Int))/\wx.cell? ⟨w.heap.size,2,none⟩=some (.int .i64 torn)/\wx.cell? ⟨w.heap.size,3,none⟩=some (.int .i64 cut)) (w3.setCell ⟨gb,s.at_ k*2,none⟩ (.slice a3 n3 p3))):=⟨(World.cell?_setCell_other _ _ _ _ (fun e=>by have:=congrArg Addr.block e;simp only at this;omega)).trans HX3.o.1,(World.cell?_setCell_other _ _ _ _ (fun e=>hgL (congrArg Addr.block e))).trans HX3.o.2.1,(World.cell?_setCell_other _ _ _ _ (fun e=>hgL (congrArg Addr.block e))).trans HX3.o.2.2.1,(World.cell?_setCell_other _ _ _ _ (fun e=>hgL (congrArg Addr.block e))).trans HX3.o.2.2.2.1,(World.cell?_setCell_other _ _ _ _ (fun e=>hgL (congrArg Addr.block e))).trans HX3.o.2.2.2.2⟩;clear hHeld;refine hK.out _ _ HX4.o (fun hHeld=>?_);clear hK K
    try simp only [Act.put,siT,scZ,scS]
    refine wpAnyH_done (by kernel_rfl) ?_ _;refine NoPanic.normal ?_;have c5:(w3.setCell ⟨gb,s.at_ k*2,none⟩ (.slice a3 n3 p3)).cell? ⟨gb,s.at_ k*2+1,none⟩=some (ov' (s.at_ k)):=by
     rw [World.cell?_setCell_other _ _ _ _ (fun e=>by have:=congrArg Addr.off e;simp only at this;omega),aAa HS5.o.hg];simpa using aA2 kv' ov' (s.at_ k) s.n hat
    have f6:(w3.setCell ⟨gb,s.at_ k*2,none⟩ (.slice a3 n3 p3)).frozen? ⟨gb,s.at_ k*2+1,none⟩=false:=by simpa using f5
    clear c4 f4 f5;go_wp2;go_roundw
    case rel=>exact ⟨k+1,_,_,by omega,by go_num,HF.o⟩
    case measure=>simp [intOf];omega
  ·have hkm:k=m:=by omega
   subst hkm;have f1:wr.frozen? ⟨p,1,none⟩=false:=aAb hS.hp;have c1:wr.cell? ⟨p,1,none⟩=some (.slice A k C):=aAa hS.hp;rw [<-HM.o] at HS2;have HF:=zH (SW.done (by rw [HM.o];exact HD.o) HS2.o);clear hS;go_wp2;go_end0;exact ⟨rfl,HF.o⟩
def DS.with (s:DS) (after:Int) (keep:Nat) (torn cut:Int) (down:Bool) (life:Int):DS:=⟨s.kept,s.opens,after,keep,torn,cut,down,life⟩
theorem DV.put [Gd] {vo:Value} {kv ov wv:Nat->Value} (h:DV B p gb vo kv ov wv s w) {after:Int} {keep:Nat} {torn cut:Int} {down:Bool} {life:Int}
  (hp:w'.heap[p]?=some (.cells (headV gb vo s.n after keep torn cut down life) 84 (0,0))) (oth:∀ i,i≠p->w'.heap[i]?=w.heap[i]?)
  (k1:keep<18446744073709551616) (k2:after<=9223372036854775807) (k3:0<=life) (k4:life<=100000) :
  DV B p gb vo kv ov wv (s.with after keep torn cut down life) w':=by
 have ne:∀ {i:Nat} {cs:Array Value} {t:TypeId},w.heap[i]?=some (.cells cs t (0,0))->t≠84->i≠p:=by
  intro i cs t e ht e2;subst e2;rw [h.hp] at e;simp only [oI,cI] at e;exact ht e.2.1.symm
 have row:∀ {e:TypeId} {size n:Nat} {v:Value} {xs:List Value},e≠84->w.ownsRow B e size v n xs->w'.ownsRow B e size v n xs:=by
  intro e size n v xs he h0;obtain ⟨h1,h2⟩:=h0;refine ⟨h1,?_⟩;rcases h2 with h2 | ⟨g,cap,cur,hv,hg,hc,h3⟩
  ·exact Or.inl h2
  ·exact Or.inr ⟨g,cap,cur,hv,hg,by rw [oth g (ne hc he)];exact hc,h3⟩
 have ok:=h.ok;exact ⟨hp,by rw [oth gb (ne h.hg (by decide))];exact h.hg,row (by decide) h.hw,fun i hi=>row (by decide) (h.hk i hi),fun i hi=>row (by decide) (h.hb i hi),fun i hi=>row (by decide) (h.ho i hi),h.ha,h.pB,h.gB,⟨ok.n1,ok.n2,ok.kl,ok.kb,ok.at_,ok.bl,ok.bb,ok.mm,k1,k2,k3,k4⟩,fun k hk=>⟨(h.hG k hk).1.same (oth k (h.hG k hk).2.1),(h.hG k hk).2⟩⟩
theorem chain [Gd] {t:TypeId} (hB:B<=p) (ht:t=84\/t=167\/t=164\/False) (hs0:¬ Gd.s p):∀ (l:List (Nat×Value)) (w:World) (cs:Array Value),w.heap[p]?=some (.cells cs t (0,0)) ->
  (l.foldl (fun w x=>w.setCell ⟨p,x.1,none⟩ x.2) w).heap[p]?=some (.cells (l.foldl (fun c x=>c.setIfInBounds x.1 x.2) cs) t (0,0))/\Fr B w (l.foldl (fun w x=>w.setCell ⟨p,x.1,none⟩ x.2) w)/\∀ i,i≠p->(l.foldl (fun w x=>w.setCell ⟨p,x.1,none⟩ x.2) w).heap[i]?=w.heap[i]?
 | [],w,cs,h=>⟨h,Fr.refl _ _,fun _ _=>rfl⟩
 | (o,u)::l,w,cs,h=>by
  obtain ⟨h1,h2,h3⟩:=chain hB ht hs0 l (w.setCell ⟨p,o,none⟩ u) _ (heap_setCell_same w p o cs t u h)
  exact ⟨h1,(Fr.set h hB ht hs0 o u).trans h2,fun i hi=>(h3 i hi).trans (heap_setCell_other _ _ _ _ hi)⟩
def DS.lose (s:DS) (keep:Nat) (torn cut:Int):DS:=(s.settle keep torn cut).with 0 0 0 0 true (s.life+1)
def DS.up (s:DS):DS:=s.with 0 0 0 0 false s.life
theorem turn_lose [Gd] (B p:Nat) (s:DS) (a:Int) (keep:Nat) (torn cut:Int) (w:World) (h:DI B p s w) (hB:B<=w.heap.size) (hkeep:keep<18446744073709551616) (hd:s.down=false) (hl:s.life<100000) :
  Calls prog 43 #[.pointer (some ⟨p,0,none⟩),.bool true,.agg #[.int .i64 a,.int .u64 (keep:Int),.int .i64 torn,.int .i64 cut]] w fun e w'=>e=.returned (.tuple #[])/\DI B p (s.lose keep torn cut) w'/\Fr B w w':=by
 have HL0:=zH h.ok.life0;have HH:=zH h;obtain ⟨gb,vo,kv,ov,wv,h⟩:=h;have c6:=h.c6;rw [hd] at c6;have hpl:p<w.heap.size:=(lO h.hp);have c6':(w.alloc (.cells #[.int .i64 a,.int .u64 (keep:Int),.int .i64 torn,.int .i64 cut] 82)).cell? ⟨p,6,none⟩=some (.bool false):=((aAc w _).cell hpl).trans c6;have HB1:=zH (aAc w (.cells #[.int .i64 a,.int .u64 (keep:Int),.int .i64 torn,.int .i64 cut] 82));have HHL:=zH hl;clear h c6;go_enter func43,ntmps43;go_wp2_with fail;refine (aGj B p s a keep torn cut _ (HH.o.later HB1.o) (nT hB HB1.o.size) hkeep).mono ?_;rintro e w2 ⟨rfl,hD2,hF2⟩;have HF2:=zH ((Fr.of HB1.o hB).trans hF2);obtain ⟨gb2,vo2,kv2,ov2,wv2,D2⟩:=hD2;have HD2:=zH D2;have d7:=D2.c7;have d2:=D2.c2;have d3:=D2.c3;have d4:=D2.c4;have d5:=D2.c5;have d6:=D2.c6;have fz:=D2.frz;have e7:(s.settle keep torn cut).life=s.life:=rfl;rw [e7] at d7;have l0:=HL0.o;have l1:=HHL.o;clear hF2 D2 e7 c6';go_wp2;go_end0;obtain ⟨h1,h2,h3⟩:=chain HD2.o.pB (Or.inl rfl) (fun e=>(HD2.o.hG p e).2.1 rfl) [(7,Value.int .i64 (s.life+1)),(2,.int .i64 0),(3,.int .u64 0),(4,.int .i64 0),(5,.int .i64 0),(6,.bool true)] w2 _ HD2.o.hp;exact ⟨rfl,⟨gb2,vo2,kv2,ov2,wv2,HD2.o.put h1 h3 (by omega) (by omega) (by have:=HL0.o;omega) (by have:=HHL.o;omega)⟩,HF2.o.trans h2⟩
theorem turn_up [Gd] (B p:Nat) (s:DS) (a:Int) (keep:Nat) (torn cut:Int) (w:World) (h:DI B p s w) (hB:B<=w.heap.size) (hd:s.down=true) :
  Calls prog 43 #[.pointer (some ⟨p,0,none⟩),.bool false,.agg #[.int .i64 a,.int .u64 (keep:Int),.int .i64 torn,.int .i64 cut]] w fun e w'=>e=.returned (.tuple #[])/\DI B p s.up w'/\Fr B w w':=by
 obtain ⟨gb,vo,kv,ov,wv,h⟩:=h;have HB1:=zH (aAc w (.cells #[.int .i64 a,.int .u64 (keep:Int),.int .i64 torn,.int .i64 cut] 82));have HD2:=zH (h.later HB1.o);have HF1:=zH (Fr.of HB1.o hB);generalize hW:w.alloc (.cells #[.int .i64 a,.int .u64 (keep:Int),.int .i64 torn,.int .i64 cut] 82)=w2 at *
 have HW:=zH hW;have d7:=HD2.o.c7;have d2:=HD2.o.c2;have d3:=HD2.o.c3;have d4:=HD2.o.c4;have d5:=HD2.o.c5;have d6:=HD2.o.c6;have fz:=HD2.o.frz;rw [hd] at d6;subst hW;clear h;go_enter func43,ntmps43;go_wp2;go_end0;obtain ⟨h1,h2,h3⟩:=chain HD2.o.pB (Or.inl rfl) (fun e=>(HD2.o.hG p e).2.1 rfl) [(2,Value.int .i64 0),(3,.int .u64 0),(4,.int .i64 0),(5,.int .i64 0),(6,.bool false)] _ _ HD2.o.hp;exact ⟨rfl,⟨gb,vo,kv,ov,wv,HD2.o.put h1 h3 (by omega) (by omega) HD2.o.ok.life0 HD2.o.ok.life1⟩,HF1.o.trans h2⟩
theorem turn_same [Gd] (B p:Nat) (s:DS) (a:Int) (keep:Nat) (torn cut:Int) (w:World) (h:DI B p s w) (hB:B<=w.heap.size) :
  Calls prog 43 #[.pointer (some ⟨p,0,none⟩),.bool s.down,.agg #[.int .i64 a,.int .u64 (keep:Int),.int .i64 torn,.int .i64 cut]] w fun e w'=>e=.returned (.tuple #[])/\DI B p s w'/\Fr B w w':=by
 have HH:=zH h;obtain ⟨gb,vo,kv,ov,wv,h⟩:=h;have HB1:=zH (aAc w (.cells #[.int .i64 a,.int .u64 (keep:Int),.int .i64 torn,.int .i64 cut] 82));have hpl:p<w.heap.size:=(lO h.hp);have c6:(w.alloc (.cells #[.int .i64 a,.int .u64 (keep:Int),.int .i64 torn,.int .i64 cut] 82)).cell? ⟨p,6,none⟩=some (.bool s.down):=(HB1.o.cell hpl).trans h.c6;have HF:=zH (Fr.of HB1.o hB);have HD:=zH (HH.o.later HB1.o);clear h;generalize s.down=d at *
 go_enter func43,ntmps43;go_wp2;go_end0;exact ⟨rfl,HD.o,HF.o⟩
def DS.restart (s:DS):DS:=if s.down then s.up else s
def DS.arm (s:DS) (after:Int) (keep:Nat) (torn cut:Int):DS:=if s.down then s else s.with after keep torn cut s.down s.life
theorem restart_any [Gd] (B p:Nat) (s:DS) (w:World) (h:DI B p s w) (hB:B<=w.heap.size) :
  Calls prog 28 #[.pointer (some ⟨p,0,none⟩)] w fun e w'=>e=.returned (.tuple #[])/\DI B p s.restart w'/\Fr B w w':=by
 have HH:=zH h
 cases hd:s.down with
 | false =>
  have HC:=zH (fun ww h1 h2=>turn_same B p s 0 0 0 0 ww h1 h2);rw [hd] at HC;have HE:Hid (s.restart=s):=by show _=_;unfold DS.restart;rw [hd];rfl
  clear h hd;go_enter func28,ntmps28;go_wp2_with fail;refine (HC.o _ HH.o hB).mono ?_;rintro e w2 ⟨rfl,hD2,hF2⟩;have HD2:=zH hD2;have HF2:=zH hF2;clear hD2 hF2;go_wp2;go_end0;rw [HE.o];exact ⟨rfl,HD2.o,HF2.o⟩
 | true =>
  have HC:=zH (fun ww h1 h2=>turn_up B p s 0 0 0 0 ww h1 h2 hd);have HE:Hid (s.restart=s.up):=by show _=_;unfold DS.restart;rw [hd];rfl
  clear h hd;go_enter func28,ntmps28;go_wp2_with fail;refine (HC.o _ HH.o hB).mono ?_;rintro e w2 ⟨rfl,hD2,hF2⟩;have HD2:=zH hD2;have HF2:=zH hF2;clear hD2 hF2;go_wp2;go_end0;rw [HE.o];exact ⟨rfl,HD2.o,HF2.o⟩
def DS.tick (s:DS):DS:=if s.after<1 then s else if s.after=1 then s.lose s.keep s.torn s.cut else s.with (s.after-1) s.keep s.torn s.cut s.down s.life
theorem with_setK (s:DS) (a:Int) (k:Nat) (t c:Int) (d:Bool) (l:Int) (keep:Nat) (torn cut:Int) (i:Nat):∀ j,(s.with a k t c d l).setK keep torn cut j i=s.setK keep torn cut j i
 | 0=>rfl
 | j+1=>by
  rw [DS.setK,DS.setK,with_setK s a k t c d l keep torn cut i j]
  rfl
theorem with_lose (s:DS) (a:Int) (k:Nat) (t c:Int) (d:Bool) (keep:Nat) (torn cut:Int):(s.with a k t c d s.life).lose keep torn cut=s.lose keep torn cut:=by
 unfold DS.lose DS.settle;have e:(s.with a k t c d s.life).setK keep torn cut (s.with a k t c d s.life).m=s.setK keep torn cut s.m:=by
  funext i
  exact with_setK s a k t c d s.life keep torn cut i _
 rw [e];rfl
theorem aFy [Gd] (B p:Nat) (s:DS) (w:World) (h:DI B p s w) (hB:B<=w.heap.size) (hd:s.down=false) (hl:s.life<100000) :
  Calls prog 206 #[.pointer (some ⟨p,0,none⟩)] w fun e w'=>e=.returned (.bool (decide (s.after=1)))/\DI B p s.tick w'/\Fr B w w':=by
 have HH:=zH h;have ok:=h.ok;obtain ⟨gb,vo,kv,ov,wv,h⟩:=h;have HD:=zH h;have c2:=h.c2;have HT:Hid (s.tick=if s.after<1 then s else if s.after=1 then s.lose s.keep s.torn s.cut else s.with (s.after-1) s.keep s.torn s.cut s.down s.life):=rfl;by_cases h1:s.after<1
 ·have d1:decide (s.after<1)=true:=decide_eq_true h1;have HE:Hid (decide (s.after=1)=false):=decide_eq_false (by omega);rw [if_pos h1] at HT;generalize s.tick=s' at *
  have HT2:=HT;clear h ok hd hl HT;generalize s.after=af at *
  go_enter func206,ntmps206;go_wp2;go_ret
  first | exact ⟨rfl,by rw [HT2.o];exact HH.o,Fr.refl _ _⟩ | (rw [HE.o,HT2.o];exact ⟨rfl,HH.o,Fr.refl _ _⟩)
 ·have k1:=ok.after;have fz:=h.frz;obtain ⟨q1,q2,q3⟩:=chain h.pB (Or.inl rfl) (fun e=>(h.hG p e).2.1 rfl) [(2,Value.int .i64 (s.after-1))] w _ h.hp;have HD2:=zH (h.put (w':=w.setCell ⟨p,2,none⟩ (.int .i64 (s.after-1))) (after:=s.after-1) (keep:=s.keep) (torn:=s.torn) (cut:=s.cut) (down:=s.down) (life:=s.life) q1 q3 ok.keep (by omega) ok.life0 ok.life1);have HF2:Hid (Fr B w (w.setCell ⟨p,2,none⟩ (.int .i64 (s.after-1)))):=q2;have HSZ:Hid ((w.setCell ⟨p,2,none⟩ (.int .i64 (s.after-1))).heap.size=w.heap.size):=by show _=_;simp
  rw [if_neg h1] at HT;by_cases h2:s.after=1
  ·rw [if_pos h2] at HT;have HE:Hid (decide (s.after=1)=true):=decide_eq_true h2;have HC:=zH (fun ww h1 h2=>turn_lose B p (s.with (s.after-1) s.keep s.torn s.cut s.down s.life) (s.after-1) s.keep s.torn s.cut ww h1 h2 ok.keep hd hl);rw [with_lose] at HC;have HOK:=zH ok;have e3:=HD2.o.c3;have e4:=HD2.o.c4;have e5:=HD2.o.c5;have e2:=HD2.o.c2;simp only [DS.with] at e2 e3 e4 e5;have i1:s.after<=1:=by omega
   have i2:1<=s.after:=by omega
   clear h ok hd hl h2 h1 q1 q2 q3;generalize s.after=af at *
   go_enter func206,ntmps206;go_wp2_with fail;refine (HC.o _ ⟨gb,vo,kv,ov,wv,HD2.o⟩ (by rw [HSZ.o];exact hB)).mono ?_;rintro e w2 ⟨rfl,hD2,hF2⟩;have HD3:=zH hD2;have HF3:=zH hF2;clear hD2 hF2;go_wp2;go_ret;have e1:af=1:=by omega
   rw [HT.o];refine ⟨?_,HD3.o,HF2.o.trans HF3.o⟩;rw [HE.o];rfl
  ·rw [if_neg h2] at HT;have HE:Hid (decide (s.after=1)=false):=decide_eq_false h2;have e2:=HD2.o.c2;simp only [DS.with] at e2;have i2:2<=s.after:=by omega
   clear h ok hd hl h2 h1 q1 q2 q3;generalize s.tick=s' at *
   have HT2:=HT;clear HT;generalize s.after=af at *
   go_enter func206,ntmps206;go_wp2;go_ret;rw [HT2.o];refine ⟨?_,⟨gb,vo,kv,ov,wv,HD2.o⟩,HF2.o⟩
   first | rfl | (rw [HE.o];rfl)
def DS.flushE (s:DS):Int:=if s.down then 20 else if s.after=1 then 20 else 0
def DS.flush (s:DS):DS:=if s.down then s else if s.after=1 then s.tick else s.tick.settle 18446744073709551615 (-1) 0
theorem aD4 [Gd] (B p:Nat) (s:DS) (w:World) (h:DI B p s w) (hB:B<=w.heap.size) (hl:s.life<100000) :
  Calls prog 190 #[.pointer (some ⟨p,0,none⟩)] w fun e w'=>e=.returned (.int .i64 s.flushE)/\DI B p s.flush w'/\Fr B w w':=by
 have HH:=zH h;have HFE:Hid (s.flushE=if s.down then 20 else if s.after=1 then 20 else 0):=rfl;have HFS:Hid (s.flush=if s.down then s else if s.after=1 then s.tick else s.tick.settle 18446744073709551615 (-1) 0):=rfl;obtain ⟨gb,vo,kv,ov,wv,h⟩:=h;have c6:=h.c6
 cases hd:s.down with
 | true =>
  rw [hd] at c6;simp only [hd,if_true] at HFE HFS;generalize s.flushE=E at *
  generalize s.flush=s' at *
  clear h hd hl;go_enter func190,ntmps190;go_wp2;go_ret;rw [HFE.o,HFS.o];exact ⟨rfl,HH.o,Fr.refl _ _⟩
 | false =>
  rw [hd] at c6;simp only [hd,Bool.false_eq_true,if_false] at HFE HFS;have HC:=zH (aFy B p s w HH.o hB hd hl);by_cases h1:s.after=1
  ·rw [if_pos h1] at HFE HFS;rw [decide_eq_true h1] at HC;generalize s.flushE=E at *
   generalize s.flush=s' at *
   clear h hd hl h1;go_enter func190,ntmps190;go_wp2_with fail;refine HC.o.mono ?_;rintro e w2 ⟨rfl,hD2,hF2⟩;have HD2:=zH hD2;have HF2:=zH hF2;clear hD2 hF2;go_wp2;go_ret;rw [HFE.o,HFS.o];exact ⟨rfl,HD2.o,HF2.o⟩
  ·rw [if_neg h1] at HFE HFS;rw [decide_eq_false h1] at HC;generalize s.flushE=E at *
   generalize s.flush=s' at *
   clear h hd hl h1;go_enter func190,ntmps190;go_wp2_with fail;refine HC.o.mono ?_;rintro e w2 ⟨rfl,hD2,hF2⟩;have HD2:=zH hD2;have HF2:=zH hF2;clear hD2 hF2;go_wp2_with fail;refine (aGj B p s.tick 0 18446744073709551615 (-1) 0 _ HD2.o (nT hB HF2.o.bel.size) (by omega)).mono ?_;rintro e w3 ⟨rfl,hD3,hF3⟩;have HD3:=zH hD3;have HF3:=zH hF3;clear hD3 hF3;go_wp2;go_ret;rw [HFE.o,HFS.o];exact ⟨rfl,HD3.o,HF2.o.trans HF3.o⟩
def DS.show (s:DS) (i:Nat):List Nat:=match (s.idx i).getLast? with
 | some j=>s.by_ j
 | none=>s.K i
theorem idx_mem (h:j∈s.idx i):j<s.m/\s.at_ j=i:=by
 simp only [DS.idx,List.mem_filter,List.mem_range,beq_iff_eq] at h;exact h
theorem show_len (h:s.Ok) (i:Nat):(s.show i).length<=blk:=by
 unfold DS.show;split
 ·exact h.bl _
 ·exact h.kl _
theorem show_lt (h:s.Ok) (i:Nat):∀ c∈s.show i,c<256:=by
 unfold DS.show;split
 ·exact h.bb _
 ·exact h.kb _
theorem icells_get {l:List Nat} (h:i<l.length):(icells l)[i]?=some (.int .i64 ((l.getD i 0:Nat):Int)):=by
 simp [icells,h]
theorem idx_len (s:DS) (i:Nat):(s.idx i).length<=s.m:=by
 unfold DS.idx;exact nT (List.length_filter_le _ _) (by rw [List.length_range];exact nR _)
theorem shown_any [Gd] (B p:Nat) (s:DS) (i:Nat) (w:World) (h:DI B p s w) (hB:B<=w.heap.size) (hi:i<s.n) :
  Calls prog 157 #[.pointer (some ⟨p,0,none⟩),.int .i64 i] w fun e w'=>∃ v,e=.returned v/\w'.ownsRow B 5 1 v (s.show i).length (cellsOf (s.show i))/\Below w.heap.size w w':=by
 obtain ⟨gb,vo,kv,ov,wv,h⟩:=h;have hn:=h.ok.n2;have hmm:=h.ok.mm;have c0:=h.c0;have c1:=h.c1;have hpl:p<w.heap.size:=(lO h.hp);have g0:w.cell? ⟨gb,i*2,none⟩=some (kv i):=by
  rw [aAa h.hg];simpa using aA0 kv ov i s.n hi
 have g1:w.cell? ⟨gb,i*2+1,none⟩=some (ov i):=by
  rw [aAa h.hg];simpa using aA2 kv ov i s.n hi
 obtain ⟨a1,p1,e1⟩:=aAg (h.hk i hi);obtain ⟨a2,p2,e2⟩:=aAg (h.ho i hi);have O1:=h.hk i hi;have O2:=h.ho i hi;rw [e1] at g0 O1;rw [e2] at g1 O2;have i1:(0:Int)<=(i:Int):=by omega
 have i2:(i:Int)<((s.n:Nat):Int):=by omega
 have HIL:=idx_len s i
 cases hx:s.idx i with
 | nil =>
  have HS:Hid (s.show i=s.K i):=by show _=_;unfold DS.show;rw [hx];rfl
  rw [hx] at O2 g1;simp only [List.length_nil] at O2 g1;have HO1:=zH O1;rw [HS.o];have HB1:=zH (aAc w (.cells #[.slice a1 (s.K i).length p1,.slice a2 0 p2] 167));clear h O1 O2 e1 e2 hx;generalize (s.K i).length=n1 at *
  generalize s.n=n at *
  go_enter func157,ntmps157;go_wp2;go_ret;exact ⟨_,rfl,aAh HO1.o HB1.o,HB1.o⟩
 | cons j0 jr =>
  have hlen:0<(s.idx i).length:=by rw [hx];simp
  obtain ⟨l,hl⟩:∃ l,(s.idx i).length=l+1:=⟨(s.idx i).length-1,by omega⟩;obtain ⟨j,hj⟩:∃ j,(s.idx i).getD l 0=j:=⟨_,rfl⟩;have hlast:(s.idx i).getLast?=some j:=by
   rw [List.getLast?_eq_getElem?,hl,Nat.add_sub_cancel,<-hj,List.getD_eq_getElem?_getD,gE (by omega)];rfl
  have hjm:j∈s.idx i:=by
   have:=List.mem_of_getLast? hlast;exact this
  obtain ⟨hj1,hj2⟩:=idx_mem hjm;have HS:Hid (s.show i=s.by_ j):=by show _=_;unfold DS.show;rw [hlast]
  obtain ⟨A,C,hvo,hmc,hcm,hnil⟩:=h.form;have hw:=h.hw;have OB:=h.hb j hj1;obtain ⟨a3,p3,e3⟩:=aAg OB;rw [hvo] at hw c1;obtain ⟨g,rfl,hgl,cur,hgc⟩:=aFm hw (by omega);obtain ⟨g2,rfl,hg2,cur2,hgc2⟩:=aFm O2 (by omega);have r1:=hw.cellAt (j*2+1) (by omega);rw [aA2 _ _ _ _ hj1,e3] at r1;have r2:=O2.cellAt l (by omega);rw [icells_get (by omega),hj] at r2;rw [e3] at OB;have HOB:=zH OB;have hc2:(s.idx i).length<=p2:=by
   rcases O2.2 with ⟨e,_⟩ | ⟨_,_,_,e,_,_,h5,_⟩
   ·cases e
   ·simp only [Value.slice.injEq] at e;omega
  have hp2:p2<=9223372036854775807:=by
   rcases O2.2 with ⟨e,_⟩ | ⟨_,_,_,e,_,_,_,h5,_⟩
   ·cases e
   ·simp only [Value.slice.injEq] at e;unfold maxLen at h5;omega
  rw [HS.o];rw [hl] at g1 hc2 HIL;have HB1:=zH (aAc w (.cells #[.slice a1 (s.K i).length p1,.slice (some ⟨g2,0,none⟩) (l+1) p2] 167));have x1:(w.alloc (.cells #[.slice a1 (s.K i).length p1,.slice (some ⟨g2,0,none⟩) (l+1) p2] 167)).cell? ⟨p,1,none⟩=some (.slice (some ⟨g,0,none⟩) s.m C):=(HB1.o.cell hpl).trans c1;have x2:(w.alloc (.cells #[.slice a1 (s.K i).length p1,.slice (some ⟨g2,0,none⟩) (l+1) p2] 167)).cell? ⟨g2,l,none⟩=some (.int .i64 (j:Nat)):=(HB1.o.cell hg2).trans r2;have x3:(w.alloc (.cells #[.slice a1 (s.K i).length p1,.slice (some ⟨g2,0,none⟩) (l+1) p2] 167)).cell? ⟨g,j*2+1,none⟩=some (.slice a3 (s.by_ j).length p3):=(HB1.o.cell hgl).trans r1;have j1:(0:Int)<=(j:Int):=by omega
  have j2:(j:Int)<((s.m:Nat):Int):=by omega
  have l1:(0:Int)<=(l:Int):=by omega
  have l2:(0:Int)<(l:Int)+1:=by omega
  clear h O1 O2 OB hw hvo hnil hlen hlast hjm hj hl hx e1 e2 e3 r1 r2 hgc hgc2 hj1 hj2;generalize (s.K i).length=n1 at *
  generalize (s.by_ j).length=n3 at *
  generalize s.n=n at *
  generalize s.m=m at *
  go_enter func157,ntmps157;go_wp2_with fail;go_quiet (fail);go_wp2;go_ret;exact ⟨_,rfl,aAh HOB.o (below_drewN HB1.o _),below_drewN HB1.o _⟩
theorem read_ok [Gd] (B p:Nat) (s:DS) (i:Nat) (w:World) (h:DI B p s w) (hB:B<=w.heap.size) (hd:s.down=false) (hi:i<s.n) :
  Calls prog 134 #[.pointer (some ⟨p,0,none⟩),.int .i64 i] w fun e w'=>∃ g,e=.returned (.tuple #[.slice (some ⟨g,0,none⟩) blk blk,.int .i64 0])/\w'.ownsRow w.heap.size 5 1 (.slice (some ⟨g,0,none⟩) blk blk) blk (cellsOf (pad (s.show i)))/\Below w.heap.size w w':=by
 have HC:=zH (has_any B p s i w h);rw [decide_eq_true (by omega:(0:Int)<=(i:Int)/\(i:Int)<s.n)] at HC;have HS:=zH (shown_any B p s i w h hB hi);have HSL:=zH (show_len h.ok i);have HST:=zH (show_lt h.ok i);obtain ⟨gb,vo,kv,ov,wv,h⟩:=h;have c6:=h.c6;rw [hd] at c6;clear h;generalize s.show i=xs at *
 go_enter func134,ntmps134;go_wp2_with fail;refine HC.o.mono ?_;rintro e w2 ⟨rfl,rfl⟩;go_wp2_with fail;refine HS.o.mono ?_;rintro e w3 ⟨v,rfl,hv,hb3⟩;obtain ⟨a3,c3,rfl,B3⟩:=aCf hv (by have:=HSL.o;unfold blk at this;omega) HST.o;have HB3:=zH B3;have HL3:=zH hb3;clear hv hb3 B3;go_wp2_with fail;refine (aFd a3 xs.length c3 xs _ HB3.o HSL.o).mono ?_;rintro e w4 ⟨rfl,ho4,hb4⟩;have HO4:=zH (aBh ho4 HL3.o.size);have HL4:=zH (HL3.o.trans (hb4.mono HL3.o.size));clear ho4 hb4;go_wp2;go_ret2;exact ⟨_,rfl,HO4.o,HL4.o⟩
theorem write_fails [Gd] (B p:Nat) (s:DS) (at_:Int) (a:Option Addr) (len cap:Nat) (w:World) (h:DI B p s w) (hB:B<=w.heap.size) (hd:s.down=false) (ha:0<=at_/\at_<s.n) (hl:len<=blk) (hf:s.after=1) (hlf:s.life<100000) :
  Calls prog 191 #[.pointer (some ⟨p,0,none⟩),.int .i64 at_,.slice a len cap] w fun e w'=>e=.returned (.int .i64 20)/\DI B p s.tick w'/\Fr B w w':=by
 have HC:=zH (has_any B p s at_ w h);rw [decide_eq_true ha] at HC;have HF:=zH (aFy B p s w h hB hd hlf);rw [decide_eq_true hf] at HF;obtain ⟨gb,vo,kv,ov,wv,h⟩:=h;have c6:=h.c6;rw [hd] at c6;have d1:decide ((8192:Int)<(len:Int))=false:=decide_eq_false (by unfold blk at hl;omega);clear h hf;go_enter func191,ntmps191;go_wp2_with fail;refine HC.o.mono ?_;rintro e w2 ⟨rfl,rfl⟩;go_wp2_with fail;refine HF.o.mono ?_;rintro e w3 ⟨rfl,hD,hF⟩;have HD:=zH hD;have HF3:=zH hF;clear hD hF;go_wp2;go_ret;exact ⟨rfl,HD.o,HF3.o⟩
def DS.wrote (s:DS) (at_:Nat) (xs:List Nat):DS:={ s with opens:=s.opens++[(at_,xs)] }
section
variable (s:DS) (a:Nat) (xs:List Nat)
theorem aEb:(s.wrote a xs).m=s.m+1:=by simp [DS.wrote,DS.m]
theorem aG5 (h:i<s.m):(s.wrote a xs).at_ i=s.at_ i:=by
 simp only [DS.m] at h;simp [DS.wrote,DS.at_,List.getD_eq_getElem?_getD,List.getElem?_append_left h]
theorem aEc:(s.wrote a xs).at_ s.m=a:=by
 simp [DS.wrote,DS.at_,DS.m,List.getD_eq_getElem?_getD]
theorem aE3 (h:i<s.m):(s.wrote a xs).by_ i=s.by_ i:=by
 simp only [DS.m] at h;simp [DS.wrote,DS.by_,List.getD_eq_getElem?_getD,List.getElem?_append_left h]
theorem aCz:(s.wrote a xs).by_ s.m=xs:=by
 simp [DS.wrote,DS.by_,DS.m,List.getD_eq_getElem?_getD]
theorem aFc (h:s.m<i):(s.wrote a xs).by_ i=[]:=by
 simp only [DS.m] at h;simp only [DS.wrote,DS.by_,List.getD_eq_getElem?_getD];rw [List.getElem?_eq_none (by simp;omega)];rfl
theorem aDe (i:Nat):(s.wrote a xs).idx i=if i=a then s.idx i++[s.m] else s.idx i:=by
 unfold DS.idx;rw [aEb,List.range_succ,List.filter_append];have e:(List.range s.m).filter (fun j=>(s.wrote a xs).at_ j == i)=(List.range s.m).filter (fun j=>s.at_ j == i):=by
  apply List.filter_congr;intro j hj;rw [aG5 s a xs (List.mem_range.1 hj)]
 rw [e];simp only [List.filter_cons,List.filter_nil,aEc];by_cases h:i=a
 ·subst h;simp
 ·have:¬ a=i:=fun e=>h e.symm
  simp [h,this]
theorem wrote_ok (h:s.Ok) (ha:a<s.n) (hx:xs.length<=blk) (hb:∀ c∈xs,c<256) (hm:s.m<100000):(s.wrote a xs).Ok where
 n1:=h.n1
 n2:=h.n2
 kl:=h.kl
 kb:=h.kb
 at_:=fun i hi=>by
  rw [aEb] at hi
  rcases Nat.lt_or_ge i s.m with h1 | h1
  ·rw [aG5 s a xs h1];exact h.at_ i h1
  ·obtain rfl:i=s.m:=by omega
   rw [aEc];exact ha
 bl:=fun i=>by
  rcases Nat.lt_or_ge i s.m with h1 | h1
  ·rw [aE3 s a xs h1];exact h.bl i
  ·rcases Nat.lt_or_ge s.m i with h2 | h2
   ·rw [aFc s a xs h2];exact Nat.zero_le _
   ·obtain rfl:i=s.m:=by omega
    rw [aCz];exact hx
 bb:=fun i c hc=>by
  rcases Nat.lt_or_ge i s.m with h1 | h1
  ·rw [aE3 s a xs h1] at hc;exact h.bb i c hc
  ·rcases Nat.lt_or_ge s.m i with h2 | h2
   ·rw [aFc s a xs h2] at hc;cases hc
   ·obtain rfl:i=s.m:=by omega
    rw [aCz] at hc;exact hb c hc
 mm:=by rw [aEb];omega
 keep:=h.keep
 after:=h.after
 life0:=h.life0
 life1:=h.life1
end
theorem aAm {e:Nat} {xs:List Value} (h:w.ownsRow B e size v n xs) (hk:v.ownBlock=some k):B<=k/\∃ cur,w.heap[k]?=some (.cells cur e (0,0)):=by
 rcases h.2 with ⟨e,_⟩ | ⟨g,cap,cur,e,hB,hc,_⟩
 ·rw [e] at hk;cases hk
 ·rw [e] at hk;simp only [Value.ownBlock,oI] at hk;subst hk;exact ⟨hB,cur,hc⟩
theorem aAl {e:Nat} {xs:List Value} (h:w.ownsRow B e size v n xs) (hs:∀ (k:Nat) (cs:Array Value),v.ownBlock=some k->w.heap[k]?=some (Obj.cells cs e (0,0))->w'.heap[k]?=some (Obj.cells cs e (0,0))):w'.ownsRow B e size v n xs:=by
 obtain ⟨h1,h2⟩:=h;refine ⟨h1,?_⟩;rcases h2 with h2 | ⟨g,cap,cur,hv,hg,hc,h3⟩
 ·exact Or.inl h2
 ·exact Or.inr ⟨g,cap,cur,hv,hg,hs g cur (by rw [hv];rfl) hc,h3⟩
theorem Fr.grown [Gd] {row:Option Nat} (hg:w.grownBy w' row) (hB:B<=w.heap.size) (hr:∀ k,row=some k->B<=k/\∃ cs t,w.heap[k]?=some (.cells cs t (0,0))/\(t=84\/t=167\/t=164\/t=3)/\¬ Gd.s k):Fr B w w':=by
 cases hrow:row with
 | none =>
  subst hrow;exact Fr.of ⟨hg.os,hg.tape,hg.output,hg.size,fun k hk=>hg.block k hk (by simp)⟩ hB
 | some g =>
  obtain ⟨h1,cs,t,h2,h3,h4⟩:=hr g hrow;subst hrow;exact Fr.one h2 h1 h3 h4 hg.os hg.tape hg.output hg.size (fun k hk hne=>hg.block k hk (by simpa using hne))
structure DM [Gd] (B p gb:Nat) (vo:Value) (kv ov wv:Nat->Value) (s:DS) (a:Nat) (w:World):Prop where
 hp:w.heap[p]?=some (.cells (headV gb vo s.n s.after s.keep s.torn s.cut s.down s.life) 84 (0,0))
 hg:w.heap[gb]?=some (.cells (two kv ov s.n).toArray 167 (0,0))
 hw:w.ownsRow B 164 2 vo s.m (two (fun i=>.int .i64 (s.at_ i:Nat)) wv s.m)
 hk:∀ i,i<s.n->w.ownsRow B 5 1 (kv i) (s.K i).length (cellsOf (s.K i))
 hb:∀ i,i<s.m->w.ownsRow B 5 1 (wv i) (s.by_ i).length (cellsOf (s.by_ i))
 ho:∀ i,i<s.n->w.ownsRow B 3 1 (ov i) ((s.wrote a []).idx i).length (icells ((s.wrote a []).idx i))
 ha:∀ i j k,i<s.n->j<s.n->i≠j->(ov i).ownBlock=some k->(ov j).ownBlock≠some k
 pB:B<=p
 gB:B<=gb
 ok:s.Ok
 hG:∀ k,Gd.s k->FBk w k/\k≠p/\k≠gb/\vo.ownBlock≠some k/\∀ i,i<s.n->(ov i).ownBlock≠some k
section
variable {B p gb:Nat} {vo:Value} {kv ov wv:Nat->Value} {s:DS} {a:Nat} {w w1 w2:World}
theorem DM.later [Gd] (h:DM B p gb vo kv ov wv s a w) (hb:Below w.heap.size w w1):DM B p gb vo kv ov wv s a w1 where
 hp:=(hb.block p (lO h.hp)).trans h.hp
 hg:=(hb.block gb (lO h.hg)).trans h.hg
 hw:=aAh h.hw hb
 hk:=fun i hi=>aAh (h.hk i hi) hb
 hb:=fun i hi=>aAh (h.hb i hi) hb
 ho:=fun i hi=>aAh (h.ho i hi) hb
 ha:=h.ha
 pB:=h.pB
 gB:=h.gB
 ok:=h.ok
 hG:=fun k hk=>⟨(h.hG k hk).1.same (hb.block k (h.hG k hk).1.lt),(h.hG k hk).2⟩
theorem DV.stepA [Gd] (h:DV B p gb vo kv ov wv s w1) (ha:a<s.n) (hB:B<=w1.heap.size) {v:Value} (ho:w2.ownsRow B 3 1 v ((s.idx a).length+1) (icells (s.idx a)++[.int .i64 (s.m:Nat)])) (hg:w1.grownBy w2 (ov a).ownBlock) (hat:v.ownBlock=(ov a).ownBlock\/v.ownBlock=some w1.heap.size) :
  DM B p gb vo kv (upd ov a v) wv s a (w2.setCell ⟨gb,a*2+1,none⟩ v)/\Fr B w1 (w2.setCell ⟨gb,a*2+1,none⟩ v):=by
 have st:∀ (k:Nat) (cs:Array Value) (t:TypeId),w1.heap[k]?=some (Obj.cells cs t (0,0))->t≠3->w2.heap[k]?=some (Obj.cells cs t (0,0)):=by
  intro k cs t e ht;rw [hg.block k (lO e) ?_,e];intro e2;obtain ⟨_,cur,hc⟩:=aAm (h.ho a ha) e2.symm;rw [hc] at e;simp only [oI,cI] at e;exact ht e.2.1.symm
 have hgb:=st gb _ _ h.hg (by decide);have f1:Fr B w1 w2:=Fr.grown hg hB fun k e=>by
  obtain ⟨h1,cur,hc⟩:=aAm (h.ho a ha) e;exact ⟨h1,cur,_,hc,Or.inr (Or.inr (Or.inr rfl)),fun hj=>(h.hG k hj).2.2.2.2 a ha e⟩
 have f2:Fr B w2 (w2.setCell ⟨gb,a*2+1,none⟩ v):=Fr.set hgb h.gB (Or.inr (Or.inl rfl)) (fun e=>(h.hG gb e).2.2.1 rfl) _ _;have f:=f1.trans f2;have ne:∀ {i:Nat} {cs:Array Value} {t:TypeId},w2.heap[i]?=some (.cells cs t (0,0))->t≠167->i≠gb:=by
  intro i cs t e ht e2;subst e2;rw [hgb] at e;simp only [oI,cI] at e;exact ht e.2.1.symm
 have st2:∀ (k:Nat) (cs:Array Value) (t:TypeId),w2.heap[k]?=some (Obj.cells cs t (0,0))->t≠167->(w2.setCell ⟨gb,a*2+1,none⟩ v).heap[k]?=some (.cells cs t (0,0)):=fun k cs t e ht=>by
  rw [heap_setCell_other _ _ _ _ (ne e ht),e]
 have st3:∀ (k:Nat) (cs:Array Value) (t:TypeId),w1.heap[k]?=some (Obj.cells cs t (0,0))->t≠3->t≠167->(w2.setCell ⟨gb,a*2+1,none⟩ v).heap[k]?=some (.cells cs t (0,0)):=fun k cs t e h1 h2=>st2 k cs t (st k cs t e h1) h2
 refine ⟨⟨st3 p _ _ h.hp (by decide) (by decide),?_,aAl h.hw fun k cs _ e=>st3 k cs _ e (by decide) (by decide),fun i hi=>f.bytes (h.hk i hi),fun i hi=>f.bytes (h.hb i hi),?_,?_,h.pB,h.gB,h.ok,fun k hk=>⟨(h.hG k hk).1.same (f.gd k hk (h.hG k hk).1),(h.hG k hk).2.1,(h.hG k hk).2.2.1,(h.hG k hk).2.2.2.1,fun i hi=>by
  by_cases e1:i=a
  ·rw [e1,aB1];rcases hat with e | e
   ·rw [e];exact (h.hG k hk).2.2.2.2 a ha
   ·rw [e];intro e5;simp only [oI] at e5;have:=(h.hG k hk).1.lt;omega
  ·rw [upd_ne _ _ e1];exact (h.hG k hk).2.2.2.2 i hi⟩⟩,f⟩
 ·rw [heap_setCell_same w2 gb _ _ _ v hgb]
  congr 2
  apply Array.toList_inj.1;rw [Array.toList_setIfInBounds,aC0 _ _ _ _ _ ha]
 ·intro i hi;rw [aDe];by_cases e:i=a
  ·subst e;rw [if_pos rfl,aB1,lA,List.length_singleton];have e2:icells (s.idx i++[s.m])=icells (s.idx i)++[.int .i64 (s.m:Nat)]:=by simp [icells]
   rw [e2];exact aAl ho fun k cs _ e3=>st2 k cs _ e3 (by decide)
  ·rw [if_neg e,upd_ne _ _ e];refine aAl (h.ho i hi) fun k cs hk e3=>st2 k cs _ ?_ (by decide)
   rw [hg.block k (lO e3) (fun e4=>h.ha i a k hi ha e hk e4.symm),e3]
 ·intro i j k hi hj hij hk;by_cases e1:i=a
  ·subst e1;rw [aB1] at hk;rw [upd_ne _ _ (fun e=>hij e.symm)];rcases hat with e | e
   ·rw [e] at hk;exact h.ha i j k hi hj hij hk
   ·rw [e] at hk;simp only [oI] at hk;subst hk;intro e5;obtain ⟨_,cur,hc⟩:=aAm (h.ho j hj) e5;have:=(lO hc);omega
  ·rw [upd_ne _ _ e1] at hk;by_cases e2:j=a
   ·subst e2;rw [aB1];rcases hat with e | e
    ·rw [e];exact h.ha i j k hi hj hij hk
    ·rw [e];intro e5;simp only [oI] at e5;subst e5;obtain ⟨_,cur,hc⟩:=aAm (h.ho i hi) hk;have:=(lO hc);omega
   ·rw [upd_ne _ _ e2];exact h.ha i j k hi hj hij hk
theorem DM.stepB [Gd] (h:DM B p gb vo kv ov wv s a w1) (ha:a<s.n) (hB:B<=w1.heap.size) {xs:List Nat} (hx:xs.length<=blk) (hxb:∀ c∈xs,c<256) (hm:s.m<100000) {vb vo':Value} (hob:w1.ownsRow B 5 1 vb xs.length (cellsOf xs))
  (ho:w2.ownsRow B 164 2 vo' (s.m+1) (two (fun i=>.int .i64 (s.at_ i:Nat)) wv s.m++[.int .i64 (a:Nat),vb])) (hg:w1.grownBy w2 vo.ownBlock) (hat:vo'.ownBlock=vo.ownBlock\/vo'.ownBlock=some w1.heap.size) :
  DI B p (s.wrote a xs) (w2.setCell ⟨p,1,none⟩ vo')/\Fr B w1 (w2.setCell ⟨p,1,none⟩ vo'):=by
 have st:∀ (k:Nat) (cs:Array Value) (t:TypeId),w1.heap[k]?=some (Obj.cells cs t (0,0))->t≠164->w2.heap[k]?=some (Obj.cells cs t (0,0)):=by
  intro k cs t e ht;rw [hg.block k (lO e) ?_,e];intro e2;obtain ⟨_,cur,hc⟩:=aAm h.hw e2.symm;rw [hc] at e;simp only [oI,cI] at e;exact ht e.2.1.symm
 have hpb:=st p _ _ h.hp (by decide);have f1:Fr B w1 w2:=Fr.grown hg hB fun k e=>by
  obtain ⟨h1,cur,hc⟩:=aAm h.hw e;exact ⟨h1,cur,_,hc,Or.inr (Or.inr (Or.inl rfl)),fun hj=>(h.hG k hj).2.2.2.1 e⟩
 have f2:Fr B w2 (w2.setCell ⟨p,1,none⟩ vo'):=Fr.set hpb h.pB (Or.inl rfl) (fun e=>(h.hG p e).2.1 rfl) _ _;have f:=f1.trans f2;have ne:∀ {i:Nat} {cs:Array Value} {t:TypeId},w2.heap[i]?=some (.cells cs t (0,0))->t≠84->i≠p:=by
  intro i cs t e ht e2;subst e2;rw [hpb] at e;simp only [oI,cI] at e;exact ht e.2.1.symm
 have st2:∀ (k:Nat) (cs:Array Value) (t:TypeId),w2.heap[k]?=some (Obj.cells cs t (0,0))->t≠84->(w2.setCell ⟨p,1,none⟩ vo').heap[k]?=some (.cells cs t (0,0)):=fun k cs t e ht=>by
  rw [heap_setCell_other _ _ _ _ (ne e ht),e]
 have st3:∀ (k:Nat) (cs:Array Value) (t:TypeId),w1.heap[k]?=some (Obj.cells cs t (0,0))->t≠164->t≠84->(w2.setCell ⟨p,1,none⟩ vo').heap[k]?=some (.cells cs t (0,0)):=fun k cs t e h1 h2=>st2 k cs t (st k cs t e h1) h2
 refine ⟨⟨gb,vo',kv,ov,upd wv s.m vb,⟨?_,st3 gb _ _ h.hg (by decide) (by decide),?_,fun i hi=>f.bytes (h.hk i hi),?_,?_,h.ha,h.pB,h.gB,wrote_ok s a xs h.ok ha hx hxb hm,fun k hk=>⟨(h.hG k hk).1.same (f.gd k hk (h.hG k hk).1),(h.hG k hk).2.1,(h.hG k hk).2.2.1,by
  rcases hat with e | e
  ·rw [e];exact (h.hG k hk).2.2.2.1
  ·rw [e];intro e5;simp only [oI] at e5;have:=(h.hG k hk).1.lt
   omega,(h.hG k hk).2.2.2.2⟩⟩⟩,f⟩
 ·rw [heap_setCell_same w2 p _ _ _ vo' hpb];rfl
 ·rw [aEb,aBr,aB1,aEc];have e:two (fun i=>Value.int .i64 ((s.wrote a xs).at_ i:Nat)) (upd wv s.m vb) s.m=two (fun i=>.int .i64 (s.at_ i:Nat)) wv s.m:=by
   apply aDj;intro i hi;rw [aG5 s a xs hi,upd_ne _ _ (Nat.ne_of_lt hi)];exact ⟨rfl,rfl⟩
  rw [e];exact aAl ho fun k cs _ e3=>st2 k cs _ e3 (by decide)
 ·intro i hi;rw [aEb] at hi;rcases Nat.lt_or_ge i s.m with h1 | h1
  ·rw [aE3 s a xs h1,upd_ne _ _ (Nat.ne_of_lt h1)];exact f.bytes (h.hb i h1)
  ·obtain rfl:i=s.m:=by omega
   rw [aCz,aB1];exact f.bytes hob
 ·intro i hi;have e:(s.wrote a xs).idx i=(s.wrote a []).idx i:=by rw [aDe,aDe]
  rw [e];exact aAl (h.ho i hi) fun k cs _ e3=>st3 k cs _ e3 (by decide) (by decide)
end
theorem aD2:(prog.info? 3).map (fun i=>(i.zero,i.size,i.bytes))=some (some (.int .i64 0),1,8):=by kernel_rfl
theorem info_write:(prog.info? 164).map (fun i=>(i.zero,i.size,i.bytes))=some (some (.agg #[.int .i64 0,.slice none 0 0]),2,32):=by kernel_rfl
theorem aAu {o:Oper} {a:Act} {K:Act->World->Prop} (s x:Operand) (t:TypeId)
  (ho:o.op=.call { callee:=.builtin .append,args:=#[s,x],argTypes:=#[t,t] })
  (base:Nat) (e:TypeId) (i:TypeInfo) (z:Value) (size bytes:Nat) (ht:prog.underlying t=some (.slice e)) (hi:prog.info? e=some i) (hz:i.zero=some z)
  (hsize:i.size=size) (hby:i.bytes=bytes) (hzs:z.cells.size=size) (hsz:0<size)
  (v:Value) (n:Nat) (xs:List Value) (hs:a.eval s=v) (hown:w.ownsRow base e size v n xs)
  (ad:Addr) (m c:Nat) (news:List Value) (hx:a.eval x=.slice (some ad) m c) (hl:news.length=m*size) (hnews:∀ j u,news[j]?=some u->w.cell? (ad.add j)=some u) (h1:∀ u∈news,u.oneCell'=true)
  (h63:n+m<=maxLen) (hbytes:(n+m)*bytes<=140737488355328) (hbase:base<=w.heap.size)
  (h:∀ v' w',w'.ownsRow base e size v' (n+m) (xs++news)->w.grownBy w' v.ownBlock->(v'.ownBlock=v.ownBlock\/v'.ownBlock=some w.heap.size)->K (a.put o.dst v') w'):o.wp prog a w K Q:=by
 obtain ⟨v',w',hr,h2,h3,h4,h5⟩:=run_append_own_at (P:=prog) w base t o.type e i z size bytes ht hi hz hsize hby hzs hsz v n xs hown ad m c news hl hnews h1 h63 hbytes hbase;unfold Oper.wp execOp;simp only [ho,resolve,invoke,builtin,Sem.run_bind,Sem.run_pure,Result.andThen_ok,List.map_toArray,List.map_cons,List.map_nil,hs,hx,hr];exact h v' w' h2 h3 h5
theorem news2 (w:World) (x y:Value) (t:TypeId):∀ j u,[x,y][j]?=some u->(w.alloc (.cells #[x,y] t)).cell? ((⟨w.heap.size,0,none⟩:Addr).add j)=some u:=by
 intro j u hj
 match j,hj with
 | 0,hj=>simp at hj;subst hj;simp [Addr.add]
 | 1,hj=>simp at hj;subst hj;simp [Addr.add]
theorem newsI (w:World) (x:Value) (t:TypeId):∀ j u,[x][j]?=some u->(w.alloc (.cells #[x] t)).cell? ((⟨w.heap.size,0,none⟩:Addr).add j)=some u:=by
 intro j u hj
 match j,hj with
 | 0,hj=>simp at hj;subst hj;simp [Addr.add]
section
variable {B p gb:Nat} {vo:Value} {kv ov wv:Nat->Value} {s:DS} {a:Nat} {w w1 w2:World}
theorem DV.grownP [Gd] (h:DV B p gb vo kv ov wv s w1) (ha:a<s.n) (hg:w1.grownBy w2 (ov a).ownBlock) :
  w2.heap[p]?=some (.cells (headV gb vo s.n s.after s.keep s.torn s.cut s.down s.life) 84 (0,0))/\w2.heap[gb]?=some (.cells (two kv ov s.n).toArray 167 (0,0)):=by
 have st:∀ (k:Nat) (cs:Array Value) (t:TypeId),w1.heap[k]?=some (Obj.cells cs t (0,0))->t≠3->w2.heap[k]?=some (Obj.cells cs t (0,0)):=by
  intro k cs t e ht;rw [hg.block k (lO e) ?_,e];intro e2;obtain ⟨_,cur,hc⟩:=aAm (h.ho a ha) e2.symm;rw [hc] at e;simp only [oI,cI] at e;exact ht e.2.1.symm
 exact ⟨st p _ _ h.hp (by decide),st gb _ _ h.hg (by decide)⟩
theorem DM.grownQ [Gd] (h:DM B p gb vo kv ov wv s a w1) (hg:w1.grownBy w2 vo.ownBlock) :
  w2.heap[p]?=some (.cells (headV gb vo s.n s.after s.keep s.torn s.cut s.down s.life) 84 (0,0)):=by
 rw [hg.block p (lO h.hp) ?_,h.hp];intro e2;obtain ⟨_,cur,hc⟩:=aAm h.hw e2.symm;have:=h.hp;rw [hc] at this;simp only [oI,cI] at this;exact absurd this.2.1 (by decide)
end
theorem tick_n (h:¬ s.after=1):s.tick.n=s.n/\s.tick.m=s.m:=by
 unfold DS.tick;split
 ·exact ⟨rfl,rfl⟩
 ·first | exact ⟨rfl,rfl⟩ | (rw [if_neg h];exact ⟨rfl,rfl⟩)
theorem write_ok [Gd] (B p:Nat) (s:DS) (at_:Nat) (a:Option Addr) (len cap:Nat) (xs:List Nat) (w:World) (h:DI B p s w) (hB:B<=w.heap.size) (hd:s.down=false) (ha:at_<s.n) (hf:¬ s.after=1) (hlf:s.life<100000) (hm:s.m<100000)
  (hxl:xs.length<=blk) (hxb:∀ c∈xs,c<256) (hlen:xs.length=len) (hbs:∀ ww,Fr B w ww->BS ww a len cap xs) :
  Calls prog 191 #[.pointer (some ⟨p,0,none⟩),.int .i64 at_,.slice a len cap] w fun e w'=>e=.returned (.int .i64 0)/\DI B p (s.tick.wrote at_ xs) w'/\Fr B w w':=by
 subst hlen;obtain ⟨i0,hi,hz0,hz1,hz2⟩:=info_parts aD2;obtain ⟨j0,hj,hy0,hy1,hy2⟩:=info_parts info_write;have HC:=zH (has_any B p s at_ w h);rw [decide_eq_true (by omega:(0:Int)<=(at_:Int)/\(at_:Int)<s.n)] at HC;have HF:=zH (aFy B p s w h hB hd hlf);rw [decide_eq_false hf] at HF;have hat:at_<s.tick.n:=by rw [(tick_n hf).1];exact ha
 have HM0:s.tick.m=s.m:=(tick_n hf).2;obtain ⟨gb0,vo0,kv0,ov0,wv0,h0⟩:=h;have c6:=h0.c6;rw [hd] at c6;have d1:decide ((8192:Int)<(xs.length:Int))=false:=decide_eq_false (by unfold blk at hxl;omega);clear h0 hf;generalize s.tick=s1 at *
 go_enter func191,ntmps191;go_wp2_with fail;refine HC.o.mono ?_;rintro e w2 ⟨rfl,rfl⟩;go_wp2_with fail;refine HF.o.mono ?_;rintro e w3 ⟨rfl,hD,hF⟩;have HF3:=zH hF;obtain ⟨gb,vo,kv,ov,wv,D⟩:=hD;have hB3:B<=w3.heap.size:=nT hB hF.bel.size;obtain ⟨A,C,hvo,hmc,hcm,hnil⟩:=D.form;subst hvo;have hok:=D.ok;have hn2:=hok.n2;have hmm:s1.m<100000:=by rw [HM0];exact hm
 obtain ⟨a2,p2,e2⟩:=aAg (D.ho at_ hat);have hil:=idx_len s1 at_;have k1:w3.cell? ⟨p,0,none⟩=some (.slice (some ⟨gb,0,none⟩) s1.n s1.n):=D.c0;have k2:w3.cell? ⟨p,1,none⟩=some (.slice A s1.m C):=D.c1;have HCX:Hid (w3.drew.cell? ⟨gb,at_*2+1,none⟩=some (.slice a2 (s1.idx at_).length p2)):=by
  show w3.cell? ⟨gb,at_*2+1,none⟩=_;rw [aAa D.hg,<-e2];simpa using aA2 kv ov at_ s1.n hat
 have HD:=zH D;have HHAT:=zH hat;have i1:(0:Int)<=(at_:Int):=by omega
 have i2:(at_:Int)<((s1.n:Nat):Int):=by omega
 have HB4:=zH ((Below.refl w3.heap.size w3).alloc (nR _) (.cells #[.int .i64 ((s1.m:Nat):Int)] 3)).drew;have HD4:=zH (HD.o.later HB4.o);have HOX:=zH (HD4.o.ho at_ hat);rw [e2] at HOX;have HCY:=zH ((HB4.o.cell (aAk HCX.o)).trans HCX.o);have HNX:Hid (∀ j u,[Value.int .i64 ((s1.m:Nat):Int)][j]?=some u->(w3.alloc (.cells #[.int .i64 ((s1.m:Nat):Int)] 3)).drew.cell? ((⟨w3.heap.size,0,none⟩:Addr).add j)=some u):=newsI w3 (.int .i64 ((s1.m:Nat):Int)) 3;have HX3:Hid ((fun wx=>wx.cell? ⟨p,0,none⟩=some (.slice (some ⟨gb,0,none⟩) s1.n s1.n)/\wx.cell? ⟨p,1,none⟩=some (.slice A s1.m C)) w3.drew):=⟨k1,k2⟩;have HX4:Hid ((fun wx=>wx.cell? ⟨p,0,none⟩=some (.slice (some ⟨gb,0,none⟩) s1.n s1.n)/\wx.cell? ⟨p,1,none⟩=some (.slice A s1.m C)) ((w3.alloc (.cells #[.int .i64 ((s1.m:Nat):Int)] 3)).drew)):=⟨(HB4.o.cell (aAk k1)).trans k1,(HB4.o.cell (aAk k2)).trans k2⟩;have HE2:=zH e2;clear D hF hnil e2 k1 k2 c6 HC HF HM0;generalize hL:(s1.idx at_).length=L at *
 have HL:=zH hL;generalize hM:s1.m=M at *
 have HM:=zH hM;generalize hN:s1.n=N at *
 have HN:=zH hN;clear hL hM hN;go_wp2_with fail;refine wp_region_noPanic ?_;refine wp_region_held_drew (S:=fun wx=>wx.cell? ⟨p,0,none⟩=some (.slice (some ⟨gb,0,none⟩) N N)/\wx.cell? ⟨p,1,none⟩=some (.slice A M C)) (by kernel_rfl) HX3.o (fun hHeld=>?_);refine kT 0 22 ?_;refine kT 1 23 ?_;refine kT 2 24 ?_;refine kT 3 25 ?_;refine kT 4 26 ?_;refine kT 5 27 ?_;refine kT 6 28 ?_;refine kT 7 29 ?_;refine kT 8 30 ?_;refine kT 9 31 ?_;refine kT 10 32 ?_;refine kT 11 33 ?_;refine kT 13 35 ?_;refine kT 14 36 ?_;refine kT 15 37 ?_;refine kT 16 38 ?_;refine kT 17 39 ?_;refine aAn (i:=12) (j:=18) (by kernel_rfl) (by kernel_rfl) (by kernel_rfl) ?z18ya ?z18yb
 case z18ya =>
  intro o ho K hK;simp only [List.getElem?_toArray,List.getElem?_cons_succ,List.getElem?_cons_zero,oI] at ho;subst ho;have c3:=HCX.o;go_simp;clear c3;refine hK.out _ _ hHeld (fun hHeld=>?_);clear hK K
  try simp only [Act.put,siT,scZ,scS]
  refine kC 18 ?_;intro K hK;go_simp;clear hHeld;refine hK.out _ _ HX4.o (fun hHeld=>?_);clear hK K
  try simp only [Act.put,siT,scZ,scS]
  refine kC 19 ?_;intro K hK;rw [if_pos (by rfl)];refine aAu (.tmp 34) (.tmp 40) 38 rfl B 3 i0 (.int .i64 0) 1 8 underlying38 hi hz0 hz1 hz2 rfl (by omega) (.slice a2 L p2) L _ rfl HOX.o ⟨w3.heap.size,0,none⟩ 1 1 [.int .i64 (M:Nat)] rfl rfl HNX.o (by intro u hu;simp at hu;subst hu;rfl) (by unfold maxLen;omega) (by omega) (by have:=HB4.o.size;omega) ?_;intro v5 w5 ho5 hg5 hat5;obtain ⟨a5,p5,rfl⟩:=aAg ho5;rw [<-HE2.o] at hg5 hat5;have hatn:at_<s1.n:=by rw [HN.o];exact hat
  obtain ⟨hp5,hgb5⟩:=HD4.o.grownP hatn hg5;have HX5:Hid ((fun wx=>wx.cell? ⟨p,0,none⟩=some (.slice (some ⟨gb,0,none⟩) N N)/\wx.cell? ⟨p,1,none⟩=some (.slice A M C)) w5):=⟨by rw [<-HN.o];exact aAa hp5,aAa hp5⟩;have HA:=zH (HD4.o.stepA hatn (nT hB3 HB4.o.size) (by rw [HM.o,HL.o];exact ho5) hg5 hat5);have c5:w5.cell? ⟨gb,at_*2+1,none⟩=some (ov at_):=by
   rw [aAa hgb5];simpa using aA2 kv ov at_ s1.n hatn
  have f5:w5.frozen? ⟨gb,at_*2+1,none⟩=false:=aAb hgb5;have hpg:p≠gb:=by
   intro e;rw [e,hgb5] at hp5;simp only [oI,cI] at hp5;exact absurd hp5.2.1 (by decide)
  clear ho5 hg5 hat5 hHeld hp5 hgb5;refine hK.out _ _ HX5.o (fun hHeld=>?_);clear hK K
  try simp only [Act.put,siT,scZ,scS]
  refine kT 20 42 ?_;refine kT 21 43 ?_;refine kC 22 ?_;intro K hK;have HX6:Hid ((fun wx=>wx.cell? ⟨p,0,none⟩=some (.slice (some ⟨gb,0,none⟩) N N)/\wx.cell? ⟨p,1,none⟩=some (.slice A M C)) (w5.setCell ⟨gb,at_*2+1,none⟩ (.slice a5 (L+1) p5))):=⟨(World.cell?_setCell_other _ _ _ _ (fun e=>hpg (congrArg Addr.block e).symm)).trans HX5.o.1,(World.cell?_setCell_other _ _ _ _ (fun e=>hpg (congrArg Addr.block e).symm)).trans HX5.o.2⟩;go_simp;clear hHeld;refine hK.out _ _ HX6.o (fun hHeld=>?_);clear hK K
  try simp only [Act.put,siT,scZ,scS]
  refine wpAnyH_done (by kernel_rfl) ?_ _;refine NoPanic.normal ?_;have HM6:=zH HA.o.1;have HF6:=zH ((Fr.of HB4.o hB3).trans HA.o.2);have HC6:=zH HX6.o.2;have HB6:=zH (nT hB3 HF6.o.bel.size);have HBS6:=zH (hbs _ (HF3.o.trans HF6.o));clear hHeld HX5 HX6 HA c5 f5;generalize w5.setCell ⟨gb,at_*2+1,none⟩ (.slice a5 (L+1) p5)=w6 at *
  go_wp2_with fail;refine wp_region_noPanic ?_;refine wp_region_held_drew (S:=fun wx=>True) (by kernel_rfl) trivial (fun hHeld=>?_);refine kT 0 44 ?_;refine kT 1 45 ?_;refine kT 2 46 ?_;refine kT 3 47 ?_;refine kT 5 49 ?_;refine kT 6 50 ?_;refine aAn (i:=4) (j:=7) (by kernel_rfl) (by kernel_rfl) (by kernel_rfl) ?z27ya ?z27yb
  case z27ya =>
   intro o ho K hK;simp only [List.getElem?_toArray,List.getElem?_cons_succ,List.getElem?_cons_zero,oI] at ho;subst ho;have c7:w6.drew.cell? ⟨p,1,none⟩=some (.slice A M C):=HC6.o;go_simp;clear c7;refine hK.out _ _ hHeld (fun hHeld=>?_);clear hK K
   try simp only [Act.put,siT,scZ,scS]
   refine kC 7 ?_;intro K hK;go_simp;refine (aBv a xs.length cap xs _ (HBS6.o.later (Below.refl w6.heap.size w6).drew (nR _))).mono ?_;rintro e w7 ⟨vb,rfl,hob,hb7⟩;obtain ⟨a7,p7,rfl⟩:=aAg hob;have HB7:=zH ((Below.refl w6.heap.size w6).drew.trans hb7);have HOB:=zH (aBh hob HB6.o);clear hob hb7 hHeld;refine hK.out _ _ trivial (fun hHeld=>?_);clear hK K
   try simp only [Act.put,siT,scZ,scS]
   refine kT 8 52 ?_;refine kC 9 ?_;intro K hK;go_simp;clear hHeld;refine hK.out _ _ trivial (fun hHeld=>?_);clear hK K
   try simp only [Act.put,siT,scZ,scS]
   refine kC 10 ?_;intro K hK;have HB8:=zH (HB7.o.trans ((aAc w7 (.cells #[.int .i64 (at_:Int),.slice a7 xs.length p7] 164)).mono HB7.o.size));have HM8:=zH (HM6.o.later HB8.o);have HO8:=zH HM8.o.hw;rw [HM.o] at HO8;rw [if_pos (by rfl)];refine aAu (.tmp 48) (.tmp 53) 79 rfl B 164 j0 (.agg #[.int .i64 0,.slice none 0 0]) 2 32 underlying79 hj hy0 hy1 hy2 rfl (by omega) (.slice A M C) M _ rfl HO8.o ⟨w7.heap.size,0,none⟩ 1 1 [.int .i64 (at_:Int),.slice a7 xs.length p7] rfl rfl (news2 w7 _ _ _) (by intro u hu;simp at hu;rcases hu with rfl | rfl<;>rfl) (by unfold maxLen;omega) (by omega) (by have:=HB6.o;have:=HB8.o.size;omega) ?_;intro v9 w9 ho9 hg9 hat9;obtain ⟨a9,p9,rfl⟩:=aAg ho9;have HOB8:=zH (aAh HOB.o (aAc w7 (.cells #[.int .i64 (at_:Int),.slice a7 xs.length p7] 164)));have HE:=zH (HM8.o.stepB (by rw [HN.o];exact hat) (by have:=HB6.o;have:=HB8.o.size;omega) hxl hxb (by rw [HM.o];exact hmm) HOB8.o (by rw [HM.o];exact ho9) hg9 hat9);have hp9:=HM8.o.grownQ hg9;have c9:w9.cell? ⟨p,1,none⟩=some (.slice A M C):=aAa hp9;have f9:w9.frozen? ⟨p,1,none⟩=false:=aAb hp9;clear ho9 hg9 hHeld hp9;refine hK.out _ _ trivial (fun hHeld=>?_);clear hK K
   try simp only [Act.put,siT,scZ,scS]
   refine kT 11 55 ?_;refine kT 12 56 ?_;refine kC 13 ?_;intro K hK;go_simp;clear hHeld;refine hK.out _ _ trivial (fun hHeld=>?_);clear hK K
   try simp only [Act.put,siT,scZ,scS]
   refine wpAnyH_done (by kernel_rfl) ?_ _;refine NoPanic.normal ?_;go_wp2;go_ret;exact ⟨rfl,HE.o.1,HF3.o.trans (HF6.o.trans ((Fr.of HB8.o HB6.o).trans HE.o.2))⟩
  case z27yb =>
   intro o ho K hK;simp only [List.getElem?_toArray,List.getElem?_cons_succ,List.getElem?_cons_zero,oI] at ho;subst ho;go_simp;refine (aBv a xs.length cap xs _ (HBS6.o.later (Below.refl w6.heap.size w6).drew (nR _))).mono ?_;rintro e w7 ⟨vb,rfl,hob,hb7⟩;obtain ⟨a7,p7,rfl⟩:=aAg hob;have HB7:=zH ((Below.refl w6.heap.size w6).drew.trans hb7);have HOB:=zH (aBh hob HB6.o);clear hob hb7 hHeld;refine hK.out _ _ trivial (fun hHeld=>?_);clear hK K
   try simp only [Act.put,siT,scZ,scS]
   refine kT 8 52 ?_;refine aAn (i:=4) (j:=9) (by kernel_rfl) (by kernel_rfl) (by kernel_rfl) ?z31ya ?z31yb
   case z31ya =>
    intro o ho K hK;simp only [List.getElem?_toArray,List.getElem?_cons_succ,List.getElem?_cons_zero,oI] at ho;subst ho;have c7:w7.cell? ⟨p,1,none⟩=some (.slice A M C):=(HB7.o.cell (aAk HC6.o)).trans HC6.o;go_simp;clear c7;refine hK.out _ _ hHeld (fun hHeld=>?_);clear hK K
    try simp only [Act.put,siT,scZ,scS]
    refine kC 9 ?_;intro K hK;go_simp;clear hHeld;refine hK.out _ _ trivial (fun hHeld=>?_);clear hK K
    try simp only [Act.put,siT,scZ,scS]
    refine kC 10 ?_;intro K hK;have HB8:=zH (HB7.o.trans ((aAc w7 (.cells #[.int .i64 (at_:Int),.slice a7 xs.length p7] 164)).mono HB7.o.size));have HM8:=zH (HM6.o.later HB8.o);have HO8:=zH HM8.o.hw;rw [HM.o] at HO8;rw [if_pos (by rfl)];refine aAu (.tmp 48) (.tmp 53) 79 rfl B 164 j0 (.agg #[.int .i64 0,.slice none 0 0]) 2 32 underlying79 hj hy0 hy1 hy2 rfl (by omega) (.slice A M C) M _ rfl HO8.o ⟨w7.heap.size,0,none⟩ 1 1 [.int .i64 (at_:Int),.slice a7 xs.length p7] rfl rfl (news2 w7 _ _ _) (by intro u hu;simp at hu;rcases hu with rfl | rfl<;>rfl) (by unfold maxLen;omega) (by omega) (by have:=HB6.o;have:=HB8.o.size;omega) ?_;intro v9 w9 ho9 hg9 hat9;obtain ⟨a9,p9,rfl⟩:=aAg ho9;have HOB8:=zH (aAh HOB.o (aAc w7 (.cells #[.int .i64 (at_:Int),.slice a7 xs.length p7] 164)));have HE:=zH (HM8.o.stepB (by rw [HN.o];exact hat) (by have:=HB6.o;have:=HB8.o.size;omega) hxl hxb (by rw [HM.o];exact hmm) HOB8.o (by rw [HM.o];exact ho9) hg9 hat9);have hp9:=HM8.o.grownQ hg9;have c9:w9.cell? ⟨p,1,none⟩=some (.slice A M C):=aAa hp9;have f9:w9.frozen? ⟨p,1,none⟩=false:=aAb hp9;clear ho9 hg9 hHeld hp9;refine hK.out _ _ trivial (fun hHeld=>?_);clear hK K
    try simp only [Act.put,siT,scZ,scS]
    refine kT 11 55 ?_;refine kT 12 56 ?_;refine kC 13 ?_;intro K hK;go_simp;clear hHeld;refine hK.out _ _ trivial (fun hHeld=>?_);clear hK K
    try simp only [Act.put,siT,scZ,scS]
    refine wpAnyH_done (by kernel_rfl) ?_ _;refine NoPanic.normal ?_;go_wp2;go_ret;exact ⟨rfl,HE.o.1,HF3.o.trans (HF6.o.trans ((Fr.of HB8.o HB6.o).trans HE.o.2))⟩
   case z31yb =>
    intro o ho K hK;simp only [List.getElem?_toArray,List.getElem?_cons_succ,List.getElem?_cons_zero,oI] at ho;subst ho;go_simp;clear hHeld;refine hK.out _ _ trivial (fun hHeld=>?_);clear hK K
    try simp only [Act.put,siT,scZ,scS]
    refine kC 4 ?_;intro K hK;have c7:(w7.alloc (.cells #[.int .i64 (at_:Int),.slice a7 xs.length p7] 164)).cell? ⟨p,1,none⟩=some (.slice A M C):=((aAc w7 _).cell (Nat.lt_of_lt_of_le (aAk HC6.o) HB7.o.size)).trans ((HB7.o.cell (aAk HC6.o)).trans HC6.o);go_simp;clear c7;refine hK.out _ _ hHeld (fun hHeld=>?_);clear hK K
    try simp only [Act.put,siT,scZ,scS]
    refine kC 10 ?_;intro K hK;have HB8:=zH (HB7.o.trans ((aAc w7 (.cells #[.int .i64 (at_:Int),.slice a7 xs.length p7] 164)).mono HB7.o.size));have HM8:=zH (HM6.o.later HB8.o);have HO8:=zH HM8.o.hw;rw [HM.o] at HO8;rw [if_pos (by rfl)];refine aAu (.tmp 48) (.tmp 53) 79 rfl B 164 j0 (.agg #[.int .i64 0,.slice none 0 0]) 2 32 underlying79 hj hy0 hy1 hy2 rfl (by omega) (.slice A M C) M _ rfl HO8.o ⟨w7.heap.size,0,none⟩ 1 1 [.int .i64 (at_:Int),.slice a7 xs.length p7] rfl rfl (news2 w7 _ _ _) (by intro u hu;simp at hu;rcases hu with rfl | rfl<;>rfl) (by unfold maxLen;omega) (by omega) (by have:=HB6.o;have:=HB8.o.size;omega) ?_;intro v9 w9 ho9 hg9 hat9;obtain ⟨a9,p9,rfl⟩:=aAg ho9;have HOB8:=zH (aAh HOB.o (aAc w7 (.cells #[.int .i64 (at_:Int),.slice a7 xs.length p7] 164)));have HE:=zH (HM8.o.stepB (by rw [HN.o];exact hat) (by have:=HB6.o;have:=HB8.o.size;omega) hxl hxb (by rw [HM.o];exact hmm) HOB8.o (by rw [HM.o];exact ho9) hg9 hat9);have hp9:=HM8.o.grownQ hg9;have c9:w9.cell? ⟨p,1,none⟩=some (.slice A M C):=aAa hp9;have f9:w9.frozen? ⟨p,1,none⟩=false:=aAb hp9;clear ho9 hg9 hHeld hp9;refine hK.out _ _ trivial (fun hHeld=>?_);clear hK K
    try simp only [Act.put,siT,scZ,scS]
    refine kT 11 55 ?_;refine kT 12 56 ?_;refine kC 13 ?_;intro K hK;go_simp;clear hHeld;refine hK.out _ _ trivial (fun hHeld=>?_);clear hK K
    try simp only [Act.put,siT,scZ,scS]
    refine wpAnyH_done (by kernel_rfl) ?_ _;refine NoPanic.normal ?_;go_wp2;go_ret;exact ⟨rfl,HE.o.1,HF3.o.trans (HF6.o.trans ((Fr.of HB8.o HB6.o).trans HE.o.2))⟩
 case z18yb =>
  intro o ho K hK;simp only [List.getElem?_toArray,List.getElem?_cons_succ,List.getElem?_cons_zero,oI] at ho;subst ho;go_simp;clear hHeld;refine hK.out _ _ HX4.o (fun hHeld=>?_);clear hK K
  try simp only [Act.put,siT,scZ,scS]
  refine kC 12 ?_;intro K hK;have c3:=HCY.o;go_simp;clear c3;refine hK.out _ _ hHeld (fun hHeld=>?_);clear hK K
  try simp only [Act.put,siT,scZ,scS]
  refine kC 19 ?_;intro K hK;rw [if_pos (by rfl)];refine aAu (.tmp 34) (.tmp 40) 38 rfl B 3 i0 (.int .i64 0) 1 8 underlying38 hi hz0 hz1 hz2 rfl (by omega) (.slice a2 L p2) L _ rfl HOX.o ⟨w3.heap.size,0,none⟩ 1 1 [.int .i64 (M:Nat)] rfl rfl HNX.o (by intro u hu;simp at hu;subst hu;rfl) (by unfold maxLen;omega) (by omega) (by have:=HB4.o.size;omega) ?_;intro v5 w5 ho5 hg5 hat5;obtain ⟨a5,p5,rfl⟩:=aAg ho5;rw [<-HE2.o] at hg5 hat5;have hatn:at_<s1.n:=by rw [HN.o];exact hat
  obtain ⟨hp5,hgb5⟩:=HD4.o.grownP hatn hg5;have HX5:Hid ((fun wx=>wx.cell? ⟨p,0,none⟩=some (.slice (some ⟨gb,0,none⟩) N N)/\wx.cell? ⟨p,1,none⟩=some (.slice A M C)) w5):=⟨by rw [<-HN.o];exact aAa hp5,aAa hp5⟩;have HA:=zH (HD4.o.stepA hatn (nT hB3 HB4.o.size) (by rw [HM.o,HL.o];exact ho5) hg5 hat5);have c5:w5.cell? ⟨gb,at_*2+1,none⟩=some (ov at_):=by
   rw [aAa hgb5];simpa using aA2 kv ov at_ s1.n hatn
  have f5:w5.frozen? ⟨gb,at_*2+1,none⟩=false:=aAb hgb5;have hpg:p≠gb:=by
   intro e;rw [e,hgb5] at hp5;simp only [oI,cI] at hp5;exact absurd hp5.2.1 (by decide)
  clear ho5 hg5 hat5 hHeld hp5 hgb5;refine hK.out _ _ HX5.o (fun hHeld=>?_);clear hK K
  try simp only [Act.put,siT,scZ,scS]
  refine kT 20 42 ?_;refine kT 21 43 ?_;refine kC 22 ?_;intro K hK;have HX6:Hid ((fun wx=>wx.cell? ⟨p,0,none⟩=some (.slice (some ⟨gb,0,none⟩) N N)/\wx.cell? ⟨p,1,none⟩=some (.slice A M C)) (w5.setCell ⟨gb,at_*2+1,none⟩ (.slice a5 (L+1) p5))):=⟨(World.cell?_setCell_other _ _ _ _ (fun e=>hpg (congrArg Addr.block e).symm)).trans HX5.o.1,(World.cell?_setCell_other _ _ _ _ (fun e=>hpg (congrArg Addr.block e).symm)).trans HX5.o.2⟩;go_simp;clear hHeld;refine hK.out _ _ HX6.o (fun hHeld=>?_);clear hK K
  try simp only [Act.put,siT,scZ,scS]
  refine wpAnyH_done (by kernel_rfl) ?_ _;refine NoPanic.normal ?_;have HM6:=zH HA.o.1;have HF6:=zH ((Fr.of HB4.o hB3).trans HA.o.2);have HC6:=zH HX6.o.2;have HB6:=zH (nT hB3 HF6.o.bel.size);have HBS6:=zH (hbs _ (HF3.o.trans HF6.o));clear hHeld HX5 HX6 HA c5 f5;generalize w5.setCell ⟨gb,at_*2+1,none⟩ (.slice a5 (L+1) p5)=w6 at *
  go_wp2_with fail;refine wp_region_noPanic ?_;refine wp_region_held_drew (S:=fun wx=>True) (by kernel_rfl) trivial (fun hHeld=>?_);refine kT 0 44 ?_;refine kT 1 45 ?_;refine kT 2 46 ?_;refine kT 3 47 ?_;refine kT 5 49 ?_;refine kT 6 50 ?_;refine aAn (i:=4) (j:=7) (by kernel_rfl) (by kernel_rfl) (by kernel_rfl) ?z45ya ?z45yb
  case z45ya =>
   intro o ho K hK;simp only [List.getElem?_toArray,List.getElem?_cons_succ,List.getElem?_cons_zero,oI] at ho;subst ho;have c7:w6.drew.cell? ⟨p,1,none⟩=some (.slice A M C):=HC6.o;go_simp;clear c7;refine hK.out _ _ hHeld (fun hHeld=>?_);clear hK K
   try simp only [Act.put,siT,scZ,scS]
   refine kC 7 ?_;intro K hK;go_simp;refine (aBv a xs.length cap xs _ (HBS6.o.later (Below.refl w6.heap.size w6).drew (nR _))).mono ?_;rintro e w7 ⟨vb,rfl,hob,hb7⟩;obtain ⟨a7,p7,rfl⟩:=aAg hob;have HB7:=zH ((Below.refl w6.heap.size w6).drew.trans hb7);have HOB:=zH (aBh hob HB6.o);clear hob hb7 hHeld;refine hK.out _ _ trivial (fun hHeld=>?_);clear hK K
   try simp only [Act.put,siT,scZ,scS]
   refine kT 8 52 ?_;refine kC 9 ?_;intro K hK;go_simp;clear hHeld;refine hK.out _ _ trivial (fun hHeld=>?_);clear hK K
   try simp only [Act.put,siT,scZ,scS]
   refine kC 10 ?_;intro K hK;have HB8:=zH (HB7.o.trans ((aAc w7 (.cells #[.int .i64 (at_:Int),.slice a7 xs.length p7] 164)).mono HB7.o.size));have HM8:=zH (HM6.o.later HB8.o);have HO8:=zH HM8.o.hw;rw [HM.o] at HO8;rw [if_pos (by rfl)];refine aAu (.tmp 48) (.tmp 53) 79 rfl B 164 j0 (.agg #[.int .i64 0,.slice none 0 0]) 2 32 underlying79 hj hy0 hy1 hy2 rfl (by omega) (.slice A M C) M _ rfl HO8.o ⟨w7.heap.size,0,none⟩ 1 1 [.int .i64 (at_:Int),.slice a7 xs.length p7] rfl rfl (news2 w7 _ _ _) (by intro u hu;simp at hu;rcases hu with rfl | rfl<;>rfl) (by unfold maxLen;omega) (by omega) (by have:=HB6.o;have:=HB8.o.size;omega) ?_;intro v9 w9 ho9 hg9 hat9;obtain ⟨a9,p9,rfl⟩:=aAg ho9;have HOB8:=zH (aAh HOB.o (aAc w7 (.cells #[.int .i64 (at_:Int),.slice a7 xs.length p7] 164)));have HE:=zH (HM8.o.stepB (by rw [HN.o];exact hat) (by have:=HB6.o;have:=HB8.o.size;omega) hxl hxb (by rw [HM.o];exact hmm) HOB8.o (by rw [HM.o];exact ho9) hg9 hat9);have hp9:=HM8.o.grownQ hg9;have c9:w9.cell? ⟨p,1,none⟩=some (.slice A M C):=aAa hp9;have f9:w9.frozen? ⟨p,1,none⟩=false:=aAb hp9;clear ho9 hg9 hHeld hp9;refine hK.out _ _ trivial (fun hHeld=>?_);clear hK K
   try simp only [Act.put,siT,scZ,scS]
   refine kT 11 55 ?_;refine kT 12 56 ?_;refine kC 13 ?_;intro K hK;go_simp;clear hHeld;refine hK.out _ _ trivial (fun hHeld=>?_);clear hK K
   try simp only [Act.put,siT,scZ,scS]
   refine wpAnyH_done (by kernel_rfl) ?_ _;refine NoPanic.normal ?_;go_wp2;go_ret;exact ⟨rfl,HE.o.1,HF3.o.trans (HF6.o.trans ((Fr.of HB8.o HB6.o).trans HE.o.2))⟩
  case z45yb =>
   intro o ho K hK;simp only [List.getElem?_toArray,List.getElem?_cons_succ,List.getElem?_cons_zero,oI] at ho;subst ho;go_simp;refine (aBv a xs.length cap xs _ (HBS6.o.later (Below.refl w6.heap.size w6).drew (nR _))).mono ?_;rintro e w7 ⟨vb,rfl,hob,hb7⟩;obtain ⟨a7,p7,rfl⟩:=aAg hob;have HB7:=zH ((Below.refl w6.heap.size w6).drew.trans hb7);have HOB:=zH (aBh hob HB6.o);clear hob hb7 hHeld;refine hK.out _ _ trivial (fun hHeld=>?_);clear hK K
   try simp only [Act.put,siT,scZ,scS]
   refine kT 8 52 ?_;refine aAn (i:=4) (j:=9) (by kernel_rfl) (by kernel_rfl) (by kernel_rfl) ?z49ya ?z49yb
   case z49ya =>
    intro o ho K hK;simp only [List.getElem?_toArray,List.getElem?_cons_succ,List.getElem?_cons_zero,oI] at ho;subst ho;have c7:w7.cell? ⟨p,1,none⟩=some (.slice A M C):=(HB7.o.cell (aAk HC6.o)).trans HC6.o;go_simp;clear c7;refine hK.out _ _ hHeld (fun hHeld=>?_);clear hK K
    try simp only [Act.put,siT,scZ,scS]
    refine kC 9 ?_;intro K hK;go_simp;clear hHeld;refine hK.out _ _ trivial (fun hHeld=>?_);clear hK K
    try simp only [Act.put,siT,scZ,scS]
    refine kC 10 ?_;intro K hK;have HB8:=zH (HB7.o.trans ((aAc w7 (.cells #[.int .i64 (at_:Int),.slice a7 xs.length p7] 164)).mono HB7.o.size));have HM8:=zH (HM6.o.later HB8.o);have HO8:=zH HM8.o.hw;rw [HM.o] at HO8;rw [if_pos (by rfl)];refine aAu (.tmp 48) (.tmp 53) 79 rfl B 164 j0 (.agg #[.int .i64 0,.slice none 0 0]) 2 32 underlying79 hj hy0 hy1 hy2 rfl (by omega) (.slice A M C) M _ rfl HO8.o ⟨w7.heap.size,0,none⟩ 1 1 [.int .i64 (at_:Int),.slice a7 xs.length p7] rfl rfl (news2 w7 _ _ _) (by intro u hu;simp at hu;rcases hu with rfl | rfl<;>rfl) (by unfold maxLen;omega) (by omega) (by have:=HB6.o;have:=HB8.o.size;omega) ?_;intro v9 w9 ho9 hg9 hat9;obtain ⟨a9,p9,rfl⟩:=aAg ho9;have HOB8:=zH (aAh HOB.o (aAc w7 (.cells #[.int .i64 (at_:Int),.slice a7 xs.length p7] 164)));have HE:=zH (HM8.o.stepB (by rw [HN.o];exact hat) (by have:=HB6.o;have:=HB8.o.size;omega) hxl hxb (by rw [HM.o];exact hmm) HOB8.o (by rw [HM.o];exact ho9) hg9 hat9);have hp9:=HM8.o.grownQ hg9;have c9:w9.cell? ⟨p,1,none⟩=some (.slice A M C):=aAa hp9;have f9:w9.frozen? ⟨p,1,none⟩=false:=aAb hp9;clear ho9 hg9 hHeld hp9;refine hK.out _ _ trivial (fun hHeld=>?_);clear hK K
    try simp only [Act.put,siT,scZ,scS]
    refine kT 11 55 ?_;refine kT 12 56 ?_;refine kC 13 ?_;intro K hK;go_simp;clear hHeld;refine hK.out _ _ trivial (fun hHeld=>?_);clear hK K
    try simp only [Act.put,siT,scZ,scS]
    refine wpAnyH_done (by kernel_rfl) ?_ _;refine NoPanic.normal ?_;go_wp2;go_ret;exact ⟨rfl,HE.o.1,HF3.o.trans (HF6.o.trans ((Fr.of HB8.o HB6.o).trans HE.o.2))⟩
   case z49yb =>
    intro o ho K hK;simp only [List.getElem?_toArray,List.getElem?_cons_succ,List.getElem?_cons_zero,oI] at ho;subst ho;go_simp;clear hHeld;refine hK.out _ _ trivial (fun hHeld=>?_);clear hK K
    try simp only [Act.put,siT,scZ,scS]
    refine kC 4 ?_;intro K hK;have c7:(w7.alloc (.cells #[.int .i64 (at_:Int),.slice a7 xs.length p7] 164)).cell? ⟨p,1,none⟩=some (.slice A M C):=((aAc w7 _).cell (Nat.lt_of_lt_of_le (aAk HC6.o) HB7.o.size)).trans ((HB7.o.cell (aAk HC6.o)).trans HC6.o);go_simp;clear c7;refine hK.out _ _ hHeld (fun hHeld=>?_);clear hK K
    try simp only [Act.put,siT,scZ,scS]
    refine kC 10 ?_;intro K hK;have HB8:=zH (HB7.o.trans ((aAc w7 (.cells #[.int .i64 (at_:Int),.slice a7 xs.length p7] 164)).mono HB7.o.size));have HM8:=zH (HM6.o.later HB8.o);have HO8:=zH HM8.o.hw;rw [HM.o] at HO8;rw [if_pos (by rfl)];refine aAu (.tmp 48) (.tmp 53) 79 rfl B 164 j0 (.agg #[.int .i64 0,.slice none 0 0]) 2 32 underlying79 hj hy0 hy1 hy2 rfl (by omega) (.slice A M C) M _ rfl HO8.o ⟨w7.heap.size,0,none⟩ 1 1 [.int .i64 (at_:Int),.slice a7 xs.length p7] rfl rfl (news2 w7 _ _ _) (by intro u hu;simp at hu;rcases hu with rfl | rfl<;>rfl) (by unfold maxLen;omega) (by omega) (by have:=HB6.o;have:=HB8.o.size;omega) ?_;intro v9 w9 ho9 hg9 hat9;obtain ⟨a9,p9,rfl⟩:=aAg ho9;have HOB8:=zH (aAh HOB.o (aAc w7 (.cells #[.int .i64 (at_:Int),.slice a7 xs.length p7] 164)));have HE:=zH (HM8.o.stepB (by rw [HN.o];exact hat) (by have:=HB6.o;have:=HB8.o.size;omega) hxl hxb (by rw [HM.o];exact hmm) HOB8.o (by rw [HM.o];exact ho9) hg9 hat9);have hp9:=HM8.o.grownQ hg9;have c9:w9.cell? ⟨p,1,none⟩=some (.slice A M C):=aAa hp9;have f9:w9.frozen? ⟨p,1,none⟩=false:=aAb hp9;clear ho9 hg9 hHeld hp9;refine hK.out _ _ trivial (fun hHeld=>?_);clear hK K
    try simp only [Act.put,siT,scZ,scS]
    refine kT 11 55 ?_;refine kT 12 56 ?_;refine kC 13 ?_;intro K hK;go_simp;clear hHeld;refine hK.out _ _ trivial (fun hHeld=>?_);clear hK K
    try simp only [Act.put,siT,scZ,scS]
    refine wpAnyH_done (by kernel_rfl) ?_ _;refine NoPanic.normal ?_;go_wp2;go_ret;exact ⟨rfl,HE.o.1,HF3.o.trans (HF6.o.trans ((Fr.of HB8.o HB6.o).trans HE.o.2))⟩
theorem arm_any [Gd] (B p:Nat) (s:DS) (after:Int) (keep:Nat) (torn cut:Int) (w:World) (h:DI B p s w) (hB:B<=w.heap.size) (hkeep:keep<18446744073709551616) (hafter:after<=9223372036854775807) :
  Calls prog 29 #[.pointer (some ⟨p,0,none⟩),.agg #[.int .i64 after,.int .u64 (keep:Int),.int .i64 torn,.int .i64 cut]] w fun e w'=>e=.returned (.tuple #[])/\DI B p (s.arm after keep torn cut) w'/\Fr B w w':=by
 obtain ⟨gb,vo,kv,ov,wv,h⟩:=h;have HB1:=zH (aAc w (.cells #[.int .i64 after,.int .u64 (keep:Int),.int .i64 torn,.int .i64 cut] 82));have HD2:=zH (h.later HB1.o);have HF1:=zH (Fr.of HB1.o hB);have d2:=HD2.o.c2;have d3:=HD2.o.c3;have d4:=HD2.o.c4;have d5:=HD2.o.c5;have d6:=HD2.o.c6;have fz:=HD2.o.frz;have HA:Hid (s.arm after keep torn cut=if s.down then s else s.with after keep torn cut s.down s.life):=rfl
 cases hd:s.down with
 | true =>
  rw [hd] at d6 HA;clear h;go_enter func29,ntmps29;go_wp2;go_end0;rw [HA.o];exact ⟨rfl,⟨gb,vo,kv,ov,wv,HD2.o⟩,HF1.o⟩
 | false =>
  rw [hd] at d6;have HL:=zH hd;clear h hd;go_enter func29,ntmps29;go_wp2;go_end0;obtain ⟨h1,h2,h3⟩:=chain HD2.o.pB (Or.inl rfl) (fun e=>(HD2.o.hG p e).2.1 rfl) [(2,Value.int .i64 after),(3,.int .u64 (keep:Int)),(4,.int .i64 torn),(5,.int .i64 cut)] _ _ HD2.o.hp;rw [HA.o,HL.o];refine ⟨rfl,⟨gb,vo,kv,ov,wv,?_⟩,HF1.o.trans h2⟩;have:=HD2.o.put (down:=s.down) (life:=s.life) h1 h3 hkeep hafter HD2.o.ok.life0 HD2.o.ok.life1;rw [HL.o] at this;exact this
def sb (s:ByteArray) (k:Nat):Nat:=(s.data.toList.map UInt8.toNat).getD k 0
end Go.Proofs.YtdfjjhlhnfindaaGreat
