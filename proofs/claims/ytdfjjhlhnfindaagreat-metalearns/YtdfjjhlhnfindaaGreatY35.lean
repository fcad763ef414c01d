import Derived.Test.YtdfjjhlhnfindaaGreatY33
import Derived.BigRegion
set_option maxRecDepth 100000
set_option maxHeartbeats 16000000
set_option linter.unusedVariables false
namespace Go.Proofs.YtdfjjhlhnfindaaGreat
open Go.RowKit Tryz
variable {B g k m o p px q:Nat} {cs:Array Value} {d left:Int} {fz:Nat×Nat} {gone laid ps:List Nat} {rv sv:Value} {s:DS} {t:PS} {w w':World}
structure StT where
 root:Int
 depth:Int
 keys:Int
 pgs:List Nat
structure TV (cs:Array Value) (p q:Nat) (now last:StT) (sv:Value) (left:Int) (ended:Bool):Prop where
 sz:cs.size=139
 c0:cs[0]?=some (.pointer (some ⟨p,0,none⟩))
 c1:cs[1]?=some (.pointer (some ⟨q,0,none⟩))
 n0:cs[2]?=some (.int .i64 now.root)
 n1:cs[3]?=some (.int .i64 now.depth)
 n2:cs[4]?=some (.int .i64 now.keys)
 nw:Wd cs 5 now.pgs
 l0:cs[69]?=some (.int .i64 last.root)
 l1:cs[70]?=some (.int .i64 last.depth)
 l2:cs[71]?=some (.int .i64 last.keys)
 lw:Wd cs 72 last.pgs
 s0:cs[136]?=some sv
 s1:cs[137]?=some (.int .i64 left)
 s2:cs[138]?=some (.bool ended)
theorem Wd.same {cs':Array Value} (h:Wd cs o ps) (hs:∀ k,o<=k->k<o+64->cs'[k]?=cs[k]?):Wd cs' o ps :=
 ⟨h.1,h.2.1,fun i x hi=>by rw [hs (o+i) (by omega) (by have:=(lL hi);have:=h.1;omega)];exact h.2.2 i x hi⟩
section
variable {cs cs':Array Value} {p q:Nat} {now last:StT} {sv:Value} {left:Int} {ended:Bool}
theorem TV.words (h:TV cs p q now last sv left ended) (hw:Wd cs' 5 ps) (hs:Sm cs cs' 5):TV cs' p q ⟨now.root,now.depth,now.keys,ps⟩ last sv left ended :=
 ⟨hs.1.trans h.sz,(hs.2 0 (by omega)).trans h.c0,(hs.2 1 (by omega)).trans h.c1,(hs.2 2 (by omega)).trans h.n0,(hs.2 3 (by omega)).trans h.n1,(hs.2 4 (by omega)).trans h.n2,hw,(hs.2 69 (by omega)).trans h.l0,(hs.2 70 (by omega)).trans h.l1,(hs.2 71 (by omega)).trans h.l2,h.lw.same fun k hk _=>hs.2 k (by omega),(hs.2 136 (by omega)).trans h.s0,(hs.2 137 (by omega)).trans h.s1,(hs.2 138 (by omega)).trans h.s2⟩
theorem TV.one {u:Value} (h:TV cs p q now last sv left ended):(cs.setIfInBounds k u).size=139/\(∀ i,i≠k->(cs.setIfInBounds k u)[i]?=cs[i]?)/\(k<139->(cs.setIfInBounds k u)[k]?=some u) :=
 ⟨by rw [Array.size_setIfInBounds,h.sz],fun i hi=>Array.getElem?_setIfInBounds_ne (Ne.symm hi),fun hk=>Array.getElem?_setIfInBounds_self_of_lt (by rw [h.sz];exact hk)⟩
theorem TV.root {r:Int} (h:TV cs p q now last sv left ended):TV (cs.setIfInBounds 2 (.int .i64 r)) p q ⟨r,now.depth,now.keys,now.pgs⟩ last sv left ended:=by
 obtain ⟨h1,h2,h3⟩:=h.one (k:=2) (u:=.int .i64 r);exact ⟨h1,(h2 _ (by decide)).trans h.c0,(h2 _ (by decide)).trans h.c1,h3 (by decide),(h2 _ (by decide)).trans h.n1,(h2 _ (by decide)).trans h.n2,h.nw.same fun k hk _=>h2 k (by omega),(h2 _ (by decide)).trans h.l0,(h2 _ (by decide)).trans h.l1,(h2 _ (by decide)).trans h.l2,h.lw.same fun k hk _=>h2 k (by omega),(h2 _ (by decide)).trans h.s0,(h2 _ (by decide)).trans h.s1,(h2 _ (by decide)).trans h.s2⟩
theorem TV.depth {r:Int} (h:TV cs p q now last sv left ended):TV (cs.setIfInBounds 3 (.int .i64 r)) p q ⟨now.root,r,now.keys,now.pgs⟩ last sv left ended:=by
 obtain ⟨h1,h2,h3⟩:=h.one (k:=3) (u:=.int .i64 r);exact ⟨h1,(h2 _ (by decide)).trans h.c0,(h2 _ (by decide)).trans h.c1,(h2 _ (by decide)).trans h.n0,h3 (by decide),(h2 _ (by decide)).trans h.n2,h.nw.same fun k hk _=>h2 k (by omega),(h2 _ (by decide)).trans h.l0,(h2 _ (by decide)).trans h.l1,(h2 _ (by decide)).trans h.l2,h.lw.same fun k hk _=>h2 k (by omega),(h2 _ (by decide)).trans h.s0,(h2 _ (by decide)).trans h.s1,(h2 _ (by decide)).trans h.s2⟩
theorem TV.keys {r:Int} (h:TV cs p q now last sv left ended):TV (cs.setIfInBounds 4 (.int .i64 r)) p q ⟨now.root,now.depth,r,now.pgs⟩ last sv left ended:=by
 obtain ⟨h1,h2,h3⟩:=h.one (k:=4) (u:=.int .i64 r);exact ⟨h1,(h2 _ (by decide)).trans h.c0,(h2 _ (by decide)).trans h.c1,(h2 _ (by decide)).trans h.n0,(h2 _ (by decide)).trans h.n1,h3 (by decide),h.nw.same fun k hk _=>h2 k (by omega),(h2 _ (by decide)).trans h.l0,(h2 _ (by decide)).trans h.l1,(h2 _ (by decide)).trans h.l2,h.lw.same fun k hk _=>h2 k (by omega),(h2 _ (by decide)).trans h.s0,(h2 _ (by decide)).trans h.s1,(h2 _ (by decide)).trans h.s2⟩
theorem TV.lft {r:Int} (h:TV cs p q now last sv left ended):TV (cs.setIfInBounds 137 (.int .i64 r)) p q now last sv r ended:=by
 obtain ⟨h1,h2,h3⟩:=h.one (k:=137) (u:=.int .i64 r);exact ⟨h1,(h2 _ (by decide)).trans h.c0,(h2 _ (by decide)).trans h.c1,(h2 _ (by decide)).trans h.n0,(h2 _ (by decide)).trans h.n1,(h2 _ (by decide)).trans h.n2,h.nw.same fun k hk _=>h2 k (by omega),(h2 _ (by decide)).trans h.l0,(h2 _ (by decide)).trans h.l1,(h2 _ (by decide)).trans h.l2,h.lw.same fun k hk _=>h2 k (by omega),(h2 _ (by decide)).trans h.s0,h3 (by decide),(h2 _ (by decide)).trans h.s2⟩
end
theorem Ex.set {u:Value} (hB:B<=g):Ex B [g] w (w.setCell ⟨g,o,none⟩ u) :=
 ⟨(Below.refl B w).setCell (p:=⟨g,o,none⟩) hB _,fun k _ hk=>heap_setCell_other _ _ _ _ (by simpa using hk)⟩
theorem Ex.keepT {cs':Array Value} {t:TypeId} (h:Ex B [g] w w') (hg:w.heap[g]?=some (.cells cs 183 (0,0))) (hk:w.heap[k]?=some (.cells cs' t fz)) (ht:t≠183):w'.heap[k]?=some (.cells cs' t fz):=by
 rw [h.2 k (lO hk) ?_,hk];intro q9;simp only [List.mem_singleton] at q9;subst q9;rw [hg] at hk;simp only [oI,cI] at hk;exact ht hk.2.1.symm
theorem ST.exT [Gd] (h:ST B p q s t w) (f:Ex B [g] w w') (hg:w.heap[g]?=some (.cells cs 183 (0,0))):ST B p q s t w':=by
 obtain ⟨h1,gs,h2⟩:=h;refine ⟨?_,gs,f.keepT hg h2.hq (by decide),f.keepT hg h2.hs (by decide),h2.qB,h2.gB,h2.ok,h2.hG⟩;exact h1.of_stay (fun k cs t e ht=>f.keepT hg e (by rcases ht with rfl | rfl | rfl | rfl | rfl | rfl | rfl<;>decide))
theorem take_ok [Gd] {now last:StT} {n:Int} {ended:Bool} {root:Nat} (hB:B<=g) (hST:ST B p q s t w) (hg:w.heap[g]?=some (.cells cs 183 (0,0))) (hT:TV cs p q now last sv left ended) (hE:EL B w px q rv d n gone laid) (hgo:∀ x∈gone,x<4096) (hla:∀ x∈laid,x<4096) (hg1:gone.length<100000) (hl1:laid.length<100000) :
  Calls prog 179 #[.pointer (some ⟨g,0,none⟩),.pointer (some ⟨px,0,none⟩),.int .i64 (root:Int)] w fun e w'=>e=.returned (.tuple #[])/\∃ cs',w'.heap[g]?=some (.cells cs' 183 (0,0))/\TV cs' p q ⟨root,d,n,laid.foldl adP (gone.foldl drP now.pgs)⟩ last sv (cntF t.st:Nat) ended/\Ex B [g] w w':=by
 obtain ⟨gv,lv,h1,h2,h3,h4⟩:=hE.hx;have HT:=zH hT;have HG:=zH hg;have HPX:=zH h1;have HGO:=zH h2;have HLA:=zH h3;have HST:=zH hST;have hne:px≠g:=by
  intro e;rw [e,hg] at h1;simp only [oI,cI] at h1;exact absurd h1.2.1 (by decide)
 have hne2:g≠px:=Ne.symm hne;have e2:w.cell? ⟨px,2,none⟩=some (.int .i64 d):=aAa h1;have e3:w.cell? ⟨px,3,none⟩=some (.int .i64 n):=aAa h1;have g2:w.cell? ⟨g,2,none⟩=some (.int .i64 now.root):=(aAa hg).trans hT.n0;have g3:w.cell? ⟨g,3,none⟩=some (.int .i64 now.depth):=(aAa hg).trans hT.n1;have g4:w.cell? ⟨g,4,none⟩=some (.int .i64 now.keys):=(aAa hg).trans hT.n2;have f2:w.frozen? ⟨g,2,none⟩=false:=aAb hg;have f3:w.frozen? ⟨g,3,none⟩=false:=aAb hg;have f4:w.frozen? ⟨g,4,none⟩=false:=aAb hg;obtain ⟨ga,gc,rfl⟩:=aAg h2;obtain ⟨la,lc,rfl⟩:=aAg h3;have HE:=zH hE;clear hT hg h1 h2 h3 h4 hST hE;go_enter func179,ntmps179;go_wp2;go_region;have z1:(w.setCell ⟨g,2,none⟩ (.int .i64 (root:Int))).heap[g]?=some (.cells (cs.setIfInBounds 2 (.int .i64 (root:Int))) 183 (0,0)):=heap_setCell_same _ _ _ _ _ _ HG.o;have z2:((w.setCell ⟨g,2,none⟩ (.int .i64 (root:Int))).setCell ⟨g,3,none⟩ (.int .i64 d)).heap[g]?=some (.cells ((cs.setIfInBounds 2 (.int .i64 (root:Int))).setIfInBounds 3 (.int .i64 d)) 183 (0,0)):=heap_setCell_same _ _ _ _ _ _ z1;have HG1:Hid ((((w.setCell ⟨g,2,none⟩ (.int .i64 (root:Int))).setCell ⟨g,3,none⟩ (.int .i64 d)).setCell ⟨g,4,none⟩ (.int .i64 n)).drew.heap[g]?=some (.cells (((cs.setIfInBounds 2 (.int .i64 (root:Int))).setIfInBounds 3 (.int .i64 d)).setIfInBounds 4 (.int .i64 n)) 183 (0,0))):=heap_setCell_same _ _ _ _ _ _ z2;have HX1:Hid (Ex B [g] w (((w.setCell ⟨g,2,none⟩ (.int .i64 (root:Int))).setCell ⟨g,3,none⟩ (.int .i64 d)).setCell ⟨g,4,none⟩ (.int .i64 n)).drew):=by
  obtain ⟨k1,k2⟩:=((Ex.set (o:=2) (u:=.int .i64 (root:Int)) (w:=w) hB).trans (Ex.set (o:=3) (u:=.int .i64 d) hB)).trans (Ex.set (o:=4) (u:=.int .i64 n) hB);exact ⟨k1.drew,k2⟩
 have HT1:=zH ((HT.o.root (r:=(root:Int))).depth (r:=d) |>.keys (r:=n));clear z1 z2 e2 e3 g2 g3 g4 f2 f3 f4;generalize (((w.setCell ⟨g,2,none⟩ (.int .i64 (root:Int))).setCell ⟨g,3,none⟩ (.int .i64 d)).setCell ⟨g,4,none⟩ (.int .i64 n)).drew=w1 at *
 generalize ((cs.setIfInBounds 2 (.int .i64 (root:Int))).setIfInBounds 3 (.int .i64 d)).setIfInBounds 4 (.int .i64 n)=cs1 at *
 have HPX1:=zH (HX1.o.keepT HG.o HPX.o (by decide));have e4:w1.cell? ⟨px,4,none⟩=some (.slice ga gone.length gc):=aAa HPX1.o;have hgo1:w1.drew.ownsRow B 217 1 (.slice ga gone.length gc) gone.length (plC gone):=aAl HGO.o fun k cs _ e=>HX1.o.keepT HG.o e (by decide)
 have HD:=zH (dropAll_ok (w:=w1.drew) (B:=B) hB (show w1.drew.heap[g]?=_ from HG1.o) (by decide) HT1.o.nw hgo hg1 hgo1);clear hgo1;go_wp2;go_region_with (go_at_call 196;refine HD.o.mono ?_;rintro e w2 ⟨rfl,c2,q1,q2,q3,q4⟩;have HG2:=zH q1;have HT2:=zH (HT1.o.words q2 q3);have HX2:=zH (HX1.o.trans (c:=w2) ⟨(Below.refl B w1).drew.trans q4.1,fun k hk hn=>q4.2 k hk hn⟩);clear q1 q2 q3 q4);have HPX2:=zH (HX2.o.keepT HG.o HPX.o (by decide));have e5:w2.cell? ⟨px,5,none⟩=some (.slice la laid.length lc):=aAa HPX2.o;have HLA2:Hid (w2.ownsRow B 217 1 (.slice la laid.length lc) laid.length (plC laid)):=aAl HLA.o fun k cs _ e=>HX2.o.keepT HG.o e (by decide)
 have HGX:=zH hgo;have HLX:=zH hla;clear e4 HD HPX1 hgo hla HGO HLA HG1 HX1 HT1;generalize hN:laid.length=N at *
 go_wp2_with fail;go_loopw [43] (fun i wx=>∃ j:Nat,j<=N/\i=.int .i64 j/\PsR B g 5 183 w2 c2 ((laid.take j).foldl adP (gone.foldl drP now.pgs)) wx) (fun i _=>N-(intOf i).toNat)
 case atStart=>exact ⟨0,by omega,rfl,PsR.zero HG2.o HT2.o.nw⟩
 case round =>
  obtain ⟨j,hj,rfl,hP⟩:=hrel;have HP:=zH hP;clear hP e5;by_cases hjn:j<N
  ·have x1:(j:Int)<(N:Int):=by omega
   obtain ⟨x,hx⟩:∃ x,laid[j]?=some x:=⟨_,gE (by rw [hN];exact hjn)⟩;obtain ⟨c3,p1,p2,p3,p4⟩:=HP.o;have hown:wr.ownsRow B 217 1 (.slice la N lc) laid.length (plC laid):=by
    rw [hN];exact aAl HLA2.o fun k cs' _ e=>p4.keepT HG2.o e (by decide)
   obtain ⟨gb,c4,e2,hcell⟩:=own_pl hown hx;simp only [Value.slice.injEq] at e2;obtain ⟨rfl,hz,rfl⟩:=e2;have HD:=zH (add_ok (B:=B) hB p1 p2 (HLX.o x (mG hx)));have HNX:Hid ((laid.take (j+1)).foldl adP (gone.foldl drP now.pgs)=adP ((laid.take j).foldl adP (gone.foldl drP now.pgs)) x):=by
    show _=_;rw [List.take_add_one,hx];simp
   have HS3:=zH p3;have HE4:=zH p4;clear p1 p2 p3 p4 hown hx hz;go_wp2_with fail;refine HD.o.mono ?_;rintro e w5 ⟨rfl,c5,q1,q2,q3,q4⟩;have HR:Hid (PsR B g 5 183 w2 c2 ((laid.take (j+1)).foldl adP (gone.foldl drP now.pgs)) w5):=by
    rw [HNX.o];exact ⟨c5,q1,q2,HS3.o.trans q3,HE4.o.trans q4⟩
   clear q1 q2 q3 q4 hcell HD;go_wp2_with fail;go_roundw
   case rel=>exact ⟨j+1,by omega,by go_num,HR.o⟩
   case measure=>simp [intOf];omega
  ·have x1:¬ (j:Int)<(N:Int):=by omega
   obtain rfl:j=N:=by omega
   rw [List.take_of_length_le (Nat.le_of_eq hN)] at HP;obtain ⟨c3,p1,p2,p3,p4⟩:=HP.o;have HT3:=zH (HT2.o.words p2 p3);have HG3:=zH p1;have HX3:=zH (HX2.o.trans p4);have HLF:=zH (aE9 (HST.o.exT HX3.o HG.o));have r1:wr.cell? ⟨g,1,none⟩=some (.pointer (some ⟨q,0,none⟩)):=(aAa p1).trans HT3.o.c1;have r7:wr.cell? ⟨g,137,none⟩=some (.int .i64 left):=(aAa p1).trans HT3.o.s1;have f7:wr.frozen? ⟨g,137,none⟩=false:=aAb p1;clear p1 p2 p3 p4;go_wp2_with fail;refine HLF.o.mono ?_;rintro e w9 ⟨rfl,rfl⟩;go_wp2;(try simp only [Exit.inBlock,Exit.then]);refine bodyPost_end (results_none rfl _ _ _) rfl ?_;exact ⟨rfl,_,heap_setCell_same _ _ _ _ _ _ HG3.o,HT3.o.lft,HX3.o.trans (Ex.set hB)⟩
theorem aHo [Gd] {now last:StT} {n:Int} {ended:Bool} (hST:ST B p q s t w) (hg:w.heap[g]?=some (.cells cs 183 (0,0))) (hT:TV cs p q now last sv left ended) (hE:EV B w px q rv d n gone) (hf:FrC w rv m) (hm:m<=cntF t.st) :
  Calls prog 177 #[.pointer (some ⟨g,0,none⟩),.pointer (some ⟨px,0,none⟩)] w fun e w'=>e=.returned (.bool true)/\Below w.heap.size w w':=by
 obtain ⟨gv,h1,h2⟩:=hE.hx;obtain ⟨ty,pv,K,rc,rfl,hmt,hcf,hcl⟩:=hf;have e1:w.cell? ⟨px,1,none⟩=some (.iface ty pv):=aAa h1;have hgl:=(lO hg);have hm1:=hmt w;have hm2:=hcf w;have HCL:=zH hcl;have HST:=zH hST;have HG:=zH hg;have HT:=zH hT;have hle:(m:Int)<=((cntF t.st:Nat):Int):=by omega
 clear h1 h2 hmt hcf hcl hST hg hT hE;go_enter func177,ntmps177;go_wp2_with fail;refine HCL.o.mono ?_;rintro e w1 ⟨rfl,hb1⟩;have HB1:=zH hb1;have hg1:=(hb1.block g hgl).trans HG.o;have r1:w1.cell? ⟨g,1,none⟩=some (.pointer (some ⟨q,0,none⟩)):=(aAa hg1).trans HT.o.c1;have HL:=zH (aE9 (HST.o.later hb1));clear hb1 hg1 e1 hm1 hm2;go_wp2_with fail;refine HL.o.mono ?_;rintro e w2 ⟨rfl,rfl⟩;go_wp2;go_ret;exact ⟨rfl,HB1.o⟩
theorem aHb [Gd] {now last:StT} (hST:ST B p q s t w) (hl:s.life=t.life) (hg:w.heap[g]?=some (.cells cs 183 (0,0))) (hT:TV cs p q now last sv left false) :
  Calls prog 89 #[.pointer (some ⟨g,0,none⟩)] w fun e w'=>e=.returned (.bool false)/\Below w.heap.size w w':=by
 have r1:w.cell? ⟨g,1,none⟩=some (.pointer (some ⟨q,0,none⟩)):=(aAa hg).trans hT.c1;have r2:w.cell? ⟨g,138,none⟩=some (.bool false):=(aAa hg).trans hT.s2;have HD:=zH (aDa hST hl);clear hST hg hT;go_enter func89,ntmps89;go_wp2_with fail;refine HD.o.mono ?_;rintro e w1 ⟨rfl,hb1⟩;have HB1:=zH hb1;clear hb1;go_wp2;go_ret;exact ⟨rfl,HB1.o⟩
theorem aFl [Gd] {now last:StT} (hST:ST B p q s t w) (hl:s.life=t.life) (hg:w.heap[g]?=some (.cells cs 183 (0,0))) (hT:TV cs p q now last sv left false) (a:Option Addr) (len cap:Nat) :
  Calls prog 152 #[.pointer (some ⟨g,0,none⟩),.slice a len cap] w fun e w'=>e=.returned (.int .i64 (if len=0 then 1 else if 64<len then 3 else 0))/\Below w.heap.size w w':=by
 have HD:=zH (aHb hST hl hg hT);clear hST hg hT;go_enter func152,ntmps152;go_wp2_with fail;refine HD.o.mono ?_;rintro e w1 ⟨rfl,hb1⟩;have HB1:=zH hb1;clear hb1;by_cases h0:len=0
 ·have x0:((len:Nat):Int)=0:=by omega
  have H0:=zH h0;clear h0;go_wp2;go_ret;refine ⟨?_,HB1.o⟩;simp
 ·have x0:¬ ((len:Nat):Int)=0:=by omega
  have H0:=zH h0;clear h0;by_cases h6:64<len
  ·have x6:(64:Int)<((len:Nat):Int):=by omega
   have H6:=zH h6;clear h6;go_wp2;go_ret;refine ⟨?_,HB1.o⟩;simp
  ·have x6:¬ (64:Int)<((len:Nat):Int):=by omega
   have H6:=zH h6;clear h6;go_wp2;go_ret;refine ⟨?_,HB1.o⟩;simp
end Go.Proofs.YtdfjjhlhnfindaaGreat
