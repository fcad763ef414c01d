import Derived.Test.YtdpdjpkmndnaaaaGreatYb67
import Derived.Test.YtdpdjpkmndnaaaaGreatYb64
set_option maxRecDepth 100000
set_option maxHeartbeats 16000000
set_option linter.unusedVariables false
namespace Go.Proofs.YtdpdjpkmndnaaaaGreat
open Go.ChangeShapes Go.WideShapes Go.ChangeAt Go.RowKit
variable {H:Type} {W:World} {a:Option Addr} {j:Nat}
structure OpV where
 kind:Int
 nm:ByteArray
 s:Sch
 ca:Option Addr
 cl:Nat
 cc:Nat
 xa:Option Addr
 xl:Nat
 xc:Nat
 ra:Option Addr
 rl:Nat
 rc:Nat
 row:List Val
 key:Val
 col:Int
 lo:Val
 hi:Val
 lim:Int
instance:Inhabited OpV:=⟨⟨0,⟨#[]⟩,⟨⟨#[]⟩,[],[]⟩,none,0,0,none,0,0,none,0,0,[],(0,0,⟨#[]⟩),0,(0,0,⟨#[]⟩),(0,0,⟨#[]⟩),0⟩⟩
def fO (y:OpV):List Value:=[.int .i64 y.kind,.string y.nm,.string y.s.nm,.slice y.ca y.cl y.cc,.slice y.xa y.xl y.xc,.slice y.ra y.rl y.rc,.int .i64 y.key.1,.int .i64 y.key.2.1,.string y.key.2.2,.int .i64 y.col,.int .i64 y.lo.1,.int .i64 y.lo.2.1,.string y.lo.2.2,.int .i64 y.hi.1,.int .i64 y.hi.2.1,.string y.hi.2.2,.int .i64 y.lim]
theorem bTr (y:OpV):(fO y).length=17:=rfl
structure OpP (W:World) (y:OpV):Prop where
 k:-9223372036854775808<=y.kind/\y.kind<=9223372036854775807
 n:y.nm.size<=1048576
 sc:SC W y.ca y.cl y.cc y.xa y.xl y.xc y.s
 sp:SchP y.s
 rw_:SVK fV 3 W y.ra y.rl y.rc y.row
 rp:∀ x∈y.row,bSg x
 key:bSg y.key
 c:-9223372036854775808<=y.col/\y.col<=9223372036854775807
 lo:bSg y.lo
 hi:bSg y.hi
 l:-9223372036854775808<=y.lim/\y.lim<=9223372036854775807
theorem OpP.later {W':World} {y:OpV} (h:OpP W y) (hb:Below W.heap.size W W'):OpP W' y:=⟨h.k,h.n,h.sc.later hb,h.sp,h.rw_.later hb,h.rp,h.key,h.c,h.lo,h.hi,h.l⟩
theorem aBk:(Tryz.prog.fieldsOf 38).toList.map (fun f=>(f.type,f.offset))=[(3,0),(9,1),(33,2),(34,5),(36,6),(3,9),(36,10),(36,13),(3,16)]:=by kernel_rfl
theorem bEz:Tryz.prog.underlying 38=some (.struct (Tryz.prog.fieldsOf 38)):=by kernel_rfl
theorem bV2 {α:Type} {l:List α} (h:l.length=9):∃ a b c d e f g i j,l=[a,b,c,d,e,f,g,i,j]:=by
 match l,h with
 | [a,b,c,d,e,f,g,i,j],_=>exact ⟨a,b,c,d,e,f,g,i,j,rfl⟩
theorem bU2 {α:Type} {l:List α} (h:l.length=17):∃ a b c d e f g i j k m n o p q r s,l=[a,b,c,d,e,f,g,i,j,k,m,n,o,p,q,r,s]:=by
 match l,h with
 | [a,b,c,d,e,f,g,i,j,k,m,n,o,p,q,r,s],_=>exact ⟨a,b,c,d,e,f,g,i,j,k,m,n,o,p,q,r,s,rfl⟩
theorem bJu {bAq:TypeId×Value->H} (n:Nat) (cs:List Value) (x:DataW H×List MemPlace) (hl:cs.length=3)
  (h:DataW.trod bAq Tryz.prog W 0 (fun _=>true) true n 33 cs=some x) (hb:Rows.uptoBulk x.1<=1048576) :
  ∃ (s:Sch) (ca:Option Addr) (cl cc:Nat) (xa:Option Addr) (xl xc:Nat),cs=[.string s.nm,.slice ca cl cc,.slice xa xl xc]/\SC W ca cl cc xa xl xc s/\SchP s:=by
 have c1:Tryz.prog.cellsOf 9=1:=by kernel_rfl
 have c2:Tryz.prog.cellsOf 30=1:=by kernel_rfl
 have c3:Tryz.prog.cellsOf 31=1:=by kernel_rfl
 obtain ⟨u0,u1,u2,rfl⟩:=bSd hl;obtain ⟨xs,k,_,hxy,_,hxl,hff⟩:=DataW.trod_struct bIf h;obtain ⟨f0,g0,t0,o0⟩:=aAv aEr (i:=0) rfl;obtain ⟨f1,g1,t1,o1⟩:=aAv aEr (i:=1) rfl;obtain ⟨f2,g2,t2,o2⟩:=aAv aEr (i:=2) rfl;have hsz:xs.length=3:=by
  rw [hxl];have:=congrArg List.length aEr;simpa using this
 obtain ⟨y0,y1,y2,rfl⟩:=bSd hsz;have s0:=hff 0 f0 g0;have s1:=hff 1 f1 g1;have s2:=hff 2 f2 g2;rw [t0,o0,c1] at s0;rw [t1,o1,c2] at s1;rw [t2,o2,c3] at s2;simp at s0 s1 s2;have hd:x.1=.agg [y0.1,y1.1,y2.1]:=by rw [hxy];simp
 rw [hd] at hb;obtain ⟨z0,hz0,e0,_⟩:=DataW.trod_string Tryz.underlying9 s0;simp only [List.cons.injEq,and_true] at hz0;subst hz0;have b0:=aEj (j:=0) rfl hb;rw [e0] at b0;obtain ⟨ca,cl,cc,ds,rfl,hc,pc⟩:=aFx (f:=fC) (by omega) aEz Tryz.underlying30 (by kernel_rfl) bVm (fun n cs x hl h hb=>bNg n cs x hl h hb) (aEj (j:=1) rfl hb) s1;obtain ⟨xa,xl,xc,es,rfl,hx,px⟩:=aFx (f:=fX) (by omega) aF9 Tryz.underlying31 (by kernel_rfl) bVj (fun n cs x hl h hb=>bQz n cs x hl h hb) (aEj (j:=2) rfl hb) s2;exact ⟨⟨z0,ds,es⟩,ca,cl,cc,xa,xl,xc,rfl,⟨hc,hx⟩,bE5 b0,pc,px⟩
theorem bJv {bAq:TypeId×Value->H} (n:Nat) (cs:List Value) (x:DataW H×List MemPlace) (hl:cs.length=17)
  (h:DataW.trod bAq Tryz.prog W 0 (fun _=>true) true n 38 cs=some x) (hb:Rows.uptoBulk x.1<=1048576):∃ y,cs=fO y/\OpP W y:=by
 have ci:Tryz.prog.cellsOf 3=1:=by kernel_rfl
 have ct:Tryz.prog.cellsOf 9=1:=by kernel_rfl
 have cv:Tryz.prog.cellsOf 36=3:=by kernel_rfl
 have cr:Tryz.prog.cellsOf 34=1:=by kernel_rfl
 have ch:Tryz.prog.cellsOf 33=3:=by kernel_rfl
 obtain ⟨u0,u1,u2,u3,u4,u5,u6,u7,u8,u9,u10,u11,u12,u13,u14,u15,u16,rfl⟩:=bU2 hl;obtain ⟨xs,k,_,hxy,_,hxl,hff⟩:=DataW.trod_struct bEz h;obtain ⟨f0,g0,t0,o0⟩:=aAv aBk (i:=0) rfl;obtain ⟨f1,g1,t1,o1⟩:=aAv aBk (i:=1) rfl;obtain ⟨f2,g2,t2,o2⟩:=aAv aBk (i:=2) rfl;obtain ⟨f3,g3,t3,o3⟩:=aAv aBk (i:=3) rfl;obtain ⟨f4,g4,t4,o4⟩:=aAv aBk (i:=4) rfl;obtain ⟨f5,g5,t5,o5⟩:=aAv aBk (i:=5) rfl;obtain ⟨f6,g6,t6,o6⟩:=aAv aBk (i:=6) rfl;obtain ⟨f7,g7,t7,o7⟩:=aAv aBk (i:=7) rfl;obtain ⟨f8,g8,t8,o8⟩:=aAv aBk (i:=8) rfl;have hsz:xs.length=9:=by
  rw [hxl];have:=congrArg List.length aBk;simpa using this
 obtain ⟨y0,y1,y2,y3,y4,y5,y6,y7,y8,rfl⟩:=bV2 hsz;have s0:=hff 0 f0 g0;have s1:=hff 1 f1 g1;have s2:=hff 2 f2 g2;have s3:=hff 3 f3 g3;have s4:=hff 4 f4 g4;have s5:=hff 5 f5 g5;have s6:=hff 6 f6 g6;have s7:=hff 7 f7 g7;have s8:=hff 8 f8 g8;rw [t0,o0,ci] at s0;rw [t1,o1,ct] at s1;rw [t2,o2,ch] at s2;rw [t3,o3,cr] at s3;rw [t4,o4,cv] at s4;rw [t5,o5,ci] at s5;rw [t6,o6,cv] at s6;rw [t7,o7,cv] at s7;rw [t8,o8,ci] at s8;simp at s0 s1 s2 s3 s4 s5 s6 s7 s8;have hd:x.1=.agg [y0.1,y1.1,y2.1,y3.1,y4.1,y5.1,y6.1,y7.1,y8.1]:=by rw [hxy];simp
 rw [hd] at hb;obtain ⟨z0,hz0,_,w0⟩:=DataW.trod_int Tryz.underlying3 s0;obtain ⟨z1,hz1,e1,_⟩:=DataW.trod_string Tryz.underlying9 s1;obtain ⟨z5,hz5,_,w5⟩:=DataW.trod_int Tryz.underlying3 s5;obtain ⟨z8,hz8,_,w8⟩:=DataW.trod_int Tryz.underlying3 s8;simp only [List.cons.injEq,and_true] at hz0 hz1 hz5 hz8;subst hz0 hz1 hz5 hz8;have b1:=aEj (j:=1) rfl hb;rw [e1] at b1;obtain ⟨s,ca,cl,cc,xa,xl,xc,e2,hsc,hsp⟩:=bJu _ _ _ rfl s2 (aEj (j:=2) rfl hb);obtain ⟨ra,rl,rc,row,e3,hr,pr⟩:=aFx (f:=fV) (by omega) aG5 Tryz.underlying34 (by kernel_rfl) bSg (fun n cs x hl h hb=>aHl n cs x hl h hb) (aEj (j:=3) rfl hb) s3;obtain ⟨key,e4,pk⟩:=aHl _ _ _ rfl s4 (aEj (j:=4) rfl hb);obtain ⟨lo,e6,pl⟩:=aHl _ _ _ rfl s6 (aEj (j:=6) rfl hb);obtain ⟨hi,e7,ph⟩:=aHl _ _ _ rfl s7 (aEj (j:=7) rfl hb);unfold fV at e4 e6 e7;simp only [List.cons.injEq,and_true] at e2 e4 e6 e7;obtain ⟨rfl,rfl,rfl⟩:=e2;subst e3;obtain ⟨rfl,rfl,rfl⟩:=e4;obtain ⟨rfl,rfl,rfl⟩:=e6;obtain ⟨rfl,rfl,rfl⟩:=e7;exact ⟨⟨z0,z1,s,ca,cl,cc,xa,xl,xc,ra,rl,rc,row,key,z5,lo,hi,z8⟩,rfl,⟨aEc w0,bE5 b1,hsc,hsp,hr,pr,pk,aEc w5,pl,ph,aEc w8⟩⟩
theorem bNe {bAq:TypeId×Value->H} {l c:Nat} {d:DataW H} {p:List MemPlace} {ds:List (DataW H)} (hk:Rows.uptoSmall H ds=true) (hd:ds[j]?=some d)
  (h:DataW.Trod bAq Tryz.prog W 0 (fun _=>true) true 22 (.slice a l c) d p):∃ ys,SVK fO 17 W a l c ys/\∀ y∈ys,OpP W y:=by
 obtain ⟨fuel,hf⟩:=h;obtain ⟨a',l',c',ys,e,hs,hp⟩:=aFx (f:=fO) (by omega) bTr Tryz.underlying22 (by kernel_rfl) (OpP W) (fun n cs x hl h hb=>bJv n cs x hl h hb) (x0:=(d,p)) (bLw hk hd) (by simpa [Value.cells] using hf);simp only [kBl] at e;obtain ⟨rfl,rfl,rfl⟩:=e;exact ⟨ys,hs,hp⟩
end Go.Proofs.YtdpdjpkmndnaaaaGreat
set_option linter.unusedVariables false
namespace Go.Proofs.YtdpdjpkmndnaaaaGreat
open Go.RowKit
variable {B b c cap cc cl col k m n num o pc te vc vn xc xl:Nat} {Q:Exit->Act->World->Prop} {a ca pa va xa:Option Addr} {dv pv v:Value} {nm:ByteArray} {s:Sch} {w:World} {x:Val} {xs ys:List Nat}
theorem bK1 (n s:Nat):∀ c∈hiB n s,c<256:=by
 intro c hc;simp only [hiB,List.mem_map] at hc;obtain ⟨i,_,rfl⟩:=hc;omega
theorem aB4 (x:Val):∀ c∈x.bytes,c<256:=by
 unfold Val.bytes
 cases bAa x.1 x.2.1 x.2.2 with
 | nothing=>simp [H.bytes]
 | number n =>
  intro c hc;simp only [H.bytes,kAv] at hc;rcases hc with rfl | hc
  ·omega
  ·exact bK1 _ _ c hc
 | text s =>
  intro c hc;simp only [H.bytes,kAv,kAz,bAe,List.mem_flatMap] at hc;rcases hc with rfl | ⟨r,_,hc⟩ | hc
  ·omega
  ·exact bK1 _ _ c hc
  ·exact bK1 _ _ c hc
 | truth b=>intro c hc;cases b<;>simp [H.bytes,bi] at hc<;>omega
 | none=>simp [H.bytes]
theorem bKl (a:List Val):∀ c∈keyBytes a,c<256:=by
 intro c hc;simp only [keyBytes,List.mem_flatMap] at hc;obtain ⟨x,_,hx⟩:=hc;exact aB4 x c hx
theorem bIz (l:List Val):∀ c∈bAm l,c<256:=by
 intro c hc;unfold bAm at hc;rcases kAz.1 hc with h | h
 ·exact aEf _ c h
 ·exact bKl l c h
theorem aFp {l:List Val} (h:bBj l=0):l.length<=3/\bAd l=0:=by
 unfold bBj at h
 split at h
 ·omega
 ·split at h
  ·omega
  ·rename_i h1 h2
   exact ⟨by omega,by simpa using h2⟩
def hT (x:Val):TypeId:=if x.1=0 then 181 else 182
theorem aGp (x:Val) (w:World) (hok:x.ok) (he:x.err=0) (hs:x.2.2.size<=1048576) :
  Calls Tryz.prog 50 #[.agg #[.int .i64 x.1,.int .i64 x.2.1,.string x.2.2]] w fun e w'=>∃ v,e=.returned (.iface (hT x) v)/\OB w.heap.size w' v x.bytes/\Below w.heap.size w w':=by
 obtain ⟨w1,hw1⟩:∃ w1,w1=(w.alloc (.cells #[.int .i64 x.1,.int .i64 x.2.1,.string x.2.2] 36)).alloc (.cells #[.int .i64 x.1,.int .i64 x.2.1,.string x.2.2] 36):=⟨_,rfl⟩;obtain ⟨L,hL⟩:∃ L,w.heap.size=L:=⟨_,rfl⟩;obtain ⟨M,hM⟩:∃ M,L+1=M:=⟨_,rfl⟩;have HR1:Hid (w1.heap[L]?=some (.cells #[.int .i64 x.1,.int .i64 x.2.1,.string x.2.2] 36 (0,0))):=by show _=_;rw [hw1,<-hL];exact heap_alloc2_old w _ _
 have HA1:w1.heap[M]?=some (.cells #[.int .i64 x.1,.int .i64 x.2.1,.string x.2.2] 36 (0,0)):=by rw [hw1,<-hM,<-hL];exact heap_alloc2_new w _ _
 have hb1:Below w.heap.size w w1:=by rw [hw1];exact (aAg w _).trans ((aAg _ _).mono (aAg w _).size)
 have HB1:Hid (Below L w w1):=by show Below L w w1;rw [<-hL];exact hb1
 have HLB:Hid (L<=w1.heap.size):=by show L<=_;rw [<-hL];exact hb1.size
 have hkl:(keyBytes [x]).length<=3145732:=by
  have:=bU3 (l:=[x]) (fun y hy=>by rw [kA5] at hy;rw [hy];exact hs);simpa using this
 have HKY:Hid (Calls Tryz.prog 89 #[.slice (some ⟨M,0,none⟩) 1 1] w1 fun e w'=>(∃ v,e=.returned (.tuple #[v,.int .i64 0])/\OB w1.heap.size w' v x.bytes)/\Below w1.heap.size w1 w'):=by
  have hsv:SVK fV 3 w1 (some ⟨M,0,none⟩) 1 1 [x]:=SVK.whole aG5 rfl (by omega) HA1;refine (bKj _ 1 1 [x] w1 (hsv.vs (by omega) (fun y hy=>by rw [kA5] at hy;rw [hy];exact hok)) (by omega)).mono ?_;rintro e w' ⟨hk,hb⟩;unfold bT4 at hk;have he2:bAd [x]=0:=by
   show (if x.err=0 then bAd [] else x.err)=0;rw [kAg he];rfl
  rw [kAg he2] at hk;obtain ⟨v,e1,ho⟩:=hk;have e2:keyBytes [x]=x.bytes:=by simp [keyBytes]
  rw [e2] at ho;exact ⟨⟨v,e1,ho⟩,hb⟩
 have HW1:=aAc hw1;rw [hL];clear hb1 hw1 hok he hs HA1 hkl;go_enter Tryz.func50,Tryz.ntmps50;go_upto_region 1 with fail;go_wp2_with fail
 try rw [<-HW1.o]
 refine HKY.o.mono ?_;rintro e w2 ⟨⟨v,rfl,ho⟩,hb⟩;have HO:Hid (OB L w2 v x.bytes):=aFv ho HLB.o;have HB2:Hid (Below L w w2):=HB1.o.trans (hb.mono HLB.o);have HR2:=aAc ((hb.block L (aAe HR1.o)).trans HR1.o);have y0:w2.cell? ⟨L,0,none⟩=some (.int .i64 x.1):=aAa HR2.o;clear ho hb HKY;by_cases h0:x.1=0
 ·have d0:(x.1 == 0)=true:=by simp [h0]
  have HT:Hid (hT x=181):=kAg h0;clear h0;go_wp2;go_ret;exact ⟨v,by rw [HT.o];rfl,HO.o,HB2.o⟩
 ·have d0:(x.1 == 0)=false:=by simp [h0]
  have HT:Hid (hT x=182):=kAb h0;clear h0;go_wp2;go_ret;exact ⟨v,by rw [HT.o];rfl,HO.o,HB2.o⟩
theorem bDo (h:n<256):(UInt8.ofNat n).toNat=n:=by
 rw [UInt8.toNat_ofNat'];omega
theorem bFj (h:∀ n∈xs,n<256):(xs.map UInt8.ofNat).map UInt8.toNat=xs:=by
 rw [List.map_map]
 conv=>rhs;rw [<-List.map_id xs]
 exact List.map_congr_left fun n hn=>bDo (h n hn)
theorem bBz (h:BS w a n c xs):Lib.HoldsBytes w (.slice a n c) (xs.map UInt8.ofNat):=by
 refine ⟨a,c,by rw [kAp,h.hlen],fun q=>?_,fun b hb i x hx=>?_⟩
 ·have h1:=h.hnil q;have h2:=h.hcap;have h3:=h.hlen;rw [kAf (show xs.length=0 by omega)];rfl
 ·rw [kAq] at hx;obtain ⟨y,hy,rfl⟩:=Option.map_eq_some_iff.1 hx;have hi:i<n:=by rw [<-h.hlen];exact (lL hy)
  rw [h.hcell b hb i hi,kAa,hy];show some (Value.int .u8 ((y:Nat):Int))=_;rw [bDo (h.hbyte y (mG hy))]
theorem bF7 {l:List UInt8} (h:Lib.FreshBytes B w v l):∃ a c,v=.slice a l.length c/\SVK fB 1 w a l.length c (l.map UInt8.toNat):=by
 obtain ⟨g,cap,zs,rfl,hB,hl,hm,hz,hr,hb,hcell,_⟩:=h;refine ⟨_,cap,rfl,by rw [kAp],hl,by unfold maxLen at hm;omega,(fun q=>by cases q),fun h0=>⟨g,0,rfl,?_,fun i x hx t ht=>?_⟩⟩
 ·have:=aAn (hcell 0 (by omega));simpa using this
 ·have e:t=0:=by omega
  subst e;rw [kAq] at hx;obtain ⟨y,hy,rfl⟩:=Option.map_eq_some_iff.1 hx;have hi:i<l.length:=(lL hy);rw [show 0+i*1+0=i by omega,hcell i (by omega)];have hz2:i<zs.length:=by omega
  have hx2:=hr zs[i] (List.getElem_mem hz2);have e2:zs.getD i 0=zs[i]:=by rw [kAa,gE hz2];rfl
  rw [<-hb] at hy;unfold Lib.bytesOf at hy;rw [kAq,kBd hi,gE hz2,Option.map_some,oI] at hy;rw [<-hy,e2];show some (Value.int .u8 zs[i])=some (Value.int .u8 (((UInt8.ofNat zs[i].toNat).toNat:Nat):Int));rw [bDo (by omega),Int.toNat_of_nonneg hx2.1]
theorem join_one (sv:Value) (h0:w.cell? ⟨b,o,none⟩=some (.slice a n k)) (h:BS w a n k xs) (hp:0<n):Calls Tryz.prog 129 #[.slice (some ⟨b,o,none⟩) 1 c,sv] w fun e w'=>∃ a' c',e=.returned (.slice a' n c')/\SVK fB 1 w' a' n c' xs/\Below w.heap.size w w':=by
 obtain ⟨b1,o1,e1,_,_⟩:=h.place hp;obtain ⟨p,cp,e2,_,h2⟩:=bBz h;have hl:(xs.map UInt8.ofNat).length=n:=by rw [kAp,h.hlen]
 rw [e1] at h0;refine (Tryz.bytes_Join_one b o c ⟨b1,o1,none⟩ k (xs.map UInt8.ofNat) sv w (by rw [hl];exact h0) (fun i x hx=>?_) (by rw [hl];exact hp) (by rw [hl];exact h.hroom)).mono ?_
 ·simp only [kBl] at e2;exact h2 _ (by rw [<-e2.1,e1]) i x hx
 ·rintro e w' ⟨v,he,hf,hb⟩;obtain ⟨a',c',ev,hs⟩:=bF7 hf;rw [hl,bFj h.hbyte] at hs;rw [hl] at ev;exact ⟨a',c',by rw [he,ev],hs,hb⟩
theorem aDn {a1 a2:Option Addr} {n1 k1 n2 k2:Nat} (h0:w.cell? ⟨b,o,none⟩=some (.slice a1 n1 k1)) (h1:w.cell? ⟨b,o+1,none⟩=some (.slice a2 n2 k2)) (hx:BS w a1 n1 k1 xs) (hy:BS w a2 n2 k2 ys) (hc:2<=c) (hl1:n1<=10000000) (hl2:n2<=10000000):Calls Tryz.prog 129 #[.slice (some ⟨b,o,none⟩) 2 c,.slice none 0 0] w fun e w'=>∃ a' c',e=.returned (.slice a' (n1+n2) c')/\SVK fB 1 w' a' (n1+n2) c' (xs++ys)/\Below w.heap.size w w':=by
 have e1:(xs.map UInt8.ofNat).length=n1:=by rw [kAp,hx.hlen]
 have e2:(ys.map UInt8.ofNat).length=n2:=by rw [kAp,hy.hlen]
 have ej:Lib.join [xs.map UInt8.ofNat,ys.map UInt8.ofNat] []=(xs++ys).map UInt8.ofNat:=by simp [Lib.join]
 refine (Tryz.bytes_Join_many b o 2 c [.slice a1 n1 k1,.slice a2 n2 k2] [xs.map UInt8.ofNat,ys.map UInt8.ofNat] (.slice none 0 0) [] w rfl (by omega) ⟨rfl,fun i v hv=>?_,fun i v l hv hl=>?_⟩ hc ⟨none,0,rfl,fun _=>rfl,fun _ q=>by cases q⟩ (by omega) (by simp [Lib.lens];have:=hx.hlen;have:=hy.hlen;omega)).mono ?_
 ·match i with
  | 0=>simp at hv;subst hv;exact h0
  | 1=>simp at hv;subst hv;exact h1
  | i+2=>simp at hv
 ·match i with
  | 0=>simp at hv hl;subst hv hl;exact bBz hx
  | 1=>simp at hv hl;subst hv hl;exact bBz hy
  | i+2=>simp at hv
 ·rintro e w' ⟨v,he,hf,hb⟩;rw [ej] at hf;obtain ⟨a',c',ev,hs⟩:=bF7 hf;have e3:((xs++ys).map UInt8.ofNat).length=n1+n2:=by rw [kAp,lA,hx.hlen,hy.hlen]
  rw [e3,bFj (fun n hn=>by rcases kAz.1 hn with q | q;exact hx.hbyte n q;exact hy.hbyte n q)] at hs;rw [e3] at ev;exact ⟨a',c',by rw [he,ev],hs,hb⟩
theorem aBp {o:Oper} {a:Act} {K:Act->World->Prop} (s x:Operand) (t:TypeId)
  (ho:o.op=.call { callee:=.builtin .append,args:=#[s,x],argTypes:=#[t,t] })
  (base:Nat) (e:TypeId) (i:TypeInfo) (z:Value) (size bytes:Nat) (ht:Tryz.prog.underlying t=some (.slice e)) (hi:Tryz.prog.info? e=some i) (hz:i.zero=some z)
  (hsize:i.size=size) (hby:i.bytes=bytes) (hzs:z.cells.size=size) (hsz:0<size)
  (v:Value) (n:Nat) (xs:List Value) (hs:a.eval s=v) (hown:w.ownsRow base e size v n xs)
  (ad:Addr) (m c:Nat) (news:List Value) (hx:a.eval x=.slice (some ad) m c) (hl:news.length=m*size) (hnews:∀ j u,news[j]?=some u->w.cell? (ad.add j)=some u) (h1:∀ u∈news,u.oneCell'=true)
  (h63:n+m<=maxLen) (hbytes:(n+m)*bytes<=140737488355328) (hbase:base<=w.heap.size)
  (h:∀ v' w',w'.ownsRow base e size v' (n+m) (xs++news)->w.grownBy w' v.ownBlock->(v'.ownBlock=v.ownBlock\/v'.ownBlock=some w.heap.size)->K (a.put o.dst v') w'):o.wp Tryz.prog a w K Q:=by
 obtain ⟨v',w',hr,h2,h3,h4,h5⟩:=run_append_own_at (P:=Tryz.prog) w base t o.type e i z size bytes ht hi hz hsize hby hzs hsz v n xs hown ad m c news hl hnews h1 h63 hbytes hbase;unfold Oper.wp execOp;simp only [ho,resolve,invoke,builtin,Sem.run_bind,Sem.run_pure,Result.andThen_ok,List.map_toArray,List.map_cons,List.map_nil,hs,hx,hr];exact h v' w' h2 h3 h5
def UB (w:World) (a:Option Addr):Prop:=∀ x,a=some x->∃ cs fz,w.heap[x.block]?=some (.cells cs 5 fz)
theorem OB.ub (h:OB B w (.slice a n c) xs):UB w a:=by
 intro x hx;rcases h.2 with ⟨e,_⟩ | ⟨g,cap,cur,e,h5,h6,_⟩
 ·simp only [kBl] at e;rw [e.1] at hx;cases hx
 ·simp only [kBl] at e;rw [e.1] at hx;simp only [oI] at hx;subst hx;exact ⟨_,_,h6⟩
theorem bFe {y:World} {u:Value} (hB:B<=y.heap.size):(y.alloc (.cells #[u,v] 5)).ownsRow B 5 1 (.slice (some ⟨y.heap.size,0,none⟩) 2 2) 2 [u,v] :=
 ⟨rfl,Or.inr ⟨y.heap.size,2,#[u,v],rfl,hB,boxed y _,by omega,by unfold maxLen;omega,rfl,rfl⟩⟩
theorem bMv (h:SVK fB 1 w a m c ys) (hp:0<m):∃ b o,a=some ⟨b,o,none⟩/\∀ (j:Nat) u,(cellsOf ys)[j]?=some u->w.cell? ((⟨b,o,none⟩:Addr).add j)=some u:=by
 obtain ⟨b,o,e,_,hc⟩:=h.pl hp;refine ⟨b,o,e,fun j u hj=>?_⟩;unfold cellsOf at hj;rw [kAq] at hj;obtain ⟨y,hy,rfl⟩:=Option.map_eq_some_iff.1 hj;have:=hc j y hy 0 (by omega);rw [add_plain];rw [Nat.mul_one,Nat.add_zero] at this;exact this
theorem bB7 (h:SVK fB 1 w a m c ys) (hp:∃ x,a=some x):∃ ad,a=some ad/\∀ (j:Nat) u,(cellsOf ys)[j]?=some u->w.cell? (ad.add j)=some u:=by
 by_cases h0:0<m
 ·obtain ⟨b,o,e,hc⟩:=bMv h h0;exact ⟨_,e,hc⟩
 ·obtain ⟨x,hx⟩:=hp;have e:ys=[]:=kAf (by have:=h.hl;omega);exact ⟨x,hx,fun j u hj=>by rw [e] at hj;simp [cellsOf] at hj⟩
theorem bPh (hm:ys.length=m) (h:w.ownsRow B 5 1 v (2+m) ([.int .u8 (num:Int),.int .u8 (col:Int)]++cellsOf ys)):OB B w v (num::col::ys):=by
 unfold OB;have e:(num::col::ys).length=2+m:=by rw [<-hm];simp;omega
 rw [e];exact h
theorem bO1 (h:BS w a n c xs) (hk:k<=n):BS w a k c (xs.take k):=by
 refine ⟨by rw [kAt,h.hlen];omega,by have:=h.hcap;omega,by have:=h.hroom;omega,h.hmax,fun x hx=>h.hbyte x (kA2 hx),h.hnil,fun x hx i hi=>?_⟩;rw [h.hcell x hx i (by omega),kAa,kAa,kBd hi]
theorem bLy (hy:ys.length=m) (hk:k<=m+2/\k<=60/\(k=60\/k=m+2)) (h:BS w a (num::col::ys).length c (num::col::ys)):BS w a k c ((num::col::ys).take 60):=by
 have h2:=bO1 h (k:=k) (by simp;omega);have e:(num::col::ys).take 60=(num::col::ys).take k:=by
  rcases hk.2.2 with q | q
  ·rw [q]
  ·rw [kAh (by simp;omega),kAh (by simp;omega)]
 rw [e];exact h2
theorem bPw {pn:Nat} (hn:num<256) (hc:col<256) (hy:ys.length=m) (hm:m<=10000000) (hb:∀ n∈ys,n<256)
  (HJ0:∀ ww,Below w.heap.size w ww->Calls Tryz.prog 129 #[.slice pa pn pc,.slice none 0 0] ww fun e w'=>∃ a' c',e=.returned (.slice a' m c')/\SVK fB 1 w' a' m c' ys/\(∃ x,a'=some x)/\Below ww.heap.size ww w') :
  Calls Tryz.prog 83 #[.agg #[dv,.int .u8 (num:Int),.string nm,.slice ca cl cc,.slice xa xl xc],.int .i64 (col:Int),.slice pa pn pc] w fun e w'=>∃ a' c',e=.returned (.slice a' (min (m+2) 60) c')/\BS w' a' (min (m+2) 60) c' ((num::col::ys).take 60)/\UB w' a'/\Below w.heap.size w w':=by
 obtain ⟨L,hL⟩:∃ L,w.heap.size=L:=⟨_,rfl⟩;obtain ⟨w0,hw0⟩:∃ w0,w0=w.alloc (.cells #[dv,.int .u8 (num:Int),.string nm,.slice ca cl cc,.slice xa xl xc] 101):=⟨_,rfl⟩;have hb0:Below w.heap.size w w0:=by rw [hw0];exact aAg w _
 have HRw1:Hid (w0.drew.heap[L]?=some (.cells #[dv,.int .u8 (num:Int),.string nm,.slice ca cl cc,.slice xa xl xc] 101 (0,0))):=by show w0.heap[L]?=_;rw [hw0,<-hL];exact boxed w _
 have HBw1:Hid (Below L w w0.drew):=by show Below L w _;rw [<-hL];exact hb0.drew
 have HLw1:Hid (L<=w0.drew.heap.size):=by show L<=_;have:=aAe HRw1.o;omega
 have HJ:Hid (∀ ww,Below L w ww->Calls Tryz.prog 129 #[.slice pa pn pc,.slice none 0 0] ww fun e w'=>∃ a' c',e=.returned (.slice a' m c')/\SVK fB 1 w' a' m c' ys/\(∃ x,a'=some x)/\Below ww.heap.size ww w'):=by rw [hL] at HJ0;exact HJ0
 have HY:=aAc hy;have HM:=aAc hm;have HNB:Hid (∀ n∈num::col::ys,n<256):=fun n h9=>by
  rcases kAv.1 h9 with q | q
  ·omega
  ·rcases kAv.1 q with q | q
   ·omega
   ·exact hb n q
 have HW0:=aAc hw0;have x1:(col:Int) % 256=(col:Int):=by omega
 have x2:IntKind.u8.wrap (col:Int)=(col:Int):=by show (col:Int) % 256=_;omega
 obtain ⟨k,hk⟩:∃ k,min (m+2) 60=k:=⟨_,rfl⟩;have HK2:Hid (k<=m+2/\k<=60/\(k=60\/k=m+2)):=⟨by omega,by omega,by omega⟩;rw [hL,hk];clear hk HJ0 hw0 hb0 hy hm hb;go_enter Tryz.func83,Tryz.ntmps83;go_upto_region 1 with fail;rw [<-HW0.o];clear HW0
 try simp only [hL]
 have HX0:Hid ((fun wx=>wx.cell? ⟨L,1,none⟩=some (.int .u8 (num:Int))) w0.drew):=aAa HRw1.o;refine wp_region_noPanic ?_;refine wp_region_held_drew (S:=fun wx=>wx.cell? ⟨L,1,none⟩=some (.int .u8 (num:Int))) (by kernel_rfl) HX0.o (fun hHeld=>?_);generalize w0.drew=w1 at *;refine aAb 0 8 ?_;refine aAb 1 9 ?_;refine aAb 2 10 ?_;refine aAb 3 11 ?_;refine aAb 5 13 ?_;refine aAo (i:=4) (j:=6) (by kernel_rfl) (by kernel_rfl) (by kernel_rfl) ?ba ?bb
 case ba =>
  intro o ho K hK;simp only [tG,sG,zG,oI] at ho;subst ho;go_simp;have hbx:=aAg w1 (.cells #[.int .u8 (num:Int),.int .u8 (col:Int)] 5);have HRw2:=aAc ((hbx.block L (aAe HRw1.o)).trans HRw1.o);have HBw2:Hid (Below L w (w1.alloc (.cells #[.int .u8 (num:Int),.int .u8 (col:Int)] 5))):=HBw1.o.trans (hbx.mono HLw1.o);have HLw2:Hid (L<=(w1.alloc (.cells #[.int .u8 (num:Int),.int .u8 (col:Int)] 5)).heap.size):=nT HLw1.o hbx.size;have HOw2:Hid ((w1.alloc (.cells #[.int .u8 (num:Int),.int .u8 (col:Int)] 5)).ownsRow L 5 1 (.slice (some ⟨w1.heap.size,0,none⟩) 2 2) 2 [.int .u8 (num:Int),.int .u8 (col:Int)]):=bFe HLw1.o;clear hbx hHeld;refine hK.out _ _ (aAa HRw2.o) (fun hHeld=>?_);have HGL:Hid (L<w1.heap.size):=aAe HRw1.o;generalize w1.alloc (.cells #[.int .u8 (num:Int),.int .u8 (col:Int)] 5)=w2 at *
  generalize w1.heap.size=g at *;clear hK K
  try simp only [Act.put,siT,scZ,scS]
  refine aAf 6 ?_;intro K hK;go_simp;refine (HJ.o w2 (HBw2.o)).mono ?_;rintro e w3 ⟨aj,cj,rfl,hsv,haj,hb⟩;have HAJ:=aAc haj;clear haj;have HSw3:=aAc hsv;have HRw3:=aAc ((hb.block L (aAe HRw2.o)).trans HRw2.o);have HBw3:Hid (Below L w w3):=HBw2.o.trans (hb.mono HLw2.o);have HLw3:Hid (L<=w3.heap.size):=nT HLw2.o hb.size;have HOw3:=aAc (aAq HOw2.o hb);clear hb hsv hHeld;refine hK.out _ _ (aAa HRw3.o) (fun hHeld=>?_);clear hK K
  try simp only [Act.put,siT,scZ,scS]
  refine aAf 7 ?_;intro K hK;rw [kAg (by rfl)];obtain ⟨ad,ej,hsj⟩:∃ ad,aj=some ad/\∀ (j:Nat) u,(cellsOf ys)[j]?=some u->w3.cell? (ad.add j)=some u:=bB7 HSw3.o HAJ.o;subst ej;obtain ⟨i0,hi,hz0,hz1',hz2⟩:=info_parts aF6;refine aBp (.tmp 12) (.tmp 14) 97 rfl L 5 i0 (.int .u8 0) 1 1 Tryz.underlying97 hi hz0 hz1' hz2 rfl (by omega) (.slice (some ⟨g,0,none⟩) 2 2) 2 [.int .u8 (num:Int),.int .u8 (col:Int)] rfl HOw3.o ad m cj (cellsOf ys) rfl (by rw [aAl,HY.o];omega) hsj (by intro u hu;unfold cellsOf at hu;obtain ⟨y,_,rfl⟩:=List.mem_map.1 hu;rfl) (by unfold maxLen;have:=HM.o;omega) (by have:=HM.o;omega) HLw3.o ?_;intro v9 w9 ho9 hg9 _;have HO9:Hid (OB L w9 v9 (num::col::ys)):=bPh HY.o ho9;have HB9:Hid (Below L w w9):=HBw3.o.trans ((kBh L _).grown hg9 HLw3.o (fun k hk=>(HOw3.o.lt k hk).1));have HR9:w9.cell? ⟨L,1,none⟩=some (.int .u8 (num:Int)):=aAa ((hg9.block L (aAe HRw3.o) (by have:=HGL.o;first | (show some g≠some L;simp;omega) | (show some L≠some g;simp;omega))).trans HRw3.o);obtain ⟨a9,c9,e9⟩:=OB.form HO9.o;have e10:(num::col::ys).length=m+2:=by simp;exact HY.o
  rw [e10] at e9;subst e9;clear ho9 hg9 hi hz0 hz1' hz2 hHeld hsj;refine hK.out _ _ HR9 (fun hHeld=>?_);clear HR9;clear hK K
  try simp only [Act.put,siT,scZ,scS]
  refine aAb 8 7 ?_;refine wpAnyH_done (by kernel_rfl) ?_ _;refine NoPanic.normal ?_;clear hHeld;have HBS:=aAc (OB.bs HO9.o HNB.o (by simp;have:=HY.o;have:=HM.o;omega));have hcm:=HBS.o.hcap;have hcx:=HBS.o.hmax;rw [show (num::col::ys).length=m+2 from by simp;exact HY.o] at hcm;obtain ⟨hk1,hk2,hk3⟩:=HK2.o;have em:min ((m:Int)+2) 60=(k:Int):=by omega
  have em':(if (60:Int)<(m:Int)+2 then (60:Int) else (m:Int)+2)=(k:Int):=by split<;>omega
  have u0:(0:Int)<=(k:Int):=by omega
  have v0:(k:Int)<=(c9:Int):=by omega
  have q0:(c9:Int)<=9223372036854775807:=by omega
  clear hk1 hk2 hk3 hcm hcx;go_wp2;go_ret;exact ⟨a9,c9,rfl,bLy HY.o HK2.o HBS.o,OB.ub HO9.o,HB9.o⟩
 case bb =>
  intro o ho K hK;simp only [tG,sG,zG,oI] at ho;subst ho;go_simp;refine (HJ.o w1 (HBw1.o)).mono ?_;rintro e w2 ⟨aj,cj,rfl,hsv,haj,hb⟩;have HAJ:=aAc haj;clear haj;have HSw2:=aAc hsv;have HRw2:=aAc ((hb.block L (aAe HRw1.o)).trans HRw1.o);have HBw2:Hid (Below L w w2):=HBw1.o.trans (hb.mono HLw1.o);have HLw2:Hid (L<=w2.heap.size):=nT HLw1.o hb.size;clear hb hsv hHeld;refine hK.out _ _ (aAa HRw2.o) (fun hHeld=>?_);clear hK K
  try simp only [Act.put,siT,scZ,scS]
  refine aAf 4 ?_;intro K hK;go_simp;have hbx:=aAg w2 (.cells #[.int .u8 (num:Int),.int .u8 (col:Int)] 5);have HRw3:=aAc ((hbx.block L (aAe HRw2.o)).trans HRw2.o);have HBw3:Hid (Below L w (w2.alloc (.cells #[.int .u8 (num:Int),.int .u8 (col:Int)] 5))):=HBw2.o.trans (hbx.mono HLw2.o);have HLw3:Hid (L<=(w2.alloc (.cells #[.int .u8 (num:Int),.int .u8 (col:Int)] 5)).heap.size):=nT HLw2.o hbx.size;have HOw3:Hid ((w2.alloc (.cells #[.int .u8 (num:Int),.int .u8 (col:Int)] 5)).ownsRow L 5 1 (.slice (some ⟨w2.heap.size,0,none⟩) 2 2) 2 [.int .u8 (num:Int),.int .u8 (col:Int)]):=bFe HLw2.o;have HSw3:=aAc (HSw2.o.later hbx);clear hbx hHeld;refine hK.out _ _ (aAa HRw3.o) (fun hHeld=>?_);have HGL:Hid (L<w2.heap.size):=aAe HRw2.o;generalize w2.alloc (.cells #[.int .u8 (num:Int),.int .u8 (col:Int)] 5)=w3 at *
  generalize w2.heap.size=g at *;clear hK K
  try simp only [Act.put,siT,scZ,scS]
  refine aAf 7 ?_;intro K hK;rw [kAg (by rfl)];obtain ⟨ad,ej,hsj⟩:∃ ad,aj=some ad/\∀ (j:Nat) u,(cellsOf ys)[j]?=some u->w3.cell? (ad.add j)=some u:=bB7 HSw3.o HAJ.o;subst ej;obtain ⟨i0,hi,hz0,hz1',hz2⟩:=info_parts aF6;refine aBp (.tmp 12) (.tmp 14) 97 rfl L 5 i0 (.int .u8 0) 1 1 Tryz.underlying97 hi hz0 hz1' hz2 rfl (by omega) (.slice (some ⟨g,0,none⟩) 2 2) 2 [.int .u8 (num:Int),.int .u8 (col:Int)] rfl HOw3.o ad m cj (cellsOf ys) rfl (by rw [aAl,HY.o];omega) hsj (by intro u hu;unfold cellsOf at hu;obtain ⟨y,_,rfl⟩:=List.mem_map.1 hu;rfl) (by unfold maxLen;have:=HM.o;omega) (by have:=HM.o;omega) HLw3.o ?_;intro v9 w9 ho9 hg9 _;have HO9:Hid (OB L w9 v9 (num::col::ys)):=bPh HY.o ho9;have HB9:Hid (Below L w w9):=HBw3.o.trans ((kBh L _).grown hg9 HLw3.o (fun k hk=>(HOw3.o.lt k hk).1));have HR9:w9.cell? ⟨L,1,none⟩=some (.int .u8 (num:Int)):=aAa ((hg9.block L (aAe HRw3.o) (by have:=HGL.o;first | (show some g≠some L;simp;omega) | (show some L≠some g;simp;omega))).trans HRw3.o);obtain ⟨a9,c9,e9⟩:=OB.form HO9.o;have e10:(num::col::ys).length=m+2:=by simp;exact HY.o
  rw [e10] at e9;subst e9;clear ho9 hg9 hi hz0 hz1' hz2 hHeld hsj;refine hK.out _ _ HR9 (fun hHeld=>?_);clear HR9;clear hK K
  try simp only [Act.put,siT,scZ,scS]
  refine aAb 8 7 ?_;refine wpAnyH_done (by kernel_rfl) ?_ _;refine NoPanic.normal ?_;clear hHeld;have HBS:=aAc (OB.bs HO9.o HNB.o (by simp;have:=HY.o;have:=HM.o;omega));have hcm:=HBS.o.hcap;have hcx:=HBS.o.hmax;rw [show (num::col::ys).length=m+2 from by simp;exact HY.o] at hcm;obtain ⟨hk1,hk2,hk3⟩:=HK2.o;have em:min ((m:Int)+2) 60=(k:Int):=by omega
  have em':(if (60:Int)<(m:Int)+2 then (60:Int) else (m:Int)+2)=(k:Int):=by split<;>omega
  have u0:(0:Int)<=(k:Int):=by omega
  have v0:(k:Int)<=(c9:Int):=by omega
  have q0:(c9:Int)<=9223372036854775807:=by omega
  clear hk1 hk2 hk3 hcm hcx;go_wp2;go_ret;exact ⟨a9,c9,rfl,bLy HY.o HK2.o HBS.o,OB.ub HO9.o,HB9.o⟩
theorem aEw {pn:Nat} (hn:num<256) (hc:col<256) (hy:ys.length=m) (hm:m<=10000000) (hp:0<m) (hb:∀ n∈ys,n<256)
  (HJ0:∀ ww,Below w.heap.size w ww->Calls Tryz.prog 129 #[.slice pa pn pc,.slice none 0 0] ww fun e w'=>∃ a' c',e=.returned (.slice a' m c')/\SVK fB 1 w' a' m c' ys/\Below ww.heap.size ww w') :
  Calls Tryz.prog 83 #[.agg #[dv,.int .u8 (num:Int),.string nm,.slice ca cl cc,.slice xa xl xc],.int .i64 (col:Int),.slice pa pn pc] w fun e w'=>∃ a' c',e=.returned (.slice a' (min (m+2) 60) c')/\BS w' a' (min (m+2) 60) c' ((num::col::ys).take 60)/\UB w' a'/\Below w.heap.size w w':=by
 refine bPw hn hc hy hm hb fun ww hb=>(HJ0 ww hb).mono ?_;rintro e w' ⟨a',c',he,hs,h2⟩;obtain ⟨b,o,e2,_⟩:=hs.pl hp;exact ⟨a',c',he,hs,⟨_,e2⟩,h2⟩
theorem bEt (hn:num<256) (hc:col<256) :
  Calls Tryz.prog 83 #[.agg #[dv,.int .u8 (num:Int),.string nm,.slice ca cl cc,.slice xa xl xc],.int .i64 (col:Int),.slice pa 0 pc] w fun e w'=>∃ a' c',e=.returned (.slice a' 2 c')/\BS w' a' 2 c' [num,col]/\UB w' a'/\Below w.heap.size w w':=by
 refine (bPw (m:=0) (ys:=[]) hn hc rfl (by omega) (fun n hn=>by cases hn) fun ww hb=>?_).mono ?_
 ·refine (Tryz.bytes_Join_none pa pc (.slice none 0 0) ww).mono ?_;rintro e w' ⟨he,hw⟩;subst hw;exact ⟨_,_,he,⟨rfl,by omega,by omega,(fun q=>by cases q),fun q=>by omega⟩,⟨_,rfl⟩,aAg ww _⟩
 ·rintro e w' ⟨a',c',he,h⟩;exact ⟨a',c',he,h⟩
theorem bUj (a:Option Addr) (n c:Nat) (ww:World):(method 490 181 (.slice a n c) "headland/table.bytes").run Tryz.prog ww=.ok (267,.slice a n c) ww:=by kernel_rfl
theorem bVe (v:Value) (ww:World):(callFunc 267 #[v]).run Tryz.prog ww=.ok (.enter 267 #[v]) ww:=by kernel_rfl
theorem bVg (v:Value) (w:World):Calls Tryz.prog 267 #[v] w fun e w'=>e=.returned v/\w'=w:=by
 go_enter Tryz.func267,Tryz.ntmps267;go_wp2;go_ret;exact ⟨rfl,rfl⟩
theorem bUi (a:Option Addr) (n c:Nat) (ww:World):(method 490 182 (.slice a n c) "headland/table.bytes").run Tryz.prog ww=.ok (268,.slice a n c) ww:=by kernel_rfl
theorem bVd (v:Value) (ww:World):(callFunc 268 #[v]).run Tryz.prog ww=.ok (.enter 268 #[v]) ww:=by kernel_rfl
theorem bVf (v:Value) (w:World):Calls Tryz.prog 268 #[v] w fun e w'=>e=.returned v/\w'=w:=by
 go_enter Tryz.func268,Tryz.ntmps268;go_wp2;go_ret;exact ⟨rfl,rfl⟩
theorem aKs (x:Val) (a:Option Addr) (n c:Nat):∃ K,(∀ ww,(method 490 (hT x) (.slice a n c) "headland/table.bytes").run Tryz.prog ww=.ok (K,.slice a n c) ww)/\(∀ ww,(callFunc K #[.slice a n c]).run Tryz.prog ww=.ok (.enter K #[.slice a n c]) ww)/\∀ w,Calls Tryz.prog K #[.slice a n c] w fun e w'=>e=.returned (.slice a n c)/\w'=w:=by
 unfold hT;split
 ·exact ⟨_,bUj a n c,bVe _,bVg _⟩
 ·exact ⟨_,bUi a n c,bVd _,bVf _⟩
theorem aEn (t:TypeId):(w.alloc (.cells #[.slice a n c] t)).cell? ⟨w.heap.size,0,none⟩=some (.slice a n c):=aAa (boxed w _)
theorem bCg (hn:num<256) (h:BS w a n c ys) (hp:0<n) (hm:n<=10000000) :
  Calls Tryz.prog 95 #[.agg #[dv,.int .u8 (num:Int),.string nm,.slice ca cl cc,.slice xa xl xc],.iface (hT x) (.slice a n c)] w fun e w'=>∃ a' c',e=.returned (.slice a' (min (n+2) 60) c')/\BS w' a' (min (n+2) 60) c' ((num::0::ys).take 60)/\UB w' a'/\Below w.heap.size w w':=by
 obtain ⟨L,hL⟩:∃ L,w.heap.size=L:=⟨_,rfl⟩;obtain ⟨w0,hw0⟩:∃ w0,w0=w.alloc (.cells #[dv,.int .u8 (num:Int),.string nm,.slice ca cl cc,.slice xa xl xc] 101):=⟨_,rfl⟩;have hb0:Below w.heap.size w w0:=by rw [hw0];exact aAg w _
 have HRw1:Hid (w0.drew.heap[L]?=some (.cells #[dv,.int .u8 (num:Int),.string nm,.slice ca cl cc,.slice xa xl xc] 101 (0,0))):=by show w0.heap[L]?=_;rw [hw0,<-hL];exact boxed w _
 have HBw1:Hid (Below L w w0.drew):=by show Below L w _;rw [<-hL];exact hb0.drew
 have HLw1:Hid (L<=w0.drew.heap.size):=by show L<=_;have:=aAe HRw1.o;omega
 have HY:Hid (BS w0.drew a n c ys):=h.later hb0.drew (nR _);obtain ⟨K0,hm0,hc0,hk0⟩:=aKs x a n c;have HK0:=aAc hk0;have HN:=aAc hn;have HP:=aAc hp;have HM:=aAc hm;have HW0:=aAc hw0;rw [hL];clear hw0 hb0 hk0 hn h hp hm;generalize hT x=tx at *;go_enter Tryz.func95,Tryz.ntmps95;go_upto_region 1 with fail;rw [<-HW0.o];clear HW0
 try simp only [hL]
 have HX0:Hid ((fun wx=>wx.cell? ⟨L,0,none⟩=some dv/\wx.cell? ⟨L,1,none⟩=some (.int .u8 (num:Int))/\wx.cell? ⟨L,2,none⟩=some (.string nm)/\wx.cell? ⟨L,3,none⟩=some (.slice ca cl cc)/\wx.cell? ⟨L,4,none⟩=some (.slice xa xl xc)) w0.drew):=⟨aAa HRw1.o,aAa HRw1.o,aAa HRw1.o,aAa HRw1.o,aAa HRw1.o⟩;refine wp_region_noPanic ?_;refine wp_region_held_drew (S:=fun wx=>wx.cell? ⟨L,0,none⟩=some dv/\wx.cell? ⟨L,1,none⟩=some (.int .u8 (num:Int))/\wx.cell? ⟨L,2,none⟩=some (.string nm)/\wx.cell? ⟨L,3,none⟩=some (.slice ca cl cc)/\wx.cell? ⟨L,4,none⟩=some (.slice xa xl xc)) (by kernel_rfl) HX0.o (fun hHeld=>?_);generalize w0.drew=w1 at *;refine aAb 0 5 ?_;refine aAb 1 6 ?_;refine aAf 2 ?_;intro K hK;go_simp;refine (HK0.o w1).mono ?_;rintro e w9 ⟨rfl,hw⟩;have hw:=hw.symm;subst hw;clear hHeld hw;refine hK.out _ _ ⟨aAa HRw1.o,aAa HRw1.o,aAa HRw1.o,aAa HRw1.o,aAa HRw1.o⟩ (fun hHeld=>?_);clear hK K
 try simp only [Act.put,siT,scZ,scS]
 refine aAf 3 ?_;intro K hK;go_simp;have hbx:=aAg w1 (.cells #[.slice a n c] 97);have HRw2:=aAc ((hbx.block L (aAe HRw1.o)).trans HRw1.o);have HBw2:Hid (Below L w (w1.alloc (.cells #[.slice a n c] 97))):=HBw1.o.trans (hbx.mono HLw1.o);have HLw2:Hid (L<=(w1.alloc (.cells #[.slice a n c] 97)).heap.size):=nT HLw1.o hbx.size;have HYw2:=aAc (HY.o.later hbx (nR _));have HPw2:Hid ((w1.alloc (.cells #[.slice a n c] 97)).cell? ⟨w1.heap.size,0,none⟩=some (.slice a n c)):=aEn _;clear hbx hHeld;refine hK.out _ _ ⟨aAa HRw2.o,aAa HRw2.o,aAa HRw2.o,aAa HRw2.o,aAa HRw2.o⟩ (fun hHeld=>?_);generalize w1.alloc (.cells #[.slice a n c] 97)=w2 at *;generalize w1.heap.size=g at *;clear hK K
 try simp only [Act.put,siT,scZ,scS]
 refine aAf 4 ?_;intro K hK;go_simp;refine (aEw (col:=0) HN.o (by omega) HYw2.o.hlen HM.o HP.o HYw2.o.hbyte (fun ww hb=>join_one _ ((hb.cell (aAn HPw2.o)).trans HPw2.o) (HYw2.o.later hb (nR _)) HP.o)).mono ?_;rintro e w3 ⟨a',c',rfl,hbs,hub,hb⟩;have HBS:=aAc hbs;have HUB:=aAc hub;have HB3:Hid (Below L w w3):=HBw2.o.trans (hb.mono HLw2.o);have HRw3:=aAc ((hb.block L (aAe HRw2.o)).trans HRw2.o);clear hbs hub hb hHeld;refine hK.out _ _ ⟨aAa HRw3.o,aAa HRw3.o,aAa HRw3.o,aAa HRw3.o,aAa HRw3.o⟩ (fun hHeld=>?_);clear hK K
 try simp only [Act.put,siT,scZ,scS]
 refine aAb 5 4 ?_;refine wpAnyH_done (by kernel_rfl) ?_ _;refine NoPanic.normal ?_;clear hHeld;go_wp2;go_ret;exact ⟨a',c',rfl,HBS.o,HUB.o,HB3.o⟩
abbrev HE:=TypeId×Option Addr×Nat×Nat
def fI (x:HE):List Value:=[.iface x.1 (.slice x.2.1 x.2.2.1 x.2.2.2)]
theorem bGb (x:HE):(fI x).length=1:=rfl
def HEv (w:World) (hs:List HE) (l:List Val):Prop:=hs.length=l.length/\∀ (i:Nat) x h,l[i]?=some x->hs[i]?=some h->h.1=hT x/\BS w h.2.1 h.2.2.1 h.2.2.2 x.bytes
def HVs (w:World) (a:Option Addr) (n c:Nat) (l:List Val):Prop:=∃ hs:List HE,SVK fI 1 w a n c hs/\HEv w hs l
section
variable {w w':World} {a:Option Addr} {n c:Nat} {l:List Val}
theorem HEv.later {hs:List HE} (h:HEv w hs l) (hb:Below w.heap.size w w'):HEv w' hs l:=⟨h.1,fun i x e h1 h2=>⟨(h.2 i x e h1 h2).1,(h.2 i x e h1 h2).2.later hb (nR _)⟩⟩
theorem HVs.later (h:HVs w a n c l) (hb:Below w.heap.size w w'):HVs w' a n c l:=by
 obtain ⟨hs,h1,h2⟩:=h;exact ⟨hs,h1.later hb,h2.later hb⟩
theorem HVs.len (h:HVs w a n c l):l.length=n:=by
 obtain ⟨hs,h1,h2⟩:=h;rw [<-h2.1,h1.hl]
theorem HVs.at (h:HVs w a n c l) {i:Nat} {x:Val} (hx:l[i]?=some x):∃ b o k m d,a=some ⟨b,o,none⟩/\b<w.heap.size/\w.cell? ⟨b,o+i,none⟩=some (.iface (hT x) (.slice k m d))/\BS w k m d x.bytes:=by
 have hlt:=(lL hx);have hn:=h.len;obtain ⟨hs,h1,h2⟩:=h;obtain ⟨e,he⟩:∃ e,hs[i]?=some e:=⟨_,gE (by rw [h2.1];exact hlt)⟩;obtain ⟨b,o,ea,hb,hc⟩:=h1.pl (by omega);obtain ⟨e1,e2⟩:=h2.2 i x e hx he;refine ⟨b,o,_,_,_,ea,hb,?_,e2⟩;have:=hc i e he 0 (by omega);rw [Nat.mul_one,Nat.add_zero] at this;rw [this,<-e1];rfl
end
theorem aEp {l:List Val} (h:HVs w va vn vc l) (hx:l[0]?=some x) :
  Calls Tryz.prog 59 #[.agg #[pv,.slice va vn vc]] w fun e w'=>∃ k m d,e=.returned (.iface (hT x) (.slice k m d))/\BS w k m d x.bytes/\Below w.heap.size w w':=by
 have hlt:=(lL hx);have hn:=h.len;have hvc:vn<=vc:=by obtain ⟨hs,h1,_⟩:=h;exact h1.hc
 obtain ⟨b,o,k,m,d,rfl,hb,hc,hbs⟩:=h.at hx;have HBS:=aAc hbs;obtain ⟨w1,hw1⟩:∃ w1,w1=w.alloc (.cells #[pv,.slice (some ⟨b,o,none⟩) vn vc] 119):=⟨_,rfl⟩;have hbx:Below w.heap.size w w1:=by rw [hw1];exact aAg w _
 have HBX:=aAc hbx;have y0:w1.cell? ⟨w.heap.size,1,none⟩=some (.slice (some ⟨b,o,none⟩) vn vc):=aAa (show w1.heap[w.heap.size]?=_ by rw [hw1];exact boxed w _);have y1:w1.cell? ⟨b,o+0,none⟩=some (.iface (hT x) (.slice k m d)):=(hbx.cell hb).trans hc;have y2:w1.cell? ⟨b,o,none⟩=some (.iface (hT x) (.slice k m d)):=y1;have x0:(0:Int)<(vn:Int):=by omega
 have HW1:=aAc hw1;clear h hbs hc hbx hw1 hx hlt hn;generalize hT x=tx at *;go_enter Tryz.func59,Tryz.ntmps59;go_upto_region 1 with fail;rw [<-HW1.o];go_wp2;go_ret;exact ⟨k,m,d,rfl,HBS.o,HBX.o⟩
structure TRX (L M:Nat) (dv:Value) (num:Nat) (nm:ByteArray) (ca:Option Addr) (cl cc:Nat) (xa:Option Addr) (xl xc:Nat) (pv:Value) (va:Option Addr) (vn vc:Nat) (w0 w:World):Prop where
 t:w.heap[L]?=some (.cells #[dv,.int .u8 (num:Int),.string nm,.slice ca cl cc,.slice xa xl xc] 101 (0,0))
 r:w.heap[M]?=some (.cells #[pv,.slice va vn vc] 119 (0,0))
 be:Below w0.heap.size w0 w
section
variable {L M:Nat} {dv:Value} {num:Nat} {nm:ByteArray} {ca:Option Addr} {cl cc:Nat} {xa:Option Addr} {xl xc:Nat} {pv:Value} {va:Option Addr} {vn vc:Nat} {w0 w w':World}
theorem TRX.next (h:TRX L M dv num nm ca cl cc xa xl xc pv va vn vc w0 w) (hb:Below w.heap.size w w'):TRX L M dv num nm ca cl cc xa xl xc pv va vn vc w0 w' :=
 ⟨(hb.block L (aAe h.t)).trans h.t,(hb.block M (aAe h.r)).trans h.r,h.be.trans (hb.mono h.be.size)⟩
theorem TRX.new (w:World):TRX w.heap.size (w.heap.size+1) dv num nm ca cl cc xa xl xc pv va vn vc w ((w.alloc (.cells #[dv,.int .u8 (num:Int),.string nm,.slice ca cl cc,.slice xa xl xc] 101)).alloc (.cells #[pv,.slice va vn vc] 119)):=by
 refine ⟨heap_alloc2_old w _ _,heap_alloc2_new w _ _,(aAg w _).trans ((aAg _ _).mono (aAg w _).size)⟩
theorem TRX.sc {vb vo:Nat} {t1:TypeId} {a1:Option Addr} {n1 c1:Nat} (h:TRX L M dv num nm ca cl cc xa xl xc pv (some ⟨vb,vo,none⟩) vn vc w0 w) (hc:w.cell? ⟨vb,vo+col,none⟩=some (.iface t1 (.slice a1 n1 c1))):(fun wx:World=>wx.cell? ⟨L,0,none⟩=some dv/\wx.cell? ⟨L,1,none⟩=some (.int .u8 (num:Int))/\wx.cell? ⟨L,2,none⟩=some (.string nm)/\wx.cell? ⟨L,3,none⟩=some (.slice ca cl cc)/\wx.cell? ⟨L,4,none⟩=some (.slice xa xl xc)/\wx.cell? ⟨M,0,none⟩=some pv/\wx.cell? ⟨M,1,none⟩=some (.slice (some ⟨vb,vo,none⟩) vn vc)/\wx.cell? ⟨vb,vo+col,none⟩=some (.iface t1 (.slice a1 n1 c1))) w :=
 ⟨aAa h.t,aAa h.t,aAa h.t,aAa h.t,aAa h.t,aAa h.r,aAa h.r,hc⟩
end
theorem aCi (w:World) (u v:Value) (t:TypeId):(w.alloc (.cells #[u,v] t)).cell? ⟨w.heap.size,0,none⟩=some u/\(w.alloc (.cells #[u,v] t)).cell? ⟨w.heap.size,0+1,none⟩=some v:=⟨aAa (boxed w _),aAa (boxed w _)⟩
theorem aIm {l:List Val} {y:Val} (hn:num<256) (hcol:col<256) (h:HVs w va vn vc l) (hx:l[col]?=some x) (hy:l[0]?=some y) (hp:0<x.bytes.length) (hm:x.bytes.length<=100) (hm2:y.bytes.length<=100) :
  Calls Tryz.prog 96 #[.agg #[dv,.int .u8 (num:Int),.string nm,.slice ca cl cc,.slice xa xl xc],.int .i64 (col:Int),.agg #[pv,.slice va vn vc]] w fun e w'=>∃ a' c',e=.returned (.slice a' (min (x.bytes.length+y.bytes.length+2) 60) c')/\BS w' a' (min (x.bytes.length+y.bytes.length+2) 60) c' ((num::col::(x.bytes++y.bytes)).take 60)/\UB w' a'/\Below w.heap.size w w':=by
 obtain ⟨vb,vo,a1,n1,c1,rfl,hvb,hvc,hb1⟩:=h.at hx;have e1:x.bytes.length=n1:=hb1.hlen;obtain ⟨w0,hw0⟩:∃ w0,w0=(w.alloc (.cells #[dv,.int .u8 (num:Int),.string nm,.slice ca cl cc,.slice xa xl xc] 101)).alloc (.cells #[pv,.slice (some ⟨vb,vo,none⟩) vn vc] 119):=⟨_,rfl⟩;have ht:TRX w.heap.size (w.heap.size+1) dv num nm ca cl cc xa xl xc pv (some ⟨vb,vo,none⟩) vn vc w w0:=by rw [hw0];exact TRX.new w
 obtain ⟨L,hL⟩:∃ L,w.heap.size=L:=⟨_,rfl⟩;obtain ⟨M,hM⟩:∃ M,L+1=M:=⟨_,rfl⟩;rw [hL,hM] at ht;have HWw1:Hid (TRX L M dv num nm ca cl cc xa xl xc pv (some ⟨vb,vo,none⟩) vn vc w w0.drew):=ht.next (kBh _ _).drew;have hb:Below w.heap.size w w0.drew:=HWw1.o.be;have HCw1:Hid (w0.drew.cell? ⟨vb,vo+col,none⟩=some (.iface (hT x) (.slice a1 n1 c1))):=(hb.cell hvb).trans hvc;have HV1:Hid (HVs w0.drew (some ⟨vb,vo,none⟩) vn vc l):=h.later hb;have HBS1:Hid (BS w0.drew a1 n1 c1 x.bytes):=hb1.later hb (nR _);have hvl:col<vn:=by have:=(lL hx);have:=h.len;omega
 have x1:(0:Int)<=(col:Int):=by omega
 have x2:(col:Int)<(vn:Int):=by omega
 obtain ⟨K1,hm1,hc1,hk1⟩:=aKs x a1 n1 c1;have HK1:=aAc hk1;have HY:=aAc hy;have HN:=aAc hn;have HCO:=aAc hcol;have HM1:=aAc (show n1<=100 by omega);have HM2:=aAc hm2;have HP:Hid (0<n1):=by show 0<n1;omega
 have HE1:=aAc e1;have HW0:=aAc hw0;obtain ⟨n2,hn2⟩:∃ n2,y.bytes.length=n2:=⟨_,rfl⟩;rw [hn2] at HM2 ⊢;rw [e1];have HN2:=aAc hn2;clear hw0 hb ht hn hcol h hx hy hp hm hm2 hvc hb1 hk1 e1 hn2;generalize hT x=tx at *;go_enter Tryz.func96,Tryz.ntmps96;go_upto_region 1 with fail;rw [<-HW0.o];clear HW0
 try simp only [hL,hM]
 have HX0:Hid ((fun wx:World=>wx.cell? ⟨L,0,none⟩=some dv/\wx.cell? ⟨L,1,none⟩=some (.int .u8 (num:Int))/\wx.cell? ⟨L,2,none⟩=some (.string nm)/\wx.cell? ⟨L,3,none⟩=some (.slice ca cl cc)/\wx.cell? ⟨L,4,none⟩=some (.slice xa xl xc)/\wx.cell? ⟨M,0,none⟩=some pv/\wx.cell? ⟨M,1,none⟩=some (.slice (some ⟨vb,vo,none⟩) vn vc)/\wx.cell? ⟨vb,vo+col,none⟩=some (.iface tx (.slice a1 n1 c1))) w0.drew):=HWw1.o.sc HCw1.o;refine wp_region_noPanic ?_;refine wp_region_held_drew (S:=fun wx=>wx.cell? ⟨L,0,none⟩=some dv/\wx.cell? ⟨L,1,none⟩=some (.int .u8 (num:Int))/\wx.cell? ⟨L,2,none⟩=some (.string nm)/\wx.cell? ⟨L,3,none⟩=some (.slice ca cl cc)/\wx.cell? ⟨L,4,none⟩=some (.slice xa xl xc)/\wx.cell? ⟨M,0,none⟩=some pv/\wx.cell? ⟨M,1,none⟩=some (.slice (some ⟨vb,vo,none⟩) vn vc)/\wx.cell? ⟨vb,vo+col,none⟩=some (.iface tx (.slice a1 n1 c1))) (by kernel_rfl) HX0.o (fun hHeld=>?_);generalize w0.drew=w1 at *;refine aAb 0 7 ?_;refine aAb 1 8 ?_;refine aAb 2 9 ?_;refine aAb 3 10 ?_;refine aAb 4 11 ?_;refine aAb 5 12 ?_;refine aAb 6 13 ?_;refine aAb 8 15 ?_;refine aAf 7 ?_;intro K hK;go_simp;refine (HK1.o w1).mono ?_;rintro e w9 ⟨rfl,hw⟩;have hw:=hw.symm;subst hw;clear hHeld hw;refine hK.out _ _ (HWw1.o.sc HCw1.o) (fun hHeld=>?_);clear hK K
 try simp only [Act.put,siT,scZ,scS]
 refine aAf 9 ?_;intro K hK;go_simp;refine (aEp HV1.o HY.o).mono ?_;rintro e w2 ⟨a2,m2,c2,rfl,hb2,hbl⟩;have hm2:m2=n2:=by rw [<-HN2.o];exact hb2.hlen.symm
 subst hm2;have HWw2:=aAc (HWw1.o.next hbl);have HCw2:=aAc ((hbl.cell (aAn HCw1.o)).trans HCw1.o);have HBS2:=aAc (HBS1.o.later hbl (nR _));have HBY2:=aAc (hb2.later hbl (nR _));have hB2:Below w1.heap.size w1 w2:=hbl;obtain ⟨K2,hq1,hq2,hk2⟩:=aKs y a2 m2 c2;have HK2:=aAc hk2;clear hk2 hb2 hbl hB2 hHeld;generalize hT y=ty at *;refine hK.out _ _ (HWw2.o.sc HCw2.o) (fun hHeld=>?_);clear hK K
 try simp only [Act.put,siT,scZ,scS]
 refine aAf 10 ?_;intro K hK;go_simp;refine (HK2.o w2).mono ?_;rintro e w9 ⟨rfl,hw⟩;have hw:=hw.symm;subst hw;clear hHeld hw;refine hK.out _ _ (HWw2.o.sc HCw2.o) (fun hHeld=>?_);clear hK K
 try simp only [Act.put,siT,scZ,scS]
 refine aAf 11 ?_;intro K hK;go_simp;have hbx:=aAg w2 (.cells #[.slice a1 n1 c1,.slice a2 m2 c2] 97);have HWw3:=aAc (HWw2.o.next hbx);have HCw3:=aAc ((hbx.cell (aAn HCw2.o)).trans HCw2.o);have HBS3:=aAc (HBS2.o.later hbx (nR _));have HBY3:=aAc (HBY2.o.later hbx (nR _));have hpp:=aCi w2 (.slice a1 n1 c1) (.slice a2 m2 c2) 97;have HPP:=aAc hpp;clear hbx hpp hHeld;refine hK.out _ _ (HWw3.o.sc HCw3.o) (fun hHeld=>?_);generalize w2.alloc (.cells #[.slice a1 n1 c1,.slice a2 m2 c2] 97)=w3 at *;generalize w2.heap.size=g at *;clear hK K
 try simp only [Act.put,siT,scZ,scS]
 refine aAf 12 ?_;intro K hK;go_simp;refine (aEw (m:=n1+m2) (ys:=x.bytes++y.bytes) HN.o HCO.o (by rw [lA,HE1.o,HN2.o]) (by have:=HM1.o;have:=HM2.o;omega) (by have:=HP.o;omega) (fun n hn=>by rcases kAz.1 hn with q | q;exact HBS3.o.hbyte n q;exact HBY3.o.hbyte n q) (fun ww hb=>aDn ((hb.cell (aAn HPP.o.1)).trans HPP.o.1) ((hb.cell (aAn HPP.o.2)).trans HPP.o.2) (HBS3.o.later hb (nR _)) (HBY3.o.later hb (nR _)) (nR _) (by have:=HM1.o;omega) (by have:=HM2.o;omega))).mono ?_;rintro e w4 ⟨a',c',rfl,hbs,hub,hbl⟩;have HRS:=aAc hbs;have HUB:=aAc hub;have HWw4:=aAc (HWw3.o.next hbl);have HCw4:=aAc ((hbl.cell (aAn HCw3.o)).trans HCw3.o);clear hbs hub hbl hHeld;refine hK.out _ _ (HWw4.o.sc HCw4.o) (fun hHeld=>?_);clear hK K
 try simp only [Act.put,siT,scZ,scS]
 refine aAb 13 6 ?_;refine wpAnyH_done (by kernel_rfl) ?_ _;refine NoPanic.normal ?_;clear hHeld;go_wp2;go_ret;exact ⟨a',c',rfl,HRS.o,HUB.o,by rw [<-hL];exact HWw4.o.be⟩
theorem bMh (x:Val) (h:x.err=0/\x.2.2.size<=4194304):Calls Tryz.prog 140 #[.agg #[.int .i64 x.1,.int .i64 x.2.1,.string x.2.2]] w fun e w'=>e=.returned (.bool (decide (8<rcn x.2.2)))/\Below w.heap.size w w':=bKo x w (by have:=h.2;omega) h.1
theorem bMf {len:Nat} {l:List Val} (h:SVK fV 3 w a len cap l) (hlen:len<=1000) (hr:∀ x∈l,x.err=0/\x.2.2.size<=4194304) :
  Calls Tryz.prog 177 #[.slice a len cap,.func (Fn.func 140) #[] #[]] w fun e w'=>∃ i:Int,e=.returned (.int .i64 i)/\(decide (0<=i)=l.any (fun x=>decide (8<rcn x.2.2)))/\Below w.heap.size w w':=by
 have H:=aAc h;have hx:=h.hl;have HL:=aAc hx;clear h hx;have HR:=aAc hr;clear hr;go_enter Tryz.func177,Tryz.ntmps177;go_wp2_with fail;go_loopg [8] len (fun gh s8 wx=>∃ j:Nat,j+gh=len/\s8=.int .i64 (j:Int)/\(l.take j).any (fun x=>decide (8<rcn x.2.2))=false/\Below w.heap.size w wx)
 case atStart=>exact ⟨0,by omega,rfl,by simp,kBh _ _⟩
 case round =>
  obtain ⟨j,hj,rfl,hno,hbr⟩:=hrel;have HNO:=aAc hno;have HBR:=aAc hbr;clear hno hbr;by_cases hjn:j<len
  ·have xj:(j:Int)<(len:Int):=by omega
   obtain ⟨x,hxj⟩:∃ x,l[j]?=some x:=⟨_,gE (by rw [HL.o];exact hjn)⟩;have HTK:Hid ((l.take (j+1)).any (fun x=>decide (8<rcn x.2.2))=(decide (8<rcn x.2.2))):=by
    show _=_;rw [kAs,hxj,List.any_append,HNO.o];simp
   have HYES:Hid ((decide (8<rcn x.2.2))=true->l.any (fun x=>decide (8<rcn x.2.2))=true):=fun q=>List.any_eq_true.2 ⟨x,mG hxj,q⟩;obtain ⟨b,o,e0,hb,hcs⟩:=H.out.pl (by omega);have hcell:=fun t (ht:t<3)=>hcs j x hxj t ht;subst e0;have y0:wr.cell? ⟨b,o+j*3,none⟩=some (.int .i64 x.1):=(HBR.o.cell hb).trans (hcell 0 (by omega));have y1:wr.cell? ⟨b,o+j*3+1,none⟩=some (.int .i64 x.2.1):=(HBR.o.cell hb).trans (hcell 1 (by omega));have y2:wr.cell? ⟨b,o+j*3+2,none⟩=some (.string x.2.2):=(HBR.o.cell hb).trans (hcell 2 (by omega));have hrx:=HR.o x (mG hxj);have HCL:=aAc (bMh (w:=wr) x hrx);obtain ⟨pb,hpb⟩:∃ pb:Bool,pb=(decide (8<rcn x.2.2)):=⟨_,rfl⟩;rw [<-hpb] at HTK HYES HCL;clear hcs hcell hxj hpb;go_wp2_with fail;refine HCL.o.mono ?_;rintro e w1 ⟨rfl,hb1⟩;have HB1:Hid (Below w.heap.size w w1):=HBR.o.trans (hb1.mono HBR.o.size);clear hb1 HCL
   cases pb with
   | true =>
    have HY:=aAc (HYES.o rfl);go_wp2_with fail;go_ret;exact ⟨(j:Int),rfl,by rw [HY.o];exact kAc (by omega),HB1.o⟩
   | false =>
    go_wp2_with fail;go_roundg (gk-1)
    case measure=>omega
    case rel=>exact ⟨j+1,by omega,rfl,HTK.o,HB1.o⟩
  ·have xj:¬ (j:Int)<(len:Int):=by omega
   have HN:Hid (l.any (fun x=>decide (8<rcn x.2.2))=false):=by
    have h9:=HNO.o;rw [kAh (by rw [HL.o];omega)] at h9;exact h9
   go_wp2;go_ret;exact ⟨-1,rfl,by rw [HN.o];rfl,HBR.o⟩
theorem bMg {len:Nat} {l:List Val} (h:SVK fV 3 w a len cap l) (hlen:len<=1000) (hr:∀ x∈l,x.err=0/\x.2.2.size<=4194304) :
  Calls Tryz.prog 139 #[.slice a len cap,.func (Fn.func 140) #[] #[]] w fun e w'=>e=.returned (.bool (l.any (fun x=>decide (8<rcn x.2.2))))/\Below w.heap.size w w':=by
 have HI:=aAc (bMf h hlen hr);clear h hr;generalize l.any (fun x=>decide (8<rcn x.2.2))=bb at *;go_enter Tryz.func139,Tryz.ntmps139;go_wp2_with fail;refine HI.o.mono ?_;rintro e w1 ⟨i,rfl,hi,hb1⟩;have HB1:=aAc hb1;have HE:=aAc hi;clear hb1 HI hi;go_wp2;go_ret;exact ⟨by rw [<-HE.o];rfl,HB1.o⟩
theorem bHq (x:Val) (hz:x.2.2.size<=4194304):x.bytes.length<=12582916:=by
 unfold Val.bytes
 cases hh:bAa x.1 x.2.1 x.2.2 with
 | text s =>
  simp only [H.bytes,List.length_cons,lA,aC8,aBc]
  cases hr:runes (bl x.2.2) with
  | none=>simp
  | some rs =>
   have:=aD4 hr;rw [aCy] at this;simp only [Option.getD_some];omega
 | _=>simp [H.bytes,aBc]
theorem bPm {l:List Val} (h:∀ x∈l,x.2.2.size<=4194304):(keyBytes l).length<=l.length*12582916:=by
 unfold keyBytes
 induction l with
 | nil=>simp
 | cons y l ih =>
  have h1:=bHq y (h y kAn);have h2:=ih fun x hx=>h x (kAl _ hx);rw [List.flatMap_cons,lA,List.length_cons,Nat.add_mul];omega
theorem aIs {l:List Val} (h:SVK fV 3 w a n c l) (hok:∀ x∈l,x.ok) (hs:∀ x∈l,x.2.2.size<=4194304) :
  Calls Tryz.prog 97 #[.slice a n c] w fun e w'=>bVq l w.heap.size e w'/\Below w.heap.size w w':=by
 have HL:=aAc h.hl;by_cases h3:3<n
 ·have HE:Hid (bBj l=2):=kAg (by rw [h.hl];exact h3);have x3:(3:Int)<(n:Int):=by omega
  clear h h3;go_enter Tryz.func97,Tryz.ntmps97;go_wp2;go_ret2;exact ⟨⟨_,by rw [HE.o];rfl,fun q=>absurd (HE.o.symm.trans q) (by decide),fun _=>rfl⟩,kBh _ _⟩
 ·have hn:n<=1000:=by omega
  have x3:¬ (3:Int)<(n:Int):=by omega
  have HE0:Hid (bBj l=if bAd l≠0 then 62 else if l.any (fun x=>decide (8<rcn x.2.2))=true then 62 else 0):=kAb (by rw [h.hl];exact h3);have HKL:Hid ((keyBytes l).length<=37748748):=by show _<=_;have:=bPm hs;rw [h.hl] at this;have:n*12582916<=3*12582916:=Nat.mul_le_mul_right _ (by omega);omega
  have HKY:=aAc (bKj a n c l w (h.vs hn hok) (by have:=HKL.o;omega));have HV:=aAc h;have HS:=aAc hs;have HN3:Hid (n<=3):=by show n<=3;omega
  clear h hs hok h3;go_enter Tryz.func97,Tryz.ntmps97;go_wp2_with fail;refine HKY.o.mono ?_;rintro e w1 ⟨hk,hb1⟩;have HB1:=aAc hb1;unfold bT4 at hk;by_cases hke:bAd l=0
  ·rw [kAg hke] at hk;obtain ⟨v1,rfl,ho1⟩:=hk;have HO1:Hid (OB w.heap.size w1 v1 (keyBytes l)):=ho1;have HR:Hid (∀ x∈l,x.err=0/\x.2.2.size<=4194304):=fun x hx=>⟨aCl hke x hx,HS.o x hx⟩
   rw [kAb (by rw [hke];simp)] at HE0;have HHS:=aAc (bMg (HV.o.later hb1) hn HR.o);clear ho1 hb1 hke HKY;obtain ⟨bb,hbb⟩:∃ bb,l.any (fun x=>decide (8<rcn x.2.2))=bb:=⟨_,rfl⟩;rw [hbb] at HHS HE0;clear hbb;go_wp2_with fail;refine HHS.o.mono ?_;rintro e w2 ⟨rfl,hb2⟩;have HB2:Hid (Below w.heap.size w w2):=HB1.o.trans (hb2.mono HB1.o.size);have HO2:=aAc (HO1.o.later hb2);clear hb2 HHS HO1
   cases bb with
   | true =>
    have HE:Hid (bBj l=62):=HE0.o;go_wp2;go_ret2;exact ⟨⟨_,by rw [HE.o];rfl,fun q=>absurd (HE.o.symm.trans q) (by decide),fun _=>rfl⟩,HB2.o⟩
   | false =>
    have HE:Hid (bBj l=0):=HE0.o;have HUI:=aAc (aHy n w2 (by omega));go_wp2_with fail;refine HUI.o.mono ?_;rintro e w3 ⟨g3,c3,rfl,ho3,hb3⟩;have HG3:Hid ((enc n).length=grp n/\grp n<=9):=⟨aAs n (aAt n (by omega)).1,(aAt n (by omega)).2.1⟩;have HO3:Hid (OB w2.heap.size w3 (.slice (some ⟨g3,0,none⟩) (grp n) c3) (enc n)):=by
     show World.ownsRow _ _ _ _ _ _ _;rw [HG3.o.1];exact ho3
    have HO2':=aAc (HO2.o.later hb3);have HB3:Hid (Below w.heap.size w w3):=HB2.o.trans (hb3.mono HB2.o.size);have HZ3:Hid (w2.heap.size<=w3.heap.size):=hb3.size;have HZ2:Hid (w.heap.size<=w2.heap.size):=HB2.o.size;clear ho3 hb3 HUI HO2;go_wp2_with (at_builtin;refine aA1 rfl (.tmp 22) (.tmp 23) rfl rfl rfl HO3.o HO2'.out HZ3.o (by have:=HG3.o;have:=HKL.o;omega) ?_;intro v4 w4 ho4 hb4 _;have HO4:=aAc ho4;have HB4:=aAc hb4;clear ho4 hb4);go_ret2;refine ⟨⟨v4,by rw [HE.o];rfl,fun _=>?_,fun q=>absurd HE.o q⟩,HB3.o.trans (HB4.o.mono HZ2.o)⟩;have h9:=HO4.o;unfold bAm;rw [HL.o];exact aFv h9 HZ2.o
  ·rw [kAb hke] at hk;subst hk;rw [kAg hke] at HE0;have HE:Hid (bBj l=62):=HE0.o;have q0:(bAd l != 0)=true:=by simp [hke]
   clear hke hb1 HKY;generalize bAd l=ke at *;go_wp2;go_ret2;exact ⟨⟨_,by rw [HE.o];rfl,fun q=>absurd (HE.o.symm.trans q) (by decide),fun _=>rfl⟩,HB1.o⟩
theorem bI0 {l:List Val} (hl:l.length<=3) (h:∀ x∈l,x.2.2.size<=4194304):(bAm l).length<=100000000:=by
 have h1:=bPm h;have h2:=aBd l.length (by omega);unfold bAm;rw [lA];have:l.length*12582916<=3*12582916:=Nat.mul_le_mul_right _ hl;omega
theorem bGc {l:List Val} (h:SVK fV 3 w a n c l) (hok:∀ x∈l,x.ok) (hs:∀ x∈l,x.2.2.size<=4194304) :
  Calls Tryz.prog 97 #[.slice a n c] w fun e w'=>∃ ax nx cx,e=.returned (.tuple #[.slice ax nx cx,.int .i64 (bBj l)])/\(bBj l=0->BS w' ax nx cx (bAm l))/\Below w.heap.size w w':=by
 refine (aIs h hok hs).mono ?_;rintro e w' ⟨⟨v,he,h0,h1⟩,hb⟩;by_cases hz:bBj l=0
 ·have ho:=h0 hz;obtain ⟨a,c,e1⟩:=OB.form ho;subst e1;exact ⟨a,_,c,he,fun _=>OB.bs ho (bIz l) (bI0 (aFp hz).1 hs),hb⟩
 ·have e1:=h1 hz;subst e1;exact ⟨none,0,0,he,fun q=>absurd q hz,hb⟩
theorem aB5 (he:x.err=0) (hl:x.bytes.length<=m):x.2.2.size<=4*m:=by
 obtain ⟨k,n,s⟩:=x;have h1:bAc k n s=0:=he;dsimp only;have key:s.toList.isEmpty=true->s.size<=4*m:=fun q=>by
  have:=aA8 q;subst this;exact kAm _
 by_cases k0:k=0
 ·subst k0;rw [r0] at h1
  split at h1
  ·rename_i q;exact key q.2
  ·cases h1
 by_cases k1:k=1
 ·subst k1;rw [r1] at h1
  split at h1
  ·rename_i q;exact key q
  ·cases h1
 by_cases k3:k=3
 ·subst k3;rw [r3] at h1
  split at h1
  ·rename_i q;exact key q.1
  ·cases h1
 by_cases k2:k=2
 ·subst k2;obtain ⟨rs,hr⟩:=aE7 h1;have hb:(Val.bytes (2,n,s))=(H.text s).bytes rs:=by
   unfold Val.bytes;rw [hr];simp [bAa]
  rw [hb] at hl;simp only [H.bytes,List.length_cons,lA,aC8,aBc] at hl;have e1:bl s=encs rs:=((aC7 (bl s) rs).1 hr).1;have e2:=bRv rs;rw [<-e1,aCy] at e2;omega
 ·rw [r4 n s k0 k1 k2 k3] at h1;cases h1
theorem bPl {l:List Val} (hx:x∈l):x.bytes.length<=(keyBytes l).length:=by
 unfold keyBytes
 induction l with
 | nil=>cases hx
 | cons y l ih =>
  rw [List.flatMap_cons,lA];rcases kAv.1 hx with rfl | h
  ·omega
  ·have:=ih h;omega
def bEm (xs:List Nat):Option (List Val):=if ruE xs 0=0 then (match rd (xs.drop (ruP xs 0)) with | none=>none | some l=>if bBj l=0/\bAm l=xs then some l else none) else none
theorem bJa:∀ (k i:Nat) (l:List Nat) (n:Nat),(rdF k i l n).2.2=0->(rdF k i l n).2.1<=i+l.length
 | 0,_,_,_,h=>by cases h
 | _+1,_,[],_,h=>by cases h
 | k+1,i,c::r,n,h=>by
  rw [aEm] at h ⊢
  rw [List.length_cons]
  split at h
  ·cases h
  ·rename_i h1
   rw [kAb h1]
   split at h
   ·rename_i h2
    rw [kAg h2]
    dsimp only
    omega
   ·rename_i h2
    rw [kAb h2]
    have:=bJa k (i+1) r _ h
    omega
theorem bUe (h:ruE xs 0=0):ruP xs 0<=xs.length:=by
 unfold ruE at h;unfold ruP;rw [kAg ⟨by omega,by omega⟩] at h ⊢;have e:(0:Int).toNat=0:=rfl;rw [e] at h ⊢;unfold bAs;rw [kAg h];unfold rdN at h ⊢;have:=bJa 9 0 (xs.drop 0) 0 h;simpa using this
theorem BS.none':BS w a 0 0 []:=⟨rfl,by omega,by omega,by omega,by simp,fun _=>rfl,fun x hx i hi=>by omega⟩
def bL8 (B:Nat) (o:Option (List Val)) (e:Ending) (w':World):Prop:=match o with
 | none=>e=.returned (.tuple #[.slice none 0 0,.int .i64 11])
 | some l=>(∀ x∈l,x.ok/\x.2.2.size<=4194304)/\∃ a' c',e=.returned (.tuple #[.slice a' l.length c',.int .i64 0])/\SVK fV 3 w' a' l.length c' l/\∀ ad,a'=some ad->B<=ad.block
theorem bPf {xs:List Value} (h:w.ownsRow B te k (.slice a m c) n xs):∀ ad,a=some ad->B<=ad.block:=by
 intro ad had;rcases h.2 with ⟨e,_⟩ | ⟨g,cap,cur,e,h5,_⟩
 ·simp only [kBl] at e;rw [e.1] at had;cases had
 ·simp only [kBl] at e;rw [e.1] at had;cases had;exact h5
theorem aKy (hb:BS w a n c xs) (hn:n<=1048576) :
  Calls Tryz.prog 134 #[.slice a n c] w fun e w'=>bL8 w.heap.size (bEm xs) e w'/\Below w.heap.size w w':=by
 have HB:=aAc hb;have hlen:=hb.hlen;have HLN:=aAc hlen;have HU:=aAc (aB6 a n c xs 0 w hb);obtain ⟨z,hz⟩:∃ z,ruE xs 0=z:=⟨_,rfl⟩;obtain ⟨v,hv⟩:∃ v,ruN xs 0=v:=⟨_,rfl⟩;obtain ⟨p,hp⟩:∃ p,ruP xs 0=p:=⟨_,rfl⟩;rw [hz,hv,hp] at HU;by_cases h0:z=0
 ·have hpn:p<=n:=by rw [<-hlen,<-hp];exact bUe (by rw [hz];exact h0)
  have HD:Hid (bEm xs=match rd (xs.drop p) with | none=>none | some l=>if bBj l=0/\bAm l=xs then some l else none):=by
   show _=_;unfold bEm;rw [hz,kAg h0,hp]
  have hpos:0<n:=by
   rw [<-hlen];rcases Nat.eq_zero_or_pos xs.length with q | q
   ·have e:xs=[]:=kAf q;subst e;rw [h0] at hz;cases hz
   ·exact q
  obtain ⟨b,o,e1,hbl,_⟩:=hb.place hpos;subst e1;subst h0;have hcap:=hb.hcap;have hmax:=hb.hmax;have HDR:=aAc (aG7 hb p hpn);clear hz hv hp hlen hb;have k0:(0:Int)<=(p:Int):=by omega
  have k1:(p:Int)<=(n:Int):=by omega
  have k2:(n:Int)<=(c:Int):=by omega
  have k3:(c:Int)<=9223372036854775807:=by omega
  by_cases hpc:p<c
  ·have k4:(p:Int)<(c:Int):=by omega
   have HBD:Hid (BS w (some ⟨b,o+p,none⟩) (n-p) (c-p) (xs.drop p)):=HDR.o;clear HDR;go_enter Tryz.func134,Tryz.ntmps134;go_wp2_with fail;refine HU.o.mono ?_;rintro e w1 ⟨rfl,hw⟩;have hw:=hw.symm;subst hw;clear HU hw;have HRA:=aAc (bFa _ _ _ (xs.drop p) w HBD.o (by omega));go_wp2_with fail;refine HRA.o.mono ?_;rintro e w2 ⟨hr,hb2⟩;have HB2:=aAc hb2;clear hb2 HRA
   cases hq:rd (xs.drop p) with
   | none =>
    rw [hq] at hr HD;have hr':e=.returned (.tuple #[.slice none 0 0,.int .i64 11]):=hr;subst hr';clear hr hq;go_wp2;go_ret2;exact ⟨by unfold bL8;rw [HD.o];exact rfl,HB2.o⟩
   | some l =>
    have hbk:=bD4 _ _ l (nR _) (by rw [kAk,HLN.o];omega) (fun c hc=>HB.o.hbyte c (kBa hc)) hq;rw [hq] at hr HD;obtain ⟨v7,e7,ho7⟩:∃ v,e=.returned (.tuple #[v,.int .i64 0])/\w2.ownsRow w.heap.size 36 3 v l.length (l.flatMap fV):=hr;subst e7;obtain ⟨a7,c7,e8,hsv⟩:=aBn aG5 ho7 rfl;subst e8;have HFA:Hid (∀ ad,a7=some ad->w.heap.size<=ad.block):=bPf ho7;have HSV:=aAc hsv;have HOKL:Hid (∀ x∈l,x.ok):=hbk.2.2.1;have HSM:Hid (∀ x∈l,x.2.2.size<=4194304):=by
     intro x hx;have h1:=bPl hx;rw [hbk.2.1,kAk,HLN.o] at h1;have:=aB5 (m:=1048576) (aCl hbk.1 x hx) (by omega);omega
    have HEN:=aAc (bGc HSV.o HOKL.o HSM.o);clear hbk ho7 hsv hq;go_wp2_with fail;refine HEN.o.mono ?_;rintro e w3 ⟨ax,nx,cx,rfl,hx,hb3⟩;have HX3:=aAc hx;have HB3:Hid (Below w.heap.size w w3):=HB2.o.trans (hb3.mono HB2.o.size);have HSV3:=aAc (HSV.o.later hb3);clear hx hb3 HEN HSV;by_cases hz:bBj l=0
    ·have HEQ:=aAc (aDf ax _ nx cx n c (bAm l) xs w3 (HX3.o hz) (HB.o.later HB3.o (nR _)));have HZ:=aAc hz;rw [hz];clear hz;go_wp2_with fail;refine HEQ.o.mono ?_;rintro e w9 ⟨rfl,hw⟩;have hw:=hw.symm;subst hw;clear hw HEQ;by_cases hq:bAm l=xs
     ·have HN:Hid (bEm xs=some l):=by show _=_;rw [HD.o];exact kAg ⟨HZ.o,hq⟩
      rw [kAc hq];clear hq;go_wp2;go_ret2;exact ⟨by unfold bL8;rw [HN.o];exact ⟨fun x hx=>⟨HOKL.o x hx,HSM.o x hx⟩,a7,c7,rfl,HSV3.o,HFA.o⟩,HB3.o⟩
     ·have HN:Hid (bEm xs=none):=by show _=_;rw [HD.o];exact kAb fun q=>hq q.2
      rw [kAd hq];clear hq;go_wp2;go_ret2;exact ⟨by unfold bL8;rw [HN.o];exact rfl,HB3.o⟩
    ·have HN:Hid (bEm xs=none):=by show _=_;rw [HD.o];exact kAb fun q=>hz q.1
     have dz:(bBj l != 0)=true:=by simp [hz]
     clear hz;go_wp2;go_ret2;exact ⟨by unfold bL8;rw [HN.o];exact rfl,HB3.o⟩
  ·have e1:n=c:=by omega
   have e2:p=c:=by omega
   subst e1 e2;have HBD:Hid (BS w (some ⟨b,o,none⟩) 0 0 (xs.drop p)):=by
    show BS _ _ _ _ _;rw [List.drop_of_length_le (by rw [HLN.o];omega)];exact BS.none'
   clear HDR;go_enter Tryz.func134,Tryz.ntmps134;go_wp2_with fail;refine HU.o.mono ?_;rintro e w1 ⟨rfl,hw⟩;have hw:=hw.symm;subst hw;clear HU hw;have HRA:=aAc (bFa _ _ _ (xs.drop p) w HBD.o (by omega));go_wp2_with fail;refine HRA.o.mono ?_;rintro e w2 ⟨hr,hb2⟩;have HB2:=aAc hb2;clear hb2 HRA
   cases hq:rd (xs.drop p) with
   | none =>
    rw [hq] at hr HD;have hr':e=.returned (.tuple #[.slice none 0 0,.int .i64 11]):=hr;subst hr';clear hr hq;go_wp2;go_ret2;exact ⟨by unfold bL8;rw [HD.o];exact rfl,HB2.o⟩
   | some l =>
    have hbk:=bD4 _ _ l (nR _) (by rw [kAk,HLN.o];omega) (fun c hc=>HB.o.hbyte c (kBa hc)) hq;rw [hq] at hr HD;obtain ⟨v7,e7,ho7⟩:∃ v,e=.returned (.tuple #[v,.int .i64 0])/\w2.ownsRow w.heap.size 36 3 v l.length (l.flatMap fV):=hr;subst e7;obtain ⟨a7,c7,e8,hsv⟩:=aBn aG5 ho7 rfl;subst e8;have HFA:Hid (∀ ad,a7=some ad->w.heap.size<=ad.block):=bPf ho7;have HSV:=aAc hsv;have HOKL:Hid (∀ x∈l,x.ok):=hbk.2.2.1;have HSM:Hid (∀ x∈l,x.2.2.size<=4194304):=by
     intro x hx;have h1:=bPl hx;rw [hbk.2.1,kAk,HLN.o] at h1;have:=aB5 (m:=1048576) (aCl hbk.1 x hx) (by omega);omega
    have HEN:=aAc (bGc HSV.o HOKL.o HSM.o);clear hbk ho7 hsv hq;go_wp2_with fail;refine HEN.o.mono ?_;rintro e w3 ⟨ax,nx,cx,rfl,hx,hb3⟩;have HX3:=aAc hx;have HB3:Hid (Below w.heap.size w w3):=HB2.o.trans (hb3.mono HB2.o.size);have HSV3:=aAc (HSV.o.later hb3);clear hx hb3 HEN HSV;by_cases hz:bBj l=0
    ·have HEQ:=aAc (aDf ax _ nx cx p p (bAm l) xs w3 (HX3.o hz) (HB.o.later HB3.o (nR _)));have HZ:=aAc hz;rw [hz];clear hz;go_wp2_with fail;refine HEQ.o.mono ?_;rintro e w9 ⟨rfl,hw⟩;have hw:=hw.symm;subst hw;clear hw HEQ;by_cases hq:bAm l=xs
     ·have HN:Hid (bEm xs=some l):=by show _=_;rw [HD.o];exact kAg ⟨HZ.o,hq⟩
      rw [kAc hq];clear hq;go_wp2;go_ret2;exact ⟨by unfold bL8;rw [HN.o];exact ⟨fun x hx=>⟨HOKL.o x hx,HSM.o x hx⟩,a7,c7,rfl,HSV3.o,HFA.o⟩,HB3.o⟩
     ·have HN:Hid (bEm xs=none):=by show _=_;rw [HD.o];exact kAb fun q=>hq q.2
      rw [kAd hq];clear hq;go_wp2;go_ret2;exact ⟨by unfold bL8;rw [HN.o];exact rfl,HB3.o⟩
    ·have HN:Hid (bEm xs=none):=by show _=_;rw [HD.o];exact kAb fun q=>hz q.1
     have dz:(bBj l != 0)=true:=by simp [hz]
     clear hz;go_wp2;go_ret2;exact ⟨by unfold bL8;rw [HN.o];exact rfl,HB3.o⟩
 ·have HD:Hid (bEm xs=none):=by
   show _=_;unfold bEm;rw [hz,kAb h0]
  have hz0:((z:Int) != 0)=true:=by simp;omega
  clear hz hv hp hlen h0 hb;go_enter Tryz.func134,Tryz.ntmps134;go_wp2_with fail;refine HU.o.mono ?_;rintro e w1 ⟨rfl,hw⟩;have hw:=hw.symm;subst hw;clear HU hw;go_wp2;go_ret2;exact ⟨by unfold bL8;rw [HD.o];exact rfl,kBh _ _⟩
theorem aCw (h:n<128):(enc n).length=1:=by
 have h1:=aAt n (by omega);rw [aAs n h1.1];rcases Nat.eq_zero_or_pos n with q | q
 ·exact h1.2.2.2.2 q
 ·have h2:=h1.2.2.2.1 (by omega);rcases Nat.lt_or_ge 1 (grp n) with h3 | h3
  ·have h4:128 ^ 1<=128 ^ (grp n-1):=kA9 (by omega) (by omega);omega
  ·omega
theorem bH6 {s:ByteArray} (h:s.size<=8):(wb s).length<=9:=by
 unfold wb;rw [lA,aCw (by omega)];have:(slK s).length=s.size:=by simp [slK]
 omega
theorem aHr {α:Type} {f:α->List Nat} {m:Nat}:∀ {l:List α},(∀ x∈l,(f x).length<=m)->(l.flatMap f).length<=l.length*m
 | [],_=>by simp
 | x::l,h=>by
  rw [List.flatMap_cons,lA,List.length_cons,Nat.add_mul]
  have h1:=h x kAn
  have h2:=aHr (l:=l) (fun y hy=>h y (kAl _ hy))
  omega
theorem bRw (h:s.ok=true):(encS s).length<=80:=by
 obtain ⟨h1,h2,h3,h4,h5⟩:=Sch.parts h;have a1:=bH6 h1;have a2:(enc s.cs.length).length=1:=aCw (by omega);have a3:(enc s.xs.length).length=1:=aCw (by omega);have a4:(s.cs.flatMap bBh).length<=s.cs.length*11:=aHr fun c hc=>by
  obtain ⟨j,hj⟩:=kBc hc;have hk:=h4 j c hj;unfold bBh;have b1:=bH6 hk.nm;have b2:(enc c.2.1.toNat).length=1:=aCw (by have:=hk.k1;omega);have b3:(enc c.2.2.toNat).length=1:=aCw (by have:=hk.m1;omega);simp only [lA];omega
 have a5:(s.xs.flatMap bBd).length<=s.xs.length*2:=aHr fun c hc=>by
  obtain ⟨j,hj⟩:=kBc hc;have hk:=h5 j c hj;unfold bBd;have b1:(enc c.1.toNat).length=1:=aCw (by omega);have b2:(enc (if c.2 then 1 else 0)).length=1:=aCw (by split<;>omega);simp only [lA];omega
 have m1:s.cs.length*11<=3*11:=Nat.mul_le_mul_right _ h2;have m2:s.xs.length*2<=3*2:=Nat.mul_le_mul_right _ h3;unfold encS;simp only [lA];omega
theorem bO4 (he:x.err=0) (hr:rcn x.2.2<=8):x.bytes.length<=28:=by
 unfold Val.bytes
 cases hh:bAa x.1 x.2.1 x.2.2 with
 | text s =>
  simp only [H.bytes,List.length_cons,lA,aC8,aBc];have:((runes (bl x.2.2)).getD []).length<=8:=hr;omega
 | number n=>simp [H.bytes,aBc]
 | truth b=>simp [H.bytes]
 | nothing=>simp [H.bytes]
 | none=>simp [H.bytes]
theorem aJ8 {l:List Val} (h:bBj l=0):∀ x∈l,x.err=0/\rcn x.2.2<=8:=by
 intro x hx;have h1:=aFp h;refine ⟨aCl h1.2 x hx,?_⟩;unfold bBj at h;rw [kAb (by omega),kAb (by rw [h1.2];simp)] at h
 split at h
 ·cases h
 ·rename_i q
  by_cases c:rcn x.2.2<=8
  ·exact c
  ·exact absurd (List.any_eq_true.2 ⟨x,hx,by simp;omega⟩) q
theorem aJ9 {l:List Val} (h:bBj l=0):(bAm l).length<=120:=by
 have h1:=aFp h;have h2:(keyBytes l).length<=l.length*28:=aHr (f:=Val.bytes) fun x hx=>bO4 (aJ8 h x hx).1 (aJ8 h x hx).2;have h3:(enc l.length).length=1:=aCw (by omega);unfold bAm;rw [lA];have:l.length*28<=3*28:=Nat.mul_le_mul_right _ h1.1;omega
theorem aIu {l:List Val} (h:bBj l=0) (ok:∀ x∈l,x.ok):bEm (bAm l)=some l:=by
 have h1:=aFp h;have h2:=aG2 (pre:=[]) (rest:=keyBytes l) (n:=l.length) (by omega);have e:([]:List Nat)++(enc l.length++keyBytes l)=bAm l:=rfl;rw [e] at h2;have e0:((([]:List Nat).length:Nat):Int)=0:=rfl;rw [e0] at h2;unfold bEm;rw [kAg h2.2.2,h2.2.1];have e1:(bAm l).drop (([]:List Nat).length+(enc l.length).length)=keyBytes l:=by
  unfold bAm;simp
 rw [e1,bI7 l ok h1.2];exact kAg ⟨h,rfl⟩
end Go.Proofs.YtdpdjpkmndnaaaaGreat
set_option linter.unusedVariables false
namespace Go.Proofs.YtdpdjpkmndnaaaaGreat
variable {r:List Val} {s:Sch} {x:Val}
theorem aHm {y:Val} (hx:x.ok) (he:x.err=0) (hy:y.ok) (hf:y.err=0) (r:List Nat) (h:y.bytes=x.bytes++r):x=y:=by
 obtain ⟨h1,e1,e2,_⟩:=aCb r hx he;obtain ⟨h2,e3,e4,_⟩:=aCb [] hy hf;rw [List.append_nil,h,e1] at e3;simp only [oI,Prod.mk.injEq] at e3;rw [<-e2,<-e4,e3.1]
theorem bVs (h:x.ok) (e:x.err=0):∃ a l,x.bytes=a::l/\1<=a/\a<=4:=by
 obtain ⟨k,n,s⟩:=x;unfold Val.err at e;unfold Val.bytes;rcases (aBb e).1 with q | q | q | q
 ·simp only at q;subst q;exact ⟨1,_,rfl,by omega,by omega⟩
 ·simp only at q;subst q;exact ⟨2,_,rfl,by omega,by omega⟩
 ·simp only at q;subst q;exact ⟨3,_,rfl,by omega,by omega⟩
 ·simp only at q;subst q;exact ⟨4,_,rfl,by omega,by omega⟩
theorem bDr {a b:ByteArray} (h:slK a=slK b):a=b:=by
 rw [<-aH2 a,<-aH2 b,h]
theorem bFs (h:s.ok=true) {j:Nat} {x:Idx} (hx:s.xs[j]?=some x):bFt s.cs.length s.xs j x=true:=by
 unfold Sch.ok bBo at h;simp only [Bool.and_eq_true] at h;exact bEe h.2.2 (lL hx) hx
theorem Sch.xcol (h:s.ok=true):∀ x∈s.xs,1<=x.1/\x.1<(s.cs.length:Int):=by
 intro x hx;obtain ⟨j,hj⟩:=kBc hx;have:=bFs h hj;unfold bFt at this;simp only [Bool.and_eq_true,decide_eq_true_eq] at this;exact ⟨this.1.1,this.1.2⟩
theorem Sch.xdis (h:s.ok=true):s.xs.Pairwise fun a b=>a.1≠b.1:=by
 rw [List.pairwise_iff_getElem];intro i j hi hj hij e;have:=bFs h (gE hj);unfold bFt at this;simp only [Bool.and_eq_true,Bool.not_eq_true'] at this;have h2:=this.2;rw [List.any_eq_false] at h2;refine h2 s.xs[i] ?_ (by rw [e];simp);rw [List.mem_take_iff_getElem];exact ⟨i,by omega,rfl⟩
theorem Sch.c3 (h:s.ok=true):1<=s.cs.length/\s.cs.length<=3:=by
 unfold Sch.ok bAx at h;simp only [Bool.and_eq_true,decide_eq_true_eq] at h;exact h.1.2.1
theorem bC4 {s:Sch} {l:List Val}:∀ {n j:Nat} {c:Col} {v:Val},bBk s l n=true->j<n->s.cs[j]?=some c->l[j]?=some v->bBb c v=true
 | 0,j,c,v,_,hj,_,_=>by omega
 | n+1,j,c,v,h,hj,hc,hv=>by
  have h':(bBk s l n && (match s.cs[n]?,l[n]? with | some c,some v=>bBb c v | _,_=>true))=true:=h
  simp only [Bool.and_eq_true] at h'
  by_cases e:j=n
  ·subst e
   have:=h'.2
   rw [hc,hv] at this
   exact this
  ·exact bC4 h'.1 (by omega) hc hv
theorem aEy:∀ {l:List Val},(∀ x∈l,x.err=0)->bAd l=0
 | [],_=>rfl
 | y::l,h=>by
  show (if y.err=0 then bAd l else y.err)=0
  rw [kAg (h y kAn)]
  exact aEy fun x hx=>h x (kAl _ hx)
theorem Sch.fit_row (hs:s.ok=true) (h:s.fits r=0):r.length=s.cs.length/\bBj r=0:=by
 unfold Sch.fits at h;rw [kAb (by rw [hs];decide)] at h;by_cases h1:r.length≠s.cs.length
 ·rw [kAg h1] at h;cases h
 rw [kAb h1] at h;have h1:r.length=s.cs.length:=Decidable.of_not_not h1
 split at h
 ·cases h
 ·split at h
  ·rename_i hf
   refine ⟨h1,?_⟩;have hp:=Sch.parts hs;have each:∀ x∈r,x.err=0/\rcn x.2.2<=8:=by
    intro x hx;obtain ⟨j,hj⟩:=kBc hx;have hlt:=(lL hj);obtain ⟨c,hc⟩:∃ c,s.cs[j]?=some c:=⟨_,gE (by omega)⟩;have hb:=bC4 hf hlt hc hj;unfold bBb at hb;simp only [Bool.and_eq_true,decide_eq_true_eq] at hb;have:=(hp.2.2.2.1 j c hc).m1;exact ⟨hb.1.1,by omega⟩
   unfold bBj;rw [kAb (by have:=(Sch.c3 hs).2;omega),kAb (by rw [aEy fun x hx=>(each x hx).1];simp),kAb ?_];rw [Bool.not_eq_true,List.any_eq_false];intro x hx;have:=(each x hx).2;simp;omega
  ·cases h
end Go.Proofs.YtdpdjpkmndnaaaaGreat
set_option maxRecDepth 100000
set_option maxHeartbeats 16000000
set_option linter.unusedVariables false
namespace Go.Proofs.YtdpdjpkmndnaaaaGreat
open Go.RowKit
variable {B b g:Nat} {b0 b1 b2 b3 b4:Value} {cur:Array Value} {t:TypeId} {w w0:World}
def bBq (w:World) (g:Nat):Nat->List Value->World
 | _,[]=>w
 | k,b::l=>bBq (w.setCell ⟨g,k,none⟩ b) g (k+1) l
theorem bCb {g:Nat} {t:TypeId}:∀ (bs:List Value) (k:Nat) (w:World) (cur:Array Value),w.heap[g]?=some (.cells cur t (0,0))->k+bs.length<=cur.size->∃ cur',(bBq w g k bs).heap[g]?=some (.cells cur' t (0,0))/\cur'.size=cur.size/\∀ i,cur'[i]?=if k<=i/\i<k+bs.length then bs[i-k]? else cur[i]?
 | [],k,w,cur,h,_=>⟨cur,h,rfl,fun i=>by rw [kAb (by simp only [List.length_nil];omega)]⟩
 | b::l,k,w,cur,h,hl=>by
  rw [List.length_cons] at hl
  obtain ⟨c2,h1,h2,h3⟩:=bCb l (k+1) (w.setCell ⟨g,k,none⟩ b) (cur.setIfInBounds k b) (kBg _ _ _ _ _ _ h) (by rw [Array.size_setIfInBounds];omega)
  refine ⟨c2,h1,by rw [h2,Array.size_setIfInBounds],fun i=>?_⟩
  rw [h3 i,List.length_cons]
  by_cases q:i=k
  ·subst q
   rw [kAb (by omega),kAg (by omega),Nat.sub_self,kA1 (by omega)]
   rfl
  ·by_cases p:k+1<=i/\i<k+1+l.length
   ·rw [kAg p,kAg (by omega),show i-k=(i-(k+1))+1 by omega,List.getElem?_cons_succ]
   ·rw [kAb p,kAb (by omega),kA0 (by omega)]
theorem aHi {bs:List Value} (h:w.heap[g]?=some (.cells cur t (0,0))) (hn:cur.size=bs.length):(bBq w g 0 bs).heap[g]?=some (.cells bs.toArray t (0,0)):=by
 obtain ⟨c2,h1,h2,h3⟩:=bCb bs 0 w cur h (by omega);rw [h1]
 congr 2
 apply Array.ext_getElem?;intro i;rw [h3 i];by_cases q:i<bs.length
 ·rw [kAg (by omega),Nat.sub_zero,kAj]
 ·have e1:cur[i]?=none:=Array.getElem?_eq_none (by omega);have e2:bs.toArray[i]?=none:=by rw [kAj];exact kA6 (by omega)
  rw [kAb (by omega),e1,e2]
theorem aDl {g b:Nat} (hb:b≠g):∀ (bs:List Value) (k:Nat) (w:World),(bBq w g k bs).heap[b]?=w.heap[b]?
 | [],_,_=>rfl
 | x::l,k,w=>(aDl hb l (k+1) _).trans (heap_setCell_other _ _ _ _ hb)
theorem aFk {B g:Nat} {w0:World} (hg:B<=g):∀ (bs:List Value) (k:Nat) (w:World),Below B w0 w->Below B w0 (bBq w g k bs)
 | [],_,_,h=>h
 | x::l,k,w,h=>aFk hg l (k+1) _ (h.setCell (p:=⟨g,k,none⟩) hg x)
theorem bUc {b5 b6 b7 b8 b9 b10 b11 b12 b13 b14 b15 b16:Value} (h:w.heap[g]?=some (.cells cur t (0,0))) (hn:cur.size=17):(((((((((((((((((w.setCell ⟨g,0,none⟩ b0).setCell ⟨g,1,none⟩ b1).setCell ⟨g,2,none⟩ b2).setCell ⟨g,3,none⟩ b3).setCell ⟨g,4,none⟩ b4).setCell ⟨g,5,none⟩ b5).setCell ⟨g,6,none⟩ b6).setCell ⟨g,7,none⟩ b7).setCell ⟨g,8,none⟩ b8).setCell ⟨g,9,none⟩ b9).setCell ⟨g,10,none⟩ b10).setCell ⟨g,11,none⟩ b11).setCell ⟨g,12,none⟩ b12).setCell ⟨g,13,none⟩ b13).setCell ⟨g,14,none⟩ b14).setCell ⟨g,15,none⟩ b15).setCell ⟨g,16,none⟩ b16).heap[g]?=some (.cells #[b0,b1,b2,b3,b4,b5,b6,b7,b8,b9,b10,b11,b12,b13,b14,b15,b16] t (0,0)):=by
 have h9:=aHi (bs:=[b0,b1,b2,b3,b4,b5,b6,b7,b8,b9,b10,b11,b12,b13,b14,b15,b16]) h hn;simp only [bBq,Nat.zero_add,Nat.reduceAdd] at h9;exact h9
theorem bIs {b5 b6 b7 b8 b9 b10 b11 b12 b13 b14 b15 b16:Value} (h:b≠g):(((((((((((((((((w.setCell ⟨g,0,none⟩ b0).setCell ⟨g,1,none⟩ b1).setCell ⟨g,2,none⟩ b2).setCell ⟨g,3,none⟩ b3).setCell ⟨g,4,none⟩ b4).setCell ⟨g,5,none⟩ b5).setCell ⟨g,6,none⟩ b6).setCell ⟨g,7,none⟩ b7).setCell ⟨g,8,none⟩ b8).setCell ⟨g,9,none⟩ b9).setCell ⟨g,10,none⟩ b10).setCell ⟨g,11,none⟩ b11).setCell ⟨g,12,none⟩ b12).setCell ⟨g,13,none⟩ b13).setCell ⟨g,14,none⟩ b14).setCell ⟨g,15,none⟩ b15).setCell ⟨g,16,none⟩ b16).heap[b]?=w.heap[b]?:=by
 have h9:=aDl h [b0,b1,b2,b3,b4,b5,b6,b7,b8,b9,b10,b11,b12,b13,b14,b15,b16] 0 w;simp only [bBq,Nat.zero_add,Nat.reduceAdd] at h9;exact h9
theorem bO7 {b5 b6 b7 b8 b9 b10 b11 b12 b13 b14 b15 b16:Value} (h:Below B w0 w) (hg:B<=g):Below B w0 (((((((((((((((((w.setCell ⟨g,0,none⟩ b0).setCell ⟨g,1,none⟩ b1).setCell ⟨g,2,none⟩ b2).setCell ⟨g,3,none⟩ b3).setCell ⟨g,4,none⟩ b4).setCell ⟨g,5,none⟩ b5).setCell ⟨g,6,none⟩ b6).setCell ⟨g,7,none⟩ b7).setCell ⟨g,8,none⟩ b8).setCell ⟨g,9,none⟩ b9).setCell ⟨g,10,none⟩ b10).setCell ⟨g,11,none⟩ b11).setCell ⟨g,12,none⟩ b12).setCell ⟨g,13,none⟩ b13).setCell ⟨g,14,none⟩ b14).setCell ⟨g,15,none⟩ b15).setCell ⟨g,16,none⟩ b16):=by
 have h9:=aFk hg [b0,b1,b2,b3,b4,b5,b6,b7,b8,b9,b10,b11,b12,b13,b14,b15,b16] 0 w h;simp only [bBq,Nat.zero_add,Nat.reduceAdd] at h9;exact h9
theorem bRj:(Tryz.prog.info? 38).map (·.size)=some 17:=by kernel_rfl
def bVi (y y':OpV):Prop:=y'.kind=y.kind/\y'.nm=y.nm/\y'.s=⟨y.s.nm,y.s.cs.take 4,y.s.xs.take 4⟩/\y'.row=y.row.take 4/\y'.key=y.key/\y'.col=y.col/\y'.lo=y.lo/\y'.hi=y.hi/\y'.lim=y.lim
theorem bS4 (y:OpV) (h:OpP w y) :
  Calls Tryz.prog 10 #[.agg #[.int .i64 y.kind,.string y.nm,.string y.s.nm,.slice y.ca y.cl y.cc,.slice y.xa y.xl y.xc,.slice y.ra y.rl y.rc,.int .i64 y.key.1,.int .i64 y.key.2.1,.string y.key.2.2,.int .i64 y.col,.int .i64 y.lo.1,.int .i64 y.lo.2.1,.string y.lo.2.2,.int .i64 y.hi.1,.int .i64 y.hi.2.1,.string y.hi.2.2,.int .i64 y.lim]] w fun e w'=>∃ y',e=.returned (.agg (fO y').toArray)/\bVi y y'/\OpP w' y'/\Below w.heap.size w w'/\∀ b o,y'.ra=some ⟨b,o,none⟩->w.heap.size<=b:=by
 have hr:=h.rw_.take (n:=min y.rl 4) (by omega);have hc:=h.sc.c.take (n:=min y.cl 4) (by omega);have hx:=h.sc.x.take (n:=min y.xl 4) (by omega);rw [show y.row.take (min y.rl 4)=y.row.take 4 from by rw [<-h.rw_.hl,List.take_eq_take_iff];omega] at hr;rw [show y.s.cs.take (min y.cl 4)=y.s.cs.take 4 from by rw [<-h.sc.c.hl,List.take_eq_take_iff];omega] at hc;rw [show y.s.xs.take (min y.xl 4)=y.s.xs.take 4 from by rw [<-h.sc.x.hl,List.take_eq_take_iff];omega] at hx;obtain ⟨m,hm⟩:∃ m,m=min y.rl 4:=⟨_,rfl⟩;obtain ⟨n,hn⟩:∃ n,n=min y.cl 4:=⟨_,rfl⟩;obtain ⟨k,hk⟩:∃ k,k=min y.xl 4:=⟨_,rfl⟩;rw [<-hm] at hr;rw [<-hn] at hc;rw [<-hk] at hx;have y0:(y.rc:Int)<=9223372036854775807:=by have:=h.rw_.hm;omega
 have y1:(y.cc:Int)<=9223372036854775807:=by have:=h.sc.c.hm;omega
 have y2:(y.xc:Int)<=9223372036854775807:=by have:=h.sc.x.hm;omega
 have e0:min (y.rl:Int) 4=(m:Int):=by omega
 have e1:min (y.cl:Int) 4=(n:Int):=by omega
 have e2:min (y.xl:Int) 4=(k:Int):=by omega
 have e0':(if (4:Int)<(y.rl:Int) then (4:Int) else (y.rl:Int))=(m:Int):=by split<;>omega
 have e1':(if (4:Int)<(y.cl:Int) then (4:Int) else (y.cl:Int))=(n:Int):=by split<;>omega
 have e2':(if (4:Int)<(y.xl:Int) then (4:Int) else (y.xl:Int))=(k:Int):=by split<;>omega
 have u0:(0:Int)<=(m:Int):=by omega
 have v0:(m:Int)<=(y.rc:Int):=by have:=h.rw_.hc;omega
 have u1:(0:Int)<=(n:Int):=by omega
 have v1:(n:Int)<=(y.cc:Int):=by have:=h.sc.c.hc;omega
 have u2:(0:Int)<=(k:Int):=by omega
 have v2:(k:Int)<=(y.xc:Int):=by have:=h.sc.x.hc;omega
 have HM:Hid (m<=4/\n<=4/\k<=4):=⟨by omega,by omega,by omega⟩;have HP:=aAc h;obtain ⟨w1,hw1⟩:∃ w1,w1=(w.alloc (.cells #[.int .i64 y.kind,.string y.nm,.string y.s.nm,.slice y.ca y.cl y.cc,.slice y.xa y.xl y.xc,.slice y.ra y.rl y.rc,.int .i64 y.key.1,.int .i64 y.key.2.1,.string y.key.2.2,.int .i64 y.col,.int .i64 y.lo.1,.int .i64 y.lo.2.1,.string y.lo.2.2,.int .i64 y.hi.1,.int .i64 y.hi.2.1,.string y.hi.2.2,.int .i64 y.lim] 38)).alloc (.cells #[.int .i64 0,.string ⟨#[]⟩,.string ⟨#[]⟩,.slice none 0 0,.slice none 0 0,.slice none 0 0,.int .i64 0,.int .i64 0,.string ⟨#[]⟩,.int .i64 0,.int .i64 0,.int .i64 0,.string ⟨#[]⟩,.int .i64 0,.int .i64 0,.string ⟨#[]⟩,.int .i64 0] 38):=⟨_,rfl⟩;obtain ⟨L,hL⟩:∃ L,w.heap.size=L:=⟨_,rfl⟩;have HS1:Hid (L+1+1<=w1.heap.size):=by show _<=_;rw [hw1,<-hL];simp only [World.alloc,Array.size_push];omega
 have HR1:Hid (w1.heap[L]?=some (.cells #[.int .i64 y.kind,.string y.nm,.string y.s.nm,.slice y.ca y.cl y.cc,.slice y.xa y.xl y.xc,.slice y.ra y.rl y.rc,.int .i64 y.key.1,.int .i64 y.key.2.1,.string y.key.2.2,.int .i64 y.col,.int .i64 y.lo.1,.int .i64 y.lo.2.1,.string y.lo.2.2,.int .i64 y.hi.1,.int .i64 y.hi.2.1,.string y.hi.2.2,.int .i64 y.lim] 38 (0,0))):=by show _=_;rw [hw1,<-hL];exact heap_alloc2_old w _ _
 have HA1:Hid (w1.heap[(L+1)]?=some (.cells #[.int .i64 0,.string ⟨#[]⟩,.string ⟨#[]⟩,.slice none 0 0,.slice none 0 0,.slice none 0 0,.int .i64 0,.int .i64 0,.string ⟨#[]⟩,.int .i64 0,.int .i64 0,.int .i64 0,.string ⟨#[]⟩,.int .i64 0,.int .i64 0,.string ⟨#[]⟩,.int .i64 0] 38 (0,0))):=by show _=_;rw [hw1,<-hL];exact heap_alloc2_new w _ _
 have hb1:Below w.heap.size w w1:=by rw [hw1];exact (aAg w _).trans ((aAg _ _).mono (aAg w _).size)
 have HQ1:=aAc (hr.later hb1);have HBW1:Hid (Below L w w1):=by show Below L w w1;rw [<-hL];exact hb1
 have HC0:=aAc hc;have HX0:=aAc hx;have HW1:=aAc hw1;have HLL:=aAc hL;rw [hL];clear h hr hc hx hm hn hk hb1 hw1;go_enter Tryz.func10,Tryz.ntmps10;go_upto_region 1 with fail;rw [<-HW1.o]
 try simp only [hL]
 clear HW1;have z1:w1.cell? ⟨L,5,none⟩=some (.slice y.ra y.rl y.rc):=aAa HR1.o;go_upto_region 5 with (at_builtin;refine aBq aG5 (by omega) bTp Tryz.underlying34 bN4 rfl (by omega) rfl (.tmp 6) (.tmp 13) rfl (B1:=w1.heap.size) (F:=[]) (G:=y.row.take 4) rfl rfl (aHk _ _ _ _) HQ1.o (nR _) (by have:=HM.o;show 0+m<=_;omega) ?_;intro v1 w1a ho2 hb2 _;have HO2:=aAc ho2;have HB2:=aAc hb2;clear ho2 hb2;obtain ⟨ra,rc,e2⟩:∃ a c,v1=.slice a m c:=(by obtain ⟨a,c,e,_⟩:=aBn aG5 HO2.o rfl;exact ⟨a,c,by rw [e,List.nil_append,HQ1.o.hl]⟩);subst e2;have x1:w1a.cell? ⟨L,5,none⟩=some (.slice y.ra y.rl y.rc):=aAa ((HB2.o.block L (aAe HR1.o)).trans HR1.o);have xf1:w1a.frozen? ⟨L,5,none⟩=false:=aAh ((HB2.o.block L (aAe HR1.o)).trans HR1.o));clear z1 x1 xf1;have hnew:SVK fV 3 w1a ra m rc (y.row.take 4)/\∀ b o,ra=some ⟨b,o,none⟩->L+1+1<=b:=by
  obtain ⟨a,c,e,hsv⟩:=aBn aG5 HO2.o rfl;have hge:=bJp HO2.o e;rw [List.nil_append,HQ1.o.hl] at e hsv;simp only [kBl] at e;obtain ⟨rfl,_,rfl⟩:=e;exact ⟨hsv,fun b o q=>by have:=hge b o q;have:=HS1.o;omega⟩
 have HR2:Hid ((w1a.setCell ⟨L,5,none⟩ (.slice ra m rc)).heap[L]?=some (.cells #[.int .i64 y.kind,.string y.nm,.string y.s.nm,.slice y.ca y.cl y.cc,.slice y.xa y.xl y.xc,.slice ra m rc,.int .i64 y.key.1,.int .i64 y.key.2.1,.string y.key.2.2,.int .i64 y.col,.int .i64 y.lo.1,.int .i64 y.lo.2.1,.string y.lo.2.2,.int .i64 y.hi.1,.int .i64 y.hi.2.1,.string y.hi.2.2,.int .i64 y.lim] 38 (0,0))):=kBg _ _ _ _ _ _ ((HB2.o.block L (aAe HR1.o)).trans HR1.o);have HA2:Hid ((w1a.setCell ⟨L,5,none⟩ (.slice ra m rc)).heap[(L+1)]?=some (.cells #[.int .i64 0,.string ⟨#[]⟩,.string ⟨#[]⟩,.slice none 0 0,.slice none 0 0,.slice none 0 0,.int .i64 0,.int .i64 0,.string ⟨#[]⟩,.int .i64 0,.int .i64 0,.int .i64 0,.string ⟨#[]⟩,.int .i64 0,.int .i64 0,.string ⟨#[]⟩,.int .i64 0] 38 (0,0))):=(heap_setCell_other _ _ _ _ (show L+1≠L by omega)).trans ((HB2.o.block (L+1) (aAe HA1.o)).trans HA1.o);have hbs:Below L w1 (w1a.setCell ⟨L,5,none⟩ (.slice ra m rc)):=(HB2.o.mono (show L<=w1.heap.size by have:=HS1.o;omega)).setCell (p:=⟨L,5,none⟩) (nR _) _;have HBW2:Hid (Below L w (w1a.setCell ⟨L,5,none⟩ (.slice ra m rc))):=HBW1.o.trans hbs;have hsz:w1a.heap.size<=(w1a.setCell ⟨L,5,none⟩ (.slice ra m rc)).heap.size:=((kBh 0 w1a).setCell (p:=⟨L,5,none⟩) (kAm _) _).size;have HN2fV:Hid (SVK fV 3 (w1a.setCell ⟨L,5,none⟩ (.slice ra m rc)) ra m rc (y.row.take 4)/\∀ b o,ra=some ⟨b,o,none⟩->L+1+1<=b):=⟨hnew.1.blk hsz fun b o e=>heap_setCell_other _ _ _ _ (by show b≠L;have:=hnew.2 b o e;omega),hnew.2⟩;have HS2:Hid (L+1+1<=(w1a.setCell ⟨L,5,none⟩ (.slice ra m rc)).heap.size):=by have h1:=HS1.o;have h2:=HB2.o.size;show _<=_;omega
 have HQ2:Hid (SVK fC 3 (w1a.setCell ⟨L,5,none⟩ (.slice ra m rc)) y.ca n y.cc (y.s.cs.take 4)):=HC0.o.later (by rw [hL];exact HBW1.o.trans hbs);clear hnew hbs hsz HO2 HB2 HR1 HA1 HBW1 HS1;generalize w1a.setCell ⟨L,5,none⟩ (.slice ra m rc)=w2 at *;have z2:w2.cell? ⟨L,3,none⟩=some (.slice y.ca y.cl y.cc):=aAa HR2.o;go_upto_region 6 with (at_builtin;refine aBq aEz (by omega) bTs Tryz.underlying30 bF0 rfl (by omega) rfl (.tmp 16) (.tmp 25) rfl (B1:=w2.heap.size) (F:=[]) (G:=y.s.cs.take 4) rfl rfl (aHk _ _ _ _) HQ2.o (nR _) (by have:=HM.o;show 0+n<=_;omega) ?_;intro v2 w2a ho2 hb2 _;have HO2:=aAc ho2;have HB2:=aAc hb2;clear ho2 hb2;obtain ⟨ca,cc,e2⟩:∃ a c,v2=.slice a n c:=(by obtain ⟨a,c,e,_⟩:=aBn aEz HO2.o rfl;exact ⟨a,c,by rw [e,List.nil_append,HQ2.o.hl]⟩);subst e2;have x1:w2a.cell? ⟨L,3,none⟩=some (.slice y.ca y.cl y.cc):=aAa ((HB2.o.block L (aAe HR2.o)).trans HR2.o);have xf1:w2a.frozen? ⟨L,3,none⟩=false:=aAh ((HB2.o.block L (aAe HR2.o)).trans HR2.o));clear z2 x1 xf1;have hnew:SVK fC 3 w2a ca n cc (y.s.cs.take 4)/\∀ b o,ca=some ⟨b,o,none⟩->L+1+1<=b:=by
  obtain ⟨a,c,e,hsv⟩:=aBn aEz HO2.o rfl;have hge:=bJp HO2.o e;rw [List.nil_append,HQ2.o.hl] at e hsv;simp only [kBl] at e;obtain ⟨rfl,_,rfl⟩:=e;exact ⟨hsv,fun b o q=>by have:=hge b o q;have:=HS2.o;omega⟩
 have HR3:Hid ((w2a.setCell ⟨L,3,none⟩ (.slice ca n cc)).heap[L]?=some (.cells #[.int .i64 y.kind,.string y.nm,.string y.s.nm,.slice ca n cc,.slice y.xa y.xl y.xc,.slice ra m rc,.int .i64 y.key.1,.int .i64 y.key.2.1,.string y.key.2.2,.int .i64 y.col,.int .i64 y.lo.1,.int .i64 y.lo.2.1,.string y.lo.2.2,.int .i64 y.hi.1,.int .i64 y.hi.2.1,.string y.hi.2.2,.int .i64 y.lim] 38 (0,0))):=kBg _ _ _ _ _ _ ((HB2.o.block L (aAe HR2.o)).trans HR2.o);have HA3:Hid ((w2a.setCell ⟨L,3,none⟩ (.slice ca n cc)).heap[(L+1)]?=some (.cells #[.int .i64 0,.string ⟨#[]⟩,.string ⟨#[]⟩,.slice none 0 0,.slice none 0 0,.slice none 0 0,.int .i64 0,.int .i64 0,.string ⟨#[]⟩,.int .i64 0,.int .i64 0,.int .i64 0,.string ⟨#[]⟩,.int .i64 0,.int .i64 0,.string ⟨#[]⟩,.int .i64 0] 38 (0,0))):=(heap_setCell_other _ _ _ _ (show L+1≠L by omega)).trans ((HB2.o.block (L+1) (aAe HA2.o)).trans HA2.o);have hbs:Below L w2 (w2a.setCell ⟨L,3,none⟩ (.slice ca n cc)):=(HB2.o.mono (show L<=w2.heap.size by have:=HS2.o;omega)).setCell (p:=⟨L,3,none⟩) (nR _) _;have HBW3:Hid (Below L w (w2a.setCell ⟨L,3,none⟩ (.slice ca n cc))):=HBW2.o.trans hbs;have hsz:w2a.heap.size<=(w2a.setCell ⟨L,3,none⟩ (.slice ca n cc)).heap.size:=((kBh 0 w2a).setCell (p:=⟨L,3,none⟩) (kAm _) _).size;have HN3fC:Hid (SVK fC 3 (w2a.setCell ⟨L,3,none⟩ (.slice ca n cc)) ca n cc (y.s.cs.take 4)/\∀ b o,ca=some ⟨b,o,none⟩->L+1+1<=b):=⟨hnew.1.blk hsz fun b o e=>heap_setCell_other _ _ _ _ (by show b≠L;have:=hnew.2 b o e;omega),hnew.2⟩;have HS3:Hid (L+1+1<=(w2a.setCell ⟨L,3,none⟩ (.slice ca n cc)).heap.size):=by have h1:=HS2.o;have h2:=HB2.o.size;show _<=_;omega
 have HQ3:Hid (SVK fX 2 (w2a.setCell ⟨L,3,none⟩ (.slice ca n cc)) y.xa k y.xc (y.s.xs.take 4)):=HX0.o.later (by rw [hL];exact HBW2.o.trans hbs);have HN3fV:Hid (SVK fV 3 (w2a.setCell ⟨L,3,none⟩ (.slice ca n cc)) ra m rc (y.row.take 4)/\∀ b o,ra=some ⟨b,o,none⟩->L+1+1<=b):=⟨(HN2fV.o.1.later HB2.o).blk hsz fun b o e=>heap_setCell_other _ _ _ _ (by show b≠L;have:=HN2fV.o.2 b o e;omega),HN2fV.o.2⟩;clear hnew hbs hsz HO2 HB2 HR2 HA2 HBW2 HS2;generalize w2a.setCell ⟨L,3,none⟩ (.slice ca n cc)=w3 at *
 have z3:w3.cell? ⟨L,4,none⟩=some (.slice y.xa y.xl y.xc):=aAa HR3.o;go_upto_region 7 with (at_builtin;refine aBq aF9 (by omega) bTo Tryz.underlying31 bKv rfl (by omega) rfl (.tmp 29) (.tmp 38) rfl (B1:=w3.heap.size) (F:=[]) (G:=y.s.xs.take 4) rfl rfl (aHk _ _ _ _) HQ3.o (nR _) (by have:=HM.o;show 0+k<=_;omega) ?_;intro v3 w3a ho2 hb2 _;have HO2:=aAc ho2;have HB2:=aAc hb2;clear ho2 hb2;obtain ⟨xa,xc,e2⟩:∃ a c,v3=.slice a k c:=(by obtain ⟨a,c,e,_⟩:=aBn aF9 HO2.o rfl;exact ⟨a,c,by rw [e,List.nil_append,HQ3.o.hl]⟩);subst e2;have x1:w3a.cell? ⟨L,4,none⟩=some (.slice y.xa y.xl y.xc):=aAa ((HB2.o.block L (aAe HR3.o)).trans HR3.o);have xf1:w3a.frozen? ⟨L,4,none⟩=false:=aAh ((HB2.o.block L (aAe HR3.o)).trans HR3.o));clear z3 x1 xf1;have hnew:SVK fX 2 w3a xa k xc (y.s.xs.take 4)/\∀ b o,xa=some ⟨b,o,none⟩->L+1+1<=b:=by
  obtain ⟨a,c,e,hsv⟩:=aBn aF9 HO2.o rfl;have hge:=bJp HO2.o e;rw [List.nil_append,HQ3.o.hl] at e hsv;simp only [kBl] at e;obtain ⟨rfl,_,rfl⟩:=e;exact ⟨hsv,fun b o q=>by have:=hge b o q;have:=HS3.o;omega⟩
 have HR4:Hid ((w3a.setCell ⟨L,4,none⟩ (.slice xa k xc)).heap[L]?=some (.cells #[.int .i64 y.kind,.string y.nm,.string y.s.nm,.slice ca n cc,.slice xa k xc,.slice ra m rc,.int .i64 y.key.1,.int .i64 y.key.2.1,.string y.key.2.2,.int .i64 y.col,.int .i64 y.lo.1,.int .i64 y.lo.2.1,.string y.lo.2.2,.int .i64 y.hi.1,.int .i64 y.hi.2.1,.string y.hi.2.2,.int .i64 y.lim] 38 (0,0))):=kBg _ _ _ _ _ _ ((HB2.o.block L (aAe HR3.o)).trans HR3.o);have HA4:Hid ((w3a.setCell ⟨L,4,none⟩ (.slice xa k xc)).heap[(L+1)]?=some (.cells #[.int .i64 0,.string ⟨#[]⟩,.string ⟨#[]⟩,.slice none 0 0,.slice none 0 0,.slice none 0 0,.int .i64 0,.int .i64 0,.string ⟨#[]⟩,.int .i64 0,.int .i64 0,.int .i64 0,.string ⟨#[]⟩,.int .i64 0,.int .i64 0,.string ⟨#[]⟩,.int .i64 0] 38 (0,0))):=(heap_setCell_other _ _ _ _ (show L+1≠L by omega)).trans ((HB2.o.block (L+1) (aAe HA3.o)).trans HA3.o);have hbs:Below L w3 (w3a.setCell ⟨L,4,none⟩ (.slice xa k xc)):=(HB2.o.mono (show L<=w3.heap.size by have:=HS3.o;omega)).setCell (p:=⟨L,4,none⟩) (nR _) _;have HBW4:Hid (Below L w (w3a.setCell ⟨L,4,none⟩ (.slice xa k xc))):=HBW3.o.trans hbs;have hsz:w3a.heap.size<=(w3a.setCell ⟨L,4,none⟩ (.slice xa k xc)).heap.size:=((kBh 0 w3a).setCell (p:=⟨L,4,none⟩) (kAm _) _).size;have HN4fX:Hid (SVK fX 2 (w3a.setCell ⟨L,4,none⟩ (.slice xa k xc)) xa k xc (y.s.xs.take 4)/\∀ b o,xa=some ⟨b,o,none⟩->L+1+1<=b):=⟨hnew.1.blk hsz fun b o e=>heap_setCell_other _ _ _ _ (by show b≠L;have:=hnew.2 b o e;omega),hnew.2⟩;have HS4:Hid (L+1+1<=(w3a.setCell ⟨L,4,none⟩ (.slice xa k xc)).heap.size):=by have h1:=HS3.o;have h2:=HB2.o.size;show _<=_;omega
 have HN4fV:Hid (SVK fV 3 (w3a.setCell ⟨L,4,none⟩ (.slice xa k xc)) ra m rc (y.row.take 4)/\∀ b o,ra=some ⟨b,o,none⟩->L+1+1<=b):=⟨(HN3fV.o.1.later HB2.o).blk hsz fun b o e=>heap_setCell_other _ _ _ _ (by show b≠L;have:=HN3fV.o.2 b o e;omega),HN3fV.o.2⟩;have HN4fC:Hid (SVK fC 3 (w3a.setCell ⟨L,4,none⟩ (.slice xa k xc)) ca n cc (y.s.cs.take 4)/\∀ b o,ca=some ⟨b,o,none⟩->L+1+1<=b):=⟨(HN3fC.o.1.later HB2.o).blk hsz fun b o e=>heap_setCell_other _ _ _ _ (by show b≠L;have:=HN3fC.o.2 b o e;omega),HN3fC.o.2⟩;clear hnew hbs hsz HO2 HB2 HR3 HA3 HBW3 HS3;generalize w3a.setCell ⟨L,4,none⟩ (.slice xa k xc)=w4 at *
 have s0:w4.cell? ⟨L,0,none⟩=some (.int .i64 y.kind):=aAa HR4.o;have s1:w4.cell? ⟨L,1,none⟩=some (.string y.nm):=aAa HR4.o;have s2:w4.cell? ⟨L,2,none⟩=some (.string y.s.nm):=aAa HR4.o;have s3:w4.cell? ⟨L,3,none⟩=some (.slice ca n cc):=aAa HR4.o;have s4:w4.cell? ⟨L,4,none⟩=some (.slice xa k xc):=aAa HR4.o;have s5:w4.cell? ⟨L,5,none⟩=some (.slice ra m rc):=aAa HR4.o;have s6:w4.cell? ⟨L,6,none⟩=some (.int .i64 y.key.1):=aAa HR4.o;have s7:w4.cell? ⟨L,7,none⟩=some (.int .i64 y.key.2.1):=aAa HR4.o;have s8:w4.cell? ⟨L,8,none⟩=some (.string y.key.2.2):=aAa HR4.o;have s9:w4.cell? ⟨L,9,none⟩=some (.int .i64 y.col):=aAa HR4.o;have s10:w4.cell? ⟨L,10,none⟩=some (.int .i64 y.lo.1):=aAa HR4.o;have s11:w4.cell? ⟨L,11,none⟩=some (.int .i64 y.lo.2.1):=aAa HR4.o;have s12:w4.cell? ⟨L,12,none⟩=some (.string y.lo.2.2):=aAa HR4.o;have s13:w4.cell? ⟨L,13,none⟩=some (.int .i64 y.hi.1):=aAa HR4.o;have s14:w4.cell? ⟨L,14,none⟩=some (.int .i64 y.hi.2.1):=aAa HR4.o;have s15:w4.cell? ⟨L,15,none⟩=some (.string y.hi.2.2):=aAa HR4.o;have s16:w4.cell? ⟨L,16,none⟩=some (.int .i64 y.lim):=aAa HR4.o;obtain ⟨N,hN⟩:∃ N,L+1=N:=⟨_,rfl⟩;have HNN:=aAc hN;rw [hN] at HA4
 try simp only [hN]
 clear hN;have t0:w4.cell? ⟨N,0,none⟩=some (.int .i64 0):=aAa HA4.o;have tf0:w4.frozen? ⟨N,0,none⟩=false:=aAh HA4.o;have t1:w4.cell? ⟨N,1,none⟩=some (.string ⟨#[]⟩):=aAa HA4.o;have tf1:w4.frozen? ⟨N,1,none⟩=false:=aAh HA4.o;have t2:w4.cell? ⟨N,2,none⟩=some (.string ⟨#[]⟩):=aAa HA4.o;have tf2:w4.frozen? ⟨N,2,none⟩=false:=aAh HA4.o;have t3:w4.cell? ⟨N,3,none⟩=some (.slice none 0 0):=aAa HA4.o;have tf3:w4.frozen? ⟨N,3,none⟩=false:=aAh HA4.o;have t4:w4.cell? ⟨N,4,none⟩=some (.slice none 0 0):=aAa HA4.o;have tf4:w4.frozen? ⟨N,4,none⟩=false:=aAh HA4.o;have t5:w4.cell? ⟨N,5,none⟩=some (.slice none 0 0):=aAa HA4.o;have tf5:w4.frozen? ⟨N,5,none⟩=false:=aAh HA4.o;have t6:w4.cell? ⟨N,6,none⟩=some (.int .i64 0):=aAa HA4.o;have tf6:w4.frozen? ⟨N,6,none⟩=false:=aAh HA4.o;have t7:w4.cell? ⟨N,7,none⟩=some (.int .i64 0):=aAa HA4.o;have tf7:w4.frozen? ⟨N,7,none⟩=false:=aAh HA4.o;have t8:w4.cell? ⟨N,8,none⟩=some (.string ⟨#[]⟩):=aAa HA4.o;have tf8:w4.frozen? ⟨N,8,none⟩=false:=aAh HA4.o;have t9:w4.cell? ⟨N,9,none⟩=some (.int .i64 0):=aAa HA4.o;have tf9:w4.frozen? ⟨N,9,none⟩=false:=aAh HA4.o;have t10:w4.cell? ⟨N,10,none⟩=some (.int .i64 0):=aAa HA4.o;have tf10:w4.frozen? ⟨N,10,none⟩=false:=aAh HA4.o;have t11:w4.cell? ⟨N,11,none⟩=some (.int .i64 0):=aAa HA4.o;have tf11:w4.frozen? ⟨N,11,none⟩=false:=aAh HA4.o;have t12:w4.cell? ⟨N,12,none⟩=some (.string ⟨#[]⟩):=aAa HA4.o;have tf12:w4.frozen? ⟨N,12,none⟩=false:=aAh HA4.o;have t13:w4.cell? ⟨N,13,none⟩=some (.int .i64 0):=aAa HA4.o;have tf13:w4.frozen? ⟨N,13,none⟩=false:=aAh HA4.o;have t14:w4.cell? ⟨N,14,none⟩=some (.int .i64 0):=aAa HA4.o;have tf14:w4.frozen? ⟨N,14,none⟩=false:=aAh HA4.o;have t15:w4.cell? ⟨N,15,none⟩=some (.string ⟨#[]⟩):=aAa HA4.o;have tf15:w4.frozen? ⟨N,15,none⟩=false:=aAh HA4.o;have t16:w4.cell? ⟨N,16,none⟩=some (.int .i64 0):=aAa HA4.o;have tf16:w4.frozen? ⟨N,16,none⟩=false:=aAh HA4.o;go_wp2;(try simp only [Exit.inBlock,Exit.then]);refine bodyPost_ret (results_cell_row Tryz.results10 _ _ N _ _ _ _ rfl (bUc HA4.o rfl) Tryz.underlying38 rfl bRj) rfl ?_;have hsz:w4.heap.size<=(((((((((((((((((w4.setCell ⟨N,0,none⟩ (.int .i64 y.kind)).setCell ⟨N,1,none⟩ (.string y.nm)).setCell ⟨N,2,none⟩ (.string y.s.nm)).setCell ⟨N,3,none⟩ (.slice ca n cc)).setCell ⟨N,4,none⟩ (.slice xa k xc)).setCell ⟨N,5,none⟩ (.slice ra m rc)).setCell ⟨N,6,none⟩ (.int .i64 y.key.1)).setCell ⟨N,7,none⟩ (.int .i64 y.key.2.1)).setCell ⟨N,8,none⟩ (.string y.key.2.2)).setCell ⟨N,9,none⟩ (.int .i64 y.col)).setCell ⟨N,10,none⟩ (.int .i64 y.lo.1)).setCell ⟨N,11,none⟩ (.int .i64 y.lo.2.1)).setCell ⟨N,12,none⟩ (.string y.lo.2.2)).setCell ⟨N,13,none⟩ (.int .i64 y.hi.1)).setCell ⟨N,14,none⟩ (.int .i64 y.hi.2.1)).setCell ⟨N,15,none⟩ (.string y.hi.2.2)).setCell ⟨N,16,none⟩ (.int .i64 y.lim)).heap.size:=(bO7 (kBh 0 w4) (kAm _)).size;have hbe:Below L w (((((((((((((((((w4.setCell ⟨N,0,none⟩ (.int .i64 y.kind)).setCell ⟨N,1,none⟩ (.string y.nm)).setCell ⟨N,2,none⟩ (.string y.s.nm)).setCell ⟨N,3,none⟩ (.slice ca n cc)).setCell ⟨N,4,none⟩ (.slice xa k xc)).setCell ⟨N,5,none⟩ (.slice ra m rc)).setCell ⟨N,6,none⟩ (.int .i64 y.key.1)).setCell ⟨N,7,none⟩ (.int .i64 y.key.2.1)).setCell ⟨N,8,none⟩ (.string y.key.2.2)).setCell ⟨N,9,none⟩ (.int .i64 y.col)).setCell ⟨N,10,none⟩ (.int .i64 y.lo.1)).setCell ⟨N,11,none⟩ (.int .i64 y.lo.2.1)).setCell ⟨N,12,none⟩ (.string y.lo.2.2)).setCell ⟨N,13,none⟩ (.int .i64 y.hi.1)).setCell ⟨N,14,none⟩ (.int .i64 y.hi.2.1)).setCell ⟨N,15,none⟩ (.string y.hi.2.2)).setCell ⟨N,16,none⟩ (.int .i64 y.lim)):=bO7 HBW4.o (by have:=HNN.o;omega);have HPP:=HP.o.later (by rw [hL];exact hbe);refine ⟨⟨y.kind,y.nm,⟨y.s.nm,y.s.cs.take 4,y.s.xs.take 4⟩,ca,n,cc,xa,k,xc,ra,m,rc,y.row.take 4,y.key,y.col,y.lo,y.hi,y.lim⟩,rfl,⟨rfl,rfl,rfl,rfl,rfl,rfl,rfl,rfl,rfl⟩,⟨HP.o.k,HP.o.n,⟨HN4fC.o.1.blk hsz fun b o e=>bIs (by have:=HN4fC.o.2 b o e;have:=HNN.o;omega),HN4fX.o.1.blk hsz fun b o e=>bIs (by have:=HN4fX.o.2 b o e;have:=HNN.o;omega)⟩,⟨HP.o.sp.1,fun x hx=>HP.o.sp.cs x (kA2 hx),fun x hx=>HP.o.sp.xs x (kA2 hx)⟩,HN4fV.o.1.blk hsz fun b o e=>bIs (by have:=HN4fV.o.2 b o e;have:=HNN.o;omega),fun x hx=>HP.o.rp x (kA2 hx),HP.o.key,HP.o.c,HP.o.lo,HP.o.hi,HP.o.l⟩,hbe,fun b o e=>by have:=HN4fV.o.2 b o e;omega⟩
end Go.Proofs.YtdpdjpkmndnaaaaGreat
set_option linter.unusedVariables false
namespace Go.Proofs.YtdpdjpkmndnaaaaGreat
open Go.ChangeShapes Go.WideShapes Go.ChangeAt Go.RowKit
theorem bNf {H:Type} {bAq:TypeId×Value->H} {W:World} {base:Nat} {v:Value} {d:DataW H} {p:List MemPlace} {ds:List (DataW H)} {j:Nat} (hk:Rows.uptoSmall H ds=true) (hd:ds[j]?=some d)
  (hv:Value.okWide Tryz.prog W .any base 38 v) (h:DataW.Trod bAq Tryz.prog W 0 (fun _=>true) true 38 v d p):∃ y,v=.agg #[.int .i64 y.kind,.string y.nm,.string y.s.nm,.slice y.ca y.cl y.cc,.slice y.xa y.xl y.xc,.slice y.ra y.rl y.rc,.int .i64 y.key.1,.int .i64 y.key.2.1,.string y.key.2.2,.int .i64 y.col,.int .i64 y.lo.1,.int .i64 y.lo.2.1,.string y.lo.2.2,.int .i64 y.hi.1,.int .i64 y.hi.2.1,.string y.hi.2.2,.int .i64 y.lim]/\OpP W y:=by
 have hbk:=bLw hk hd;unfold Value.okWide at hv;rw [bEz] at hv;obtain ⟨cs,rfl,hsz,_⟩:=hv;obtain ⟨fuel,hf⟩:=h;have hc:Tryz.prog.cellsOf 38=17:=by kernel_rfl
 obtain ⟨y,e,hy⟩:=bJv fuel cs.toList (d,p) (by rw [Array.length_toList,hsz,hc]) (by simpa [Value.cells] using hf) hbk;refine ⟨y,?_,hy⟩;have e2:cs=(fO y).toArray:=by rw [<-e]
 rw [e2];rfl
end Go.Proofs.YtdpdjpkmndnaaaaGreat
